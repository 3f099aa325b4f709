import Derived.Test.YthhpbhpfagoapaaGreatGBK
namespace Go.Proofs.YthhpbhpfagoapaaGreat
set_option linter.all false
set_option maxRecDepth 100000
set_option maxHeartbeats 16000000
open Go.RowKit
def Lq(b:U0)(footer:B8)(n:W)(hf:b.R<=255)(iP:b.parts.length<=65000)(hs:footer.length<=maxLen):C' 90 #[.agg (E4 b),S footer] n (jfl b footer n):=by
 obtain⟨h7,iN,ie,ig⟩:=QB n (E4 b) 169 #[S footer,N 0,.bool false] 243;have hJ:J (qo ((n.alloc (.cells (E4 b) 169)).alloc (.cells #[S footer,N 0,.bool false] 243)) (n.heap.size+1) footer (some footer)):=⟨0,false,ig,aG _,rfl⟩;have ht:=I h7;have gZ:=I ie;have jj:=iN;have am:J (UQ b.R footer=false->Nh b.R b.parts footer=none):=fun t=>by
  unfold Nh;rw[aL (by rw[t];decide)]
 clear h7 ie ig;go_enter Tryz.func90,Tryz.ntmps90;go_upto_region 2 with fail;generalize iF:(n.alloc _).alloc _=W0 at *;clear iF;have c1:W0.cell? (A n.heap.size 1)=some (N b.R):=by rw[jb gZ.o];rfl
 go_wp2_with fail;clear c1;refine(Dt (n.heap.size+1) b.R footer W0 hs hJ.o hf).mono ?_;rintro H w1 ⟨he,f,cv,rfl,i5,h6,hk⟩;have hW:=I (qL he gZ.o (by omega));have ft:=I (ht.o.trans (jn he (by omega) ht.o.size));have fb:=I h6;have hF:=I hk;obtain⟨ca,cc,rfl⟩:=jt hk;clear he h6 hk hJ gZ;cases hh:UQ b.R footer with
 | false=>
  have HN:=I (am.o hh);clear hh;go_wp2;go_ret2;exact⟨ft.o,.inl ⟨HN.o,_,rfl⟩⟩
 | true=>
  have HH:=I hh;clear hh am;obtain⟨k,P,K,fn⟩:∃k P K:Nat,Jq footer=⟨(k:Int),(P:Int),(K:Int),false⟩:=⟨_,_,_,rfl⟩;have hb:=HH.o;unfold UQ at hb;simp only[aK]at hb;obtain⟨_,g9,cd,_⟩:=hb;rw[fn]at g9;simp only[qK,aK,aN]at g9;simp only[jW,aK,aN]at cd;have ga:xo footer<=60:=zI 60 _;have f5:(zO footer).1.length<=6:=by omega
  have g3:1<=k:=by omega
  have g4:k<=60:=by omega
  have h0:1<=P:=by omega
  have h5:P<=60:=by omega
  have iD:K<=9:=by omega
  have gw:J (∀c∈(zO footer).1,c.name.length<=8/\(c.kind=0\/c.kind=1)/\0<=c.key/\c.key<=9):=YE _ _;have hw:J (∀c∈(zO footer).1,c.cells=[]):=GS _ _;have hO:J (UT footer=jR (xo footer) (zO footer).1.length k P):=by
   show jR _ _ (Jq footer).group.toNat (Jq footer).aa.toNat=_;rw[fn];rfl
  have hP:=I (fun i=>AA (xo footer) (zO footer).1.length k P K false i ga f5 g3 g4 h0 h5);have hD:J (Nh b.R b.parts footer=if(VV b.parts footer).2=some []/\qG (xo footer) (Jq footer) (zO footer).1 (jK (zO footer).1 4 true (UT footer) (VV b.parts footer).1)=footer then some ⟨xo footer,Jq footer,(zO footer).1,(VV b.parts footer).1⟩else none):=by
   show _=_;unfold Nh;rw[aQ HH.o]
  have da:J (VV b.parts footer=xl (zO footer).1 (some b.parts) (UT footer)):=rfl;have gU:=I fn;rw[fn]at fb;clear g9 cd fn HH;go_upto_region 5 with fail;obtain⟨x,y,z,B,D,E,d6,_⟩:=zq fb.o;refine k9 (S:=fun i=>i.cell? (A f 0)=some (N (xo footer:Int))/\i.cell? (A f 1)=some (N k)/\i.cell? (A f 2)=some (N P)/\i.cell? (A f 3)=some (N K)/\i.cell? (A f 4)=some (.bool false)/\i.cell? (A f 5)=some (.slice ca (zO footer).1.length cc)) (by kernel_rfl) ⟨x,y,z,B,D,E⟩ (fun m=>?_);refine tk 0 (Q f 0) ?_;refine tk 1 (Q f 0) ?_;refine tk 2 (Q f 0) ?_;refine tk 3 (Q f 0) ?_;refine tk 4 (N (xo footer:Int)) ?_;refine tk 5 (Q f 0) ?_;refine tk 6 (Q f 0) ?_;refine tk 7 (Q f 5) ?_;refine tk 8 (.slice ca (zO footer).1.length cc) ?_;refine tk 9 (N ((zO footer).1.length:Int)) ?_;refine tk 10 (Q f 0) ?_;refine tk 11 (Q f 0) ?_;refine tk 12 (Q f 1) ?_;refine tk 13 (.agg #[N k,N P,N K,.bool false]) ?_;simp only[jA,jB,jC,Act.put,jD,jE,jF];refine rd 14 (fun r l=>?_);simp only[jA,jB,jC];go_simp;go_at_call 82
  refine(hP.o _).mono ?_;rintro H O ⟨sv,rfl,hl,cd⟩;have be:=jg cd;have fv:=I (ft.o.trans (be.mono ft.o.size));have hX:=I (jd be hW.o);have es:=I (jd be fb.o);have gT:=I (jy hF.o be);have gX:J (O.ownsRow w1.heap.size 161 6 sv (jR (xo footer) (zO footer).1.length k P).length (JH (jR (xo footer) (zO footer).1.length k P))):=hl;obtain⟨sa,Z,rfl⟩:=jt hl;have i6:f<w1.heap.size:=(aF.1 fb.o).1;clear cd be hP x y z B D E d6 fb hF hW ft hl;obtain⟨x,y,z,B,D,E,d6,_⟩:=zq es.o
  try go_wp2_with fail
  refine l.out _ _ ⟨x,y,z,B,D,E⟩ (fun m=>?_);clear l r
  try simp only[jA,jB,jC,Act.put,jD,jE,jF]
  refine tk 15 (Q f 0) ?_;refine tk 16 (Q f 6) ?_;simp only[jA,jB,jC,Act.put,jD,jE,jF];refine rd 17 (fun r l=>?_);simp only[jA,jB,jC];have f6:=kh O f 6 _ _ es.o;go_simp
  try go_wp2_with fail
  have fk:=Qk O f 6 (.slice sa (jR (xo footer) (zO footer).1.length k P).length Z);have f4:J ((O.setCell (A f 6) (.slice sa (jR (xo footer) (zO footer).1.length k P).length Z)).heap[f]?=some (.cells (L7 (xo footer:Int) (k:Int) (P:Int) (K:Int) (.slice ca (zO footer).1.length cc) (.slice sa (jR (xo footer) (zO footer).1.length k P).length Z) V3 V3) 179 (0,0))):=kj O f 6 _ _ _ es.o;have hG:=I (gT.o.kept fk (xt gT.o es.o (by decide)));have hS:=I (gX.o.kept fk (xt gX.o es.o (by decide)));have hY:=I (qL fk hX.o (by omega));have fw:=I (fv.o.trans (jn fk (by omega) fv.o.size));have j6:=fv.o.size;obtain⟨e0,e1,e2,e3,e4,e5,_⟩:=zq f4.o;refine l.out _ _ ⟨e0,e1,e2,e3,e4,e5⟩ (fun m=>?_);clear l r;refine kp (by kernel_rfl) ?_ _;clear m fk e0 e1 e2 e3 e4 e5 x y z B D E d6 f6 es gT gX hX fv;generalize iU:O.setCell _ _=w3 at *;clear iU;go_upto_region 7 with fail;have c2:w3.cell? (A n.heap.size 2)=some (S b.parts):=by rw[jb hY.o];rfl
  go_upto_region 8 with fail;clear c2;have hN:=I (NI w3 b.parts);have hR:=I (jo (.cells #[S b.parts,N 0,.bool false] 243) f4.o);have hH:=I (hG.o.alloc (.cells #[S b.parts,N 0,.bool false] 243));have hT:=I (hS.o.alloc (.cells #[S b.parts,N 0,.bool false] 243));have hv:=I (fw.o.alloc fw.o.size (.cells #[S b.parts,N 0,.bool false] 243));have i7:f<w3.heap.size:=(aF.1 f4.o).1;have j2:n.heap.size<=w3.heap.size:=fw.o.size;clear f4 hG hS hY fw;generalize iq:w3.alloc _=w4 at *;clear iq;generalize hq:w3.heap.size=q at *;clear hq;generalize zO footer=CR at *;obtain⟨a,j8⟩:=CR;simp only at *;go_wp2;go_loopw [9,11] (fun v em wr=>∃(d:Nat) (M:List Nat) (pv ev:Value),d<=(jR (xo footer) a.length k P).length/\em=N d/\E5 wr n f q (fun fd fe=>L7 (xo footer:Int) (k:Int) (P:Int) (K:Int) (.slice ca a.length cc) (.slice sa (jR (xo footer) a.length k P).length Z) fd fe) a (jR (xo footer) a.length k P) (.slice ca a.length cc) (.slice sa (jR (xo footer) a.length k P).length Z) pv ev v d (XE (xl a (some b.parts) ((jR (xo footer) a.length k P).take d)).1) d (Qa (xl a (some b.parts) ((jR (xo footer) a.length k P).take d)).1) b.parts (xl a (some b.parts) ((jR (xo footer) a.length k P).take d)).2 M/\M.length=(jK a 4 true ((jR (xo footer) a.length k P).take d) (xl a (some b.parts) ((jR (xo footer) a.length k P).take d)).1).length/\(∀gr∈M,gr<=70000)/\(∀rest,(xl a (some b.parts) ((jR (xo footer) a.length k P).take d)).2=some rest->M=jK a 4 true ((jR (xo footer) a.length k P).take d) (xl a (some b.parts) ((jR (xo footer) a.length k P).take d)).1)) (fun _ em _=>(jR (xo footer) a.length k P).length-(intOf em).toNat)
  case atStart=>exact⟨0,[],V3,V3,aG _,rfl,⟨hR.o,jQ hH.o (by omega),jQ hT.o (by omega),kg _ _ _ _,kg _ _ _ _,hN.o,kg _ _ _ _,hv.o,(by omega),(by omega),(by omega)⟩,rfl,(by intro gr hx;cases hx),(fun rest _=>rfl)⟩
  case round=>
   have i4:=As (C:=a.length) g3 h0 g4 ga f5;have ix:J (∀eR∈(jR (xo footer) a.length k P),eR.c<a.length):=fun eR hs=>(Ie eR hs).1;have iy:J (∀eR∈(jR (xo footer) a.length k P),eR.sort=80\/eR.sort=77):=XH;have hy:J (∀g0:List W6,g0.length=(jR (xo footer) a.length k P).length->(jK a 4 true (jR (xo footer) a.length k P) g0).length<=360):=fun g0 hM=>DL hM g3 ga f5;generalize hL:(jR (xo footer) a.length k P)=e at *;obtain⟨d,M,pv,ev,jc,rfl,hA,ij,il,ik⟩:=hrel;have hE:J (xl a (some b.parts) (e.take d)=((xl a (some b.parts) (e.take d)).1,(xl a (some b.parts) (e.take d)).2)):=rfl;have fz:=I (AQ a (some b.parts) (e.take d));obtain⟨xa,xc,rfl⟩:=jt hA.places;obtain⟨pa,pc,rfl⟩:=jt hA.ai;obtain⟨ea,ec,rfl⟩:=jt hA.ad;have u:=I hA;have er:=I ij;have f2:=I il;have fa:=I ik;have HL:=I hL;clear hA ij il ik hL hR hH hT hN hv;have j5:=u.o.below.size;obtain⟨x,y,z,B,D,E,d6,d7,d8⟩:=zq u.o.told;by_cases gd:d<e.length
   ·have iM:(d:Int)<(e.length:Int):=(by omega);obtain⟨sg,rfl,j3,s0,s1,s2,s3,s4,s5⟩:=NW u.o.an d gd;have hd:=ix.o e[d] (aJ gd);obtain⟨cg,rfl,i8,t0,t1,t2,t3⟩:=Mk u.o.U (e[d]).c hd;have gc:e[d]?=some e[d]:=aR gd;have iY:=I gc;have iH:=I (xP hd);obtain⟨at_,hZ,fs,g8,eP⟩:=u.o.spot;have f3:=I eP;have iX:=I g8;obtain⟨h,gp,U⟩:∃h gp,VW (ji a (e[d]).c).key (xl a (some b.parts) (e.take d)).2=(h,gp):=⟨_,_,rfl⟩;have dr:=I (Dj gc hE.o g8 eP U iP er.o f2.o fa.o);have dd:J (xl a (some b.parts) (e.take (d+1))=((xl a (some b.parts) (e.take d)).1++[h],gp)):=by
     show _=_;rw[PH a (some b.parts) gc,U]
    have da:=I U;have j1:M.length<=21960:=by
     have s:=Rb (t:=a) (e.take d) (xl a (some b.parts) (e.take d)).1 4 true;have L:=er.o;rw[aM]at s;omega
    clear gc U eP er f2 fa hE;go_upto_region 11 with fail;go_cut [71] (fun bv wd=>bv=.bool (qS true (e.take d))/\wr=wd)
    case first=>
     clear s0 s1 s2 s3 s4 s5 t0 t1 t2 t3 dr dd da;by_cases fl:d=0
     ·subst fl;go_wp2;go_meet
      ·exact⟨rfl,rfl⟩
     ·obtain⟨b4,rfl⟩:∃b4,d=b4+1:=⟨d-1,by omega⟩;obtain⟨j7,im,_,z0,_⟩:=NW u.o.an b4 (by omega);simp only[aW,cG,de]at im;subst im;have f1:=I (Cr (L:=e) (k:=b4) true (aR (by omega)));have ia:(((b4:Int)+1)==0)=false:=(by simp;omega);have ja:IntKind.i64.wrap ((b4:Int)+1-1)=(b4:Int):=(by rw[kE];omega);have js:(b4:Int)<(e.length:Int):=(by omega);rcases iy.o e[b4] (aJ (by omega))with hso|hso
      ·rw[hso]at z0 f1;go_wp2;go_meet
       ·exact⟨by rw[f1.o];simp,rfl⟩
      ·rw[hso]at z0 f1;go_wp2;go_meet
       ·exact⟨by rw[f1.o];simp,rfl⟩
    case rest=>
     obtain⟨rfl,rfl⟩:=hcut;go_upto_if 71 with fail;go_cut [9,71] (fun xv _ wd=>E5 wd n f q (fun fd fe=>L7 (xo footer:Int) (k:Int) (P:Int) (K:Int) (R cg a.length cc) (R sg e.length Z) fd fe) a e (R cg a.length cc) (R sg e.length Z) (.slice pa d pc) (.slice ea d ec) xv d (XE (xl a (some b.parts) (e.take d)).1) d (Qa (xl a (some b.parts) (e.take d)).1) b.parts (xl a (some b.parts) (e.take d)).2 (M++(if qS true (e.take d)=true then[4+at_]else[])))
     case first=>
      cases ic:qS true (e.take d)with
      | true=>
       have y1:wr.cell? (A q 1)=some (N at_):=(by rw[jb fs];rfl);have iq:IntKind.i64.wrap (4+(at_:Int))=((4+at_:Nat):Int):=(by rw[kE];omega);have ih:=u.o.places;obtain⟨i0,hi,ge,gg,gi⟩:=ks Tryz.bc;go_wp2_with(at_builtin;refine ko _ rfl (.tmp 72) (.tmp 78) 82 rfl n.heap.size 3 i0 (N 0) 1 8 Tryz.underlying82 hi ge gg gi rfl (by decide) _ _ _ rfl (ih.alloc _) (A _ 0) 1 1 [N ((4+at_:Nat):Int)] rfl rfl (qr wr #[N ((4+at_:Nat):Int)] 3) (by intro bX Y;simp at Y;subst Y;rfl) (by unfold maxLen;omega) (by omega) (by simp;omega) ?_;intro v3 w4 eM dW _);have ac:=I ((u.o.alloc (.cells #[N ((4+at_:Nat):Int)] 3)).put (v:=v3) (pl':=M++[4+at_]) dW (by
        rw[Vh,aB];exact eM))
       clear ih eM dW;go_wp2;go_meet
       ·
        rw[aQ ic];exact ac.o
      | false=>
       go_wp2;go_meet
       ·
        rw[aL (by rw[ic];decide),aT];exact u.o
     case rest=>
      have ce:=I hcut;generalize iO:(M++(if qS true (e.take d)=true then[4+at_]else[]))=go at *;clear iO hcut u x y z B D E d6 d7 d8 s0 s1 s2 s3 s4 s5 t0 t1 t2 t3 fs;obtain⟨xb,xd,iV⟩:=jt ce.o.places;subst iV;have hV:=I (jJ wc #[S [],S []] 167).2.2.2;have w:=I (ce.o.alloc (.cells #[S [],S []] 167));have i2:q<wc.heap.size:=XF ce.o.spot;have iZ:f<wc.heap.size:=(aF.1 ce.o.told).1;have i3:n.heap.size<=wc.heap.size:=ce.o.below.size;have gA:=I (JT ce.o.ad (aA _));clear ce;go_upto_region 15 with fail;generalize hp:wc.alloc _=F at *;clear hp;generalize hB:wc.heap.size=T at *;clear hB;have e2:=(w.o.c1 d gd).2;have e3:=w.o.c6 (e[d]).c hd;have i9:(((e[d]).c:Nat):Int)<(a.length:Int):=(by omega);rw[iH.o]at da;generalize (a[(e[d]).c]).key=ky at *;obtain⟨x,y,z,B,D,E,d6,d7,d8⟩:=zq w.o.told;go_quiet(fail);clear x y z B D E d6 d7 d8 e2 e3;have ha:=below_drewN (k8 F.heap.size F) nq;have ci:=I (w.o.j ha);have fc:=I (jd ha hV.o);clear ha w hV;generalize F.drewN nq=V at *;go_upto_if 96 with fail;go_cut [12,96] (fun sv _ wd=>sv=S h.plain/\E5 wd n f q (fun fd fe=>L7 (xo footer:Int) (k:Int) (P:Int) (K:Int) (R cg a.length cc) (R sg e.length Z) fd fe) a e (R cg a.length cc) (R sg e.length Z) (.slice pa d pc) (.slice ea d ec) (.slice xb go.length xd) d (XE (xl a (some b.parts) (e.take d)).1) d (Qa (xl a (some b.parts) (e.take d)).1) b.parts gp go/\wd.heap[T]?=some (.cells #[S h.I,S h.body] 167 (0,0)))
      case first=>
       by_cases fl:ky=0
       ·subst fl;have U:=da.o;unfold VW at U;rw[aQ rfl]at U;injection U with s L
        subst s L;have j0:(zp (xl a (some b.parts) (e.take d)).2).1<=65535:=Ef _;refine gH rfl ?_;go_wp2_with fail;refine(EZ q b.parts (xl a (some b.parts) (e.take d)).2 V (by unfold maxLen;omega) ci.o.spot).mono ?_;rintro H w7 ⟨rfl,fr,dT⟩;have eq:=I (ci.o.read dT fr);have dv:=I (qL dT fc.o (by omega));clear fr dT ci fc;go_wp2_with fail;refine(XX q b.parts (zp (xl a (some b.parts) (e.take d)).2).2 ((zp (xl a (some b.parts) (e.take d)).2).1:Int) w7 (by unfold maxLen;omega) (by omega) (by omega) eq.o.spot).mono ?_;rintro H w8 ⟨rfl,ip,hg⟩;have gt:=I (eq.o.read hg ip);have gY:=I (qL hg dv.o (by omega));clear ip hg eq dv;go_wp2;go_meet
        ·exact⟨rfl,gt.o,gY.o⟩
       ·have ia:(ky==0)=false:=(by simp[fl]);have U:=da.o;unfold VW at U;rw[aL fl]at U;injection U with s L
        subst s L;refine gC (bN Value.bool ia) ?_;go_wp2_with fail;refine(VF q b.parts (xl a (some b.parts) (e.take d)).2 V (by unfold maxLen;omega) ci.o.spot).mono ?_;rintro H w7 ⟨rfl,fr,dT⟩;have eq:=I (ci.o.read dT fr);have dv:=I (qL dT fc.o (by omega));clear fr dT ci fc;go_wp2_with(refine kl rfl 167 (.tmp 13) (.tmp 103) rfl T #[S (qO (xl a (some b.parts) (e.take d)).2).1.1,S (qO (xl a (some b.parts) (e.take d)).2).1.2] rfl rfl 167 #[S [],S []] dv.o (by kernel_rfl) rfl (by simp[Value.oneCell']) ?_);have gt:=I (eq.o.cf T #[S (qO (xl a (some b.parts) (e.take d)).2).1.1,S (qO (xl a (some b.parts) (e.take d)).2).1.2] dv.o (by omega) (by omega) (by omega) gA.o);have gY:=I (kr w7 T #[S [],S []] #[S (qO (xl a (some b.parts) (e.take d)).2).1.1,S (qO (xl a (some b.parts) (e.take d)).2).1.2] 167 (0,0) dv.o);clear eq dv;go_wp2;go_meet
        ·exact⟨rfl,gt.o,gY.o⟩
      case rest=>
       obtain⟨iQ,hA,h8⟩:=hcut;subst iQ;have ac:=I hA;have hU:=I h8;clear hA h8 ci fc;obtain⟨x,y,z,B,D,E,d6,d7,d8⟩:=zq ac.o.told;obtain⟨i0,hi,ge,gg,gi⟩:=ks Tryz.bd;have j4:=ac.o.below.size;go_upto_region 19 with fail;go_upto_region 20 with(at_builtin;refine ko _ rfl (.tmp 108) (.tmp 110) 71 rfl n.heap.size 9 i0 _ 1 16 Tryz.underlying71 hi ge gg gi rfl (by decide) _ _ _ rfl (ac.o.ai.alloc _) (A _ 0) 1 1 [S h.plain] rfl rfl (qr wc #[S h.plain] 9) (by intro bX Y;simp at Y;subst Y;rfl) (by unfold maxLen;omega) (by omega) (by simp;omega) ?_;intro v3 w4 eM dW _;obtain⟨ua,uc,iT⟩:=jt eM;subst iT;have g5:=jq dW (ac.o.ai.alloc _) (ac.o.alloc _).told (by decide);have c7:=(zq g5).2.2.2.2.2.2.2.1;have f7:=kh w4 f 7 _ _ g5);have eS:=I ((ac.o.alloc (.cells #[S h.plain] 9)).plain dW eM (fun _ _ _=>rfl));have eC:=I (qL (Qk w4 f 7 (.slice ua (d+1) uc)) (jq dW (ac.o.ai.alloc (.cells #[S h.plain] 9)) (Xd (.cells #[S h.plain] 9) hU.o) (by decide)) (by omega));clear eM dW g5 c7 f7 ac hU x y z B D E d6 d7 d8 hi ge gg gi;generalize hp:w4.setCell _ _=F at *;clear hp;obtain⟨i1,h9,ir,it,iu⟩:=ks Tryz.ca;have d8:=(zq eS.o.told).2.2.2.2.2.2.2.2;refine k9 (S:=fun i=>i.heap[T]?=some (.cells #[S h.I,S h.body] 167 (0,0))) (by kernel_rfl) eC.o (fun m=>?_);refine tk 0 (Q f 0) ?_;refine tk 1 (Q f 0) ?_;refine tk 2 (Q f 0) ?_;refine tk 3 (Q f 8) ?_;simp only[jA,jB,jC,Act.put,jD,jE,jF];refine kO (i:=5) (oi:=_) (v:=.agg #[S h.I,S h.body]) rfl (by kernel_rfl) (by kernel_rfl) (by kernel_rfl) (fun _ _ _ t=>t) (fA ⟨by rfl,fun n iE=>?_⟩) (by assumption) ?_
       ·have iS:=ki (P:=Tryz.prog) n T 167 167 #[S h.I,S h.body] (0,0) _ iE Tryz.underlying167 rfl (by kernel_rfl);unfold execOp;simp[cK,bL,Act.eval,Instr.loadAt,Instr.sureAddr,dF,dE,cV,iS]
       simp only[jA,jB,jC,Act.put,jD,jE,jF];refine kB (rs:=[4,6]) (by kernel_rfl) (by simp) ?_;refine km (o:=_) rfl (fun r l=>?_) (km (o:=_) rfl (fun r l=>?_) kz)
       ·simp only[jA,jB,jC];go_simp;(try go_wp2_with fail);refine l.out _ _ eC.o (fun m=>?_);clear l r;(try simp only[jA,jB,jC,Act.put,jD,jE,jF]);refine rd 6 (fun r l=>?_);simp only[jA,jB,jC];go_simp;(try go_wp2_with fail);have ap:J ((F.alloc (.cells #[S h.I,S h.body] 167)).drew.heap[T]?=some (.cells #[S h.I,S h.body] 167 (0,0))):=Xd _ eC.o;have G:=I (eS.o.alloc (.cells #[S h.I,S h.body] 167)).drew;have dl:J (∀j bX,([S h.I,S h.body]:List Value)[j]?=some bX->(F.alloc (.cells #[S h.I,S h.body] 167)).drew.cell? (((A F.heap.size 0):Addr).add j)=some bX):=zf F #[S h.I,S h.body] 167 (by simp);have g2:=(zq G.o.told).2.2.2.2.2.2.2.2;refine l.out _ _ ap.o (fun m=>?_);clear l r d8;(try simp only[jA,jB,jC,Act.put,jD,jE,jF]);generalize g7:(F.alloc (.cells #[S h.I,S h.body] 167)).drew=WX at *;clear g7;generalize hj:F.heap.size=nb at dl ⊢;clear hj eS eC;refine rd 7 (fun r l=>?_);simp only[jA,jB,jC];rw[aQ (by simp[Region.wanted])];refine kQ _ (.tmp 118) (.tmp 120) 177 rfl n.heap.size 167 i1 _ 2 32 Tryz.underlying177 h9 ir it iu rfl (by decide) (.slice ea d ec) d (Qa (xl a (some b.parts) (e.take d)).1) rfl G.o.ad (A nb 0) 1 1 [S h.I,S h.body] rfl rfl dl.o ?_ (by unfold maxLen;omega) (by omega) G.o.below.size ?_
        ·intro bX Y;simp at Y;rcases Y with rfl|rfl<;>rfl
        intro v6 V eg bi _;have co:J (V.heap[T]?=some (.cells #[S h.I,S h.body] 167 (0,0))):=by
         show _=_;rw[bi.block T (aF.1 ap.o).1 (by
          intro H;rcases gA.o with t|t
          ·rw[t]at H;cases H
          ·exact t H.symm)]
         exact ap.o
        obtain⟨va,vc,hm⟩:=jt eg;subst hm;have ds:=I (jq bi G.o.ad G.o.told (by decide));have gs:=I (G.o.module bi eg (fun _ _ _=>rfl));clear eg bi dl G ap g2;refine l.out _ _ co.o (fun m=>?_);clear l r;(try simp only[jA,jB,jC,Act.put,jD,jE,jF]);refine tk 8 (Q f 0) ?_;refine tk 9 (Q f 8) ?_;simp only[jA,jB,jC,Act.put,jD,jE,jF];refine rd 10 (fun r l=>?_);simp only[jA,jB,jC];have c8:=(zq ds.o).2.2.2.2.2.2.2.2;have f8:=kh V f 8 _ _ ds.o;go_simp;(try go_wp2_with fail);have e6:=qL (Qk V f 8 (.slice va (d+1) vc)) co.o (by omega);refine l.out _ _ e6 (fun m=>?_);clear l r c8 f8;refine kp (by kernel_rfl) ?_ _;clear m e6 ds co;generalize hr:V.setCell _ _=w7 at *;clear hr;go_wp2;go_roundw
        ·
         refine⟨d+1,go,.slice ua (d+1) uc,.slice va (d+1) vc,by omega,by go_num,?_,?_,?_,?_⟩
         ·rw[dd.o,Nx,Gw];exact gs.o
         ·rw[dd.o];exact dr.o.1
         ·exact dr.o.2.1
         ·rw[dd.o];exact dr.o.2.2
        ·simp[intOf];omega
       ·simp only[jA,jB,jC];go_simp;(try go_wp2_with fail);have ap:J ((F.alloc (.cells #[S h.I,S h.body] 167)).drew.heap[T]?=some (.cells #[S h.I,S h.body] 167 (0,0))):=Xd _ eC.o;have G:=I (eS.o.alloc (.cells #[S h.I,S h.body] 167)).drew;have dl:J (∀j bX,([S h.I,S h.body]:List Value)[j]?=some bX->(F.alloc (.cells #[S h.I,S h.body] 167)).drew.cell? (((A F.heap.size 0):Addr).add j)=some bX):=zf F #[S h.I,S h.body] 167 (by simp);have g2:=(zq G.o.told).2.2.2.2.2.2.2.2;refine l.out _ _ ap.o (fun m=>?_);clear l r d8;(try simp only[jA,jB,jC,Act.put,jD,jE,jF]);generalize g7:(F.alloc (.cells #[S h.I,S h.body] 167)).drew=WX at *;clear g7;generalize hj:F.heap.size=nb at dl ⊢;clear hj eS eC;refine rd 4 (fun r l=>?_);simp only[jA,jB,jC];go_simp;(try go_wp2_with fail);refine l.out _ _ ap.o (fun m=>?_);clear l r;(try simp only[jA,jB,jC,Act.put,jD,jE,jF]);refine rd 7 (fun r l=>?_);simp only[jA,jB,jC];rw[aQ (by simp[Region.wanted])];refine kQ _ (.tmp 118) (.tmp 120) 177 rfl n.heap.size 167 i1 _ 2 32 Tryz.underlying177 h9 ir it iu rfl (by decide) (.slice ea d ec) d (Qa (xl a (some b.parts) (e.take d)).1) rfl G.o.ad (A nb 0) 1 1 [S h.I,S h.body] rfl rfl dl.o ?_ (by unfold maxLen;omega) (by omega) G.o.below.size ?_
        ·intro bX Y;simp at Y;rcases Y with rfl|rfl<;>rfl
        intro v6 V eg bi _;have co:J (V.heap[T]?=some (.cells #[S h.I,S h.body] 167 (0,0))):=by
         show _=_;rw[bi.block T (aF.1 ap.o).1 (by
          intro H;rcases gA.o with t|t
          ·rw[t]at H;cases H
          ·exact t H.symm)]
         exact ap.o
        obtain⟨va,vc,hm⟩:=jt eg;subst hm;have ds:=I (jq bi G.o.ad G.o.told (by decide));have gs:=I (G.o.module bi eg (fun _ _ _=>rfl));clear eg bi dl G ap g2;refine l.out _ _ co.o (fun m=>?_);clear l r;(try simp only[jA,jB,jC,Act.put,jD,jE,jF]);refine tk 8 (Q f 0) ?_;refine tk 9 (Q f 8) ?_;simp only[jA,jB,jC,Act.put,jD,jE,jF];refine rd 10 (fun r l=>?_);simp only[jA,jB,jC];have c8:=(zq ds.o).2.2.2.2.2.2.2.2;have f8:=kh V f 8 _ _ ds.o;go_simp;(try go_wp2_with fail);have e6:=qL (Qk V f 8 (.slice va (d+1) vc)) co.o (by omega);refine l.out _ _ e6 (fun m=>?_);clear l r c8 f8;refine kp (by kernel_rfl) ?_ _;clear m e6 ds co;generalize hr:V.setCell _ _=w7 at *;clear hr;go_wp2;go_roundw
        ·
         refine⟨d+1,go,.slice ua (d+1) uc,.slice va (d+1) vc,by omega,by go_num,?_,?_,?_,?_⟩
         ·rw[dd.o,Nx,Gw];exact gs.o
         ·rw[dd.o];exact dr.o.1
         ·exact dr.o.2.1
         ·rw[dd.o];exact dr.o.2.2
        ·simp[intOf];omega
   ·have iL:d=e.length:=(by omega);subst iL;rw[aS]at u er fa fz;have iM:¬(e.length:Int)<(e.length:Int):=(by omega);obtain⟨at_,hZ,fs,g8,eP⟩:=u.o.spot;have f3:=I eP;have hQ:=I fs;have io:∀c∈a,P4 c:=fun c hc=>by
     obtain⟨s,L,h3,h4⟩:=gw.o c hc;exact⟨s,L,⟨h3,h4⟩,hw.o c hc⟩
    obtain⟨_,_,iI,_,ib⟩:=RM u.o.U rfl io;injection iI with hcv1 hcv2 hcv3
    subst hcv1 hcv3;clear hcv2;have hC:=I ib;obtain⟨_,_,iW,ii⟩:=UB u.o.places;injection iW with hxv1 hxv2 hxv3
    subst hxv1 hxv3;clear hxv2;have hI:=I ii;have iR:M.length<=360:=by
     rw[er.o];exact hy.o _ fz.o
    obtain⟨X,f9⟩:∃X,X=qG (xo footer) (Jq footer) a M:=⟨_,rfl⟩;have hz:J (∀i,Below wr.heap.size wr i->C' 87 #[N (xo footer:Int),.agg #[N k,N P,N K,.bool false],.slice ca a.length cc,.slice xa M.length xc] i
      fun H O=>H=.returned (S X)/\Below i.heap.size i O):=by
     intro i ho;have t:=RS (xo footer) k P K false ca cc a xa xc M i ga g4 h5 iD f5 iR (fun gr hx=>by have:=f2.o gr hx;omega) (fun c hc=>by
      obtain⟨s,L,h3,h4⟩:=gw.o c hc;exact⟨s,by omega,h3,h4⟩) (hC.o.j ho) (by
      intro em iK;obtain⟨g,s,L,h3⟩:=hI.o em iK;exact⟨g,s,aC L ho.size,(ho.cell (p:=A g em) L).trans h3⟩)
     rw[f9,gU.o];exact t
    have am:J (¬((xl a (some b.parts) e).2=some []/\X=footer)->Nh b.R b.parts footer=none):=by
     intro hn;rw[hD.o,da.o,hO.o,aL];rintro⟨s,L⟩;refine hn ⟨s,?_⟩;rw[f9,fa.o _ s];exact L
    have e7:J ((xl a (some b.parts) e).2=some []->X=footer->Nh b.R b.parts footer=some ⟨xo footer,Jq footer,a,(xl a (some b.parts) e).1⟩):=by
     intro s L;rw[hD.o,da.o,hO.o,aQ];refine⟨s,?_⟩;rw[<-fa.o _ s,<-f9];exact L
    clear io ib ii eP fs f9 er f2 hI hC hy gw hw;go_upto_region 21 with fail;refine k9 (S:=fun i=>i.cell? (A f 0)=some (N (xo footer:Int))/\i.cell? (A f 1)=some (N k)/\i.cell? (A f 2)=some (N P)/\i.cell? (A f 3)=some (N K)/\i.cell? (A f 4)=some (.bool false)/\i.cell? (A f 5)=some (.slice ca a.length cc)) (by kernel_rfl) ⟨x,y,z,B,D,E⟩ (fun m=>?_);refine tk 0 (Q f 0) ?_;refine tk 1 (Q f 0) ?_;refine tk 2 (Q f 0) ?_;refine tk 3 (N (xo footer:Int)) ?_;refine tk 4 (Q f 0) ?_;refine tk 5 (Q f 0) ?_;refine tk 6 (Q f 1) ?_;refine tk 7 (.agg #[N k,N P,N K,.bool false]) ?_;refine tk 8 (Q f 0) ?_;refine tk 9 (Q f 0) ?_;refine tk 10 (Q f 5) ?_;refine tk 11 (.slice ca a.length cc) ?_;refine tk 12 (.slice xa M.length xc) ?_;simp only[jA,jB,jC,Act.put,jD,jE,jF];refine rd 13 (fun r l=>?_);simp only[jA,jB,jC];go_simp;go_at_call 87
    refine(hz.o _ (qD (k8 _ _))).mono ?_;rintro H O ⟨rfl,cd⟩;have be:=jg cd;have w:=I (u.o.j be);have iB:=I (jd be hQ.o);clear cd be hz x y z B D E d6 d7 d8 u hQ;obtain⟨x,y,z,B,D,E,_⟩:=zq w.o.told;(try go_wp2_with fail);refine l.out _ _ ⟨x,y,z,B,D,E⟩ (fun m=>?_);clear l r;(try simp only[jA,jB,jC,Act.put,jD,jE,jF]);refine tk 14 (S X) ?_;simp only[jA,jB,jC,Act.put,jD,jE,jF];refine kp (by kernel_rfl) ?_ _;clear m x y z B D E;obtain⟨⟨k0,k1,k2⟩,_⟩:=zi iB.o;go_upto_region 22 with fail;cases hZ with
    | true=>
     have cs:=I (am.o (by rw[f3.o];simp));clear am e7;refine k9 (S:=fun i=>i.cell? (A q 0)=some (S b.parts)/\i.cell? (A q 1)=some (N at_)/\i.cell? (A q 2)=some (.bool true)) (by kernel_rfl) ⟨k0,k1,k2⟩ (fun m=>?_);refine tk 0 (Q f 0) ?_;refine tk 1 (Q q 0) ?_;refine tk 2 (Q q 0) ?_;refine tk 3 (Q q 2) ?_;refine tk 4 (.bool true) ?_;refine tk 5 (.bool false) ?_;refine tk 6 (.bool false) ?_;refine tu 7 ?_;refine tu 8 ?_;refine tu 9 ?_;refine tu 10 ?_;refine tu 11 ?_;refine tu 12 ?_;refine tu 13 ?_;refine tu 14 ?_;refine tu 15 ?_;refine tu 16 ?_;refine tk 17 (.bool false) ?_;refine tk 18 (.bool false) ?_;refine tu 19 ?_;refine tu 20 ?_;refine tu 21 ?_;refine tk 22 (.bool false) ?_;refine tk 23 (Q f 0) ?_;refine tk 24 (.bool false) ?_;simp only[jA,jB,jC,Act.put,jD,jE,jF];refine kp (by kernel_rfl) ?_ _;clear m;go_wp2;go_ret2;exact⟨qD w.o.below,.inl ⟨cs.o,_,rfl⟩⟩
    | false=>
     by_cases gb:at_=b.parts.length
     ·have iG:((at_:Int)==(b.parts.length:Int))=true:=(by rw[ee];omega);by_cases ff:X=footer
      ·have cs:=I (e7.o (by rw[f3.o];simp[gb]) ff);have iJ:(X==footer)=true:=(by rw[ff];simp);have iC:J (O.drew.heap[f]?=some (.cells (L7 (xo footer:Int) (Jq footer).group (Jq footer).aa (Jq footer).R (.slice ca a.length cc) (.slice sa e.length Z) (.slice pa e.length pc) (.slice ea e.length ec)) 179 (0,0))):=by
        show _=_;rw[gU.o];exact w.o.told
       have iA:J (qp ⟨xo footer,Jq footer,a,(xl a (some b.parts) e).1⟩=e):=by
        show jR (xo footer) a.length (Jq footer).group.toNat (Jq footer).aa.toNat=e;rw[gU.o];exact HL.o
       have iv:J (O.drew.ownsRow n.heap.size 161 6 (.slice sa e.length Z) (qp ⟨xo footer,Jq footer,a,(xl a (some b.parts) e).1⟩).length (JH (qp ⟨xo footer,Jq footer,a,(xl a (some b.parts) e).1⟩))):=by
        show World.ownsRow _ _ _ _ _ _ _;rw[iA.o];exact w.o.drew.an
       have iz:J (O.drew.ownsRow n.heap.size 9 1 (.slice pa e.length pc) (xl a (some b.parts) e).1.length (XE (xl a (some b.parts) e).1)):=by
        show World.ownsRow _ _ _ _ _ _ _;rw[fz.o];exact w.o.drew.ai
       have iw:J (O.drew.ownsRow n.heap.size 167 2 (.slice ea e.length ec) (xl a (some b.parts) e).1.length (Qa (xl a (some b.parts) e).1)):=by
        show World.ownsRow _ _ _ _ _ _ _;rw[fz.o];exact w.o.drew.ad
       clear am e7 gb ff;refine k9 (S:=fun i=>i.cell? (A q 0)=some (S b.parts)/\i.cell? (A q 1)=some (N at_)/\i.cell? (A q 2)=some (.bool false)) (by kernel_rfl) ⟨k0,k1,k2⟩ (fun m=>?_);refine tk 0 (Q f 0) ?_;refine tk 1 (Q q 0) ?_;refine tk 2 (Q q 0) ?_;refine tk 3 (Q q 2) ?_;refine tk 4 (.bool false) ?_;refine tk 5 (.bool true) ?_;refine tk 6 (.bool true) ?_;refine tk 7 (Q q 0) ?_;refine tk 8 (Q q 0) ?_;refine tk 9 (Q q 1) ?_;refine tk 10 (N at_) ?_;refine tk 11 (Q q 0) ?_;refine tk 12 (Q q 0) ?_;refine tk 13 (Q q 0) ?_;refine tk 14 (S b.parts) ?_;refine tk 15 (N b.parts.length) ?_;refine tk 16 (.bool true) ?_;refine tk 17 (.bool true) ?_;refine tk 18 (.bool true) ?_;refine tk 19 (S X) ?_;refine tk 20 (S footer) ?_;refine tk 21 (.bool true) ?_;refine tk 22 (.bool true) ?_;refine tk 23 (Q f 0) ?_;refine tk 24 (.bool true) ?_;simp only[jA,jB,jC,Act.put,jD,jE,jF];refine kp (by kernel_rfl) ?_ _;clear m;go_wp2;go_ret2;refine⟨qD w.o.below,.inr ⟨_,f,cs.o,rfl,_,_,_,_,iC.o,w.o.drew.U,iv.o,iz.o,iw.o⟩⟩
      ·have cs:=I (am.o (fun t=>ff t.2));have iJ:(X==footer)=false:=(by simp[ff]);clear am e7 gb;refine k9 (S:=fun i=>i.cell? (A q 0)=some (S b.parts)/\i.cell? (A q 1)=some (N at_)/\i.cell? (A q 2)=some (.bool false)) (by kernel_rfl) ⟨k0,k1,k2⟩ (fun m=>?_);refine tk 0 (Q f 0) ?_;refine tk 1 (Q q 0) ?_;refine tk 2 (Q q 0) ?_;refine tk 3 (Q q 2) ?_;refine tk 4 (.bool false) ?_;refine tk 5 (.bool true) ?_;refine tk 6 (.bool true) ?_;refine tk 7 (Q q 0) ?_;refine tk 8 (Q q 0) ?_;refine tk 9 (Q q 1) ?_;refine tk 10 (N at_) ?_;refine tk 11 (Q q 0) ?_;refine tk 12 (Q q 0) ?_;refine tk 13 (Q q 0) ?_;refine tk 14 (S b.parts) ?_;refine tk 15 (N b.parts.length) ?_;refine tk 16 (.bool true) ?_;refine tk 17 (.bool true) ?_;refine tk 18 (.bool true) ?_;refine tk 19 (S X) ?_;refine tk 20 (S footer) ?_;refine tk 21 (.bool false) ?_;refine tk 22 (.bool false) ?_;refine tk 23 (Q f 0) ?_;refine tk 24 (.bool false) ?_;simp only[jA,jB,jC,Act.put,jD,jE,jF];refine kp (by kernel_rfl) ?_ _;clear m;go_wp2;go_ret2;exact⟨qD w.o.below,.inl ⟨cs.o,_,rfl⟩⟩
     ·have iG:((at_:Int)==(b.parts.length:Int))=false:=(by rw[bQ];omega);have cs:=I (am.o (fun t=>by
       rw[f3.o]at t;have s:=t.1;simp at s;omega))
      clear am e7 gb;refine k9 (S:=fun i=>i.cell? (A q 0)=some (S b.parts)/\i.cell? (A q 1)=some (N at_)/\i.cell? (A q 2)=some (.bool false)) (by kernel_rfl) ⟨k0,k1,k2⟩ (fun m=>?_);refine tk 0 (Q f 0) ?_;refine tk 1 (Q q 0) ?_;refine tk 2 (Q q 0) ?_;refine tk 3 (Q q 2) ?_;refine tk 4 (.bool false) ?_;refine tk 5 (.bool true) ?_;refine tk 6 (.bool true) ?_;refine tk 7 (Q q 0) ?_;refine tk 8 (Q q 0) ?_;refine tk 9 (Q q 1) ?_;refine tk 10 (N at_) ?_;refine tk 11 (Q q 0) ?_;refine tk 12 (Q q 0) ?_;refine tk 13 (Q q 0) ?_;refine tk 14 (S b.parts) ?_;refine tk 15 (N b.parts.length) ?_;refine tk 16 (.bool false) ?_;refine tk 17 (.bool false) ?_;refine tk 18 (.bool false) ?_;refine tu 19 ?_;refine tu 20 ?_;refine tu 21 ?_;refine tk 22 (.bool false) ?_;refine tk 23 (Q f 0) ?_;refine tk 24 (.bool false) ?_;simp only[jA,jB,jC,Act.put,jD,jE,jF];refine kp (by kernel_rfl) ?_ _;clear m;go_wp2;go_ret2;exact⟨qD w.o.below,.inl ⟨cs.o,_,rfl⟩⟩
end Go.Proofs.YthhpbhpfagoapaaGreat
