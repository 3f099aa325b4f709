import Derived.Test.YthhpbhpfagoapaaGreatGBL
namespace Go.Proofs.YthhpbhpfagoapaaGreat
set_option linter.all false
set_option maxRecDepth 100000
set_option maxHeartbeats 16000000
open Go.RowKit
def Ai{L:List V1}{k:Nat}(b:k<L.length)(a:Bool):qS a (L.take (k+1))=decide ((L[k]).sort=77):=by
 rw[aH b,JI];rfl
def Tj(j:V6)(c:List W9)(d:G8)(a:List V1)(b:Nat)(e:b<a.length):qB j c d true (a.take (b+1))=qB j c d true (a.take b)++(if qS true (a.take b)=true then[(qk j c d (a.take b)).o.length]else[]):=by
 rw[aH e,Jz];simp[qB]
def SX(j:V6)(c:List W9)(d:G8)(a:List V1)(b:Nat)(e:b<a.length):qk j c d (a.take (b+1))=Qv j c (qk j c d (a.take b)) a[b]:=by
 rw[aH e,Zn];rfl
theorem Mf{d:W}{i n:Nat}{h:O'}{l:Nat}{b:List V1}(c:d.ownsRow i 161 6 (.slice h n l) n (JH b))(a:Nat)(k:a<b.length) :
  ∃g,h=some (A g 0)/\g<d.heap.size/\d.cell? (A g (a*6))=some (S [(b[a]).sort])/\d.cell? (A g (a*6+1))=some (N ((b[a]).g:Int))/\d.cell? (A g (a*6+2))=some (N ((b[a]).c:Int))/\d.cell? (A g (a*6+3))=some (N ((b[a]).p:Int))/\d.cell? (A g (a*6+4))=some (N ((b[a]).start:Int))/\d.cell? (A g (a*6+5))=some (N ((b[a]).many:Int)):=by
 have r:(JH b).length=b.length*6:=Qn Uk 6 (fun _=>rfl) b;have s:n=b.length:=by have:=c.1;omega
 have at_:∀e,e<6->(JH b)[a*6+e]?=(Uk b[a])[e]?:=fun e j=>Jl Uk 6 (fun _=>rfl) b a e k j;rcases c.2 with⟨p,q⟩|⟨g,m,o,f,_⟩
 ·omega
 ·simp only[cx]at f;obtain⟨rfl,_,rfl⟩:=f;refine⟨g,rfl,(c.lt g rfl).2,?_,?_,?_,?_,?_,?_⟩
  ·rw[c.cellAt _ (by omega)];exact at_ 0 (by decide)
  ·rw[c.cellAt _ (by omega)];exact at_ 1 (by decide)
  ·rw[c.cellAt _ (by omega)];exact at_ 2 (by decide)
  ·rw[c.cellAt _ (by omega)];exact at_ 3 (by decide)
  ·rw[c.cellAt _ (by omega)];exact at_ 4 (by decide)
  ·rw[c.cellAt _ (by omega)];exact at_ 5 (by decide)
structure B7 (w:W) (q wj:Nat) (wa:W) (tv:Value) (j:V6) (sa:O') (sc:Nat) (L:List V1) (log:List V5):Prop where
 ref:E8 w q q j.draw log
 an:w.ownsRow q 161 6 (.slice sa L.length sc) L.length (JH L)
 bj:w.heap[wj]?=some (.cells #[tv,N j.J.group,N j.J.aa,N j.J.R,.bool j.J.told,S j.pre,N j.draw] 26 (0,0))
 below:Below q wa w
theorem B7.cells{w:W}{q e:Nat}{s:W}{h:Value}{j:V6}{c r:Nat}{b:List V1}{log:List V5}(d:B7 w q e s h j (some (A c 0)) r b log)(a:Nat)(p:a<b.length) :
  w.cell? (A e 0)=some h/\w.cell? (A e 5)=some (S j.pre)/\w.cell? (A c (a*6))=some (S [(b[a]).sort])/\w.cell? (A c (a*6+1))=some (N ((b[a]).g:Int))/\w.cell? (A c (a*6+2))=some (N ((b[a]).c:Int))/\w.cell? (A c (a*6+3))=some (N ((b[a]).p:Int))/\w.cell? (A c (a*6+4))=some (N ((b[a]).start:Int))/\w.cell? (A c (a*6+5))=some (N ((b[a]).many:Int)):=by
 obtain⟨g,f,_,i,k,l,m,n,o⟩:=Mf d.an a p;simp only[aW,cG,de]at f;subst f;exact⟨by rw[jb d.bj];rfl,by rw[jb d.bj];rfl,i,k,l,m,n,o⟩
theorem B7.pre{a:W}{q b:Nat}{h:W}{g:Value}{j:V6}{e:O'}{f:Nat}{c:List V1}{log:List V5}(d:B7 a q b h g j e f c log):a.cell? (A b 5)=some (S j.pre):=by rw[jb d.bj];rfl
theorem B7.grown{d l:W}{q o:Nat}{m:W}{i:Value}{j:V6}{g:O'}{h:Nat}{e:List V1}{log:List V5}{k:Value}{n:Nat}{w:List Value}(a:B7 d q o m i j g h e log)(b:d.grownBy l k.ownBlock)(c:d.ownsRow q 3 1 k n w)(r:q<=d.heap.size):B7 l q o m i j g h e log:=by
 obtain⟨t,u,v,f⟩:=a.ref;exact⟨⟨t,jq b c u (by decide),v,f.kept b (qd f c (by decide))⟩,a.an.kept b (qd a.an c (by decide)),jq b c a.bj (by decide),a.below.grown b r (fun s p=>(c.lt s p).1)⟩
theorem B7.bz{i c:W}{q l:Nat}{k:W}{h:Value}{j:V6}{f:O'}{g:Nat}{d:List V1}{log e:List V5}(a:B7 i q l k h j f g d log)(b:V8 zae q i c)(m:E8 c q q j.draw e):B7 c q l k h j f g d e :=
 ⟨m,b.owns a.an (by decide),b.row a.bj (by decide),a.below.trans b.below⟩
variable{a:O'}{n:Nat}{U:List V5}
def B7.j{c h:W}{q k:Nat}{i:W}{g:Value}{j:V6}{d:List V1}(log:B7 c q k i g j a n d U)(b:Below c.heap.size c h)(l:q<=c.heap.size):B7 h q k i g j a n d U:=⟨log.ref.j b,ju log.an b,jd b log.bj,log.below.trans (b.mono l)⟩
theorem Px(ta:O')(r:Nat)(ra:O')(d6:Nat)(d:List W9)(j:V6)(n:W)(L:Laid n ta r ra d6 j d) :
  Calls Tryz.prog 36 #[D0 (.slice ta j.table.length r) j,.slice ra d.length d6] n
   fun k e=>∃lv,k=.returned (.tuple #[S (Ga j d),lv])/\e.ownsRow n.heap.size 40 4 lv (Xu j d).length (qg (Xu j d))/\Below n.heap.size n e:=by
 obtain⟨i0,hi,h6,h7,h8⟩:=info_parts Tryz.bc;have m:=I L;have h1:=L.af.table.ao.1;have gr:=L.af.table.ao.2;have hR:=L.af.table.rows;obtain⟨⟨gs,hE⟩,⟨gw,hF⟩,iu,iy⟩:=L.af.a3;have hZ:=L.af.J;simp only[qK,aK,aN]at hZ;have ga:J (∀e,Calls Tryz.prog 82 #[N (qv j.table:Int),N j.table.length,.agg #[N j.J.group,N j.J.aa,N j.J.R,.bool j.J.told]] e
   fun k D=>∃v,k=.returned v/\D.ownsRow e.heap.size 161 6 v (xF j).length (JH (xF j))/\Below e.heap.size e D):=by
  intro e;have dl:=AA (qv j.table) j.table.length j.J.group.toNat j.J.aa.toNat j.J.R.toNat j.J.told e hR gr gs hE gw hF;have e1:((j.J.group.toNat:Nat):Int)=j.J.group:=by omega
  have e2:((j.J.aa.toNat:Nat):Int)=j.J.aa:=by omega
  have e3:((j.J.R.toNat:Nat):Int)=j.J.R:=by omega
  rw[e1,e2,e3]at dl;exact dl
 have f2:=I L.af.a1;have hr:J (∀eM∈xF j,eM.start<qv j.table):=Ty gs gw;have iF:=L.af.bn;have hx:=I L.af.body;have hq:J (Jy j.J=[67,70]++[if j.J.told=true then 79 else 69]++[T4 j.J.R]):=rfl;have iI:(Jy j.J).length=4:=rfl;have iN:IntKind.u8.wrap j.J.R=j.J.R:=by simp only[IntKind.wrap_u8];omega
 go_enter Tryz.func36,Tryz.ntmps36;go_upto_region 2 with fail;obtain⟨em,_,_,gX⟩:=jJ n #[.slice ta j.table.length r,N j.J.group,N j.J.aa,N j.J.R,.bool j.J.told,S j.pre,N j.draw] 26;have hf:(n.alloc (.cells #[.slice ta j.table.length r,N j.J.group,N j.J.aa,N j.J.R,.bool j.J.told,S j.pre,N j.draw] 26)).heap.size=n.heap.size+1:=by simp
 generalize n.alloc (.cells #[.slice ta j.table.length r,N j.J.group,N j.J.aa,N j.J.R,.bool j.J.told,S j.pre,N j.draw] 26)=s at *;obtain⟨eq,_,_,gY⟩:=jJ s #[N j.draw,.slice none 0 0] 157;have H:J (Laid s ta r ra d6 j d):=⟨m.o.table.j em,m.o.ring.j em,m.o.len,m.o.af,m.o.c5⟩;have f8:J (E8 (s.alloc (.cells #[N j.draw,.slice none 0 0] 157)) s.heap.size s.heap.size j.draw []):=⟨_,gY,aA _,World.ownsRow_nil _ _ _ _⟩;have fe:=jd eq gX;rw[<-hf];clear gY hf gX;generalize s.alloc _=wb at *;have e4:=I em;have ge:=I eq;have gi:=I fe;have gZ:=H.o.table.j eq;obtain⟨C,E,rfl,iJ,gU⟩:=gZ.at_ (aE (by omega));obtain⟨_,_,_,v0,f4,ic,ie,rfl,ir,_⟩:=gU 0 h1;simp only[eX,dD]at f4;have ig:(0:Int)<(j.table.length:Int):=by omega
 have ho:=I (NZ (t:=j.table) h1);obtain⟨x0,x1,x2,x3,x4⟩:=UW fe;rw[<-ho.o]at f4;clear em eq fe gU gZ;generalize fn:s.heap.size=q at *;have Y:=I fn;have fl:q<=wb.heap.size:=by have:=ge.o.size;rw[fn]at this;exact this
 clear fn;go_upto_if 30 with fail;go_cut [8] (fun v G=>v=S ([67,70]++[if j.J.told=true then 79 else 69])/\wb=G)
 case first =>
  cases d3:j.J.told with
  | true =>
   go_wp2;go_meet
   ·exact⟨by simp[d3],rfl⟩
  | false =>
   go_wp2;go_meet
   ·exact⟨by simp[d3],rfl⟩
 case rest =>
  obtain⟨rfl,rfl⟩:=hcut;have hK:=UK wb j.J.R (by omega) (by omega);have h4:([67,70]++[if j.J.told=true then 79 else 69]:B8).length=3:=rfl;have gc:J (([67,70]++[if j.J.told=true then 79 else 69])++[T4 j.J.R]=Jy j.J):=rfl;generalize ([67,70]++[if j.J.told=true then 79 else 69]:B8)=S0 at *;generalize T4 j.J.R=fb at *;clear f4;go_upto_region 8 with fail;simp only[xh];rw[gc.o];clear hK hq gc h4;have dv:=(Below.refl wb.heap.size wb).alloc (aA _) (.cells #[.int .u8 j.J.R] 5);have f9:=I (f8.o.j dv);have e5:=I (jd dv gi.o);have gg:=I (ge.o.trans (dv.mono fl));have be:q<=(wb.alloc (.cells #[.int .u8 j.J.R] 5)).heap.size:=aI fl dv.size;obtain⟨y0,y1,y2,y3,y4⟩:=UW e5.o;clear dv x0 x1 x2 x3 x4 f8 gi fl;generalize wb.alloc _=w1 at *;go_wp2_with fail;refine(ga.o w1).mono ?_;rintro k D ⟨sv,rfl,fs,dr⟩;obtain⟨sa,sc,rfl⟩:=jt fs;have gd:J (B7 D q n.heap.size s (.slice (some (A C E)) j.table.length r) j sa sc (xF j) []):=⟨f9.o.j dr,MQ (ju fs (Below.refl _ _)) be,jd dr e5.o,gg.o.trans (dr.mono be)⟩;have g7:=aI be dr.size;clear fs dr y0 y1 y2 y3 y4 f9 e5 gg be ga;generalize gt:xF j=b at *;have f6:=I gt;clear gt;generalize hb:Jy j.J=f at *;have gp:=I hb;clear hb;go_wp2_with fail;go_loopw [8,9,11] (fun fv pv ce wr=>∃a:Nat,a<=b.length/\ce=N a/\fv=S (qk j d ⟨f,[]⟩ (b.take a)).o/\wr.ownsRow q 3 1 pv (qB j d ⟨f,[]⟩ true (b.take a)).length (xA (qB j d ⟨f,[]⟩ true (b.take a)))/\B7 wr q n.heap.size s (.slice (some (A C E)) j.table.length r) j sa sc b (qk j d ⟨f,[]⟩ (b.take a)).log/\q<=wr.heap.size) (fun _ _ ce _=>b.length-(intOf ce).toNat)
  case atStart=>exact⟨0,aG _,rfl,rfl,World.ownsRow_nil _ _ _ _,gd.o,g7⟩
  case round =>
   clear gd g7;obtain⟨a,iC,rfl,rfl,dT,hv,bi⟩:=hrel;have F:=I hv;have da:=I dT;obtain⟨gT,hJ⟩:=hx.o a;clear hv dT;by_cases B:a<b.length
   ·have iB:(a:Int)<(b.length:Int):=(by omega);obtain⟨u,rfl,iH,s0,s1,s2,s3,s4,s5⟩:=Mf F.o.an a B;go_upto_region 12 with fail;go_cut [12] (fun bv G=>bv=.bool (qS true (b.take a))/\wr=G)
    case first =>
     clear s0 s1 s2 s3 s4 s5;by_cases am:a=0
     ·subst am;go_wp2;go_meet
      ·exact⟨rfl,rfl⟩
     ·obtain⟨O,rfl⟩:∃O,a=O+1:=⟨a-1,by omega⟩;obtain⟨iP,hd,_,z0,_⟩:=Mf F.o.an O (by omega);simp only[aW,cG,de]at hd;subst hd;have d7:=I (Ai (L:=b) (k:=O) (by omega) true);have hS:(((O:Int)+1)==0)=false:=(by simp;omega);have iA:IntKind.i64.wrap ((O:Int)+1-1)=(O:Int):=(by rw[IntKind.wrap_i64];omega);have iE:(O:Int)<(b.length:Int):=(by omega);rcases(f2.o b[O] (aJ (by omega))).sort with fr|fr
      ·rw[fr]at z0 d7;go_wp2;go_meet
       ·exact⟨by rw[d7.o];simp,rfl⟩
      ·rw[fr]at z0 d7;go_wp2;go_meet
       ·exact⟨by rw[d7.o];simp,rfl⟩
    case rest =>
     obtain⟨rfl,rfl⟩:=hcut;clear s0 s1 s2 s3 s4 s5;have co:=I (Tj j d ⟨f,[]⟩ b a B);have h0:(qB j d ⟨f,[]⟩ true (b.take a)).length<=b.length:=by
      have:∀(d4:List V1) (st:G8) (e6:Bool),(qB j d st e6 d4).length<=d4.length:=by
       intro d4
       induction d4 with
       | nil=>intro st e6;simp[qB]
       | cons eM d4 ih=>intro st e6;simp only[qB,aB,bC];have:=ih (Qv j d st eM) (decide (eM.sort=77));split<;>simp<;>omega
      have h9:=this (b.take a) ⟨f,[]⟩ true;rw[aM]at h9;omega
     go_upto_if 63 with fail;go_cut [9,12,63] (fun pv _ _ G=>G.ownsRow q 3 1 pv (qB j d ⟨f,[]⟩ true (b.take (a+1))).length (xA (qB j d ⟨f,[]⟩ true (b.take (a+1))))/\B7 G q n.heap.size s (.slice (some (A C E)) j.table.length r) j (some (A u 0)) sc b (qk j d ⟨f,[]⟩ (b.take a)).log/\q<=G.heap.size)
     case first =>
      cases g0:qS true (b.take a)with
      | true =>
       rw[g0]at co;have fk:=da.o;have iq:=gT;go_wp2_with(at_builtin;refine wpList_append_own _ rfl (.tmp 64) (.tmp 67) 82 rfl q 3 i0 (N 0) 1 8 Tryz.underlying82 hi h6 h7 h8 rfl (by decide) _ _ _ rfl (fk.alloc _) (A _ 0) 1 1 [N ((qk j d ⟨f,[]⟩ (b.take a)).o.length:Int)] rfl rfl (qr wr #[N ((qk j d ⟨f,[]⟩ (b.take a)).o.length:Int)] 3) (by intro iQ hu;simp at hu;subst hu;rfl) (by unfold maxLen;omega) (by omega) (by simp;omega) ?_;intro v3 w4 g2 fd _);have hj:J (w4.ownsRow q 3 1 v3 (qB j d ⟨f,[]⟩ true (b.take (a+1))).length (xA (qB j d ⟨f,[]⟩ true (b.take (a+1))))):=by
        show World.ownsRow _ _ _ _ _ _ _;rw[co.o,aQ trivial,Vh,aB];exact g2
       have er:=(Below.refl wr.heap.size wr).alloc (aA _) (.cells #[N ((qk j d ⟨f,[]⟩ (b.take a)).o.length:Int)] 3);have b4:=I ((F.o.j er bi).grown fd (fk.alloc _) (aI bi er.size));have cd:q<=w4.heap.size:=aI (aI bi er.size) fd.size;clear fk g2 fd er;go_wp2;go_meet
       ·exact⟨hj.o,b4.o,cd⟩
      | false =>
       rw[g0]at co;go_wp2;go_meet
       ·exact⟨by rw[co.o];simpa using da.o,F.o,bi⟩
     case rest =>
      obtain⟨dT,hv,be⟩:=hcut;have hy:=I dT;clear da F dT co h0;have y:=f2.o b[a] (aJ B);have he:=hr.o b[a] (aJ B);have hC:=hv.below;have F:=I hv;have d8:=I (SX j d ⟨f,[]⟩ b a B);have iG:=UE m.o.af.table y.bg y.ao.2.2.2.2;have hn:J (∀e,Below q s e->Calls Tryz.prog 83 #[.slice (some (A C E)) j.table.length r,.agg #[S [(b[a]).sort],N ((b[a]).g:Int),N ((b[a]).c:Int),N ((b[a]).p:Int),N ((b[a]).start:Int),N ((b[a]).many:Int)]] e
        fun k D=>k=.returned (S (xQ j.table b[a]))/\Below e.heap.size e D):=fun e bX=>CI (some (A C E)) r j.table b[a] e m.o.af.table y he (H.o.table.j (by rw[Y.o];exact bX))
      have hh:J (∀e,Below q s e->e.cell? (A C (E+(b[a]).c*4+2))=some (N (j.table[(b[a]).c]'y.bg).key)):=by
       intro e bX;obtain⟨ia,ib,d2,_,hM⟩:=(H.o.table.j (by rw[Y.o];exact bX)).at_ (aE (by omega));simp only[aW,cG,de]at d2;obtain⟨rfl,rfl⟩:=d2;exact(hM _ y.bg).2.2.1
      have gb:J (Qv j d (qk j d ⟨f,[]⟩ (b.take a)) b[a]=ZX j d (j.table[(b[a]).c]'y.bg).key (b[a]).sort (b[a]).g (b[a]).c (b[a]).p (xQ j.table b[a]) (qk j d ⟨f,[]⟩ (b.take a))):=by
       show _=_;simp only[Qv,xP y.bg]
      have it:(((b[a]).c:Nat):Int)<(j.table.length:Int):=by have:=y.bg;omega
      have iD:=(m.o.af.table.head _ y.bg).2.2;generalize (j.table[(b[a]).c]'y.bg).key=M at *;generalize xQ j.table b[a]=K at *;obtain⟨iv,iw,ix,_⟩:=y.ao;have iK:C<s.heap.size:=by
       obtain⟨ia,ib,d2,hW,_⟩:=H.o.table.at_ (aE (by omega));simp only[aW,cG,de]at d2;obtain⟨rfl,rfl⟩:=d2;exact hW
      clear y he;go_wp2_with fail;go_region_held3 (fun e=>e.cell? (A n.heap.size 0)=some (.slice (some (A C E)) j.table.length r)/\e.cell? (A n.heap.size 5)=some (S j.pre)/\e.cell? (A u (a*6))=some (S [(b[a]).sort])/\e.cell? (A u (a*6+1))=some (N ((b[a]).g:Int))/\e.cell? (A u (a*6+2))=some (N ((b[a]).c:Int))/\e.cell? (A u (a*6+3))=some (N ((b[a]).p:Int))/\e.cell? (A u (a*6+4))=some (N ((b[a]).start:Int))/\e.cell? (A u (a*6+5))=some (N ((b[a]).many:Int)))
       (first|exact dd.cells a B|exact F.o.cells a B)
       (first|(go_at_call 83;refine(hn.o _ hC.drew).mono ?_;rintro k V ⟨rfl,ds⟩;replace ds:=jg ds;have dd:=F.o.j ds be))
      rename_i hG;clear hG;have dW:q<=V.heap.size:=aI be ds.size;have go:=I (ju hy.o ds);have hV:=hh.o V dd.below;obtain⟨d0,d5,e0,e1,e2,e3,_⟩:=dd.cells a B;go_wp2_with fail;go_quiet(fail);clear d0 d5 e0 e1 e2 e3 hV;by_cases am:M=0
      ·have HM:J (Qv j d (qk j d ⟨f,[]⟩ (b.take a)) b[a]=Qh K (qk j d ⟨f,[]⟩ (b.take a))):=by show _=_;rw[gb.o,ZX,aQ am]
       subst am;have ij:(qh (K.length:Int)).length<=2:=cO (jx _);go_wp2_with fail;refine(Jg (K.length:Int) _ (by omega) (by omega)).mono ?_;rintro k w6 ⟨rfl,l⟩;have eg:Below V.heap.size V w6:=⟨l.os,l.tape,l.output,l.size,l.block⟩;have hw:=I (dd.j eg dW);have hl:=I (ju go.o eg);have ap:q<=w6.heap.size:=aI dW eg.size;clear l eg;go_wp2;go_roundw
       ·exact⟨a+1,by omega,by go_num,by rw[d8.o,HM.o];simp[Qh,xh],hl.o,by rw[d8.o,HM.o];exact hw.o,ap⟩
       ·simp[intOf];omega
      ·have hS:(M==0)=false:=(by simp[am]);have HM:J (Qv j d (qk j d ⟨f,[]⟩ (b.take a)) b[a]=⟨(qk j d ⟨f,[]⟩ (b.take a)).o++JM j.draw (jh d M) (jz j.pre (b[a]).sort (b[a]).g (b[a]).c (b[a]).p) K (qk j d ⟨f,[]⟩ (b.take a)).log.length,(qk j d ⟨f,[]⟩ (b.take a)).log++[KI j.draw (jh d M) (jz j.pre (b[a]).sort (b[a]).g (b[a]).c (b[a]).p) K (qk j d ⟨f,[]⟩ (b.take a)).log.length]⟩):=by
        show _=_;rw[gb.o,ZX,aL am];rfl
       have iL:(JM j.draw (jh d M) (jz j.pre (b[a]).sort (b[a]).g (b[a]).c (b[a]).p) K (qk j d ⟨f,[]⟩ (b.take a)).log.length).length<=K.length+8:=by
        simp only[JM,aB,jx,UI,zT];omega
       have eC:=H.o.ab M;have im:=zL j.pre (b[a]).sort (b[a]).g (b[a]).c (b[a]).p m.o.af.pre;have es:=below_drewN (Below.refl V.heap.size V) nq;have ec:=dd.j es dW;have hz:=I (ju go.o es);have g9:q<=(V.drewN nq).heap.size:=aI dW es.size;clear am es;generalize V.drewN nq=wn at *;have q1:¬(9223372036854775807<(qk j d ⟨f,[]⟩ (b.take a)).o.length+(JM j.draw (jh d M) (jz j.pre (b[a]).sort (b[a]).g (b[a]).c (b[a]).p) K (qk j d ⟨f,[]⟩ (b.take a)).log.length).length):=(by omega);go_wp2_with fail;go_region_held3 (fun e=>e.cell? (A n.heap.size 0)=some (.slice (some (A C E)) j.table.length r)/\e.cell? (A n.heap.size 5)=some (S j.pre)/\e.cell? (A u (a*6))=some (S [(b[a]).sort])/\e.cell? (A u (a*6+1))=some (N ((b[a]).g:Int))/\e.cell? (A u (a*6+2))=some (N ((b[a]).c:Int))/\e.cell? (A u (a*6+3))=some (N ((b[a]).p:Int))/\e.cell? (A u (a*6+4))=some (N ((b[a]).start:Int))/\e.cell? (A u (a*6+5))=some (N ((b[a]).many:Int)))
        (first|exact ac.cells a B|exact w.cells a B|exact Z.cells a B|exact ec.cells a B)
        (first
         | (go_at_call 81;refine(JS ra d6 d M _ m.o.len (H.o.ring.j (by rw[Y.o];exact ec.below.drew))).mono ?_;rintro k w6 ⟨rfl,l⟩;replace l:=jg l;have Z:=ec.j l g9;have ap:=aI g9 l.size)
         | (go_at_call 86;refine(Kt j.pre (b[a]).sort (b[a]).g (b[a]).c (b[a]).p _ m.o.af.pre (by omega) (by omega) (by omega)).mono ?_;rintro k w7 ⟨rfl,x⟩;have w:=Z.j x ap;have T:=aI ap x.size)
         | (go_at_call 85;refine(RN q q j.draw (qk j d ⟨f,[]⟩ (b.take a)).log (jh d M) (jz j.pre (b[a]).sort (b[a]).g (b[a]).c (b[a]).p) K _ (by omega) (by omega) (by omega) eC m.o.af.draw.1 m.o.af.draw.2 T w.ref).mono ?_;rintro k w8 ⟨rfl,U,z⟩;have ac:=w.bz z U))
       rename_i e7;clear e7;have hm:=I (z.owns (ju (ju hz.o l) x) (by decide));have cs:=I ac;have d1:q<=w8.heap.size:=aI T z.size;clear ec Z w ac l x z U q1;go_wp2;go_roundw
       ·exact⟨a+1,by omega,by go_num,by rw[d8.o,HM.o];simp[xh],hm.o,by rw[d8.o,HM.o];exact cs.o,d1⟩
       ·simp[intOf];omega
   ·have hU:a=b.length:=(by omega);subst hU;rw[aS]at *;have HV:=I F.o;have eS:=I da.o;have eP:J (qk j d ⟨f,[]⟩ b=zY j d):=by show _=_;rw[zY,f6.o,gp.o]
    have f7:J (qB j d ⟨f,[]⟩ true b=zQ j d):=by show _=_;rw[zQ,f6.o,gp.o]
    rw[f7.o]at eS;rw[eP.o]at HV gT hJ;rw[eP.o];obtain⟨hX,g3,g4⟩:=m.o.af.R;obtain⟨pa,pc,hY,g5⟩:=UB eS.o;have f1:J (∀e,Below wr.heap.size wr e->Calls Tryz.prog 87 #[N (qv j.table:Int),.agg #[N j.J.group,N j.J.aa,N j.J.R,.bool j.J.told],.slice (some (A C E)) j.table.length r,.slice pa (zQ j d).length pc] e
      fun k D=>k=.returned (S (Xy j d))/\Below e.heap.size e D):=by
     intro e bX;have dl:=RS (qv j.table) j.J.group.toNat j.J.aa.toNat j.J.R.toNat j.J.told (some (A C E)) r j.table pa pc (zQ j d) e hR (by omega) (by omega) (by omega) gr hX g3 (by
      intro c hc;obtain⟨a,hk,rfl⟩:=cA.1 hc;obtain⟨a1,a2,a3,a4⟩:=m.o.af.table.head a hk;exact⟨(UM a1).2,by omega,a3,a4⟩) (H.o.table.j (by rw[Y.o];exact HV.o.below.trans (bX.mono bi))) (by
      intro ce hQ;obtain⟨g,h1,h2,h3⟩:=g5 ce hQ;exact⟨g,h1,aC h2 bX.size,(bX.cell (p:=A g ce) h2).trans h3⟩)
     have e1:((j.J.group.toNat:Nat):Int)=j.J.group:=(by omega);have e2:((j.J.aa.toNat:Nat):Int)=j.J.aa:=(by omega);have e3:((j.J.R.toNat:Nat):Int)=j.J.R:=(by omega);rw[e1,e2,e3]at dl;exact dl
    have iz:=g4;have fz:J (Ga j d=(Jr j d (Xy j d) (zY j d)).o++(qh (((Jr j d (Xy j d) (zY j d)).o.length-(zY j d).o.length:Nat):Int)++[67,70])):=rfl;have f5:J (Xu j d=(Jr j d (Xy j d) (zY j d)).log):=rfl;have hP:=Bc j d (Xy j d) (zY j d) g4;have eR:J (Jr j d (Xy j d) (zY j d)=if j.J.told=true then JG j.draw (jh d j.J.R) (jz j.pre 83 0 0 0++Xy j d) [] (Qh (Xy j d) (zY j d))else JG j.draw (jh d j.J.R) (jz j.pre 70 0 0 0) (Xy j d) (zY j d)):=rfl;have eC:=H.o.ab j.J.R;have io:=zL j.pre 83 0 0 0 m.o.af.pre;have ip:=zL j.pre 70 0 0 0 m.o.af.pre;clear f7 eP g5 g3 eS da F;subst hY;generalize zQ j d=iO at *;generalize Xy j d=h at *;generalize zY j d=i at *;obtain⟨x0,x1,x2,x3,x4⟩:=UW HV.o.bj;go_wp2_with fail;refine(f1.o wr (Below.refl _ _)).mono ?_;rintro k w3 ⟨rfl,fa⟩;have ea:=I (HV.o.j fa bi);have g8:q<=w3.heap.size:=aI bi fa.size;clear x0 x1 x2 x3 x4 fa f1 HV;obtain⟨x0,x1,x2,x3,x4⟩:=UW ea.o.bj;go_wp2_with fail;refine(JS ra d6 d j.J.R w3 m.o.len (H.o.ring.j (by rw[Y.o];exact ea.o.below))).mono ?_;rintro k w4 ⟨rfl,fc⟩;have b4:=I (ea.o.j fc g8);have cd:q<=w4.heap.size:=aI g8 fc.size;clear x0 x1 x2 x3 x4 fc ea;generalize jh d j.J.R=P at *;obtain⟨x0,x1,x2,x3,x4⟩:=UW b4.o.bj;go_upto_if 140 with fail;go_cut [17] (fun ev G=>∃o,ev=S o/\(Jr j d h i).o=i.o++o/\B7 G q n.heap.size s (.slice (some (A C E)) j.table.length r) j sa sc b (Jr j d h i).log/\q<=G.heap.size)
    case first =>
     cases d3:j.J.told with
     | true =>
      have ci:J (Jr j d h i=⟨i.o++(qh (h.length:Int)++h++JM j.draw P (jz j.pre 83 0 0 0++h) [] i.log.length),i.log++[KI j.draw P (jz j.pre 83 0 0 0++h) [] i.log.length]⟩):=by
       show _=_;rw[eR.o,d3,aQ rfl];simp[JG,Qh,JM,KI]
      have ii:(qh (h.length:Int)).length<=2:=cO (jx _);have iM:(JM j.draw P (jz j.pre 83 0 0 0++h) [] i.log.length).length<=8:=by
       simp only[JM,aB,jx,UI,zT,bJ];omega
      have h5:(jz j.pre 83 0 0 0++h).length<=5000:=(by rw[aB];omega);have hs:J (∀e,Calls Tryz.prog 84 #[N h.length] e fun k D=>k=.returned (S (qh (h.length:Int)))/\Below e.heap.size e D):=fun e=>Jg _ e (by omega) (by omega);have q1:¬(9223372036854775807<(qh (h.length:Int)).length+h.length):=(by omega);have q2:¬(9223372036854775807<(jz j.pre 83 0 0 0).length+h.length):=(by omega);have q3:¬(9223372036854775807<(qh (h.length:Int)).length+h.length+(JM j.draw P (jz j.pre 83 0 0 0++h) [] i.log.length).length):=(by omega);have X:=b4.o;have y5:=X.pre;have hg:=I (fun e=>Kt j.pre 83 0 0 0 e m.o.af.pre (by decide) (by decide) (by decide));have hp:=I (fun e=>RN q q j.draw i.log P (jz j.pre 83 0 0 0++h) [] e (by omega) (by decide) h5 eC m.o.af.draw.1 m.o.af.draw.2);generalize qh (h.length:Int)=T2 at *;generalize hI:JM j.draw P (jz j.pre 83 0 0 0++h) [] i.log.length=hA at *;generalize hB:jz j.pre 83 0 0 0=BD at *;clear hI hB;go_wp2_with fail;go_region_held3 (fun e=>e.cell? (A n.heap.size 5)=some (S j.pre))
       (first|exact y8|exact y7|exact y6|exact y5)
       (first
        | (go_at_call 84;refine(hs.o _).mono ?_;rintro k w6 ⟨rfl,l⟩;replace l:=jg l;have Z:=X.j l cd;have y6:=Z.pre;have ap:=aI cd l.size)
        | (go_at_call 86;refine(hg.o _).mono ?_;rintro k w7 ⟨rfl,x⟩;have w:=Z.j x ap;have y7:=w.pre;have T:=aI ap x.size)
        | (go_at_call 85;rw[xh];refine(hp.o _ T w.ref).mono ?_;rintro k w8 ⟨rfl,U,z⟩;have ac:=w.bz z U;have y8:=ac.pre))
      rename_i e7;clear e7;have cs:=I ac;have d1:q<=w8.heap.size:=aI T z.size;clear y5 y6 y7 y8 Z w ac l x z U q1 q2 q3 X;go_wp2;go_meet
      ·exact⟨T2++h++hA,by simp[xh],by rw[ci.o],by rw[ci.o];exact cs.o,d1⟩
     | false =>
      have ci:J (Jr j d h i=⟨i.o++JM j.draw P (jz j.pre 70 0 0 0) h i.log.length,i.log++[KI j.draw P (jz j.pre 70 0 0 0) h i.log.length]⟩):=by
       show _=_;rw[eR.o,d3,aL (by simp)];simp[JG,JM,KI]
      have X:=b4.o;have y5:=X.pre;go_wp2_with fail;refine(Kt j.pre 70 0 0 0 w4 m.o.af.pre (by decide) (by decide) (by decide)).mono ?_;rintro k w7 ⟨rfl,x⟩;have w:=I (X.j x cd);have T:q<=w7.heap.size:=aI cd x.size;clear y5 X x;go_wp2_with fail;refine(RN q q j.draw i.log P (jz j.pre 70 0 0 0) h w7 (by omega) (by omega) (by omega) eC m.o.af.draw.1 m.o.af.draw.2 T w.o.ref).mono ?_;rintro k w8 ⟨rfl,U,z⟩;have cs:=I (w.o.bz z U);have d1:q<=w8.heap.size:=aI T z.size;clear z U;go_wp2;go_meet
      ·exact⟨_,rfl,by rw[ci.o],by rw[ci.o];exact cs.o,d1⟩
    case rest =>
     obtain⟨o,rfl,hT,ft,dW⟩:=hcut;have fw:J (Below n.heap.size n wc):=e4.o.trans (ft.below.mono (by rw[<-Y.o];exact e4.o.size));have hD:n.heap.size<=q:=(by rw[<-Y.o];exact e4.o.size);obtain⟨lv,ha,_,ff⟩:=ft.ref;obtain⟨la,lc,rfl⟩:=jt ff;obtain⟨_,c1⟩:=Vm ha;have gA:(Jr j d h i).o.length-i.o.length=o.length:=(by rw[hT,aB];omega);obtain⟨hN,hO⟩:=hP;have il:o.length<=4000:=(by omega);rw[gA,hT]at fz;have f3:=I (NG ff hD);rw[<-f5.o]at f3;have ik:(qh (o.length:Int)).length<=2:=cO (jx _);have ht:J (∀e,Calls Tryz.prog 84 #[N o.length] e fun k D=>k=.returned (S (qh (o.length:Int)))/\Below e.heap.size e D):=fun e=>Jg _ e (by omega) (by omega);have q1:¬(9223372036854775807<i.o.length+o.length):=(by omega);have q2:¬(9223372036854775807<i.o.length+o.length+(qh (o.length:Int)).length):=(by omega);have q3:¬(9223372036854775807<i.o.length+o.length+(qh (o.length:Int)).length+2):=(by omega);clear hT gA ff ft eR hN hO x0 x1 x2 x3 x4 b4;go_wp2_with fail;go_region_held3 (fun e=>e.cell? (A q 1)=some (.slice la (Jr j d h i).log.length lc))
      (first|exact(Vm Y6).2|exact c1)
      (first
       | (go_at_call 84;refine(ht.o _).mono ?_;rintro k w6 ⟨rfl,l⟩;replace l:=jg l;have Y6:=jd l ha))
     rename_i hH;clear hH;go_wp2;go_ret2;refine⟨_,?_,ju f3.o l,fw.o.trans (l.mono fw.o.size)⟩;show Ending.returned (.tuple #[.string (⟨i.o.toArray⟩++⟨o.toArray⟩++⟨(qh (o.length:Int)).toArray⟩++⟨[67,70].toArray⟩),.slice la (Jr j d h i).log.length lc])=_;rw[f5.o,fz.o,xh,xh,xh,aD (i.o++o)]
end Go.Proofs.YthhpbhpfagoapaaGreat
