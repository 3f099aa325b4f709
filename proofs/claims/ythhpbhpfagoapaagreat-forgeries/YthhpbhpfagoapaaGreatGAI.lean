import Derived.Deep.CutBlock
import Derived.Test.YthhpbhpfagoapaaGreatGAH
namespace Go.Proofs.YthhpbhpfagoapaaGreat
set_option linter.all false
set_option maxRecDepth 100000
set_option maxHeartbeats 16000000
open Go.RowKit
theorem Db(p:Nat)(l:B8)(Y:Option (B8))(kind:Int)(n:Nat)(C:W)(G:l.length<=maxLen)(da:p<C.heap.size)(hn:n<=60)(hk:kind=0\/kind=1)(hp:qo C p l Y) :
  C' 173 #[(Q p 0),N kind,N n] C fun b w'=>∃v,b=.returned v /\
   w'.ownsRow C.heap.size 58 3 v (zV kind n Y).1.length (jL (zV kind n Y).1)/\(∀c∈(zV kind n Y).1,D9 c)/\qo w' p l (zV kind n Y).2/\C.grownBy w' (some p):=by
 have Hp:=I hp;clear hp;obtain⟨i0,hv,hK,hL,hM⟩:=ks Tryz.bd;obtain⟨i1,hw,hH,hI,hJ⟩:=ks Tryz.au;go_enter Tryz.func173,Tryz.ntmps173;go_wp2_with fail;refine(XX p l Y 1 _ G (by decide) (by decide) Hp.o).mono ?_;rintro b w1 ⟨rfl,ft,gA⟩;have es:=I gA;have ci:=I ft;have d3:=VU ft;clear gA ft;rcases Ar Y with ht|⟨c,x,rfl,ht⟩
 ·have i:J (zV kind n Y=([],none)):=by simp only[J,zV,ht]
  rw[ht]at d3 ci ⊢;simp only[Xw]at d3;clear ht;go_wp2;go_ret;rw[i.o];exact⟨_,rfl,kg _ _ _ _,by simp,ci.o,es.o⟩
 ·have i:=I (ZT kind n c x);rw[ht]at d3 ci ⊢;simp only[Xw]at d3;clear ht;have fc:((⟨#[c]⟩:ByteArray)[0]'(by simp[ByteArray.size]))=c:=rfl;have hV:=c.toNat_lt;go_upto_region 7 with fail;go_cut [33] (fun t wc=>t=.bool (decide (kind=1/\c.toNat=3))/\w1=wc)
  case first =>
   rcases hk with rfl|rfl
   ·go_wp2_with fail;go_meet
    ·exact⟨rfl,rfl⟩
   ·by_cases fb:c.toNat=3
    ·have hq:((c.toNat:Int)==3)=true:=(by simp;omega);have hd:=I fb;clear fb;go_wp2_with fail;go_meet
     ·exact⟨by simp[hd.o],rfl⟩
    ·have hq:((c.toNat:Int)==3)=false:=(by simp;omega);go_wp2_with fail;go_meet
     ·exact⟨by simp[fb],rfl⟩
  case rest =>
   obtain⟨rfl,rfl⟩:=hcut;go_upto_if 33 with fail;go_cut [8,11,12,13] (fun wv _ _ _ wc=>∃(words:List (B8)) (dl:Option (B8)),wc.ownsRow C.heap.size 9 1 wv words.length (Zl words)/\(∀D∈words,D.length<=12)/\words.length<=60/\qo wc p l dl/\C.grownBy wc (some p)/\zV kind n (some (c::x))=zG kind c.toNat words n (n+1) [] qY dl)
   case first =>
    by_cases b4:kind=1/\c.toNat=3
    ·have er:J (zV kind n (some (c::x))=zG kind c.toNat (Ja (qa 60 (some x)).1 (qa 60 (some x)).2).1 n (n+1) [] qY (Ja (qa 60 (some x)).1 (qa 60 (some x)).2).2):=by
      have:=i.o;rw[aQ b4]at this;rw[b4.2];exact this
     have d4:decide (kind=1/\c.toNat=3)=true:=(by simp[b4]);rw[d4];clear b4 d4 i;go_wp2_with fail;refine(QU p l (some x) 60 _ G (by decide) (by decide) ci.o).mono ?_;rintro b w2 ⟨rfl,eg,gT⟩;have g8:=I (je es.o gT);have eS:=I eg;have bi:=zI 60 (some x);have gg:(60:Int).toNat=60:=rfl;rw[gg]at eS ⊢;clear eg gT gg;generalize qa 60 (some x)=fw at *;obtain⟨q,sw⟩:=fw;simp only at bi eS er ⊢;go_wp2_with fail;go_loopw [8,12,13] (fun wv cd _ wr=>∃(j:Nat) (words:List (B8)) (U:Option (B8)),j<=q/\cd=N j/\wr.ownsRow C.heap.size 9 1 wv words.length (Zl words)/\words.length=j/\(∀D∈words,D.length<=12)/\qo wr p l U/\C.grownBy wr (some p)/\words++(Ja (q-j) U).1=(Ja q sw).1/\(Ja (q-j) U).2=(Ja q sw).2)
      (fun _ cd _ _=>q-(intOf cd).toNat)
     case atStart=>exact⟨0,[],sw,aG _,rfl,kg _ _ _ _,rfl,by simp,eS.o,g8.o,by simp,by simp⟩
     case round =>
      obtain⟨j,words,U,hj,rfl,ff,eq,g0,ec,hg,gr,gs⟩:=hrel;have ev:=I ec;have Hg:=I hg;have f6:=I gr;have f7:=I gs;have dv:=I eq;have gc:=I g0;clear ec hg gr gs eq g0;by_cases bX:j<q
      ·go_wp2_with fail;refine(Mi p l U 12 _ G (by decide) (by decide) ev.o).mono ?_;rintro b w3 ⟨rfl,fv,fd⟩;have r:(12:Int).toNat=12:=rfl;rw[r]at fv ⊢;have g4:=jat 12 U;have h:=I (MY bX f6.o f7.o);clear r;have fl:=xI ff da fd;have hl:=I fv;have f9:=I (je Hg.o fd);have ih:=f9.o.size;have ic:words.length<q:=by have:=dv.o;omega
       clear ff fv fd;generalize xR 12 U=D at *;go_wp2_with(at_builtin;refine ko _ rfl (.tmp 43) (.tmp 45) 71 rfl C.heap.size 9 i0 (.string ⟨#[]⟩) 1 16 Tryz.underlying71 hv hK hL hM rfl (by decide) _ _ _ rfl (fl.alloc _) (A _ 0) 1 1 [S D.1] rfl rfl ?c1 ?c2 ?c3 ?c4 ?c5 ?_)
       case c1=>exact qr w3 #[S D.1] 9
       case c2=>intro hR hu;simp at hu;subst hu;rfl
       case c3=>unfold maxLen;omega
       case c4=>omega
       case c5=>simp;omega
       intro v4 w4 ea d6 _;have HR:=I (Fu da fl ea d6 hl.o f9.o);clear ea d6 fl;go_wp2;go_roundw
       ·exact⟨j+1,_,_,by omega,by go_num,HR.o.1,by have:=dv.o;simp;omega,by
        intro hS hy;rcases aX.1 hy with hy|hy
        ·exact gc.o hS hy
        ·simp at hy;subst hy;exact g4,HR.o.2.1,HR.o.2.2,h.o.1,h.o.2⟩
       ·simp[intOf];omega
      ·have hx:j=q:=(by omega);subst hx;have HE:J (words=(Ja j sw).1/\U=(Ja j sw).2):=by
        have B:=f6.o;have m:=f7.o;rw[fV]at B m;simp only[Ja,aT]at B m;exact⟨B,m⟩
       go_wp2_with fail;go_meet
       ·exact⟨words,U,ff,gc.o,by have:=dv.o;omega,ev.o,Hg.o,by rw[er.o,HE.o.1,HE.o.2]⟩
    ·have er:J (zV kind n (some (c::x))=zG kind c.toNat [] n (n+1) [] qY (some x)):=by
      have:=i.o;rw[aL b4]at this;exact this
     have d4:decide (kind=1/\c.toNat=3)=false:=(by simp only[cW];exact b4);rw[d4];clear b4 d4 i;go_wp2_with fail;go_meet
     ·exact⟨[],some x,kg _ _ _ _,by simp,by simp,ci.o,es.o,er.o⟩
   case rest =>
    obtain⟨words,dl,g2,eq,ie,ec,hg,go⟩:=hcut;have g9:=I go;have ev:=I ec;have Hg:=I hg;have g5:=hg.size;have dv:=I eq;clear go ec hg eq d3 fc i ci es;go_wp2_with fail;have HW:∃o:Obj,o=Obj.cells #[Value.bool false,N 0,S []] 58/\True:=⟨_,rfl,trivial⟩;have HA:=I (TF (n:=n) da ev.o Hg.o);have gd:=I (g2.alloc (Obj.cells #[Value.bool false,N 0,S []] 58));have f4:J (wc.heap.size<(wc.alloc (Obj.cells #[Value.bool false,N 0,S []] 58)).heap.size):=(by simp[J]);clear HW g2;generalize c.toNat=b at *;generalize wc.heap.size=dW at *;go_loopg [7,15,16,17,18] (n+1) (fun gk lv _ _ _ _ wr=>∃(d:List Z9) (last:Z9) (ac:Option (B8)),B5 C wr p dW l ac lv d last/\wr.ownsRow C.heap.size 9 1 u8 words.length (Zl words)/\d.length<=n/\dW<wr.heap.size/\zG kind b words n gk d last ac=zG kind b words n (n+1) [] qY dl/\(ac.isSome=true->n+1<=gk+d.length))
    case atStart=>exact⟨[],qY,dl,HA.o,gd.o,aG _,f4.o,rfl,fun _=>by simp⟩
    case round =>
     obtain⟨d,last,ac,hG,g3,hC,d8,gU,gw⟩:=hrel;have i:=I hG;have ge:=I g3;have ga:=I gU;have f8:=I gw;obtain⟨hT,dT,rfl,_,_⟩:=QZ hG.row hG.ok;have fn:p<dW:=(by omega);obtain⟨e7,fa⟩:=QW hG.spot;clear hG g3 gU gw HA gd f4;by_cases d7:d.length<n/\ac.isSome=true
     ·obtain⟨bX,gZ⟩:=d7;obtain⟨a,rfl⟩:=fO.1 gZ;simp only[Xw]at e7;have eR:J (n+1<=gk+d.length):=f8.o rfl;clear gZ f8;go_upto_block 4 with fail
      have u:p<wr.heap.size:=aC da i.o.grown.size;have g7:∃co,co=wr.heap.size:=⟨_,rfl⟩;obtain⟨co,d5⟩:=g7;have e:=I (Wr d5 u d8 i.o ge.o);rw[<-d5]at u d8;rw[<-d5];have ap:=I d5;clear d5 e7 fa;generalize wr.alloc (Obj.cells #[Value.bool false,N 0,S []] 58)=wa at *;have ce:=I (Pp kind b words n d.length last (some a) bX);have f5:=I (SB kind b words n d.length last (some a));have eP:=I (Ou kind b words n d.length last (some a) dv.o (by have:=i.o.b8;omega));go_cut [16,17] (fun tv _ f3=>tv=N ((xx kind b words n d.length last (some a)).2.1:Int)/\T6 f3 co (xx kind b words n d.length last (some a)).1/\qo f3 p l (xx kind b words n d.length last (some a)).2.2/\wr.grownBy f3 (some p))
      case first =>
       have F:=e.o.newAt;obtain⟨⟨O,P,T⟩,nf⟩:=zi F;clear nf;rcases hk with rfl|rfl
       ·by_cases z:b=0
        ·subst z;have h:J (xx 0 0 words n d.length last (some a)=(⟨false,(bR (some a)).1,[]⟩,1,(bR (some a)).2)):=(by simp[J,xx]);go_wp2_with fail;refine(jfb p l (some a) _ G e.o.spot).mono ?_;rintro e5 w5 ⟨rfl,k,f⟩;have s:=F.kept f (by have:=e.o.size;omega) (by omega);obtain⟨⟨m0,m1,m2⟩,H⟩:=zi s;have hO:=H 1;have w:=I k;have M:=I (je e.o.grown f);have y:=I s;clear k f s H O P T;generalize bR (some a)=br at *;go_wp2_with fail;go_meet
         ·
          rw[h.o];have:=RB (x:=br.1) ap.o u y.o w.o M.o;exact⟨rfl,this.1,this.2.1,this.2.2⟩
        ·have q0:((b:Int)==0)=false:=(by simp;omega);by_cases B:b=1
         ·have h:J (xx 0 b words n d.length last (some a)=(⟨false,wrap64 (last.int+F9 (uR (some a)).1),[]⟩,1,(uR (some a)).2)):=(by simp[J,xx,B]);have q1:((b:Int)==1)=true:=(by simp;omega);clear z B;obtain⟨⟨_,k1,_⟩,_⟩:=zi e.o.a9;have ig:=e.o.size;have HZ:=I (fun K0 (hW:qo K0 p l (some a))=>OA p l (some a) K0 G hW);have hi:=I e.o.spot;have hc:=I F;have hf:=I e.o.a9;have he:=I e.o.grown;clear O P T F;generalize uR (some a)=ur at *;go_wp2_with fail;go_region_with (go_at_call 238;refine(HZ.o _ ?_).mono ?_;exact An hi.o;rintro e5 w5 ⟨rfl,k,f⟩;have ds:=I (je he.o (jS f));have y:=I (hc.o.kept (jS f) (by omega) (by omega));have w:=I k;have x1:=(zi (hf.o.kept (jS f) (by omega) (by omega))).1.2.1;have x2:=(zi y.o).1.2.1;have x3:=(zi y.o).2 1;clear k f)
          all_goals
           go_wp2_with fail;go_meet
           ·
            rw[h.o];rw[show IntKind.i64.wrap (last.int+F9 ur.1)=wrap64 (last.int+F9 ur.1)from IntWalk.i64_left _];have:=RB (x:=wrap64 (last.int+F9 ur.1)) ap.o u y.o w.o ds.o;exact⟨rfl,this.1,this.2.1,this.2.2⟩
         ·have q1:((b:Int)==1)=false:=(by simp;omega);by_cases m:b=2
          ·have h:J (xx 0 b words n d.length last (some a)=(⟨false,F9 (uR (qa (n-d.length) (some a)).2).1,[]⟩,(qa (n-d.length) (some a)).1,if(qa (n-d.length) (some a)).1=0 then none else(uR (qa (n-d.length) (some a)).2).2)):=(by simp[J,xx,m]);have q2:((b:Int)==2)=true:=(by simp;omega);clear z B m;have gY:=e.o.size;go_wp2_with fail;refine(QU p l (some a) _ _ G (by omega) (by omega) e.o.spot).mono ?_;rintro e5 w5 ⟨rfl,k,f⟩;have r:((n:Int)-(d.length:Int)).toNat=n-d.length:=(by omega);rw[r]at k ⊢;have bi:=zI (n-d.length) (some a);have s:=F.kept f (by have:=e.o.size;omega) (by omega);have hN:=f.size;have w:=I k;have M:=I (je e.o.grown f);have y:=I s;clear k f s O P T r;generalize qa (n-d.length) (some a)=fr at *;obtain⟨V,Z⟩:=fr;simp only at bi w h ⊢;go_wp2_with fail;refine(OA p l Z _ G w.o).mono ?_;rintro e6 w6 ⟨rfl,dd,X⟩;have e4:=y.o.kept X (by omega) (by omega);obtain⟨⟨m0,m1,m2⟩,H⟩:=zi e4;have hO:=H 1;have eC:=I dd;have ds:=I (je M.o X);have dr:=I e4;obtain⟨k1,k2⟩:=QW dd;clear dd X e4 H;generalize uR Z=ur at *;obtain⟨un,f1⟩:=ur;simp only at h eC k1 k2 ⊢;have L:=I (RB (x:=F9 un) ap.o u dr.o eC.o ds.o);have h8:p≠co:=(by omega);have h9:co≠p:=(by omega);cases bv:Xw f1 with
           | true =>
            rw[bv]at k1;have ha:J (f1=none):=by
             cases f1 with
             | none=>rfl
             | some D=>simp[Xw]at bv
            have HB:=I (Kq true (fun _=>rfl) u L.o.1 L.o.2.1 L.o.2.2);clear bv;go_wp2_with fail;go_meet
            ·
             rw[h.o];have E:=HB.o;rw[ha.o];refine⟨rfl,E.1,?_,E.2.2⟩;have m:=E.2.1;simp only[db]at m;simpa using m
           | false =>
            rw[bv]at k1;by_cases eM:V=0
            ·have q5:((V:Int)==0)=true:=(by simp;omega);have HB:=I (Kq true (fun _=>rfl) u L.o.1 L.o.2.1 L.o.2.2);have e3:=I eM;clear bv eM;go_wp2_with fail;go_meet
             ·
              rw[h.o];have E:=HB.o;refine⟨rfl,E.1,?_,E.2.2⟩;have m:=E.2.1;simp only[db]at m;simpa[e3.o]using m
            ·have q5:((V:Int)==0)=false:=(by simp;omega);have HB:=I (Kq false (fun cs=>by rw[bv]at cs;exact absurd cs (by decide)) u L.o.1 L.o.2.1 L.o.2.2);have e3:=I eM;clear bv eM;go_wp2_with fail;go_meet
             ·
              rw[h.o];have E:=HB.o;refine⟨rfl,E.1,?_,E.2.2⟩;have m:=E.2.1;simp only[cD,dz]at m;simpa[e3.o]using m
          ·have h:J (xx 0 b words n d.length last (some a)=(⟨false,0,[]⟩,1,none)):=(by simp[J,xx,z,B,m]);have q2:((b:Int)==2)=false:=(by simp;omega);clear z B m;clear O P T;obtain⟨c2,f2⟩:=QW e.o.spot;go_wp2_with fail;go_meet
           ·
            rw[h.o];have:=Kq true (fun _=>rfl) u F e.o.spot e.o.grown;exact⟨rfl,this.1,this.2.1,this.2.2⟩
       ·by_cases z:b=0
        ·have h:J (xx 1 b words n d.length last (some a)=(⟨false,0,(xR 12 (some a)).1⟩,1,(xR 12 (some a)).2)):=(by simp[J,xx,z]);have q0:((b:Int)==0)=true:=(by simp;omega);clear z;go_wp2_with fail;refine(Mi p l (some a) 12 _ G (by decide) (by decide) e.o.spot).mono ?_;rintro e5 w5 ⟨rfl,k,f⟩;have r:(12:Int).toNat=12:=rfl;rw[r]at k ⊢;clear r;have s:=F.kept f (by have:=e.o.size;omega) (by omega);obtain⟨⟨m0,m1,m2⟩,H⟩:=zi s;have hP:=H 2;have w:=I k;have M:=I (je e.o.grown f);have y:=I s;clear k f s H O P T;generalize xR 12 (some a)=xr at *;go_wp2_with fail;go_meet
         ·
          rw[h.o];have:=GV (b:=xr.1) rfl ap.o u y.o w.o M.o;exact⟨rfl,this.1,this.2.1,this.2.2⟩
        ·have q0:((b:Int)==0)=false:=(by simp;omega);by_cases h3:b=3
         ·have q3:((b:Int)==3)=true:=(by simp;omega);have q4:((b:Int)==4)=false:=(by simp;omega);by_cases em:words=[]
          ·have h:J (xx 1 b words n d.length last (some a)=(⟨false,0,[]⟩,1,none)):=(by simp[J,xx,h3,em]);clear z h3;subst em;clear O P T;obtain⟨c2,f2⟩:=QW e.o.spot;have hE:u8=.slice none 0 0\/∃g dT,u8=R g 0 dT:=by
            rcases e.o.words.2 with⟨cs,_⟩|⟨g,dT,hU,cs,_⟩
            ·exact .inl cs
            ·exact .inr ⟨g,dT,cs⟩
           rcases hE with rfl|⟨g,dT,rfl⟩
           all_goals
            go_wp2_with fail;go_meet
            ·
             rw[h.o];have:=Kq true (fun _=>rfl) u F e.o.spot e.o.grown;exact⟨rfl,this.1,this.2.1,this.2.2⟩
          ·have h:J (xx 1 b words n d.length last (some a)=(⟨false,0,words.getD (qa (words.length-1) (some a)).1 []⟩,1,(qa (words.length-1) (some a)).2)):=(by simp[J,xx,h3,em]);clear z h3;have hF:0<words.length:=dO.2 em;have fz:=e.o.words;obtain⟨ua,ij,rfl,fc⟩:=OI fz hF;have gY:=e.o.size;go_wp2_with fail;refine(QU p l (some a) _ _ G (by omega) (by omega) e.o.spot).mono ?_;rintro e5 w5 ⟨rfl,k,f⟩;have r:((words.length:Int)-1).toNat=words.length-1:=(by omega);rw[r]at k ⊢;have bi:=zI (words.length-1) (some a);have s:=F.kept f (by have:=e.o.size;omega) (by omega);obtain⟨⟨m0,m1,m2⟩,H⟩:=zi s;have hP:=H 2;have w:=I k;have M:=I (je e.o.grown f);have y:=I s;have ho:=I (xI fz da f);clear k f s H O P T r fz fc em;generalize qa (words.length-1) (some a)=fr at *;obtain⟨K,Z⟩:=fr;simp only at bi w h ⊢;have gt:K<words.length:=(by omega);have hb:J (words.getD K []=words[K]):=(by simp[J,gt]);have hX:=PZ ho.o K gt;generalize words[K]=wd at *;have hr:(K:Int)<(words.length:Int):=(by omega);go_wp2_with fail;go_meet
           ·
            rw[h.o];have:=GV (b:=wd) rfl ap.o u y.o w.o M.o;rw[hb.o];exact⟨rfl,this.1,this.2.1,this.2.2⟩
         ·have q3:((b:Int)==3)=false:=(by simp;omega);by_cases h4:b=4
          ·have q4:((b:Int)==4)=true:=(by simp;omega);have h:J (xx 1 b words n d.length last (some a)=(⟨false,0,last.text.take (qa last.text.length (some a)).1++(xR 12 (qa last.text.length (some a)).2).1⟩,1,(xR 12 (qa last.text.length (some a)).2).2)):=(by simp[J,xx,h4]);clear z h3 h4;obtain⟨⟨_,_,k1⟩,_⟩:=zi e.o.a9;have gY:=e.o.size;have h5:=i.o.b8;have h6:last.text.length<=720:=(by omega);go_wp2_with fail;refine(QU p l (some a) _ _ G (by omega) (by omega) e.o.spot).mono ?_;rintro e5 w5 ⟨rfl,k,f⟩;have r:(last.text.length:Int).toNat=last.text.length:=bY _;rw[r]at k ⊢;have bi:=zI last.text.length (some a);have s:=F.kept f (by omega) (by omega);have fe:=e.o.a9.kept f (by omega) (by omega);have hN:=f.size;have w:=I k;have M:=I (je e.o.grown f);have y:=I s;have hh:=I fe;have y1:=(zi fe).1.2.2;clear k f s O P T r fe k1;generalize qa last.text.length (some a)=fr at *;obtain⟨K,Z⟩:=fr;simp only at bi w h ⊢;have HX:=I (fun K0 (hW:qo K0 p l Z)=>Mi p l Z 12 K0 G (by decide) (by decide) hW);have g4:=jat 12 Z;have r:(12:Int).toNat=12:=rfl;rw[r]at HX;clear r;generalize xR 12 Z=xr at *;have hr:(K:Int)<=(last.text.length:Int):=(by omega);have ia:¬(9223372036854775807<(last.text.take K).length+xr.1.length):=(by rw[aM];omega);go_wp2_with fail;go_region_with (go_at_call 222;refine(HX.o _ ?_).mono ?_;exact An w.o;rintro e6 w6 ⟨rfl,dd,X⟩;have ds:=I (je M.o (jS X));have dr:=I (y.o.kept (jS X) (by omega) (by omega));have eC:=I dd;have x1:=(zi (hh.o.kept (jS X) (by omega) (by omega))).1.2.2;have x2:=(zi dr.o).1.2.2;have x3:=(zi dr.o).2 2;clear dd X)
           all_goals
            go_wp2_with fail;go_meet
            ·
             rw[h.o];have:=GV (jao last.text xr.1 K) ap.o u dr.o eC.o ds.o;exact⟨rfl,this.1,this.2.1,this.2.2⟩
          ·have q4:((b:Int)==4)=false:=(by simp;omega);have h:J (xx 1 b words n d.length last (some a)=(⟨false,0,[]⟩,1,none)):=(by simp[J,xx,z,h3,h4]);clear z h3 h4;clear O P T;obtain⟨c2,f2⟩:=QW e.o.spot;go_wp2_with fail;go_meet
           ·
            rw[h.o];have:=Kq true (fun _=>rfl) u F e.o.spot e.o.grown;exact⟨rfl,this.1,this.2.1,this.2.2⟩
      case rest =>
       obtain⟨rfl,be,eg,gX⟩:=hcut;have am:=I (Wk ap.o u d8 fn da i.o ge.o be eg gX);have gb:J (zG kind b words n (gk-1) (d++List.replicate (xx kind b words n d.length last (some a)).2.1 (xx kind b words n d.length last (some a)).1) (xx kind b words n d.length last (some a)).1 (xx kind b words n d.length last (some a)).2.2=zG kind b words n (n+1) [] qY dl):=by
        have B:=ga.o;obtain⟨gi,rfl⟩:∃gi,gk=gi+1:=⟨gk-1,by have:=eR.o;omega⟩;rw[zG,aQ ⟨bX,rfl⟩]at B;exact B
       generalize xx kind b words n d.length last (some a)=X9 at *;obtain⟨v,V,hQ⟩:=X9;simp only at ce eP f5 am gb be ⊢;obtain⟨vn,vi,vt⟩:=v;obtain⟨⟨d0,d1,d2⟩,df⟩:=zi be;simp only at d0 d1 d2;obtain⟨y0,y1,y2⟩:=(zi am.o.last).1;have e0:=(zi am.o.last).2 0;have e1:=(zi am.o.last).2 1;have e2:=(zi am.o.last).2 2;clear be eg gX e df;have HM:=I (FO d8 fn g5 am.o);clear am;go_wp2_with fail;clear y0 y1 y2 e0 e1 e2 d0 d1 d2;go_loopw [7,18] (fun lv cd w3=>∃q:Nat,q<=V/\cd=N q/\G5 C w3 p dW co l hQ lv u8 (d++List.replicate q ⟨vn,vi,vt⟩) ⟨vn,vi,vt⟩ ⟨vn,vi,vt⟩ words)
        (fun _ cd _=>V-(intOf cd).toNat)
       case atStart=>exact⟨0,aG _,rfl,HM.o⟩
       case round =>
        obtain⟨q,hY,rfl,hm⟩:=hrel;have Hm:=I hm;obtain⟨⟨d0,d1,d2⟩,df⟩:=zi hm.new;simp only at d0 d1 d2;have ii:=hm.lt;have fs:=hm.row;clear hm HM df;have h7:(d++List.replicate q (⟨vn,vi,vt⟩:Z9)).length<=60:=by
         have:=ce.o.1;rw[aB,bf];omega
        have ib:V<=60:=by have:=ce.o.1;omega
        by_cases hA:q<V
        ·go_wp2_with(at_builtin;refine wpList_append_own_at _ rfl (.tmp 170) (.tmp 172) 59 rfl (dW+1) 58 i1 (.agg #[.bool false,N 0,.string ⟨#[]⟩]) 3 32 Tryz.underlying59 hw hH hI hJ rfl (by decide) _ _ _ rfl (fs.alloc _) (A _ 0) 1 1 [.bool vn,N vi,S vt] rfl rfl ?c1 ?c2 ?c3 ?c4 ?c5 ?_)
         case c1=>exact qr _ #[.bool vn,N vi,S vt] 58
         case c2=>intro hR hu;simp at hu;rcases hu with rfl|rfl|rfl<;>rfl
         case c3=>unfold maxLen;omega
         case c4=>omega
         case c5=>simp;omega
         intro v4 w4 ea d6 _ gp;have HR:=I (Li d8 fn g5 Hm.o (by rw[aB,bf];exact ea) d6 gp);clear ea d6 gp fs Hm d0 d1 d2;go_wp2;go_roundw
         ·exact⟨q+1,by omega,by go_num,HR.o⟩
         ·simp[intOf];omega
        ·have hz:q=V:=(by omega);subst hz;have HN:=I (Pu hn hC i.o.b8 i.o.ok Hm.o ce.o.1 (by have:=f5.o;simp only at this ⊢;omega) eP.o.1 eP.o.2);clear fs hA;go_wp2_with fail;go_roundg (gk-1)
         case measure=>have:=eR.o;omega
         case rel=>exact⟨_,_,_,HN.o,Hm.o.words,by have:=ce.o.1;rw[aB,bf];omega,by omega,gb.o,fun hD=>by have B:=ce.o.2 hD;have m:=eR.o;rw[aB,bf];omega⟩
     ·have HE:J (zV kind n (some (c::x))=(d,ac)):=by
       rw[J,g9.o,<-ga.o];exact Cx _ _ _ _ _ _ _ _ d7
      by_cases bX:d.length<n
      ·have be:Xw ac=true:=by
        cases ac with
        | none=>rfl
        | some D=>exact absurd ⟨bX,rfl⟩ d7
       rw[be]at e7;clear d7 be fa;go_wp2;go_ret;rw[HE.o];exact⟨_,rfl,jQ i.o.row (by omega),i.o.ok,i.o.spot,i.o.grown⟩
      ·have hZ:n<=d.length:=(by omega);clear d7 fa bX;go_wp2;go_ret;rw[HE.o];exact⟨_,rfl,jQ i.o.row (by omega),i.o.ok,i.o.spot,i.o.grown⟩
theorem jgi(t:O')(F:Nat)(a:List Z9)(n:W)(C:F2 n t a) :
  C' 117 #[N 3,.slice t a.length F] n fun i w'=>i=.returned (S (qT 3 a))/\Below n.heap.size n w':=by
 have e:=I C;have m:=C.ao;clear C;go_enter Tryz.func117,Tryz.ntmps117;go_wp2_with fail;refine(QM t F a _ (by omega) e.o.av).mono ?_;rintro i o ⟨dv,rfl,O,H⟩;obtain⟨da,bv,rfl,_,k⟩:=QZ O (fun c z=>ON (e.o.small c (XG a a.length (aA _) c z)));have E:=I k;have U:∀c∈qA a,qI c:=fun c z=>e.o.small c (XG a a.length (aA _) c z);have s:=I U;have M:(qA a).length<=60:=aI (Jw a a.length) m;clear O k U;go_wp2_with fail;refine(ED _ _ (by omega) (by omega)).mono ?_;rintro i w2 ⟨rfl,K⟩;rw[bY];go_wp2_with fail;go_loopw [5,7] (fun D h wr=>∃b:Nat,b<=(qA a).length/\h=N b/\D=S (JK (qA a) b)/\Below o.heap.size o wr) (fun _ h _=>(qA a).length-(intOf h).toNat)
 case atStart=>exact⟨0,aG _,rfl,rfl,K⟩
 case round =>
  clear K;obtain⟨b,cs,rfl,rfl,d⟩:=hrel;by_cases f:b<(qA a).length
  ·have dd:=Gb (qA a) s.o M b;have r:J (JK (qA a) (b+1)=JK (qA a) b++xB ((qA a)[b]).text):=by
    show JK (qA a) b++xB (zP (qA a) b).text=_;rw[qy _ b f]
   obtain⟨_,_,X⟩:=s.o (qA a)[b] (aJ f);obtain⟨bi,dT,w,cd,j⟩:=(E.o.j d).at_ (aE (by omega));obtain⟨g1,u,v⟩:=j b f;subst w;clear j;have b4:=GK _ X;generalize JK (qA a) b=be at *;generalize ((qA a)[b]).text=tx at *;go_wp2_with fail;refine(LY _ _ (by rw[jT];omega)).mono ?_;rintro i w4 ⟨rfl,y⟩;rw[Nf];clear g1 u v;go_wp2;go_roundw
   ·exact⟨b+1,by omega,by go_num,by rw[r.o,xh],d.trans (y.mono d.size)⟩
   ·simp[intOf];omega
  ·have B:b=(qA a).length:=(by omega);subst B;have d3:=Gb (qA a) s.o M (qA a).length;generalize G:JK (qA a) (qA a).length=words at *;have HW:=I G;clear G;go_wp2_with fail;go_loopw [5,8] (fun D h wr=>∃b:Nat,b<=a.length/\h=N b/\D=S (words++jN 3 a b)/\Below o.heap.size o wr) (fun _ h _=>a.length-(intOf h).toNat)
   case atStart=>exact⟨0,aG _,rfl,by simp[jN],d⟩
   case round =>
    clear d;obtain⟨b,cs,rfl,rfl,l⟩:=hrel;have d:=H.trans (l.mono H.size);have V:=l.size;by_cases f:b<a.length
    ·have P:=(e.o.j d).av;have dd:=xS 3 a e.o.small m b;have d1:=ZD 3 a e.o.small m b;have r:J (jN 3 a (b+1)=jN 3 a b++xi 3 a b):=rfl;have dr:=e.o.small a[b] (aJ f);have dl:=QF a e.o.small b;have HT:J (xi 3 a b=uB (qj (qA a) (a[b]).text)):=by show uB (qj (qA a) (zP a b).text)=_;rw[qy a b f]
     have d0:=Vj (qA a) (a[b]).text;have L:=Jw a a.length;have dW:(qA a).length<=60:=aI L m;have am:=I (UJ a b f);clear L;obtain⟨bi,dT,w,cd,j⟩:=P.at_ (aE (by omega));subst w;have ac:=I j;clear P;obtain⟨g1,u,v⟩:=j b f;clear j;generalize jN 3 a b=be at *;have ds:=d.size;go_upto_if 47 with fail;go_cut [10] (fun p wc=>p=(Q (wr.heap.size+1) 0)/\M7 wc wr.heap.size a[b]/\M7 wc (wr.heap.size+1) (qm a b)/\Below wr.heap.size wr wc/\wc.heap.size=wr.heap.size+2)
     case first =>
      by_cases co:b=0
      ·subst co;go_wp2;go_meet
       ·exact⟨rfl,Jf wr a[0] qY⟩
      ·obtain⟨g,rfl⟩:∃g,b=g+1:=⟨b-1,by omega⟩;obtain⟨f1,f2,f3⟩:=ac.o g (by omega);have T:qm a (g+1)=a[g]:=(by unfold qm;rw[aL (by omega)];exact qy a g (by omega));have ap:=I T;clear T;go_wp2;go_meet
       ·exact⟨rfl,by rw[ap.o];exact Jf wr a[g+1] a[g]⟩
     case rest =>
      obtain⟨rfl,ce,ci,x,d2⟩:=hcut;obtain⟨v1,v2,v3⟩:=ce;obtain⟨q1,q2,q3⟩:=ci;have bX:=d.trans (x.mono ds);have d4:=bX.size;obtain⟨s1,s2,X⟩:=dr;obtain⟨r1,r2,r3⟩:=dl;have q:=I x;clear g1 u v x d;have k:=(E.o.j l).j q.o;have Z:=I k;clear k;have b4:=jO (qj (qA a) (a[b]).text) (by omega);go_wp2_with fail;refine(Da da bv (qA a) (a[b]).text _ (by omega) Z.o am.o).mono ?_;rintro i wc ⟨rfl,rfl⟩;generalize qj (qA a) (a[b]).text=ff at *;go_wp2_with fail;refine(ED _ _ (by omega) (by omega)).mono ?_;rintro i w4 ⟨rfl,y⟩;rw[bY];have Y:=I ((l.trans (q.o.mono V)).trans (y.mono (aI V q.o.size)));go_wp2;go_roundw
      ·exact⟨b+1,by omega,by go_num,by rw[r.o,HT.o,<-aD,xh],Y.o⟩
      ·simp[intOf];omega
    ·have B:b=a.length:=(by omega);subst B;go_wp2;go_ret;exact⟨qH (by unfold qT;rw[aQ rfl,HW.o]),d⟩
theorem LQ(n:Nat)(g:n<=5)(c:O')(d:Nat)(b:List Z9)(a:W)(e:F2 a c b) :
  C' 117 #[N n,.slice c b.length d] a fun f h=>f=.returned (S (qT n b))/\Below a.heap.size a h:=by
 match n,g with
 | 0,_=>exact jgg c d b a e
 | 1,_=>exact jgf c d b a e
 | 2,_=>exact jgd c d b a e
 | 3,_=>exact jgi c d b a e
 | 4,_=>exact jgj c d b a e
 | 5,_=>exact jgh c d b a e
def Ba(kind:Int):V':=#[N (XY kind 0:Int),N (XY kind 1:Int),N (XY kind 2:Int)]
theorem Oz(kind:Int)(b:W) :
  C' 116 #[N kind] b fun d e=>d=.returned (R b.heap.size 3 3)/\e=b.alloc (.cells (Ba kind) 3):=by
 by_cases a:kind=0
 ·subst a;go_enter Tryz.func116,Tryz.ntmps116;go_wp2;go_ret;exact⟨rfl,rfl⟩
 ·have f:(kind==0)=false:=by simp[a]
  have c:J (Ba kind=#[N 5,N 3,N 4]):=by simp[J,Ba,XY,a]
  clear a;go_enter Tryz.func116,Tryz.ntmps116;go_wp2;go_ret;exact⟨rfl,by rw[c.o]⟩
theorem jcv(kind:Int)(b:W)(a:Nat)(c:a<3):(b.alloc (.cells (Ba kind) 3)).cell? (A b.heap.size a)=some (N (XY kind a:Int)):=by
 rw[kF]
 match a,c with
 | 0,_=>rfl
 | 1,_=>rfl
 | 2,_=>rfl
theorem jda(kind:Int)(a:Nat)(b:a<3):XY kind a<=5:=by
 unfold XY;split
 ·omega
 ·split<;>omega
variable{v w:W}{a:O'}{D:List Z9}
theorem F2.alloc(d:F2 w a D)(o:Obj):F2 (w.alloc o) a D:=d.j ((k8 _ _).alloc (aA _) _)
theorem F2.drew{w:W}(c:F2 w a D):F2 w.drew a D:=c.j (k8 _ _).drew
theorem jdn(n:Nat)(a:n<=5):IntKind.u8.wrap ((n:Int).tmod 5)=(n:Int)%5:=by
 rw[Int.tmod_eq_emod_of_nonneg (by omega),ll];omega
theorem jfa(a:W)(n:Nat)(b:n<=5) :
  Sem.run Tryz.prog (convert 149 9 (R a.heap.size 1 1)) (a.alloc (.cells #[.int .u8 (IntKind.u8.wrap ((n:Int).tmod 5))] 5)) =
   .ok (S [T4 ((n:Int)%5)]) (a.alloc (.cells #[.int .u8 (IntKind.u8.wrap ((n:Int).tmod 5))] 5)):=by
 rw[jdn n b];exact UK a _ (by omega) (by omega)
theorem Bb(a:W)(n:Nat)(d:n<=5)(b:W)(e:Below (a.alloc (.cells #[.int .u8 (IntKind.u8.wrap ((n:Int).tmod 5))] 5)).heap.size (a.alloc (.cells #[.int .u8 (IntKind.u8.wrap ((n:Int).tmod 5))] 5)) b) :
  Sem.run Tryz.prog (convert 149 9 (R a.heap.size 1 1)) b=.ok (S [T4 ((n:Int)%5)]) b:=by
 refine kS (P:=Tryz.prog) _ 149 9 5 (A a.heap.size 0) 1 [T4 ((n:Int)%5)] Tryz.underlying149 Tryz.underlying5 Tryz.underlying9 ?_;intro j f
 match j,f with
 | 0,_ =>
  have c:((A a.heap.size 0):Addr).add 0=(A a.heap.size 0):=rfl;rw[c,e.cell (p:=A a.heap.size 0) (by simp),kF,jdn n d];simp[zC ((n:Int)%5) (by omega) (by omega)]
theorem jbg(a:W)(n:Nat)(b:n<=5) :
  Sem.run Tryz.prog (convert 149 9 (R a.heap.size 1 1)) (a.alloc (.cells #[.int .u8 (IntKind.u8.wrap ((n:Int).tmod 5))] 5)).drew =
   .ok (S [T4 ((n:Int)%5)]) (a.alloc (.cells #[.int .u8 (IntKind.u8.wrap ((n:Int).tmod 5))] 5)).drew :=
 Bb a n b _ (k8 _ _).drew
theorem Yu{o:Obj}(b:Below (w.alloc o).drew.heap.size (w.alloc o).drew v):Below w.heap.size w v :=
 ((k8 _ _).alloc (aA _) _).trans ((jg b).mono (by show w.heap.size<=(w.alloc o).heap.size;simp))
variable{m n:Nat}{x:Value}
theorem Le{o:Obj}(c:Below (w.alloc o).drew.heap.size (w.alloc o).drew v)(e:n<w.heap.size)(d:w.cell? (A n m)=some x):v.cell? (A n m)=some x :=
 ((Yu c).cell (p:=A n m) e).trans d
theorem Dy(b:D.length=0):D=[]:=aO b
theorem TY(kind:Int)(m:O')(x:Nat)(d:List Z9)(D:W)(O:F2 D m d) :
  C' 52 #[N kind,.slice m d.length x] D fun f w'=>f=.returned (S (xy kind d))/\Below D.heap.size D w':=by
 have v:=I O;have M:=O.ao;clear O;go_enter Tryz.func52,Tryz.ntmps52;go_wp2_with fail;refine(Is m x d _ (by omega) v.o.av).mono ?_;rintro f g ⟨vv,rfl,co,r⟩;have ci:∀c∈jk d,c∈d:=fun c t=>(dn.1 t).1;have B:∀c∈jk d,qI c:=fun c t=>v.o.small c (ci c t);have d5:(jk d).length<=d.length:=du _ _;have G:J (xy kind d=if jk d=[]then JC d else JC d++jV kind (jk d) 3):=rfl;have d3:=Ku d M;obtain⟨U,cs,rfl,_,be⟩:=QZ co (fun c t=>ON (B c t));have HV:J (F2 g U (jk d)):=⟨be,B,by omega⟩;have X:=I B;clear co be ci B;generalize jk d=b at *;by_cases y:b.length=0
 ·have H:J (xy kind d=JC d):=by have:=G.o;rw[aQ (Dy y)]at this;exact this
  have hz:((b.length:Int)==0)=true:=ee.2 (by omega);clear y;go_wp2_with fail;refine(MC m x d _ M (v.o.j r).av).mono ?_;rintro f j ⟨rfl,s⟩;go_wp2;go_ret;exact⟨qH H.o.symm,r.trans (s.mono r.size)⟩
 ·have H:J (xy kind d=JC d++jV kind b 3):=by have:=G.o;rw[aL (fun q=>y (by rw[q];rfl))]at this;exact this
  have hz:((b.length:Int)==0)=false:=bQ.2 (by omega);clear y G;go_wp2_with fail;refine(Oz kind _).mono ?_;rintro f j ⟨rfl,C⟩;have dl:g.heap.size<j.heap.size:=by rw[C];simp
  have s:Below g.heap.size g j:=by rw[C];exact(k8 _ _).alloc (aA _) _
  have HC:J (∀a,a<3->j.cell? (A g.heap.size a)=some (N (XY kind a:Int))):=by intro a hk;rw[C];exact jcv kind g a hk
  have da:=I (HV.o.j s);have ac:=r.trans (s.mono r.size);clear C s;generalize bX:g.heap.size=o at *;have dv:=I bX;clear bX;go_wp2_with fail;go_loopw [7,8] (fun T P wr=>∃a:Nat,a<=3/\P=N a/\T=S (jV kind b a)/\Below j.heap.size j wr) (fun _ P _=>3-(intOf P).toNat)
  case atStart=>exact⟨0,aG _,rfl,rfl,k8 _ _⟩
  case round =>
   obtain⟨a,hk,rfl,rfl,i⟩:=hrel;have dT:=Kv kind b X.o (by omega) a;by_cases ce:a<3
   ·have L:=(i.cell (p:=A o a) dl).trans (HC.o a ce);have bi:=da.o.j i;have V:=I bi;have u:=jda kind a ce;have F:J (jV kind b (a+1)=if a=0\/(JP (XY kind a) b).length<(jV kind b a).length then JP (XY kind a) b else jV kind b a):=rfl;have d6:=VZ (XY kind a) b X.o (by omega);clear bi;generalize XY kind a=n at *;generalize jV kind b a=w at *;have bv:=fun l=>UK l ((n:Int)%5) (by omega) (by omega);have ds:=i.size;go_upto_region 9 with fail;go_cut [9] (fun T wd=>T=S (JP n b)/\Below wr.heap.size wr wd)
    case first =>
     have b4:o<wr.heap.size:=(by omega);have d4:¬(9223372036854775807<1+(qT n b).length):=(by omega);clear bv;have d0:=fun l=>jfa l n u;have d1:=fun l=>jbg l n u;go_region_with (first
      | (go_at_call 117;refine(LQ n u U cs b _ ?_).mono ?_;exact V.o.drew;rintro f h ⟨rfl,e⟩;have x5:h.cell? (A o a)=some (N n):=(e.cell (p:=A o a) b4).trans L;have z:Below wr.heap.size wr h:=jg e)
      | (go_at_call 117;refine(LQ n u U cs b _ ?_).mono ?_;exact(V.o.alloc _).drew;rintro f h ⟨rfl,e⟩;have x5:h.cell? (A o a)=some (N n):=Le e b4 L;have z:Below wr.heap.size wr h:=Yu e;have d2:=Bb wr n u h (jg e)))
     all_goals
      go_wp2_with fail;go_meet
      ·exact⟨by simp[JP,xh],by first|exact z|exact z.alloc z.size _⟩
    case rest =>
     obtain⟨rfl,ap⟩:=hcut;have am:=i.trans (ap.mono ds);have E:=I am;have dW:(JP n b).length<=5001:=(by simp only[JP,bC];omega);clear i ap am L bv;have dd:(((a:Int)==0)=true)\/(((a:Int)==0)=false/\(JP n b).length<w.length)\/(((a:Int)==0)=false/\¬(JP n b).length<w.length):=by
      by_cases q:a=0
      ·left;simp[q]
      ·right;by_cases Z:(JP n b).length<w.length
       ·left;exact⟨by simp;omega,Z⟩
       ·right;exact⟨by simp;omega,Z⟩
     rcases dd with c1|⟨c1,c2⟩|⟨c1,c2⟩
     ·have k:J (jV kind b (a+1)=JP n b):=by have:=F.o;rw[aQ (.inl (by simpa using c1))]at this;exact this
      generalize JP n b=Y at *;go_wp2;go_roundw
      ·exact⟨a+1,by omega,by go_num,by rw[k.o],E.o⟩
      ·simp[intOf];omega
     ·have k:J (jV kind b (a+1)=JP n b):=by have:=F.o;rw[aQ (.inr c2)]at this;exact this
      generalize JP n b=Y at *;go_wp2;go_roundw
      ·exact⟨a+1,by omega,by go_num,by rw[k.o],E.o⟩
      ·simp[intOf];omega
     ·have k:J (jV kind b (a+1)=w):=by have:=F.o;rw[aL (fun q=>q.elim (by simpa using c1) c2)]at this;exact this
      generalize JP n b=Y at *;go_wp2;go_roundw
      ·exact⟨a+1,by omega,by go_num,by rw[k.o],E.o⟩
      ·simp[intOf];omega
   ·have dr:a=3:=(by omega);subst dr;have K:=ac.trans (i.mono ac.size);go_wp2_with fail;refine(MC m x d _ M (v.o.j K).av).mono ?_;rintro f h ⟨rfl,e⟩;go_wp2;go_ret;exact⟨DF H.o.symm,K.trans (e.mono K.size)⟩
end Go.Proofs.YthhpbhpfagoapaaGreat
