import Derived.Test.YthhpbhpfagoapaaGreatGAF
import Derived.Test.YthhpbhpfagoapaaGreatGAG
namespace Go.Proofs.YthhpbhpfagoapaaGreat
set_option linter.all false
set_option maxRecDepth 100000
set_option maxHeartbeats 16000000
open Go.RowKit
theorem CZ(a:B8)(b:Nat):((⟨a.toArray⟩:ByteArray).extract b a.length).data.toList=a.drop b:=by
 rw[Lib.extract_data,Nf,aU (by rw[aP];omega)]
theorem jer(a:B8)(b:Nat)(c:a.length<=12):((⟨a.toArray⟩:ByteArray).extract b a.length).size<=1000000:=by
 rw[Lib.size_eq,CZ,aP];omega
theorem Ko(b:B8)(a:Nat)(d:a<b.length)(c:a<(⟨b.toArray⟩:ByteArray).size):(⟨b.toArray⟩:ByteArray)[a]'c=b[a]:=rfl
theorem jgj(r:O')(G:Nat)(a:List Z9)(i:W)(y:F2 i r a) :
  C' 117 #[N 4,.slice r a.length G] i fun q E=>q=.returned (S (qT 4 a))/\Below i.heap.size i E:=by
 have l:=I y;have P:=y.ao;clear y;go_enter Tryz.func117,Tryz.ntmps117;go_wp2_with fail;refine(QM r G a _ (by omega) l.o.av).mono ?_;rintro q w1 ⟨dv,rfl,bv,M⟩;clear bv;go_wp2_with fail;go_loopw [5,8] (fun s z wr=>∃c:Nat,c<=a.length/\z=N c/\s=S (jN 4 a c)/\Below i.heap.size i wr) (fun _ z _=>a.length-(intOf z).toNat)
 case atStart=>exact⟨0,aG _,rfl,rfl,M⟩
 case round =>
  clear M;obtain⟨c,d3,rfl,rfl,n⟩:=hrel;by_cases x:c<a.length
  ·have O:=(l.o.j n).av;have d4:=xS 4 a l.o.small P c;have d8:=ZD 4 a l.o.small P c;have HS:J (jN 4 a (c+1)=jN 4 a c++xi 4 a c):=rfl;have dl:=l.o.small a[c] (aJ x);have cs:=QF a l.o.small c;have HT:J (xi 4 a c=uB (jY (a[c]).text (qm a c).text)++xB ((a[c]).text.drop (jY (a[c]).text (qm a c).text))):=by
    show xi 4 a c=_;simp only[xi,qy a c x]
   obtain⟨d6,d7⟩:=Qy (a[c]).text (qm a c).text;have ap:=I (GY (a[c]).text (qm a c).text);have am:=I (YA (a[c]).text (qm a c).text);obtain⟨b,ec,ha,d1,w⟩:=O.at_ (aE (by omega));subst ha;have be:=I w;clear O;obtain⟨g1,g2,g3⟩:=w c x;clear w;generalize jN 4 a c=F at *;have dr:=n.size;go_upto_if 47 with fail;go_cut [10] (fun p wc=>p=(Q (wr.heap.size+1) 0)/\M7 wc wr.heap.size a[c]/\M7 wc (wr.heap.size+1) (qm a c)/\Below wr.heap.size wr wc/\wc.heap.size=wr.heap.size+2)
   case first =>
    by_cases cd:c=0
    ·subst cd;go_wp2;go_meet
     ·exact⟨rfl,Jf wr a[0] qY⟩
    ·obtain⟨b,rfl⟩:∃b,c=b+1:=⟨c-1,by omega⟩;obtain⟨f1,f2,f3⟩:=be.o b (by omega);have U:qm a (b+1)=a[b]:=(by unfold qm;rw[aL (by omega)];exact qy a b (by omega));have bi:=I U;clear U;go_wp2;go_meet
     ·exact⟨rfl,by rw[bi.o];exact Jf wr a[b+1] a[b]⟩
   case rest =>
    obtain⟨rfl,bX,b4,u,ea⟩:=hcut;obtain⟨v1,v2,k⟩:=bX;obtain⟨q1,q2,m⟩:=b4;have H:=n.trans (u.mono dr);have ds:=H.size;obtain⟨s1,s2,s3⟩:=dl;obtain⟨r1,r2,r3⟩:=cs;have dT:=I u;clear g1 g2 g3 u n;generalize L:wr.heap.size=f at *;have dW:=I L;clear L;have d0:=jO (jY (a[c]).text (qm a c).text) (by omega);have d2:=GK ((a[c]).text.drop (jY (a[c]).text (qm a c).text)) (by rw[aP];omega);generalize jY (a[c]).text (qm a c).text=D at *;generalize (a[c]).text=d at *;generalize (qm a c).text=e at *;clear v1 v2 q1 q2 r1 r2 s1 s2;go_wp2_with fail;go_loopw [12] (fun t wi=>∃b:Nat,b<=D/\t=N b/\Below wc.heap.size wc wi) (fun t _=>100-(intOf t).toNat)
    case atStart=>exact⟨0,aG _,rfl,k8 _ _⟩
    case round =>
     obtain⟨b,hm,rfl,j⟩:=hrel;have x3:=(j.cell (p:=A f 2) (by show f<wc.heap.size;omega)).trans k;have p3:=(j.cell (p:=A (f+1) 2) (by show f+1<wc.heap.size;omega)).trans m;by_cases co:b<D
     ·have g:b<d.length:=(by omega);have h:b<e.length:=(by omega);have B:b<(⟨d.toArray⟩:ByteArray).size:=(by rw[jT];exact g);have C:b<(⟨e.toArray⟩:ByteArray).size:=(by rw[jT];exact h);have he:(((((⟨d.toArray⟩:ByteArray)[b]'B).toNat:Int))==((((⟨e.toArray⟩:ByteArray)[b]'C).toNat:Int)))=true:=by
       rw[Ko d b g,Ko e b h,ap.o b co g h];simp
      have X:(b:Int)<(d.length:Int):=(by omega);have Y:(b:Int)<(e.length:Int):=(by omega);clear k m;go_wp2_with fail;go_quiet(fail);go_wp2;go_roundw
      ·exact⟨b+1,by omega,by go_num,below_drewN j nq⟩
      ·simp[intOf];omega
     ·have ci:b=D:=(by omega);subst ci;go_upto_region 32 with fail;go_cut [150] (fun t wd=>t=.bool false/\Below wc.heap.size wc wd)
      case first =>
       by_cases g:b<d.length
       ·have X:(b:Int)<(d.length:Int):=(by omega);by_cases h:b<e.length
        ·have Y:(b:Int)<(e.length:Int):=(by omega);have T:=am.o g h;have B:b<(⟨d.toArray⟩:ByteArray).size:=(by rw[jT];exact g);have C:b<(⟨e.toArray⟩:ByteArray).size:=(by rw[jT];exact h);have d5:(((((⟨d.toArray⟩:ByteArray)[b]'B).toNat:Int))==((((⟨e.toArray⟩:ByteArray)[b]'C).toNat:Int)))=false:=by
          rw[Ko d b g,Ko e b h];have:¬(d[b]'g).toNat=(e[b]'h).toNat:=fun h=>T (dZ.1 h);simp;omega
         clear T k m;go_quiet(fail);go_wp2_with fail;go_meet
         ·exact⟨rfl,below_drewN j nq⟩
        ·have Y:decide ((b:Int)<(e.length:Int))=false:=(by simp;omega);clear k m;go_quiet(fail);go_wp2_with fail;go_meet
         ·exact⟨rfl,below_drewN j nq⟩
       ·have X:decide ((b:Int)<(d.length:Int))=false:=(by simp;omega);clear k m;go_quiet(fail);go_wp2_with fail;go_meet
        ·exact⟨rfl,below_drewN j nq⟩
      case rest =>
       obtain⟨rfl,s⟩:=hcut;have Z:=(s.cell (p:=A f 2) (by show f<_;omega)).trans k;have V:=s.size;clear x3 p3 k m j;have j1:(b:Int)<=(d.length:Int):=(by omega);have da:¬(9223372036854775807<F.length+(uB b).length):=(by omega);have dd:¬(9223372036854775807<F.length+(uB b).length+(xB (d.drop b)).length):=(by omega);go_wp2_with fail;go_region_held3 (fun E=>E.cell? (A f 2)=some (S d)) (first|assumption|simp[*])
        (first
         | (go_at_call 147;refine(OU (b:Int) _ ?_ ?_).mono ?_;omega;omega;rintro q w5 ⟨rfl,o⟩;rw[bY];have x5:=(o.cell (p:=A f 2) (show f<wc.heap.size by omega)).trans Z)
         | (go_at_call 146;refine(LY _ _ (jer d b s3)).mono ?_;rintro q w6 ⟨rfl,v⟩;rw[CZ];have x6:=(v.cell (p:=A f 2) (aC (show f<wc.heap.size by omega) o.size)).trans x5))
       have K:Below i.heap.size i w6:=H.trans ((s.trans ((jg o).mono V)).trans (v.mono (aI V o.size)) |>.mono ds);have ac:=I K;clear K Z x5 x6 o v da dd;go_wp2;go_roundw
       ·exact⟨c+1,by omega,by go_num,by rw[HS.o,HT.o,<-aD,xh,xh],ac.o⟩
       ·simp[intOf];omega
  ·have ce:c=a.length:=(by omega);subst ce;go_wp2;go_ret;exact⟨qH (by simp[qT]),n⟩
theorem Ll(b t:B8)(e:W)(x:b.length<=12)(y:t.length<=12) :
  C' 248 #[S b,S t] e fun q w=>q=.returned (N (jY b t:Int))/\Below e.heap.size e w:=by
 have F:=jT b;have G:=jT t;have s:=Qy b t;have p:=I (GY b t);have o:=I (YA b t);obtain⟨B,C⟩:=s;generalize jY b t=g at *;go_enter Tryz.func248,Tryz.ntmps248;go_wp2;go_loopw [5] (fun h wr=>∃n:Nat,n<=g/\h=N n/\Below e.heap.size e wr) (fun h _=>g-(intOf h).toNat)
 case atStart=>exact⟨0,aG _,rfl,k8 _ _⟩
 case round =>
  obtain⟨a,D,rfl,f⟩:=hrel;by_cases v:a<g
  ·have c:a<b.length:=(by omega);have d:a<t.length:=(by omega);have i:a<(⟨b.toArray⟩:ByteArray).size:=(by rw[jT];exact c);have j:a<(⟨t.toArray⟩:ByteArray).size:=(by rw[jT];exact d);have z:(((((⟨b.toArray⟩:ByteArray)[a]'i).toNat:Int))==((((⟨t.toArray⟩:ByteArray)[a]'j).toNat:Int)))=true:=by
    rw[Ko b a c,Ko t a d,p.o a v c d];simp
   have l:(a:Int)<(b.length:Int):=(by omega);have m:(a:Int)<(t.length:Int):=(by omega);go_wp2_with fail;go_quiet(fail);go_wp2;go_roundw
   ·exact⟨a+1,by omega,by go_num,below_drewN f nq⟩
   ·simp[intOf];omega
  ·have u:a=g:=(by omega);subst u;by_cases c:a<b.length
   ·have l:(a:Int)<(b.length:Int):=(by omega);by_cases d:a<t.length
    ·have m:(a:Int)<(t.length:Int):=(by omega);have k:=o.o c d;have i:a<(⟨b.toArray⟩:ByteArray).size:=(by rw[jT];exact c);have j:a<(⟨t.toArray⟩:ByteArray).size:=(by rw[jT];exact d);have E:(((((⟨b.toArray⟩:ByteArray)[a]'i).toNat:Int))==((((⟨t.toArray⟩:ByteArray)[a]'j).toNat:Int)))=false:=by
      rw[Ko b a c,Ko t a d];have:¬(b[a]'c).toNat=(t[a]'d).toNat:=fun r=>k (dZ.1 r);simp;omega
     clear k;go_wp2_with fail;go_quiet(fail);go_wp2;go_ret;exact⟨rfl,below_drewN f nq⟩
    ·have m:decide ((a:Int)<(t.length:Int))=false:=(by simp;omega);go_wp2_with fail;go_quiet(fail);go_wp2;go_ret;exact⟨rfl,below_drewN f nq⟩
   ·have l:decide ((a:Int)<(b.length:Int))=false:=(by simp;omega);go_wp2_with fail;go_quiet(fail);go_wp2;go_ret;exact⟨rfl,below_drewN f nq⟩
theorem jbb(kind:Int)(c:W) :
  C' 65 #[N kind] c fun e f=>e=.returned (.bool (decide (kind=0)||decide (kind=1)))/\f=c:=by
 by_cases a:kind=0
 ·subst a;go_enter Tryz.func65,Tryz.ntmps65;go_wp2;go_ret;exact⟨rfl,rfl⟩
 ·have g:(kind==0)=false:=by simp[a]
  by_cases b:kind=1
  ·subst b;go_enter Tryz.func65,Tryz.ntmps65;go_wp2;go_ret;exact⟨rfl,rfl⟩
  ·have h:(kind==1)=false:=(by simp[b]);have d:J ((decide (kind=0)||decide (kind=1))=false):=(by simp[J,a,b]);clear a b;go_enter Tryz.func65,Tryz.ntmps65;go_wp2;go_ret;exact⟨jI d.o.symm,rfl⟩
theorem SW(kind:Int)(c:Z9)(g:W)(m:D9 c) :
  C' 124 #[N kind,C6 c] g fun j p=>j=.returned (.bool (qV kind c))/\Below g.heap.size g p:=by
 obtain⟨k,l,h⟩:=m;unfold maxLen at h;obtain⟨o,f,b⟩:=c;simp only at k l h;cases o with
 | true =>
  by_cases d:f=0
  ·subst d;have a:J (qV kind ⟨true,0,b⟩=b.isEmpty):=(by simp[J,qV]);go_enter Tryz.func124,Tryz.ntmps124;go_wp2;go_ret;exact⟨jI a.o.symm,(k8 _ _).alloc (aA _) _⟩
  ·have n:(f==0)=false:=(by simp[d]);have a:J (qV kind ⟨true,f,b⟩=false):=(by simp[J,qV,d]);go_enter Tryz.func124,Tryz.ntmps124;go_wp2;go_ret;exact⟨jI a.o.symm,(k8 _ _).alloc (aA _) _⟩
 | false =>
  by_cases e:kind=0
  ·subst e;have a:J (qV 0 ⟨false,f,b⟩=b.isEmpty):=(by simp[J,qV]);go_enter Tryz.func124,Tryz.ntmps124;go_wp2;go_ret;exact⟨jI a.o.symm,(k8 _ _).alloc (aA _) _⟩
  ·have q:(kind==0)=false:=(by simp[e]);by_cases d:f=0
   ·subst d;by_cases i:b.length<=12
    ·have a:J (qV kind ⟨false,0,b⟩=true):=(by simp[J,qV,e,i]);clear e;go_enter Tryz.func124,Tryz.ntmps124;go_wp2;go_ret;exact⟨jI (by rw[a.o];simp;omega),(k8 _ _).alloc (aA _) _⟩
    ·have a:J (qV kind ⟨false,0,b⟩=false):=(by simp[J,qV,e,i]);clear e;go_enter Tryz.func124,Tryz.ntmps124;go_wp2;go_ret;exact⟨jI (by rw[a.o];simp;omega),(k8 _ _).alloc (aA _) _⟩
   ·have n:(f==0)=false:=(by simp[d]);have a:J (qV kind ⟨false,f,b⟩=false):=(by simp[J,qV,d,e]);clear e d;go_enter Tryz.func124,Tryz.ntmps124;go_wp2;go_ret;exact⟨jI a.o.symm,(k8 _ _).alloc (aA _) _⟩
theorem Ml(kind:Int)(l:O')(x:Nat)(a:List Z9)(d:W)(G:a.length<=140737488351232)(r:T3 d l a) :
  C' 66 #[N kind,.slice l a.length x] d fun m C=>m=.returned (.bool (decide (a.length<=60)&&a.all (qV kind)))/\Below d.heap.size d C:=by
 have k:=I r;clear r;by_cases s:a.length<=60
 ·have B:(a.length:Int)<=60:=by omega
  have f:J ((decide (a.length<=60)&&a.all (qV kind))=a.all (qV kind)):=by simp[J,s]
  go_enter Tryz.func66,Tryz.ntmps66;go_wp2;go_loopw [12] (fun i wr=>∃b:Nat,b<=a.length/\i=N b/\(a.take b).all (qV kind)=true/\Below d.heap.size d wr) (fun i _=>a.length-(intOf i).toNat)
  case atStart=>exact⟨0,aG _,rfl,rfl,k8 _ _⟩
  case round =>
   obtain⟨b,F,rfl,o,e⟩:=hrel;have j:=I o;clear o;by_cases g:b<a.length
   ·obtain⟨D,H,rfl,E,q⟩:=(k.o.j e).at_ (aE (by omega));obtain⟨g1,y,z⟩:=q b g;clear q;have t:=k.o.ok a[b] (aJ g);have w:=I t;clear t;have v:J ((a.take (b+1)).all (qV kind)=qV kind a[b]):=by
     show(a.take (b+1)).all (qV kind)=qV kind a[b];rw[aH g,ek,j.o];simp
    have u:J (qV kind a[b]=false->a.all (qV kind)=false):=by
     intro c;rw[el];exact⟨a[b],aJ g,by simp[c]⟩
    go_wp2_with fail;refine(SW kind a[b] _ w.o).mono ?_;rintro m K ⟨rfl,p⟩;clear g1 y z;have n:=(e.alloc e.size _).trans (p.mono (by have:=e.size;simp;omega));clear p;cases c:qV kind a[b]with
    | false =>
     have h:=I c;clear c;go_wp2;go_ret;exact⟨jI (by rw[f.o];exact(u.o h.o).symm),n⟩
    | true =>
     have h:=I c;clear c;go_wp2;go_roundw
     ·exact⟨b+1,by omega,by go_num,by rw[v.o];exact h.o,n⟩
     ·simp[intOf];omega
   ·go_wp2;go_ret;exact⟨jI (by rw[f.o,<-j.o,aU (by omega)]),e⟩
 ·have B:(60:Int)<(a.length:Int):=by omega
  have f:J ((decide (a.length<=60)&&a.all (qV kind))=false):=by simp[J,s]
  go_enter Tryz.func66,Tryz.ntmps66;go_wp2;go_ret;exact⟨jI f.o.symm,k8 _ _⟩
theorem Tryz.ar:(Tryz.prog.info? 9).map (fun a=>(a.zero,a.size,a.bytes))=some (some (.string ⟨#[]⟩),1,16):=by kernel_rfl
variable{u v w:W}{i k m n:Nat}{x y:Value}{C:List Value}
theorem ju(f:w.ownsRow n m k x i C)(g:Below w.heap.size w v):v.ownsRow n m k x i C :=
 f.kept (Rj g) (fD _)
theorem Yw(a b:List (B8)):Jk (a++b)=Jk a++Jk b:=by simp[Jk]
theorem XR{n k:Nat}{d qs:List (B8)}(o:Obj)(e:k=n+qs.length)(c:Below w.heap.size w v)(i:v.ownsRow w.heap.size 9 1 x n (Jk d))
  (g:u.ownsRow w.heap.size 9 1 y k (Jk d++Jk qs))(h:(v.alloc o).grownBy u x.ownBlock) :
  u.ownsRow w.heap.size 9 1 y k (Jk (d++qs))/\Below w.heap.size w u:=by
 rw[Yw];exact⟨g,(c.alloc c.size o).grown h (by have:=c.size;simp;omega) (fun k e=>(i.lt k e).1)⟩
theorem Tx(n:Int)(a:Nat)(b:W)(d:n=(a:Int))(e:a<=9223372036854775807) :
  C' 241 #[N n] b fun c f=>c=.returned (S (uB a))/\Below b.heap.size b f:=by
 subst d;exact JJ a b e
theorem OB(a:B8)(b:Nat):(⟨a.toArray⟩:ByteArray).extract b a.length=⟨(a.drop b).toArray⟩:=by
 rw[lu]
 congr 1;simp[aU]
def OZ:Value->Nat
 | .bool true=>0
 | _=>1
theorem Gz{b a c d h:W}(g:Below b.heap.size b a)(j:Below a.drew.heap.size a.drew c)(k:Below c.heap.size c d)(l:Below d.heap.size d h):Below b.heap.size b h:=by
 have i:Below a.heap.size a c:=jg j;have e:=g.trans (i.mono g.size);have f:=e.trans (k.mono e.size);exact f.trans (l.mono f.size)
theorem Ma(a t:B8)(d:W)(g:a.length<=12)(h:t.length<=12) :
  C' 206 #[S a,S t] d fun c m=>c=.returned (S (uB (jY a t)++xB (t.drop (jY a t))))/\Below d.heap.size d m:=by
 have q:=jT a;have r:=jT t;obtain⟨o,p⟩:=Qy a t;go_enter Tryz.func206,Tryz.ntmps206;go_wp2_with fail;refine(Ll a t _ g h).mono ?_;rintro c v ⟨rfl,i⟩;generalize e:jY a t=b at *;have f:=I e;clear e;have n:=OB t b;have u:(xB (t.drop b)).length<=22:=GK _ (by rw[aP];omega);have s:=jO b (by omega);go_wp2_with fail;go_region_with (first
  | (go_at_call 241;refine(JJ b _ (by omega)).mono ?_;rintro c w ⟨rfl,j⟩)
  | (go_at_call 204;refine(Np (t.drop b) _ (by rw[aP];omega)).mono ?_;rintro c x ⟨rfl,k⟩)
  | (go_at_call 194;refine(XZ [uB b,xB (t.drop b)] _ 2 _ rfl rfl (by decide) (by simp;omega)).mono ?_;rintro c y ⟨rfl,l⟩))
 all_goals
  go_wp2;go_ret;exact⟨qH (by rw[f.o]),Gz i j k l⟩
theorem NM(L:O')(bi:Nat)(a:List Z9)(h:W)(hn:a.length<=60)(U:T3 h L a) :
  C' 193 #[.slice L a.length bi] h fun p w'=>p=.returned (S (JC a))/\Below h.heap.size h w':=by
 obtain⟨i0,hi,da,dd,dl⟩:=ks Tryz.ar;have Hl:=I U;have d0:(a.length:Int)<=60:=by omega
 have dW:=Ku a hn;clear U;go_enter Tryz.func193,Tryz.ntmps193;go_wp2_with fail;refine(JJ a.length _ (by omega)).mono ?_;rintro p Z ⟨rfl,s⟩;go_wp2_with fail;go_loopw [3,4,5] (fun v o i wr=>∃(e:List (B8)) (d:Bool) (b:Nat),o=.bool d/\i=N b/\b<=a.length/\wr.ownsRow h.heap.size 9 1 v e.length (Jk e)/\e≠[]/\e.flatten++xw d (a.drop b)=JC a/\((b=0/\d=false/\e.length=1)\/((∀r:b<a.length,(a[b]).null=d)/\e.length<=b+2))/\Below h.heap.size h wr)
  (fun _ o i _=>2*(a.length-(intOf i).toNat)+OZ o)
 case atStart =>
  exact⟨[uB a.length],false,0,rfl,rfl,aG _,⟨by simp[Jk],.inr ⟨Z.heap.size,1,_,rfl,s.size,kH Z _,aA _,by decide,rfl,rfl⟩⟩,by simp,by simp[JC],.inl ⟨rfl,rfl,rfl⟩,s.alloc s.size _⟩
 case round =>
  clear s;obtain⟨e,d,b,rfl,rfl,dT,B,Y,y,z,l⟩:=hrel;have be:=I Y;have H:=I y;clear Y;have dv:e.flatten.length<=1000:=by
   have:=bN List.length y;rw[aB]at this;omega
  clear y;have d1:e.length<=b+2:=by rcases z with⟨r,_,f⟩|⟨_,f⟩<;>omega
  have K:=I z;clear z;by_cases V:b<a.length
  ·have cs:=Vc d (a.drop b);rw[aP]at cs;have ac:=I (Ei d (a.drop b));have n:=I (ES d (a.drop b));have am:J (xw d (a.drop b)=uB (rowB d (a.drop b))++xw (!d) (a.drop (b+rowB d (a.drop b)))):=by
    show xw d (a.drop b)=_;rw[ZK d (a.drop b) (by simp;omega),cZ]
   generalize rowB d (a.drop b)=E at *;have b4:(b:Int)<(a.length:Int):=(by omega);obtain⟨o,d2,rfl,ds,M⟩:=(Hl.o.j l).at_ (aE (by omega));have G:=I M;clear M;go_wp2_with fail;go_loopw [6] (fun i wi=>∃c:Nat,c<=E/\i=N ((b+c:Nat):Int)/\wi=wr) (fun i _=>100-(intOf i).toNat)
   case atStart=>exact⟨0,aG _,rfl,rfl⟩
   case round =>
    obtain⟨c,hm,rfl,rfl⟩:=hrel;by_cases ce:c<E
    ·have cd:b+c<a.length:=(by omega);obtain⟨g1,_,_⟩:=G.o (b+c) cd;have u:(a[b+c]).null=d:=by
      obtain⟨_,f⟩:=ac.o c ce;rw[bZ]at f;exact f
     rw[u]at g1;have T:((b+c:Nat):Int)<(a.length:Int):=(by omega);generalize P:b+c=q at *;have ap:=I P;clear P u;go_wp2;go_roundw
     ·exact⟨c+1,by omega,by rw[<-dq,ap.o];go_num,trivial⟩
     ·simp[intOf];omega
    ·have ci:c=E:=(by omega);subst ci;go_upto_region 7 with fail;go_cut [30] (fun t wd=>t=.bool false/\wd=wr)
     case first =>
      by_cases bv:b+c<a.length
      ·obtain⟨g1,_,_⟩:=G.o (b+c) bv;have u:(a[b+c]).null=!d:=by
        have f:=n.o (by rw[aP];omega);rw[bZ]at f;exact f
       rw[u]at g1;have T:((b+c:Nat):Int)<(a.length:Int):=(by omega);generalize b+c=q at *;have dr:((!d)==d)=false:=(by cases d<;>rfl);go_wp2;go_meet
       ·exact⟨rfl,rfl⟩
      ·have T:decide (((b+c:Nat):Int)<(a.length:Int))=false:=(by simp;omega);generalize b+c=q at *;go_wp2;go_meet
       ·exact⟨rfl,rfl⟩
     case rest =>
      obtain⟨rfl,rfl⟩:=hcut;go_wp2_with fail;refine(Tx _ c _ (by omega) (by omega)).mono ?_;rintro p w2 ⟨rfl,m⟩;have C:=ju B m;have x:=l.trans (m.mono l.size);have D:=jO c (by omega);clear B m l;have HX:J (e.flatten++uB c++xw (!d) (a.drop (b+c))=JC a):=by
       show _=_;rw[<-H.o,am.o,aD]
      go_wp2_with(at_builtin;refine ko _ rfl (.tmp 33) (.tmp 38) 71 rfl h.heap.size 9 i0 (.string ⟨#[]⟩) 1 16 Tryz.underlying71 hi da dd dl rfl (by decide) _ _ _ rfl (C.alloc _) (A _ 0) 1 1 [S (uB c)] rfl rfl ?c1 ?c2 ?c3 ?c4 ?c5 ?_)
      case c1=>exact qr w2 #[S (uB c)] 9
      case c2=>intro u D;simp at D;subst D;rfl
      case c3=>unfold maxLen;omega
      case c4=>omega
      case c5=>have:=x.size;simp;omega
      intro v3 w3 X O _;have F:=I (XR (qs:=[uB c]) _ rfl x C X O);clear C X O x;go_wp2;go_roundw
      ·
       refine⟨e++[uB c],!d,b+c,rfl,rfl,by omega,by simpa using F.o.1,by simp,?_,.inr ⟨?_,?_⟩,F.o.2⟩
       ·rw[cT];simpa using HX.o
       ·intro r;have f:=n.o (by rw[aP];omega);rw[bZ]at f;exact f
       ·rcases K.o with⟨r,k,f⟩|⟨k,f⟩
        ·simp;omega
        ·have:0<c:=by
          rcases dH c with j|j
          ·subst j;have g:=n.o (by rw[aP];omega);rw[bZ]at g;have w:=k V;simp only[dD]at g;rw[w]at g;cases d<;>simp at g
          ·exact j
         simp;omega
      ·
       rcases dH c with j|j
       ·subst j;have co:d=false:=by
         rcases K.o with⟨r,k,f⟩|⟨k,f⟩
         ·exact k
         ·exfalso;have g:=n.o (by rw[aP];omega);rw[bZ]at g;have w:=k V;simp only[dD]at g;rw[w]at g;cases d<;>simp at g
        subst co;simp[intOf,OZ]
       ·cases d<;>simp[intOf,OZ]<;>omega
  ·have bX:b=a.length:=(by omega);subst bX;have HF:J (e.flatten=JC a):=by
    show e.flatten=JC a;have:=H.o;rw[fp]at this;simpa[xw]using this
   have b4:decide ((a.length:Int)<(a.length:Int))=false:=(by simp);go_wp2_with fail;refine(ZQ e h.heap.size e.length _ _ B be.o (by omega) (by omega)).mono ?_;rintro p w2 ⟨rfl,m⟩;go_wp2;go_ret;exact⟨qH HF.o,l.trans (m.mono l.size)⟩
end Go.Proofs.YthhpbhpfagoapaaGreat
