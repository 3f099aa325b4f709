import Derived.Test.YthhpbhpfagoapaaGreatGAQ
import Derived.Test.YthhpbhpfagoapaaGreatGAS
namespace Go.Proofs.YthhpbhpfagoapaaGreat
set_option linter.all false
set_option maxRecDepth 100000
set_option maxHeartbeats 16000000
open Go.RowKit
variable{v w:W}{k m n:Nat}
theorem Xf(c:E1 w n m)(q:w.grownBy v (some k))(o:m<w.heap.size)(r:m≠k):E1 v n m:=by
 have b:∀j,v.cell? (A m j)=w.cell? (A m j):=fun j=>q.cell_far (A m j) o (by intro c;simp at c;exact r c);obtain⟨f,h,i,a,l,g,e⟩:=c;exact⟨(b 0).trans f,(b 1).trans h,(b 2).trans i,(b 3).trans a,(b 4).trans l,(b 5).trans g,(b 6).trans e⟩
theorem FI(b:List Z9)(a:Nat)(c:a<=b.length):qm b a=Qd qY (b.take a):=by
 cases a with
 | zero=>rfl
 | succ a =>
  rw[aH (by omega),Um];unfold qm;rw[aL (by omega)];exact qy b a (by omega)
theorem FU(n:Nat)(d:Z9->Z9->B8)(b:List Z9)(e:∀c,c<b.length->xi n b c=d (qm b c) (zP b c)):∀a,a<=b.length->jN n b a=Uq d qY (b.take a):=by
 intro a
 induction a with
 | zero=>intro _;rfl
 | succ a f =>
  intro g;rw[jN,f (by omega),aH (by omega),Tg,e a (by omega),FI b a (by omega),qy b a (by omega)];simp[Uq]
theorem Kj(n:Nat)(e:n≠3)(c:Z9->Z9->B8)(a:List Z9)(d:∀b,b<a.length->xi n a b=c (qm a b) (zP a b)):qT n a=Uq c qY a:=by
 have:=FU n c a d a.length (aA _);rw[aS]at this;simp[qT,e,this]
def TI(b:Nat)(a:List Z9):Prop:=a.length=b/\∀c∈a,H9 c
theorem Ev(a:List Z9):qT 3 a=uB (qA a).length++(Uq Ud qY (qA a)++jN 3 a a.length):=by
 have b:qT 5 (qA a)=Uq Ud qY (qA a):=Kj 5 (by decide) Ud (qA a) (fun e d=>rfl);have c:jN 5 (qA a) (qA a).length=Uq Ud qY (qA a):=by rw[<-b];simp[qT]
 simp only[qT,db,Yp,c,aD]
def OX(e:Nat)(rest:B8)(d:List Z9)(c:B8)(b:List Z9)(f:B8):Prop :=
 ∀a q,TI e a->rest=qT 3 a++q->qA a=d/\c=jN 3 a a.length++q/\a.take b.length=b/\c=jN 3 a b.length++f
variable{l r s:B8}
theorem Ia{f d:List Z9}(u:OX n s f r d l)(C:d.length<n)(a:List Z9)(q:B8)(h:TI n a)(D:s=qT 3 a++q) :
  ∃(j:Nat) (k:B8),∃m:j<f.length,l=uB j++k/\a.take (d.length+1)=d++[⟨false,0,(f[j]).text⟩]/\r=jN 3 a (d.length+1)++k:=by
 obtain⟨v,g,w,x⟩:=u a q h D;have e:d.length<a.length:=by rw[h.1];exact C
 generalize G:d.length=b at *;subst v;obtain⟨c,y,z⟩:=UJ a b e;obtain⟨m,B⟩:=Zx (qA a) (a[b]).text ⟨c,y,z⟩;obtain⟨o,i⟩:=RQ 3 a (b+1) (a.length-(b+1));rw[show b+1+(a.length-(b+1))=a.length by omega]at i;have E:jN 3 a (b+1)=jN 3 a b++uB (qj (qA a) (a[b]).text):=by
  rw[jN];simp only[xi,qy a b e]
 refine⟨qj (qA a) (a[b]).text,o++q,m,?_,?_,?_⟩
 ·have t:jN 3 a b++l=jN 3 a b++(uB (qj (qA a) (a[b]).text)++(o++q)):=by
   rw[<-x,g,i,E];simp only[aD]
  exact dY t
 ·rw[aH e,w,B]
  congr 2;obtain⟨p,rest,_⟩:=h.2 a[b] (aJ e);generalize a[b]=c at *;obtain⟨cn,F,ct⟩:=c;simp only at p rest;subst p rest;rfl
 ·rw[g,i,aD]
theorem MB(g p f:Nat)(o rest:B8)(d:W)(hs:o.length<=maxLen)(x:f<=60)(fz:1<=f)(hp:qU d p o rest) :
  C' 199 #[K9 g,(Q p 0),N f] d (ZN 9 QX (TI f) (qT 3) p o rest d):=by
 obtain⟨i0,hi,fk,fl,fn⟩:=ks Tryz.ar;have Hs:=I hs;have Hp:=I hp;have d6:=zh hp;clear hs hp;go_enter Tryz.func199,Tryz.ntmps199;go_wp2_with fail;obtain⟨O,eg,m⟩:=Qr d #[R g 3 3,V4 202,V4 203,V4 204,V4 205,V4 206,V4 207] 225;have X:J (E1 _ g d.heap.size):=⟨m 0,m 1,m 2,m 3,m 4,m 5,m 6⟩;have e0:=I (xf Hp.o O d6);have u:=I O;have em:=bE (bG d.heap.size) eg.symm;have f8:=aC d6 O.size;have d7:d.heap.size≠p:=by omega
 clear m O eg;generalize d.alloc _=w0 at *;refine k9 (S:=fun s=>s.cell? (A d.heap.size 0)=some (R g 3 3)/\s.cell? (A d.heap.size 1)=some (V4 202)/\s.cell? (A d.heap.size 2)=some (V4 203)/\s.cell? (A d.heap.size 3)=some (V4 204)/\s.cell? (A d.heap.size 4)=some (V4 205)/\s.cell? (A d.heap.size 5)=some (V4 206)/\s.cell? (A d.heap.size 6)=some (V4 207)) (by kernel_rfl) X.o (fun M=>?_);refine tk 0 (K9 g) ?_;refine tk 1 (Q p 0) ?_;refine tk 2 (Q p 0) ?_;refine tk 3 (N f) ?_;simp only[jA,jB,jC,Act.put,jD,jE,jF];refine rd 4 (fun z l=>?_);simp only[jA,jB,jC];go_simp;go_at_call 242
 refine(UY p o rest f w0.drew Hs.o (by omega) (show qU w0.drew p o rest from e0.o)).mono ?_;rintro H w1 ⟨ac,⟨rfl,C⟩|⟨n,r1,hn,rfl,d8,eq⟩⟩
 ·refine⟨rfl,je (jU (qb d _) u.o) (jS ac),.inl ⟨rfl,fun b q h a=>?_⟩⟩;rw[Ev,aD]at a;exact C _ _ (by show _<=f;rw[<-h.1];exact Jw b b.length) a
 ·have Z:=I (jS ac);have cs:=I eq;have f6:n<=f:=hn;have eM:=I (Xf X.o Z.o em d7);clear ac eq
  try go_wp2_with fail
  refine l.out _ _ eM.o (fun M=>?_);clear l z
  try simp only[jA,jB,jC,Act.put,jD,jE,jF]
  refine rd 5 (fun z l=>?_);simp only[jA,jB,jC];go_simp;go_at_call 197
  refine(AW g p n o r1 w1 Hs.o (by omega) d8).mono ?_;rintro H w2 ⟨am,⟨rfl,C⟩|⟨i,V,vX,hX,rfl,D,ea,er⟩⟩
  ·refine⟨rfl,je (jU (qb d _) u.o) (je Z.o am),.inl ⟨rfl,fun b q h a=>?_⟩⟩;rw[Ev,aD,aD]at a;obtain⟨k,r⟩:=cs.o _ _ (by show _<=f;rw[<-h.1];exact Jw b b.length) a;exact C (qA b) _ ⟨k,fun c x=>h.2 c (XG b b.length (aA _) c x)⟩ r.symm
  ·have y:=I (je Z.o am);have cd:=I (Xf X.o y.o em d7);have e6:=I er;have HX:=I hX;have dd:i.length=n:=hX.1;have co:=I ea;have f7:=zh d8;have b4:J (OX f rest i V [] V):=by
    intro b q h a;rw[Ev,aD,aD]at a;obtain⟨k,r⟩:=cs.o _ _ (by show _<=f;rw[<-h.1];exact Jw b b.length) a;obtain⟨K,e4⟩:=e6.o (qA b) _ ⟨k,fun c x=>h.2 c (XG b b.length (aA _) c x)⟩ r.symm;exact⟨K,e4.symm,rfl,rfl⟩
   clear am er hX ea;(try go_wp2_with fail);refine l.out _ _ cd.o (fun M=>?_);clear l z;(try simp only[jA,jB,jC,Act.put,jD,jE,jF]);refine rd 6 (fun z l=>?_);simp only[jA,jB,jC];go_simp;(try go_wp2_with fail);refine l.out _ _ cd.o (fun M=>?_);clear l z;(try simp only[jA,jB,jC,Act.put,jD,jE,jF]);refine kp (by kernel_rfl) ?_ _;clear M;by_cases w:i=[]
   ·have dl:i.length=0:=(by rw[w];rfl);have eC:=I w;rw[dl]at D;have f5:=My D w2;clear w dl dd;go_wp2_with fail;refine(xu _).mono ?_;rintro H w3 ⟨rfl,rfl⟩;go_wp2;refine⟨rfl,je (jU (qb d _) u.o) y.o,.inl ⟨rfl,fun b q h a=>?_⟩⟩;obtain⟨k,_⟩:=b4.o b q h a;obtain⟨c,ds,_⟩:=UJ b 0 (by rw[h.1];omega);rw[k,eC.o]at ds;cases ds
   ·have ft:=dO.2 w;have fs:(0:Int)<(i.length:Int):=(by omega);have fr:i.length<=60:=(by omega);have dr:∀G da,vX=R G i.length da->w1.heap.size<=G:=by
     intro G da hv;exact(D.lt G (by rw[hv];rfl)).1
    obtain⟨bX,fa,rfl,ap⟩:=Rs D w;have fw:=dr bX fa rfl;have eP:=I ap;have fb:=ap.lt;have fc:bX≠p:=(by omega);have d5:=zh co.o;have f9:IntKind.i64.wrap ((i.length:Int)-1)=((i.length-1:Nat):Int):=(by rw[kE];omega);clear D dr ap w dd;go_wp2_with fail;refine(qx _).mono ?_;rintro H w3 ⟨rfl,rfl⟩;go_wp2_with fail;obtain⟨B,rfl⟩:∃B,B=w3:=⟨_,rfl⟩;go_loopw [8,20] (fun v bi wr=>∃(e:List Z9) (E:B8),e.length<=f/\bi=N e.length/\(∀c∈e,H9 c)/\wr.ownsRow B.heap.size 9 1 v e.length (QX e)/\qU wr p o E/\B.grownBy wr (some p)/\OX f rest i V e E)
     (fun _ bi _=>f-(intOf bi).toNat)
    case atStart=>exact⟨[],V,aG _,rfl,(fun c a=>Qt a),kg _ _ _ _,co.o,qb _ _,b4.o⟩
    case round =>
     obtain⟨e,E,fv,rfl,d3,T,U,hg,d0⟩:=hrel;have ci:=I d3;have F:=I d0;have Y:=I hg;clear d3 d0;by_cases d1:e.length<f
     ·have fe:(e.length:Int)<(f:Int):=(by omega);go_wp2_with fail;refine(Gp p o E _ (i.length-1) _ (by omega) Hs.o (by omega) U).mono ?_;rintro H w4 ⟨P,⟨rfl,C⟩|⟨j,r4,hj,rfl,ec,es⟩⟩
      ·go_wp2;refine⟨rfl,je (jU (qb d _) u.o) (je y.o (je Y.o P)),.inl ⟨rfl,fun b q h a=>?_⟩⟩;obtain⟨jj,bv,ff,k1,_⟩:=Ia F.o d1 b q h a;exact C jj bv (by show _<=_;omega) k1
      ·have f3:j<=i.length-1:=hj;have dT:j<i.length:=(by omega);have f4:(j:Int)<(i.length:Int):=(by omega);have e7:=I es;have be:=xI T d5 P;have L:=je Y.o P;have fd:=(L.cell_far (A bX j) fb (by intro a;simp at a;exact fc a)).trans (eP.o.cell j dT);have d2:=HX.o.2 i[j] (aJ dT);have eR:=I d2;clear T U es P hg d2;generalize hx:(i[j]).text=t at *;have Hx:=I hx;clear hx;go_wp2_with(at_builtin;refine ko _ rfl (.tmp 22) (.tmp 31) 71 rfl B.heap.size 9 i0 (.string ⟨#[]⟩) 1 16 Tryz.underlying71 hi fk fl fn rfl (by decide) _ _ _ rfl (be.alloc _) (A _ 0) 1 1 [S t] rfl rfl ?c1 ?c2 ?c3 ?c4 ?c5 ?_)
       case c1=>exact qr w4 #[S t] 9
       case c2=>intro ga hu;simp at hu;subst hu;rfl
       case c3=>unfold maxLen;omega
       case c4=>omega
       case c5=>have:=L.size;simp;omega
       intro v5 w5 d4 dv _;have HR:=I (Kr ec d5 L be dv);have ev:=I d4;clear be d4 dv L ec fd;go_wp2;go_roundw
       ·
        refine⟨e++[⟨false,0,t⟩],r4,by simp;omega,by simp,?_,?_,HR.o.1,HR.o.2,?_⟩
        ·intro c x;rcases aX.1 x with a|a
         ·exact ci.o c a
         ·simp only[bD,bH,dm]at a;subst a;exact⟨rfl,rfl,by rw[<-Hx.o];exact eR.o.2.2⟩
        ·rw[show(e++[(⟨false,0,t⟩:Z9)]).length=e.length+1 by simp,show QX (e++[⟨false,0,t⟩])=QX e++[S t] by simp[QX,Jk,KF]];exact ev.o
        ·intro b q h a;obtain⟨jj,bv,ff,k1,k2,k3⟩:=Ia F.o d1 b q h a;obtain⟨k,r⟩:=e7.o jj bv (by show _<=_;omega) k1;subst k r;obtain⟨f1,f2,_⟩:=F.o b q h a;rw[show(e++[(⟨false,0,t⟩:Z9)]).length=e.length+1 by simp];exact⟨f1,f2,by rw[k2,Hx.o],k3⟩
       ·simp[intOf];omega
     ·have dW:e.length=f:=(by omega);have ce:=I dW;have eS:=I T;have e5:=I U;have fe:decide ((e.length:Int)<(f:Int))=false:=(by simp;omega);clear hg T U dW;go_wp2;go_ret;refine⟨je (jU (qb d _) u.o) (je y.o Y.o),.inr ⟨e,E,_,⟨ce.o,ci.o⟩,rfl,jQ eS.o (aI u.o.size y.o.size),e5.o,fun b q h a=>?_⟩⟩;obtain⟨k,r,K,e4⟩:=F.o b q h a;rw[ce.o,<-h.1,aS]at K;subst K;refine⟨rfl,?_⟩;exact dY (r.symm.trans e4)
theorem PK(a:List Z9)(b:Nat)(d:b<a.length)(c:Int):JF (a.take (b+1)) c=if(a[b]).int<JF (a.take b) c then(a[b]).int else JF (a.take b) c:=by
 unfold JF;rw[aH d,eE];rfl
theorem FR(a:List Z9)(b:Nat)(d:b<a.length)(c:Int):Xx (a.take (b+1)) c=if Xx (a.take b) c<(a[b]).int then(a[b]).int else Xx (a.take b) c:=by
 unfold Xx;rw[aH d,eE];rfl
variable{D:List Z9}
theorem Yj(b:0<D.length):xe D=(D[0]).int:=by
 cases D with
 | nil=>simp at b
 | cons c D=>rfl
theorem BS(b:0<D.length):JF (D.take 1) (xe D)=xe D:=by
 cases D with
 | nil=>simp at b
 | cons c D=>simp[JF,xe]
theorem Oq(b:0<D.length):Xx (D.take 1) (xe D)=xe D:=by
 cases D with
 | nil=>simp at b
 | cons c D=>simp[Xx,xe]
theorem jaa(n r:Nat)(a:List Z9)(j:W)(e:0<a.length)(E:a.length<=60)(g:∀c∈a,qI c)(u:T7 j n a) :
  C' 261 #[R n a.length r] j fun s w=>s=.returned (N (JF a (xe a)))/\w=j:=by
 obtain⟨z,d⟩:=u;have y:¬(a.length:Int)<1:=by omega
 have x:(0:Int)<(a.length:Int):=by omega
 have c0:=d 0 e;have k:=I (Yj e);have p:=I (BS e);have q:=I (fun b=>Ug (a.take b) (fun c d=>g c (bP d)) (xe a) (QY a g));rw[<-k.o]at c0;go_enter Tryz.func261,Tryz.ntmps261;go_wp2;go_loop [3,4] (fun v i=>∃b:Nat,1<=b/\b<=a.length/\i=N b/\v=N (JF (a.take b) (xe a))) (fun _ i=>a.length-(intOf i).toNat)
 case atStart=>exact⟨1,by omega,by omega,rfl,by rw[p.o,k.o]⟩
 case round =>
  obtain⟨b,B,D,rfl,rfl⟩:=hrel;by_cases f:b<a.length
  ·have C:(b:Int)<(a.length:Int):=(by omega);have ck:=d b f;have l:=I (PK a b f (xe a));obtain⟨G,H⟩:=q.o b;obtain⟨K,L,_⟩:=g a[b] (aJ f);clear d c0;generalize JF (a.take b) (xe a)=m at *;generalize (a[b]).int=o at *;by_cases h:o<m
   ·go_wp2;go_round
    ·exact⟨b+1,by omega,by omega,by go_num,by rw[l.o,aQ h]⟩
    ·simp[intOf];omega
   ·have F:¬o<m:=h;go_wp2;go_round
    ·exact⟨b+1,by omega,by omega,by go_num,by rw[l.o,aL h]⟩
    ·simp[intOf];omega
  ·have t:b=a.length:=(by omega);subst t;rw[aS];go_wp2;go_ret;exact⟨rfl,rfl⟩
theorem OT(n r:Nat)(a:List Z9)(j:W)(e:0<a.length)(E:a.length<=60)(g:∀c∈a,qI c)(u:T7 j n a) :
  C' 262 #[R n a.length r] j fun s w=>s=.returned (N (Xx a (xe a)))/\w=j:=by
 obtain⟨z,d⟩:=u;have y:¬(a.length:Int)<1:=by omega
 have x:(0:Int)<(a.length:Int):=by omega
 have c0:=d 0 e;have k:=I (Yj e);have p:=I (Oq e);have q:=I (fun b=>Vd (a.take b) (fun c d=>g c (bP d)) (xe a) (QY a g));rw[<-k.o]at c0;go_enter Tryz.func262,Tryz.ntmps262;go_wp2;go_loop [3,4] (fun v i=>∃b:Nat,1<=b/\b<=a.length/\i=N b/\v=N (Xx (a.take b) (xe a))) (fun _ i=>a.length-(intOf i).toNat)
 case atStart=>exact⟨1,by omega,by omega,rfl,by rw[p.o,k.o]⟩
 case round =>
  obtain⟨b,B,D,rfl,rfl⟩:=hrel;by_cases f:b<a.length
  ·have C:(b:Int)<(a.length:Int):=(by omega);have ck:=d b f;have l:=I (FR a b f (xe a));obtain⟨G,H⟩:=q.o b;obtain⟨K,L,_⟩:=g a[b] (aJ f);clear d c0;generalize Xx (a.take b) (xe a)=m at *;generalize (a[b]).int=o at *;by_cases h:m<o
   ·go_wp2;go_round
    ·exact⟨b+1,by omega,by omega,by go_num,by rw[l.o,aQ h]⟩
    ·simp[intOf];omega
   ·have F:¬m<o:=h;go_wp2;go_round
    ·exact⟨b+1,by omega,by omega,by go_num,by rw[l.o,aL h]⟩
    ·simp[intOf];omega
  ·have t:b=a.length:=(by omega);subst t;rw[aS];go_wp2;go_ret;exact⟨rfl,rfl⟩
theorem YG(kind:Int)(b:List Z9)(a:kind≠0\/jk b=[]):JD kind b=uB (b.length-(jk b).length)++[0]:=by
 unfold JD;rw[aL (by rintro⟨c,d⟩;rcases a with a|a;exact a c;exact d a)]
theorem Fp(a:List Z9)(b:jk a≠[]):JD 0 a=uB (a.length-(jk a).length)++([1]++zB (JF (jk a) (xe (jk a)))++zB (Xx (jk a) (xe (jk a)))):=by
 unfold JD;rw[aQ ⟨rfl,b⟩]
def ZR(b:List Z9)(a:Nat):Nat:=a-(jk (b.take a)).length
theorem EI(b:List Z9)(a:Nat)(c:a<b.length):ZR b (a+1)=ZR b a+(if(b[a]).null=true then 1 else 0):=by
 unfold ZR;have d:=Uc (b.take a);rw[aM]at d;rw[Xp b a c,aB];split<;>simp<;>omega
theorem CK(b:List Z9)(a:Nat):ZR b a<=a:=Nat.sub_le _ _
theorem Ro(a:List Z9):ZR a a.length=a.length-(jk a).length:=by unfold ZR;rw[aS]
theorem Sm(kind:Int)(l:O')(t:Nat)(a:List Z9)(c:W)(i:kind≠0)(O:a.length<=60)(p:T3 c l a) :
  C' 234 #[N kind,.slice l a.length t] c fun g C=>g=.returned (S (JD kind a))/\Below c.heap.size c C:=by
 have s:=I p;have K:(kind==0)=false:=by simp[i]
 have k:=I (YG kind a (.inl i));rw[<-Ro]at k;clear p i;go_enter Tryz.func234,Tryz.ntmps234;go_wp2;go_loopw [5,6,13] (fun v B j wr=>∃b:Nat,b<=a.length/\j=N b/\B=N ((ZR a b:Nat):Int)/\v=.slice none 0 0/\Below c.heap.size c wr) (fun _ _ j _=>a.length-(intOf j).toNat)
 case atStart=>exact⟨0,aG _,rfl,rfl,rfl,k8 _ _⟩
 case round =>
  obtain⟨b,M,rfl,rfl,rfl,d⟩:=hrel;have T:=CK a b;by_cases r:b<a.length
  ·obtain⟨E,V,rfl,H,o⟩:=(s.o.j d).at_ (aE (by omega));obtain⟨g1,F,G⟩:=o b r;clear o;have f:=I (EI a b r);have L:(b:Int)<(a.length:Int):=(by omega);have e:=I (d.alloc d.size (Obj.cells #[.bool (a[b]).null,N (a[b]).int,S (a[b]).text] 58));cases h:(a[b]).null with
   | true =>
    rw[h]at g1 e f;clear h;generalize ZR a b=q at *;go_wp2;go_roundw
    ·exact⟨b+1,by omega,by go_num,by rw[f.o];go_num,rfl,e.o⟩
    ·simp[intOf];omega
   | false =>
    rw[h]at g1 e f;clear h;generalize ZR a b=q at *;go_wp2;go_roundw
    ·exact⟨b+1,by omega,by go_num,by rw[f.o];rfl,rfl,e.o⟩
    ·simp[intOf];omega
  ·have z:b=a.length:=(by omega);subst z;have P:=jO (ZR a a.length) (by omega);generalize ZR a a.length=q at *;go_wp2_with fail;refine(JJ q _ (by omega)).mono ?_;rintro g X ⟨rfl,w⟩;go_wp2_with fail;refine(Qb 0 _ (by decide) (by decide)).mono ?_;rintro g D ⟨rfl,x⟩;generalize uB q=U at *;go_wp2_with fail;refine(XZ [U,[T4 0]] _ 2 D rfl rfl (by decide) (by simp;omega)).mono ?_;rintro g Y ⟨rfl,y⟩;have m:=d.trans (w.mono d.size);have n:=m.trans (x.mono m.size);have u:=n.trans (y.mono n.size);go_wp2;go_ret;exact⟨qH (by rw[k.o];simp[T4]),u⟩
theorem SY(E:O')(ci:Nat)(a:List Z9)(g:W)(hn:a.length<=60)(T:∀c∈a,qI c)(O:T3 g E a) :
  C' 234 #[N 0,.slice E a.length ci] g fun e w'=>e=.returned (S (JD 0 a))/\Below g.heap.size g w':=by
 obtain⟨i0,hi,dr,ac,am⟩:=ks Tryz.ay;have Hl:=I O;have Hs:=I T;clear O T;go_enter Tryz.func234,Tryz.ntmps234;go_wp2;go_loopw [5,6,13] (fun v dT D wr=>∃b:Nat,b<=a.length/\D=N b/\dT=N ((ZR a b:Nat):Int)/\wr.ownsRow g.heap.size 3 1 v (jk (a.take b)).length (Zs (jk (a.take b)))/\Below g.heap.size g wr) (fun _ _ D _=>a.length-(intOf D).toNat)
 case atStart=>exact⟨0,aG _,rfl,rfl,kg _ _ _ _,k8 _ _⟩
 case round =>
  obtain⟨b,d5,rfl,rfl,h,f⟩:=hrel;have d7:=CK a b;have Y:=Uc (a.take b);rw[aM]at Y;by_cases B:b<a.length
  ·obtain⟨d2,ea,rfl,d3,H⟩:=(Hl.o.j f).at_ (aE (by omega));obtain⟨g1,g2,g3⟩:=H b B;clear H;have o:=I (EI a b B);have p:=I (Xp a b B);have d4:(b:Int)<(a.length:Int):=(by omega);have d:=f.alloc f.size (Obj.cells #[.bool (a[b]).null,N (a[b]).int,S (a[b]).text] 58);have i:=h.alloc (Obj.cells #[.bool (a[b]).null,N (a[b]).int,S (a[b]).text] 58);clear h f;cases s:(a[b]).null with
   | true =>
    rw[s]at g1 d o p i;have ap:=I d;have bi:=I i;clear s d i;generalize ZR a b=q at *;go_wp2;go_roundw
    ·exact⟨b+1,by omega,by go_num,by rw[o.o];go_num,by rw[p.o];simpa using bi.o,ap.o⟩
    ·simp[intOf];omega
   | false =>
    rw[s]at g1 d o p i;clear s;generalize ZR a b=q at *;generalize jk (a.take b)=d1 at *;go_wp2_with(at_builtin;refine ko _ rfl (.tmp 23) (.tmp 26) 82 rfl g.heap.size 3 i0 (N 0) 1 8 Tryz.underlying82 hi dr ac am rfl (by decide) _ _ _ rfl (i.alloc _) (A _ 0) 1 1 [N (a[b]).int] rfl rfl ?c1 ?c2 ?c3 ?c4 ?c5 ?_)
    case c1 =>
     have K:=qr (wr.alloc (Obj.cells #[.bool false,N (a[b]).int,S (a[b]).text] 58)) #[N (a[b]).int] 3;have e:(wr.alloc (Obj.cells #[.bool false,N (a[b]).int,S (a[b]).text] 58)).heap.size=wr.heap.size+1:=(by simp);rw[e]at K;exact K
    case c2=>intro ec V;simp at V;subst V;rfl
    case c3=>unfold maxLen;omega
    case c4=>omega
    case c5=>have:=d.size;simp at *;omega
    intro v3 w3 P L _;have bX:=I P;have be:=I ((d.alloc d.size _).grown L (by have:=d.size;simp at *;omega) (fun b hk=>(i.lt b hk).1));clear i P L d;go_wp2;go_roundw
    ·exact⟨b+1,by omega,by go_num,by rw[o.o];rfl,by rw[p.o];simpa[Zs]using bX.o,be.o⟩
    ·simp[intOf];omega
  ·have dd:b=a.length:=(by omega);subst dd;have d6:=jO (ZR a a.length) (by omega);rw[aS]at h Y;have n:=Ig h;by_cases j:jk a=[]
   ·have l:=I (YG 0 a (.inr j));rw[<-Ro]at l;have X:(jk a).length=0:=(by rw[j];rfl);rw[X]at n;have dl:=n wr;clear n j X h;generalize ZR a a.length=q at *;go_wp2_with fail;refine(JJ q _ (by omega)).mono ?_;rintro e w1 ⟨rfl,u⟩;go_wp2_with fail;refine(Qb 0 _ (by decide) (by decide)).mono ?_;rintro e w2 ⟨rfl,w⟩;generalize uB q=U at *;go_wp2_with fail;refine(XZ [U,[T4 0]] _ 2 w2 rfl rfl (by decide) (by simp;omega)).mono ?_;rintro e w3 ⟨rfl,x⟩;have d:=f.trans (u.mono f.size);have m:=d.trans (w.mono d.size);have r:=m.trans (x.mono m.size);go_wp2;go_ret;exact⟨qH (by rw[l.o];simp[T4]),r⟩
   ·have l:=I (Fp a j);rw[<-Ro]at l;have dl:=n wr;have Z:=dO.2 j;have d8:(((jk a).length:Int)==0)=false:=(by simp;omega);obtain⟨F,cv,rfl,t⟩:=Tq h j;have ce:=I t;have k:J (∀c∈jk a,qI c):=fun c hc=>Hs.o c (dn.1 hc).1;have y:=QY _ k.o;have z:=Ug _ k.o _ y;have C:=Vd _ k.o _ y;have ac:=Uu _ z.1 z.2;have am:=Uu _ C.1 C.2;have cd:=I (jaa F cv (jk a) wr Z (by omega) k.o t);have b4:=I (OT F cv (jk a) wr Z (by omega) k.o t);clear n j h t k ce y;generalize ZR a a.length=q at *;generalize JF (jk a) (xe (jk a))=lo at *;generalize Xx (jk a) (xe (jk a))=M at *;generalize (jk a).length=vl at *;obtain⟨ds,dv⟩:=z;obtain⟨dW,d0⟩:=C;go_wp2_with fail;refine cd.o.mono ?_;rintro e w0 ⟨rfl,rfl⟩;go_wp2_with fail;refine b4.o.mono ?_;rintro e eg ⟨rfl,rfl⟩;go_wp2_with fail;refine(JJ q _ (by omega)).mono ?_;rintro e w1 ⟨rfl,u⟩;go_wp2_with fail;refine(Qb 1 _ (by decide) (by decide)).mono ?_;rintro e w2 ⟨rfl,w⟩;go_wp2_with fail;refine(GO lo _ ds dv).mono ?_;rintro e w3 ⟨rfl,x⟩;go_wp2_with fail;refine(GO M _ dW d0).mono ?_;rintro e w4 ⟨rfl,cs⟩;generalize uB q=U at *;generalize zB lo=Z1 at *;generalize zB M=Z2 at *;go_wp2_with fail;refine(XZ [U,[T4 1],Z1,Z2] _ 4 w4 rfl rfl (by decide) (by simp;omega)).mono ?_;rintro e w5 ⟨rfl,da⟩;have d:=f.trans (u.mono f.size);have m:=d.trans (w.mono d.size);have r:=m.trans (x.mono m.size);have G:=r.trans (cs.mono r.size);have co:=G.trans (da.mono G.size);go_wp2;go_ret;exact⟨qH (by rw[l.o];simp[T4]),co⟩
theorem AJ(kind:Int)(d:O')(e:Nat)(a:List Z9)(b:W)(h:a.length<=60)(j:∀c∈a,qI c)(g:T3 b d a) :
  C' 234 #[N kind,.slice d a.length e] b fun i k=>i=.returned (S (JD kind a))/\Below b.heap.size b k:=by
 by_cases f:kind=0
 ·subst f;exact SY d e a b h j g
 ·exact Sm kind d e a b f h g
def jX(key:Int)(a:W6):NB:=(a.I,if key=0 then a.plain else a.body)
theorem Us(p g c e:Nat)(key:Int)(sort D rest:B8)(b:W)(hs:D.length<=maxLen)(hp:qU b p D rest) :
  C' 274 #[(Q p 0),N key,D3 sort g c e] b (GL (zJ key) (qR key) (fun a=>C5 sort g c e (jX key a)) p D rest b):=by
 have Hs:=I hs;have Hp:=I hp;have d0:=zh hp;clear hs hp;obtain⟨F,eM,X,Z⟩:=QB b #[S sort,N g,N c,N e] 111 #[S [],N 0,N 0,N 0,S [],S []] 113;by_cases k:key=0
 ·subst k;have G:J (∀(a:W6) (q:B8),zJ 0 a->rest=qR 0 a++q->a.plain.length<=65535/\rest=qh (a.plain.length:Int)++(a.plain++q)):=by
   intro a q l f;rcases l with⟨_,h1,K,s⟩|⟨h0,_⟩
   ·refine⟨s,?_⟩;rw[f];simp[qR]
   ·exact absurd rfl h0
  go_enter Tryz.func274,Tryz.ntmps274;go_wp2_with fail;generalize (b.alloc _).alloc _=H at *;have ap:=I (xf Hp.o F d0);have t:b.grownBy H (some p):=jU (qb b _) F;have dd:b.heap.size≠p:=by omega
  have Y:b.heap.size+1≠p:=by omega
  have d1:=I (VK X);have d7:=I X;have am:=I Z;clear F X Z;refine k9 (S:=fun w'=>w'.cell? (A b.heap.size 0)=some (S sort)/\w'.cell? (A b.heap.size 1)=some (N g)/\w'.cell? (A b.heap.size 2)=some (N c)/\w'.cell? (A b.heap.size 3)=some (N e)) (by kernel_rfl) ?_ (fun V=>?_)
  ·exact d1.o
  refine tk 0 (D3 sort g c e) ?_;refine tk 1 (Q p 0) ?_;refine tk 2 (Q p 0) ?_;simp only[jA,jB,jC,Act.put,jD,jE,jF];refine rd 3 (fun r m=>?_);simp only[jA,jB,jC];go_simp;go_at_call 223
  refine(Ni p D rest _ Hs.o (show qU H.drew p D rest from ap.o)).mono ?_;rintro co w3 ⟨O,⟨o,rfl⟩|⟨i,j,h,o,rfl,dT⟩⟩
  ·refine⟨rfl,je t (jS O),.inl ⟨rfl,fun a q l f=>?_⟩⟩;have:=(G.o a q l f).2;rw[this]at o;simp only[aB,jx]at o;omega
  have bi:=jm (jS O) d7.o dd;have dr:=jm (jS O) am.o Y;have cd:=I (je t (jS O));have em:=I dT;have d2:=I (VK bi);have ec:=I dr;have d8:=I bi;have cs:i.toNat+256*j.toNat<=65535:=by have:=i.toNat_lt;have:=j.toNat_lt;omega
  have HX:J (∀(a:W6) (q:B8),zJ 0 a->rest=qR 0 a++q->a.plain.length=i.toNat+256*j.toNat/\h=a.plain++q):=by
   intro a q l f;obtain⟨h1,K⟩:=G.o a q l f;rw[o]at K;have h':[i,j]++h=qh (a.plain.length:Int)++(a.plain++q):=K;obtain⟨s,L⟩:=bO h' (by rw[jx];rfl);rw[<-KB i j]at s;exact⟨(QH cs h1 s).symm,L⟩
  have HY:J (i.toNat+256*j.toNat<=h.length->zJ 0 ⟨h.take (i.toNat+256*j.toNat),[],[]⟩/\rest=qR 0 ⟨h.take (i.toNat+256*j.toNat),[],[]⟩++h.drop (i.toNat+256*j.toNat)):=by
   intro hl;have da:(h.take (i.toNat+256*j.toNat)).length=i.toNat+256*j.toNat:=(by rw[aM];omega);refine⟨.inl ⟨rfl,rfl,rfl,by simp only[da];exact cs⟩,?_⟩;simp only[qR,db];rw[da,KB,aD,aY,o];rfl
  clear O dT bi dr o;generalize i.toNat+256*j.toNat=n at *
  try go_wp2_with fail
  refine m.out _ _ d2.o (fun V=>?_);clear m r
  try simp only[jA,jB,jC,Act.put,jD,jE,jF]
  refine rd 4 (fun r m=>?_);simp only[jA,jB,jC];go_simp;go_at_call 224
  refine(QJ p D h n w3 Hs.o (by omega) em.o).mono ?_;rintro co w4 ⟨P,⟨eC,rfl⟩|⟨ev,rfl,dW⟩⟩
  ·refine⟨rfl,je cd.o P,.inl ⟨rfl,fun a q l f=>?_⟩⟩;obtain⟨s,L⟩:=HX.o a q l f;rw[L,aB]at eC;omega
  have bv:=jm P d8.o dd;have ds:=jm P ec.o Y;have d5:=I (je cd.o P);have eq:=I dW;have b4:=I (VK bv);have ci:=I ds;have ea:=I bv;have E:=I (HY.o ev);clear P dW bv ds HX HY;generalize h.take n=U at *;generalize h.drop n=er at *
  try go_wp2_with fail
  refine m.out _ _ b4.o (fun V=>?_);clear m r
  try simp only[jA,jB,jC,Act.put,jD,jE,jF]
  refine rd 5 (fun r m=>?_);simp only[jA,jB,jC];go_simp
  try go_wp2_with fail
  refine m.out _ _ b4.o (fun V=>?_);clear m r
  try simp only[jA,jB,jC,Act.put,jD,jE,jF]
  obtain⟨⟨w,x,y,z,B,C⟩,z0,z1,z2,z3,z4,z5⟩:=KS ci.o;refine rd 6 (fun r m=>?_);simp only[jA,jB,jC]
  try go_simp
  show r _ (w4.setCells (b.heap.size+1) 0 [S sort,N g,N c,N e,S [],S U]);have bX:=Xk [S sort,N g,N c,N e,S [],S U] (by rfl) ci.o;have u:=zu (b.heap.size+1) [S sort,N g,N c,N e,S [],S U] w4 0;clear w x y z B C z0 z1 z2 z3 z4 z5;generalize w4.setCells _ _ _=W5 at *;have d3:=I (VK (jm u ea.o (by omega)));have ac:=I (Jt d5.o u (by rintro e k;cases k;omega));have be:=I (JL eq.o u (by omega));clear u;refine m.out _ _ d3.o (fun V=>?_);clear m r;refine kp (by kernel_rfl) ?_ _;obtain⟨⟨w,x,y,z,B,C⟩,_⟩:=KS bX;go_wp2;exact kk (v:=C5 sort g c e (jX 0 ⟨U,[],[]⟩)) (by simp[results,Tryz.results274,go_sem,w,x,y,z,B,C,jX]) rfl ⟨ac.o,.inr ⟨⟨U,[],[]⟩,er,E.o.1,rfl,be.o,E.o.2⟩⟩
 ·have es:(key==0)=false:=by simpa using k
  go_enter Tryz.func274,Tryz.ntmps274;go_wp2_with fail;generalize (b.alloc _).alloc _=H at *;have ap:=I (xf Hp.o F d0);have t:b.grownBy H (some p):=jU (qb b _) F;have Y:b.heap.size+1≠p:=by omega
  have G:J (∀(a:W6) (q:B8),zJ key a->rest=qR key a++q->Xc (a.I,a.body)/\rest=zn (a.I,a.body)++q):=by
   intro a q l f;rcases l with⟨h0,_⟩|⟨_,h1,K,s,L⟩
   ·exact absurd h0 k
   ·refine⟨⟨K,s,L⟩,?_⟩;rw[f,qR,aL k];rfl
  have d6:J (∀(d:NB) (q:B8),Xc d->rest=zn d++q->zJ key ⟨[],d.1,d.2⟩/\rest=qR key ⟨[],d.1,d.2⟩++q/\jX key ⟨[],d.1,d.2⟩=d):=by
   intro d q T f;refine⟨.inr ⟨k,rfl,T.1,T.2.1,T.2.2⟩,?_,?_⟩
   ·rw[f,qR,aL k];rfl
   ·simp only[jX,aL k]
  have am:=I Z;clear X Z F k es;refine(VX p g c e sort D rest H Hs.o ap.o).mono ?_;rintro co w1 ⟨M,⟨rfl,dl⟩|⟨d,h,T,rfl,dv,o⟩⟩
  ·have HN:J (∀(a:W6) (q:B8),zJ key a->rest≠qR key a++q):=fun a q l f=>dl (a.I,a.body) q (G.o a q l f).1 (G.o a q l f).2;have HG:=I (je t M);clear dl M t;go_wp2;exact⟨rfl,HG.o,.inl ⟨rfl,HN.o⟩⟩
  have E:=I (d6.o d h T o);have ce:=I (jm M am.o Y);have d4:=I (je t M);have eg:=I dv;clear M t dv o;obtain⟨⟨w,x,y,z,B,C⟩,z0,z1,z2,z3,z4,z5⟩:=KS ce.o;have bX:=I (Xk [S sort,N g,N c,N e,S d.1,S d.2] (by rfl) ce.o);have u:=I (zu (b.heap.size+1) [S sort,N g,N c,N e,S d.1,S d.2] w1 0);go_wp2;show bodyPost _ _ _ _ _ (w1.setCells (b.heap.size+1) 0 [S sort,N g,N c,N e,S d.1,S d.2]);clear w x y z B C z0 z1 z2 z3 z4 z5;generalize w1.setCells _ _ _=W5 at *;have ac:=I (Jt d4.o u.o (by rintro e k;cases k;omega));have be:=I (JL eg.o u.o (by omega));obtain⟨⟨w,x,y,z,B,C⟩,_⟩:=KS bX.o;exact kk (v:=C5 sort g c e d) (by simp[results,Tryz.results274,go_sem,w,x,y,z,B,C]) rfl ⟨ac.o,.inr ⟨⟨[],d.1,d.2⟩,h,E.o.1,by simp only[E.o.2.2],be.o,E.o.2.1⟩⟩
end Go.Proofs.YthhpbhpfagoapaaGreat
