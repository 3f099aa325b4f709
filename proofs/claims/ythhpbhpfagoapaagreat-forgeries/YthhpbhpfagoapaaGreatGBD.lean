import Derived.Test.YthhpbhpfagoapaaGreatGBC
import Derived.Test.YthhpbhpfagoapaaGreatGAY
namespace Go.Proofs.YthhpbhpfagoapaaGreat
set_option linter.all false
set_option maxRecDepth 100000
set_option maxHeartbeats 16000000
open Go.RowKit
def SO(a:Option B8)(c:W)(b:Ending)(d:W):Prop:=Below c.heap.size c d/\((a=none/\b=T8)\/∃p,a=some p/\b=.returned (S p))
def Xh(e pre:B8)(key:Int)(d:UInt8)(g c b:Nat)(a:W6):Option (B8):=if key=0 then some a.plain else qE e a.I (jz pre d g c b) a.body
def Ek(d:UInt8)(g c b:Nat)(key:Int)(a:W6)(h pre:B8)(f:W)(hm:zJ key a)(x:g<=65535)(w:c<=65535)(y:b<=65535)(s:pre.length<=20)(z:h.length<=1000):C' 233 #[.agg #[S [d],N g,N c,N b,S (jX key a).1,S (jX key a).2],S h,S pre] f (SO (Xh h pre key d g c b a) f):=by
 have E:J (∀e:W,C' 171 #[.agg #[S [d],N g,N c,N b],S pre,.slice none 0 0] e fun k t=>k=.returned (S (jz pre d g c b))/\Below e.heap.size e t):=by
  intro e;have:=Kp d g c b pre (.slice none 0 0) [] e x w y s (by decide) (UV e);rw[aT]at this;exact this
 have L:=zL pre d g c b s;rcases hm with⟨rfl,q,n,u⟩|⟨M,q,n,u,h4⟩
 ·have o:J (Xh h pre 0 d g c b a=some a.plain):=by show _=_;unfold Xh;rw[aQ rfl]
  have l:(jX 0 a).1=[]:=q;have m:(jX 0 a).2=a.plain:=rfl;rw[l,m];clear l m L q n u E x w y s z;generalize a.plain=p at *;obtain⟨r,be,bX,j⟩:=jJ f #[S [d],N g,N c,N b,S [],S p] 113;obtain⟨⟨O,P,T,U,V,X⟩,_⟩:=KS j;go_enter Tryz.func233,Tryz.ntmps233;go_wp2;go_ret;exact⟨r,.inr ⟨p,o.o,rfl⟩⟩
 ·have o:J (Xh h pre key d g c b a=qE h a.I (jz pre d g c b) a.body):=by show _=_;unfold Xh;rw[aL M]
  have l:(jX key a).1=a.I:=rfl;have m:(jX key a).2=a.body:=by unfold jX;rw[aL M]
  rw[l,m];have F:=I (fun e=>EF h a.I (jz pre d g c b) a.body e z (by omega) (by omega) (by unfold maxLen;omega));have bi:a.I.isEmpty=false:=by
   cases ap:a.I with
   | nil=>rw[ap]at n;simp at n
   | cons=>rfl
  clear l m q n u h4 x w y s z L;generalize qE h a.I (jz pre d g c b) a.body=am at *;generalize jz pre d g c b=bv at *;generalize a.I=H at *;generalize a.body=B at *;rcases am with _|p
  all_goals
   simp only[RU]at F;obtain⟨r,be,_,j⟩:=jJ f #[S [d],N g,N c,N b,S H,S B] 113;obtain⟨⟨O,P,T,U,V,X⟩,_⟩:=KS j;go_enter Tryz.func233,Tryz.ntmps233;go_wp2_with fail;clear bi O P T U V X;generalize f.alloc _=W0 at *;have C:=I r;have G:=I j;have Y:=I (KS j).1;clear r j;go_region_held3 (fun e=>e.cell? (A f.heap.size 0)=some (S [d])/\e.cell? (A f.heap.size 1)=some (N g)/\e.cell? (A f.heap.size 2)=some (N c)/\e.cell? (A f.heap.size 3)=some (N b)/\e.cell? (A f.heap.size 4)=some (S H)/\e.cell? (A f.heap.size 5)=some (S B))
    (first|with_reducible exact ac.o|with_reducible exact Z.o|exact Y.o)
    (first
     | (go_at_call 171;refine(E.o _).mono ?_;rintro k w1 ⟨rfl,K⟩;have i:=jg K;have Z:=I (KS (jd i G.o)).1)
     | (go_at_call 180;refine(F.o _).mono ?_;rintro k t ⟨rfl,v⟩;have ac:=I (KS (jd (i.trans (v.mono i.size)) G.o)).1))
   have D:=I (C.o.trans ((i.trans (v.mono i.size)).mono C.o.size));clear K i v;go_wp2_with fail
  ·refine(xu t).mono ?_;rintro k w3 ⟨rfl,rfl⟩;go_wp2;exact⟨rfl,D.o,.inl ⟨o.o,rfl⟩⟩
  ·refine(qx t).mono ?_;rintro k w3 ⟨rfl,rfl⟩;go_wp2;go_ret;exact⟨D.o,.inr ⟨p,o.o,rfl⟩⟩
theorem UX{s:Nat}:∀{b:List (List Value)} (c:∀e∈b,e.length=s) {a j:Nat} (d:j<s),b.flatten[a*s+j]?=(b[a]?).bind (·[j]?):=by
 intro b
 induction b with
 | nil=>intro c a j d;simp
 | cons e b h =>
  intro c a j d;have f:=c e (by simp);cases a with
  | zero =>
   simp only[fJ,eX,dh];rw[cR (by omega)];simp
  | succ a =>
   simp only[fJ];rw[bM (by rw[f,dj];omega),f,show(a+1)*s+j-s=a*s+j by rw[dj];omega,h (fun i g=>c i (bA _ g)) d];simp
variable{K:Int}{c g i k m n:Nat}{H:List W6}
def XK{d:W6}(h:H[k]?=some d){j:Nat}(f:j<6):(zt K n m H)[k*6+j]?=(If K n m k d)[j]?:=by
 unfold zt;rw[UX (s:=6) _ f]
 ·rw[gv,h];rfl
 ·intro l b;rw[fX]at b;obtain⟨key,i,rfl⟩:=b;rfl
variable{v w:W}{x y z:Value}
def Wp{b:W6}(d:w.ownsRow n 113 6 x m (zt K k i H))(f:H[g]?=some b)(p:g<m):∃a h,x=R a m h/\a<w.heap.size/\w.cell? (A a (g*6))=some (S [80])/\w.cell? (A a (g*6+1))=some (N k)/\w.cell? (A a (g*6+2))=some (N i)/\w.cell? (A a (g*6+3))=some (N g)/\w.cell? (A a (g*6+4))=some (S (jX K b).1)/\w.cell? (A a (g*6+5))=some (S (jX K b).2):=by
 rcases d.2 with⟨rfl,o⟩|⟨a,h,key,rfl,_⟩
 ·omega
 ·refine⟨a,h,rfl,(d.lt a rfl).2,?_,?_,?_,?_,?_,?_⟩
  ·rw[d.cellAt _ (by omega)];exact XK (j:=0) f (by omega)
  ·rw[d.cellAt _ (by omega)];exact XK (j:=1) f (by omega)
  ·rw[d.cellAt _ (by omega)];exact XK (j:=2) f (by omega)
  ·rw[d.cellAt _ (by omega)];exact XK (j:=3) f (by omega)
  ·rw[d.cellAt _ (by omega)];exact XK (j:=4) f (by omega)
  ·rw[d.cellAt _ (by omega)];exact XK (j:=5) f (by omega)
def jcr(pre:B8)(d:List W9)(kind key:Int)(h:List Z9)(g c a f many:Nat)(b:W6):QI pre d kind key h ⟨80,g,c,a,f,many⟩ b=match Xh (jh d key) pre key 80 g c a b with
  | none=>none
  | some p=>match xO kind p with
   | none=>none
   | some e=>if e.length=many then some (h++e)else none:=by
 unfold QI;have:zo pre d key ⟨80,g,c,a,f,many⟩ b=Xh (jh d key) pre key 80 g c a b:=rfl;rw[this];cases Xh (jh d key) pre key 80 g c a b<;>rfl
def Yl(pre:B8)(d:List W9)(kind key:Int){f:W6}(e:H[c]?=some f):jP pre d kind key k (some []) (jr n m k i g (c+1)) (H.take (c+1))=(jP pre d kind key k (some []) (jr n m k i g c) (H.take c)).bind fun h=>QI pre d kind key h ⟨80,m,k,c,i+c*n,jv g n c⟩ f:=by
 have P:=(aV.1 e).1;have j:H.take (c+1)=H.take c++[f]:=by rw[eD,e];rfl
 rw[Xv,j,xY _ _ _ _ _ _ _ _ _ _ (by simp[jr];omega)];cases jP pre d kind key k (some []) (jr n m k i g c) (H.take c)with
 | none=>rw[xG];rfl
 | some h=>exact KP pre d kind key ⟨80,m,k,c,i+c*n,jv g n c⟩ f h
def Tb(pre:B8)(d:List W9)(kind key:Int)(f:jP pre d kind key k (some []) (jr n m k i g c) (H.take c)=none):∀j,c+j<=H.length->jP pre d kind key k (some []) (jr n m k i g (c+j)) (H.take (c+j))=none:=by
 intro j
 induction j with
 | zero=>intro _;exact f
 | succ j e=>
  intro P;have h:H[c+j]?=some H[c+j]:=aR (by omega);rw[show c+(j+1)=c+j+1 by omega,Yl pre d kind key h,e (by omega)];rfl
variable{l r s:B8}
def SU{g:UInt8}{d:W6}(j:zJ K d)(a:Xh s r K g n m k d=some l):l.length<=65535:=by
 unfold Xh at a;rcases j with⟨rfl,f,h,b⟩|⟨i,f,h,b,key⟩
 ·rw[aQ rfl]at a;cases a;exact b
 ·rw[aL i]at a;obtain⟨e,o⟩:=KR a;have:=bN List.length e;rw[zT]at this;omega
def DZ(d:Option (List Z9))(b:W)(e:Ending)(f:W):Prop:=Below b.heap.size b f/\((d=none/\e=T8)\/∃a v,d=some a/\e=.returned v/\(∀c∈a,qI c)/\f.ownsRow b.heap.size 58 3 v a.length (jL a))
variable{D:List Z9}
def Yq(f:xO K s=some D):∀c∈D,qI c:=by
 obtain⟨b,_,d⟩:=Uj f;intro c a;refine⟨(d c a).1,(d c a).2,?_⟩;simp only[qi,aK,cY]at b;have:=b.2 c a;unfold qV at this;split at this
 ·simp only[aK,fm]at this;rw[this.2];decide
 ·split at this
  ·rw[fm]at this;rw[this];decide
  ·simp only[aK,aN]at this;exact this.2
def Es(E:V')(pre:B8)(i:List W9)(kind key:Int)(h e P g c:Nat)(b:List W6)(w:W6)(f4:Nat)(H:Value)(l:W)
  (dT:E[12]?=some (N P))(X:1<=P)(hP:P<=60)(hR:jv h e g<=60)(d3:kind=0\/kind=1)(hg:g<=65535)(hc:c<=65535)(eg:pre.length<=20)(er:(jh i key).length<=1000)
  (am:b.length=qc (jv h e g) P)(b4:∀d∈b,zJ key d)(em:l.ownsRow f4 113 6 H b.length (zt key g c b)):C' 232 #[.agg E,N kind,C9 (jv h e g) g c key H w,S (jh i key),S pre] l (DZ (jP pre i kind key c (some []) (qZ h e P g c) b) l):=by
 obtain⟨i1,f8,gi,go,gp⟩:=ks Tryz.au;have dd:J (∀(a:Nat) (d:W6) (m:W),b[a]?=some d->a<=60->C' 233 #[.agg #[S [80],N g,N c,N a,S (jX key d).1,S (jX key d).2],S (jh i key),S pre] m (SO (Xh (jh i key) pre key 80 g c a d) m)):=fun a d m o gA=>Ek 80 g c a key d (jh i key) pre m (b4 d (dJ o)) hg hc (by omega) eg er;have da:J (∀(a:Nat) (d:W6) (p:B8),b[a]?=some d->Xh (jh i key) pre key 80 g c a d=some p->p.length<=maxLen):=fun a d p o r=>aI (SU (b4 d (dJ o)) r) (by decide);have fd:J (∀(p:B8) (m:W),p.length<=maxLen->C' 70 #[N kind,S p] m (Ee kind p m)):=fun p m r=>Lh kind p m d3 r;have f6:qc (jv h e g) P<=60:=aI (QP X) hR;have cs:=I (fun m:W=>Gn (jv h e g) P m (by omega) X (by omega));have ci:J (qZ h e P g c=jr P g c (g*e) (jv h e g) b.length):=by show _=_;unfold qZ;rw[am]
 have e6:J (∀a,a<b.length->0<jv (jv h e g) P a/\a*P+jv (jv h e g) P a=min (a*P+P) (jv h e g)/\jv (jv h e g) P a<=60):=fun a o=>by
  rw[am]at o;have h1:=(JE X).1 o;have h2:=(UL (n:=jv h e g) (i:=a) X).2 h1;have h3:=ZZ (jv h e g) P a h1;exact⟨h2,h3,by omega⟩
 have d2:∀a,a<=60->a*P<=3600:=fun a o=>by
  have:=cS o hP;omega
 have e0:=I d2;have gw:J (E.size<=100000\/True):=.inr trivial;generalize eq:jh i key=eC at *;have fb:=I eq;clear eq;rw[<-am]at cs f6;generalize jv h e g=rows at *;have fz:=I em;have eM:=I dT;clear em b4 er eg hg hc d3 am dT d2;obtain⟨bX,gZ,d8,ce⟩:=QB l E 120 #[N rows,H,S [77],N g,N c,N 0,S (jX key w).1,S (jX key w).2] 261;have gt:((l.alloc (.cells E 120)).alloc (.cells #[N rows,H,S [77],N g,N c,N 0,S (jX key w).1,S (jX key w).2] 261)).cell? (A l.heap.size 12)=some (N P):=by rw[jb d8];exact eM.o
 obtain⟨y0,y1,y2,y3,y4,y5,y6,y7⟩:=(Zv ce).1;go_enter Tryz.func232,Tryz.ntmps232;go_wp2_with fail;clear gt y0 y1 y2 y3 y4 y5 y6 y7;generalize (l.alloc _).alloc _=W0 at *;have co:=I bX;have fr:=I ce;have gr:=bX.size;clear bX ce d8;refine(cs.o _).mono ?_;rintro V w1 ⟨sv,rfl,C,Y⟩;obtain⟨sa,sc,rfl⟩:=jt C;have eP:=I (co.o.trans (Y.mono co.o.size));have fs:=I (jd Y fr.o);have f2:=I (jQ C (b':=l.heap.size) gr);have g0:=Y.size;clear Y C;go_wp2;go_loopw [11,23] (fun v be wr=>∃(a:Nat) (k:List Z9),a<=b.length/\be=N a/\jP pre i kind key c (some []) (jr P g c (g*e) rows a) (b.take a)=some k/\k.length<=a*60/\(∀x∈k,qI x)/\wr.ownsRow l.heap.size 58 3 v k.length (jL k)/\wr.heap[l.heap.size+1]?=some (.cells #[N rows,H,S [77],N g,N c,N 0,S (jX key w).1,S (jX key w).2] 261 (0,0))/\wr.ownsRow l.heap.size 290 2 (.slice sa b.length sc) b.length (Xb rows P b.length)/\Below l.heap.size l wr) (fun _ be _=>b.length-(intOf be).toNat)
 case atStart=>exact⟨0,[],aG _,rfl,rfl,aG _,(by intro x hx;cases hx),kg _ _ _ _,fs.o,f2.o,eP.o⟩
 case round=>
  obtain⟨a,k,gX,rfl,d0,g3,es,cd,hq,C,hB⟩:=hrel;have dl:=I d0;have dv:=I es;have dr:=I cd;have Hq:=I hq;have Hs:=I C;have y:=I hB;have ap:=hB.size;obtain⟨va,vc,rfl⟩:=jt cd;clear d0 es cd hq C hB;by_cases G:a<b.length
  ·have gU:(a:Int)<(b.length:Int):=(by omega);obtain⟨d,B⟩:∃d,b[a]?=some d:=⟨b[a],aR G⟩;obtain⟨sg,rfl,g8,s1,s2⟩:=NQ Hs.o G;obtain⟨pb,pc,rfl,g5,p0,p1,p2,p3,p4,p5⟩:=Wp (jy fz.o y.o) B G;obtain⟨g7,ec,g4⟩:=e6.o a G;have gY:=e0.o a (by omega);have e5:=I (fun m=>dd.o a d m B (by omega));have e2:=I (fun p=>da.o a d p B);have O:J (jP pre i kind key c (some []) (jr P g c (g*e) rows (a+1)) (b.take (a+1))=match Xh eC pre key 80 g c a d with
    | none=>none
    | some p=>match xO kind p with
     | none=>none
     | some j=>if j.length=jv rows P a then some (k++j)else none):=by
    show _=_;rw[Yl pre i kind key B,dl.o];show QI _ _ _ _ _ _ _=_;rw[jcr,fb.o]
   have bv:J (jP pre i kind key c (some []) (jr P g c (g*e) rows (a+1)) (b.take (a+1))=none->jP pre i kind key c (some []) (qZ h e P g c) b=none):=fun r=>by
    have:=Tb pre i kind key r (b.length-(a+1)) (by omega);rw[show a+1+(b.length-(a+1))=b.length by omega,aS]at this;rw[ci.o];exact this
   rw[<-ec]at s2;have Hm:=I B;clear ec dd da B;generalize ga:a*P=f at *;generalize gd:jv rows P a=q at *;generalize ge:Xh eC pre key 80 g c a d=PS at *;clear ga gd ge;generalize (jX key d).1=n1 at *;generalize (jX key d).2=n2 at *;obtain⟨z,g9,_,d1⟩:=jJ wr #[N f,N ((f:Int)+(q:Int))] 290;have y1:=(Zv (jd z Hq.o)).1.2.1;have q0:=jf (.cells #[N f,N ((f:Int)+(q:Int))] 290) p0;have q1:=jf (.cells #[N f,N ((f:Int)+(q:Int))] 290) p1;have q2:=jf (.cells #[N f,N ((f:Int)+(q:Int))] 290) p2;have q3:=jf (.cells #[N f,N ((f:Int)+(q:Int))] 290) p3;have q4:=jf (.cells #[N f,N ((f:Int)+(q:Int))] 290) p4;have q5:=jf (.cells #[N f,N ((f:Int)+(q:Int))] 290) p5;go_wp2_with fail;clear y1 q0 q1 q2 q3 q4 q5 p0 p1 p2 p3 p4 p5 s1 s2;have L:=I z;have fk:=I d1;have fw:=I (jd z Hq.o);have fn:=I (ju dr.o z);have f3:=I (ju Hs.o z);clear z d1;generalize wr.alloc _=wx at *;refine(e5.o wx).mono ?_;rintro V w2 ⟨s,⟨d6,rfl⟩|⟨p,ev,rfl⟩⟩
   ·have u:=I (bv.o (by rw[O.o,d6]));have D:=I (y.o.trans ((L.o.trans (s.mono L.o.size)).mono ap));clear d6 s;go_wp2;exact⟨rfl,D.o,.inl ⟨u.o,rfl⟩⟩
   have K:=I (L.o.trans (s.mono L.o.size));have fe:=I (jd s fk.o);have ft:=I (jd s fw.o);have fl:=I (ju fn.o s);have f1:=I (ju f3.o s);have M:=I ev;clear s ev;go_wp2_with fail;refine(fd.o p w2 (e2.o p M.o)).mono ?_;rintro V w3 ⟨t,⟨rfl,d7⟩|⟨j,a2,f5,rfl,hu,d5⟩⟩
   ·have u:=I (bv.o (by rw[O.o,M.o];simp only[d7]));have D:=I (y.o.trans ((K.o.trans (t.mono K.o.size)).mono ap));clear d7 t;go_wp2;exact⟨rfl,D.o,.inl ⟨u.o,rfl⟩⟩
   have bi:=I (K.o.trans (t.mono K.o.size));have ff:=I (jd t fe.o);have fv:=I (jd t ft.o);have U:=I (ju fl.o t);have ds:=I (ju f1.o t);have T:=I hu;have e1:=I d5;clear t hu d5;obtain⟨z1,z2⟩:=jcq ff.o;have g2:j.length<=60:=by
    have:=(Uj T.o).1;simp only[qi,aK,aN]at this;exact this.1.2
   go_wp2_with fail;clear z1 z2;by_cases ac:j.length=q
   ·have F:((j.length:Int)==(f:Int)+(q:Int)-(f:Int))=true:=(by rw[ee];omega);rw[F];clear F;refine(qx w3).mono ?_;rintro V w4 ⟨rfl,rfl⟩;have fc:J (∀x∈k++j,qI x):=fun x hx=>by
     rcases aX.1 hx with r|r
     ·exact dv.o x r
     ·exact Yq T.o x r
    have e3:J (jP pre i kind key c (some []) (jr P g c (g*e) rows (a+1)) (b.take (a+1))=some (k++j)):=by
     show _=_;rw[O.o,M.o];simp only[T.o,aQ ac]
    have d4:0<j.length:=(by omega);clear ac;obtain⟨b2,gs,rfl,gT,dW⟩:=e1.o.at_ (aE d4);have eS:=I (T3.cells dW);clear dW;have ha:=bi.o.size;go_wp2_with(refine wpList_append_lies _ rfl _ _ _ rfl l.heap.size 58 i1 _ 3 32 Tryz.underlying59 f8 gi go gp rfl (by omega) _ k.length (jL k) rfl U.o (A b2 gs) j.length f5 (jL j) rfl (xX j) eS.o (KO j) d4 (by unfold maxLen;omega) (by omega) (by omega) _ rfl ?_;intro gg gc w5 ea Z f7 gb);have e4:=I ea;have e7:=I (jq Z U.o fv.o (by decide));have fa:=I (ds.o.kept Z (qd ds.o U.o (by decide)));have eR:=I ((y.o.trans (bi.o.mono ap)).grown Z (by omega) (fun a o=>(U.o.lt a o).1));clear ea Z f7 gb;go_wp2;go_roundw
    ·
     refine⟨a+1,k++j,by omega,by go_num,e3.o,by rw[aB];omega,fc.o,?_,e7.o,fa.o,eR.o⟩;rw[Jp,aB];exact e4.o
    ·simp[intOf];omega
   ·have F:((j.length:Int)==(f:Int)+(q:Int)-(f:Int))=false:=(by rw[bQ];omega);rw[F];clear F;refine(xu w3).mono ?_;rintro V w4 ⟨rfl,rfl⟩;have u:=I (bv.o (by rw[O.o,M.o];simp only[T.o,aL ac]));have D:=I (y.o.trans (bi.o.mono ap));clear ac;go_wp2;exact⟨rfl,D.o,.inl ⟨u.o,rfl⟩⟩
  ·have f9:a=b.length:=(by omega);subst f9;have u:J (jP pre i kind key c (some []) (qZ h e P g c) b=some k):=by
    have:=dl.o;rw[aS]at this;show _=_;rw[ci.o];exact this
   clear G;go_wp2;go_ret;exact⟨y.o,.inr ⟨k,_,u.o,rfl,dv.o,dr.o⟩⟩
structure K4 (X9:V7) (G P base:Nat) (w:W) (SC:V') (cv:Value) (Kb:Nat) (V:Nat->Value) (Qp:Nat->Nat->List W6) (Qm:Nat->Nat->W6) (Pv:Nat->Nat->Value):Prop where
 inf:(Tryz.prog.info? 120).map (·.size)=some SC.size
 one:SC.all (·.oneCell')=true
 dc:SC[12]?=some (N P)
 kq:SC[15]?=some cv
 c9:SC[17]?=some (R Kb X9.U.length X9.U.length)
 U:w.ownsRow base 61 4 cv X9.U.length (Qf X9.U)
 small:∀c∈X9.U,P4 c
 kb:w.heap[Kb]?=some (.cells ((List.range X9.U.length).map V).toArray 258 (0,0))
 chunks:∀i,i<X9.U.length->F5 X9.U X9.rows G P base w i (qc X9.rows G) (V i) Qp Qm Pv
 ae:X9.ae=xH (fun g c=>Qp g c++[Qm g c]) X9.U.length (qc X9.rows G)
 an:qp X9=jM X9.rows X9.U.length G P (qc X9.rows G)
 rows:X9.rows<=60
 g1:1<=G
 g6:G<=60
 p1:1<=P
 p6:P<=60
 n6:X9.U.length<=6
variable{G:Nat->Nat->List W6}{P:Nat->Nat->Value}
def K4.j{k:V7}{f h base:Nat}{d l:W}{i:V'}{j:Nat->Value}{g:Nat->Nat->W6}(a:K4 k f h base d i x n j G g P)(b:Below d.heap.size d l):K4 k f h base l i x n j G g P:=⟨a.inf,a.one,a.dc,a.kq,a.c9,jy a.U b,a.small,jd b a.kb,fun o m=>(a.chunks o m).br (fun cv p c=>jy c b) (fun q cv p c=>jy c b),a.ae,a.an,a.rows,a.g1,a.g6,a.p1,a.p6,a.n6⟩
variable{Z:V7}{T:Nat->Value}{O:Nat->Nat->W6}
def jbx{j:U0}(b:P8 Z j n w x y z k T G O P)(d:U8 m s r Z):K4 Z Z.J.group.toNat Z.J.aa.toNat n w (xq Z j y z k) y k T G O P:=by
 obtain⟨_,g,p⟩:=b.one;have q:=d.J;simp only[qK,aK,aN]at q;have o:=d.aq;simp only[jW,aK,aN]at o;refine⟨by rw[g];kernel_rfl,p,?_,rfl,rfl,b.U,b.small,b.kb,b.chunks,b.ae,rfl,d.rows,by omega,by omega,by omega,by omega,by omega⟩;show some (N Z.J.aa)=_;rw[Int.toNat_of_nonneg (by omega)]
def JN(c:g<i){j:Nat}(h:j<8):(zM n m K k O P i)[g*8+j]?=(UN n m K k O P g)[j]?:=by
 unfold zM;rw[fR,UX (s:=8) _ h]
 ·rw[dB,eT c];rfl
 ·intro l key;simp only[cM]at key;obtain⟨b,_,rfl⟩:=key;rfl
def Ao(d:w.ownsRow n 261 8 x m (zM k i K g O P m))(f:c<m):∃b h,x=R b m h/\b<w.heap.size/\w.cell? (A b (c*8))=some (N ((jv k i c:Nat):Int))/\w.cell? (A b (c*8+1))=some (P c g)/\w.cell? (A b (c*8+2))=some (S [77])/\w.cell? (A b (c*8+3))=some (N c)/\w.cell? (A b (c*8+4))=some (N g)/\w.cell? (A b (c*8+5))=some (N 0)/\w.cell? (A b (c*8+6))=some (S (jX K (O c g)).1)/\w.cell? (A b (c*8+7))=some (S (jX K (O c g)).2):=by
 rcases d.2 with⟨rfl,p⟩|⟨b,h,o,rfl,_⟩
 ·omega
 ·refine⟨b,h,rfl,(d.lt b rfl).2,?_,?_,?_,?_,?_,?_,?_,?_⟩
  ·rw[d.cellAt _ (by omega)];exact JN (j:=0) f (by omega)
  ·rw[d.cellAt _ (by omega)];exact JN (j:=1) f (by omega)
  ·rw[d.cellAt _ (by omega)];exact JN (j:=2) f (by omega)
  ·rw[d.cellAt _ (by omega)];exact JN (j:=3) f (by omega)
  ·rw[d.cellAt _ (by omega)];exact JN (j:=4) f (by omega)
  ·rw[d.cellAt _ (by omega)];exact JN (j:=5) f (by omega)
  ·rw[d.cellAt _ (by omega)];exact JN (j:=6) f (by omega)
  ·rw[d.cellAt _ (by omega)];exact JN (j:=7) f (by omega)
variable{B:List W8}
def NU(a:n<B.length){j:Nat}(d:j<4):(Qf B)[n*4+j]?=(TN (ji B n))[j]?:=by
 unfold Qf;rw[fR,UX (s:=4) _ d]
 ·rw[dB,aR a];simp only[eB,ew];rw[xP a]
 ·intro f b;simp only[cM]at b;obtain⟨e,_,rfl⟩:=b;rfl
def Ec(b:w.ownsRow n 61 4 x B.length (Qf B))(e:m<B.length):∃a f,x=R a B.length f/\a<w.heap.size/\w.cell? (A a (m*4))=some (S (ji B m).name)/\w.cell? (A a (m*4+1))=some (N (ji B m).kind)/\w.cell? (A a (m*4+2))=some (N (ji B m).key)/\w.cell? (A a (m*4+3))=some (.slice none 0 0):=by
 rcases b.2 with⟨rfl,i⟩|⟨a,f,h,rfl,_⟩
 ·omega
 ·refine⟨a,f,rfl,(b.lt a rfl).2,?_,?_,?_,?_⟩
  ·rw[b.cellAt _ (by omega)];exact NU (j:=0) e (by omega)
  ·rw[b.cellAt _ (by omega)];exact NU (j:=1) e (by omega)
  ·rw[b.cellAt _ (by omega)];exact NU (j:=2) e (by omega)
  ·rw[b.cellAt _ (by omega)];exact NU (j:=3) e (by omega)
def OY{h:W6}(d:V2 B (jl n m k i g) (H++[h])):(∀a∈H,zJ (ji B g).key a)/\zJ (ji B g).key h:=by
 have key:∀{e:List V1} {f:List W6},V2 B e f->(∀t∈e,t.c=g)->∀a∈f,zJ (ji B g).key a:=by
  intro e f d
  induction d using V2.ind with
  | nil=>intro _ a b;cases b
  | cons P _ o=>
   intro j a b;rcases bD.1 b with rfl|b
   ·have:=j _ (cC ..);rw[<-this];exact P
   ·exact o (fun t d=>j t (bA _ d)) a b
 have:=key d XQ;exact⟨fun a b=>this a (by simp[b]),this h (by simp)⟩
def FN{t:List W8}{Qp:Nat->Nat->List W6}{Qm:Nat->Nat->W6}{X8 C G P:Nat}(pre:B8)(b:List W9)(kind key:Int){c k:Nat}(d:c<C)(m:1<=P)(j:1<=G)(i:k<qc X8 G)(f:∀g,g<qc X8 G->∀a,a<C->V2 t (jl X8 G P g a) (Qp g a++[Qm g a]))(o:∀g,g<qc X8 G->∀a,a<C->(Qp g a).length=qc (jv X8 G g) P){l:List Z9}
  (h:jP pre b kind key c (some []) (jM X8 C G P k) (xH (fun g c=>Qp g c++[Qm g c]) C k)=some l):jP pre b kind key c (some []) (jM X8 C G P (k+1)) (xH (fun g c=>Qp g c++[Qm g c]) C (k+1))=(jP pre b kind key c (some []) (qZ X8 G P k c) (Qp k c)).bind fun part=>if Xh (jh b key) pre key 77 k c 0 (Qm k c)=some (JD kind part)then some (l++part)else none:=by
 have p:=(JE j).1 i;have q:=IS (t:=t) pre b kind key d m (fun g n a e=>f g (by omega) a e) (by omega) h;rw[Ru (t:=t) pre b kind key d _ (fun g n a e=>f g (by omega) a e),h,Nl pre b kind key l (by omega) (Qp k c) (Qm k c) (by rw[o k i c d];simp[qZ,jr])];rfl
def BI{t:List W8}{X7:Nat->Nat->List W6}{X8 C G P n:Nat}(pre:B8)(b:List W9)(kind key:Int){c k:Nat}(e:c<C)(d:∀g,g<n->∀a,a<C->V2 t (jl X8 G P g a) (X7 g a))
  (f:jP pre b kind key c (some []) (jM X8 C G P k) (xH X7 C k)=none):∀j,k+j<=n->jP pre b kind key c (some []) (jM X8 C G P (k+j)) (xH X7 C (k+j))=none:=by
 intro j
 induction j with
 | zero=>intro _;exact f
 | succ j i=>
  intro m;rw[show k+(j+1)=k+j+1 by omega,Ru (t:=t) pre b kind key e _ (fun g l a h=>d g (by omega) a h),i (by omega),xG]
def EW(b:V7)(d P cs:Nat)(q:V')(cv:Value)(Kb:Nat)(ga:Nat->Value)(l:Nat->Nat->List W6)(f:Nat->Nat->W6)(K:Nat->Nat->Value)(pre:B8)(k:List W9)(c:Nat)(h:W)
  (e:K4 b d P cs h q cv Kb ga l f K)(s:c<b.U.length)(ds:pre.length<=20)(dv:(jh k (ji b.U c).key).length<=1000):C' 164 #[.agg q,N c,S (jh k (ji b.U c).key),S pre] h (DZ (jP pre k (ji b.U c).kind (ji b.U c).key c (some []) (qp b) b.ae) h):=by
 obtain⟨i1,ge,gZ,g0,g2⟩:=ks Tryz.au;have eS:=e.inf;have ho:=e.n6;have e1:(ji b.U c).kind=0\/(ji b.U c).kind=1:=(e.small _ (by rw[xP s];exact aJ _)).kind;have ac:∀g,g<qc b.rows d->∀o,o<b.U.length->V2 b.U (jl b.rows d P g o) (l g o++[f g o]):=fun g hg o hi=>((e.chunks o hi).ok g hg).1;have Z:∀g,g<qc b.rows d->∀o,o<b.U.length->(l g o).length=qc (jv b.rows d g) P:=fun g hg o hi=>((e.chunks o hi).ok g hg).2;have ec:J (∀a j,a<qc b.rows d->Below h.heap.size h j->j.ownsRow cs 113 6 (K a c) (l a c).length (zt (ji b.U c).key a c (l a c))):=fun a j i hb=>jy ((e.chunks c s).bb a i) hb;have ea:J (∀a,a<qc b.rows d->∃co dW cp,K a c=.slice co dW cp):=fun a i=>by
  obtain⟨co,cp,r⟩:=jt ((e.chunks c s).bb a i);exact⟨co,_,cp,r⟩
 have fk:J (qc b.rows d<=60):=aI (QP e.g1) e.rows;have hj:=fk.o;have dl:∀a,a<qc b.rows d->(∀dW∈l a c,zJ (ji b.U c).key dW)/\zJ (ji b.U c).key (f a c):=fun a i=>OY (ac a i c s);have d1:J (∀a j,a<qc b.rows d->Below h.heap.size h j->C' 232 #[.agg q,N (ji b.U c).kind,.agg #[N ((jv b.rows d a:Nat):Int),K a c,S [77],N a,N c,N 0,S (jX (ji b.U c).key (f a c)).1,S (jX (ji b.U c).key (f a c)).2],S (jh k (ji b.U c).key),S pre] j (DZ (jP pre k (ji b.U c).kind (ji b.U c).key c (some []) (qZ b.rows d P a c) (l a c)) j)):=fun a j i hb=>
  Es q pre k _ _ b.rows d P a c (l a c) (f a c) cs (K a c) j e.dc e.p1 e.p6 (aI (Qz b.rows d a).2 e.rows) e1 (by omega) (by omega) ds dv (Z a i c s) (dl a i).1 (ec.o a j i hb)
 have d6:J (∀a j,a<qc b.rows d->C' 233 #[.agg #[S [77],N a,N c,N ((0:Nat):Int),S (jX (ji b.U c).key (f a c)).1,S (jX (ji b.U c).key (f a c)).2],S (jh k (ji b.U c).key),S pre] j (SO (Xh (jh k (ji b.U c).key) pre (ji b.U c).key 77 a c 0 (f a c)) j)):=fun a j i=>Ek 77 a c 0 _ (f a c) _ pre j (dl a i).2 (by omega) (by omega) (by omega) ds dv;have em:=I (fun a m i=>FN (t:=b.U) (Qp:=l) (Qm:=f) (X8:=b.rows) (C:=b.U.length) (G:=d) (P:=P) pre k (ji b.U c).kind (ji b.U c).key (k:=a) (l:=m) s e.p1 e.g1 i ac Z);have d4:=I (fun a=>BI (t:=b.U) (X7:=fun g c=>l g c++[f g c]) (X8:=b.rows) (C:=b.U.length) (G:=d) (P:=P) (n:=qc b.rows d) pre k (ji b.U c).kind (ji b.U c).key (k:=a) s ac);have d7:=I (fun a part (i:a<qc b.rows d)=>Vu pre k (ji b.U c).kind (ji b.U c).key (X8:=b.rows) (G:=d) (P:=P) (g:=a) (c:=c) (mp:=l a c) (part:=part) e.p1 (by rw[Z a i c s];simp[qZ,jr]));have d8:J (∀a,a<qc b.rows d->0<jv b.rows d a/\jv b.rows d a<=60):=fun a i=>⟨(UL e.g1).2 ((JE e.g1).1 i),aI (Qz b.rows d a).2 e.rows⟩;have U:J (qp b=jM b.rows b.U.length d P (qc b.rows d)/\b.ae=xH (fun g c=>l g c++[f g c]) b.U.length (qc b.rows d)):=⟨e.an,e.ae⟩;obtain⟨cb,cc,rfl,hf,k0,k1,k2,k3⟩:=Ec e.U s;have be:=(e.chunks c s).row;obtain⟨va,vc,hV⟩:=jt be;have e0:h.cell? (A Kb c)=some (.slice va (qc b.rows d) vc):=by
  rw[jb e.kb,<-hV];simp[s]
 have bv:=I e.kq;have bX:=I e.c9;rw[hV]at be;have f9:=I be;have hh:(c:Int)<(b.U.length:Int):=by omega
 clear be hV dl ac Z e1 e ds dv ec;generalize qc b.rows d=w at *;generalize gA:jh k (ji b.U c).key=g8 at *;generalize go:(ji b.U c).key=key at *;generalize gp:(ji b.U c).kind=kind at *;clear go gp gA;generalize b.U.length=n at *;obtain⟨eM,gr,_,ap⟩:=jJ h q 120;have g9:(h.alloc (.cells q 120)).cell? (A h.heap.size 15)=some (R cb n cc):=by rw[jb ap];exact bv.o
 have ha:(h.alloc (.cells q 120)).cell? (A h.heap.size 17)=some (R Kb n n):=by rw[jb ap];exact bX.o
 have z1:=jf (.cells q 120) k1;have z2:=jf (.cells q 120) e0;go_enter Tryz.func164,Tryz.ntmps164;have g5:=bv.o;have g7:=bX.o;go_wp2;clear g5 g7 g9 ha z1 z2 k0 k1 k2 k3 e0 bv bX;generalize h.alloc _=W0 at *;go_loopw [10,27] (fun v o wr=>∃(a:Nat) (m:List Z9),a<=w/\o=N a/\jP pre k kind key c (some []) (jM b.rows n d P a) (xH (fun g c=>l g c++[f g c]) n a)=some m/\m.length<=a*60/\(∀u∈m,qI u)/\wr.ownsRow h.heap.size 58 3 v m.length (jL m)/\wr.heap[h.heap.size]?=some (.cells q 120 (0,0))/\Below h.heap.size h wr) (fun _ o _=>w-(intOf o).toNat)
 case atStart=>exact⟨0,[],aG _,rfl,rfl,aG _,(by intro u E;cases E),kg _ _ _ _,ap,eM⟩
 case round=>
  obtain⟨a,m,hm,rfl,eR,hn,fc,dr,hq,hB⟩:=hrel;have eq:=I eR;have ev:=I fc;have er:=I dr;have Hq:=I hq;have y:=I hB;have T:=hB.size;obtain⟨wa,wc,rfl⟩:=jt dr;clear eR fc dr hq hB;by_cases x:a<w
  ·have hl:(a:Int)<(w:Int):=(by omega);obtain⟨vb,hu,gU,hs,p0,p1,p2,p3,p4,p5,p6,p7⟩:=Ao (jy f9.o y.o) x;injection gU with hva1 hva2 hva3
   subst hva1 hva3;clear hva2 eM gr ap;obtain⟨hr,hp⟩:=d8.o a x;have d2:=I (fun j=>d1.o a j x);have fw:=I (fun j=>d6.o a j x);have X:=I (em.o a m x eq.o);have fv:=I (fun part=>d7.o a part x);have b4:J (jP pre k kind key c (some []) (jM b.rows n d P (a+1)) (xH (fun g c=>l g c++[f g c]) n (a+1))=none->jP pre k kind key c (some []) (qp b) b.ae=none):=fun r=>by
    have:=d4.o (a+1) r (w-(a+1)) (by omega);rw[show a+1+(w-(a+1))=w by omega]at this;rw[U.o.1,U.o.2];exact this
   clear em d4 d1 d6 d7 d8;generalize jv b.rows d a=pn at *;generalize hO:jP pre k kind key c (some []) (qZ b.rows d P a c) (l a c)=hd at *;clear hO;generalize gb:Xh g8 pre key 77 a c 0 (f a c)=O2 at *;clear gb;generalize (jX key (f a c)).1=n1 at *;generalize (jX key (f a c)).2=n2 at *;obtain⟨pa,pm,g4,fa⟩:=ea.o a x;rw[fa]at p1 d2;clear fa ea;obtain⟨am,gT,_,dd⟩:=jJ wr #[N pn,.slice pa pm g4,S [77],N a,N c,N 0,S n1,S n2] 261;have fb:=jd am Hq.o;obtain⟨y0,y1,y2,y3,y4,y5,y6,y7⟩:=(Zv dd).1;go_upto_region 6 with fail;clear y0 y1 y2 y3 y4 y5 y6 y7 p0 p1 p2 p3 p4 p5 p6 p7;have H:=I am;have ce:=I dd;have es:=I fb;have f5:=I (ju er.o am);clear am dd fb gT;generalize gX:wr.alloc _=wx at *;clear gX;generalize gY:wr.heap.size=xs at ce ⊢;clear gY;have fl:=I eS;clear eS;go_wp2_with(first|(refine kx rfl 120 (.tmp 4) rfl h.heap.size rfl 120 q (0,0) _ es.o Tryz.underlying120 rfl fl.o ?_)|(refine kx rfl 261 (.tmp 12) rfl xs rfl 261 _ (0,0) _ ce.o Tryz.underlying261 rfl (by kernel_rfl) ?_));refine(d2.o wx (y.o.trans (H.o.mono T))).mono ?_;rintro Y w2 ⟨B,⟨e3,rfl⟩|⟨part,v2,dT,rfl,O,e5⟩⟩
   ·have z:=I (b4.o (by rw[X.o,e3];rfl));have G:=I (y.o.trans ((H.o.trans (B.mono H.o.size)).mono T));clear e3 B;go_wp2;exact⟨rfl,G.o,.inl ⟨z.o,rfl⟩⟩
   have gt:=fv.o part dT;have cd:=I dT;have eg:=I O;obtain⟨a2,eC,rfl,_,e2⟩:=QZ e5 (fun u E=>⟨(O u E).1,(O u E).2.1,aI (O u E).2.2 (by decide)⟩);have V:=I (H.o.trans (B.mono H.o.size));have f2:=I (jd B ce.o);have f6:=I (jd B es.o);have f3:=I (ju f5.o B);have fn:=I e2;have gw:part.length<=60:=(by omega);have e7:0<part.length:=(by omega);clear B dT O e5 e2 gt;obtain⟨y0,y1,y2,y3,y4,y5,y6,y7⟩:=(Zv f2.o).1;go_wp2_with fail;clear y0 y1 y2 y3 y4 y5 y6 y7;refine(fw.o w2).mono ?_;rintro Y w3 ⟨D,⟨e4,rfl⟩|⟨p,fd,rfl⟩⟩
   ·have z:=I (b4.o (by rw[X.o,cd.o,ew,e4,aL (by simp)]));have G:=I (y.o.trans ((V.o.trans (D.mono V.o.size)).mono T));clear e4 D;go_wp2;exact⟨rfl,G.o,.inl ⟨z.o,rfl⟩⟩
   have d0:=I (V.o.trans (D.mono V.o.size));have f7:=I (jd D f6.o);have f4:=I (ju f3.o D);have d3:=I (fn.o.j D);have d5:=I fd;clear D fd;go_wp2_with fail;refine(AJ kind a2 eC part w3 gw eg.o d3.o).mono ?_;rintro Y w4 ⟨rfl,L⟩;have bi:=I (d0.o.trans (L.mono d0.o.size));have f8:=I (jd L f7.o);have ci:=I (ju f4.o L);have fr:=I (d3.o.j L);clear L;go_wp2_with fail;by_cases F:p=JD kind part
   ·have M:(p==JD kind part)=true:=(by rw[ee];exact F);rw[M];clear M;refine(qx w4).mono ?_;rintro Y w5 ⟨rfl,rfl⟩;have f1:J (∀u∈m++part,qI u):=fun u E=>by
     rcases aX.1 E with r|r
     ·exact ev.o u r
     ·exact eg.o u r
    have fs:J (jP pre k kind key c (some []) (jM b.rows n d P (a+1)) (xH (fun g c=>l g c++[f g c]) n (a+1))=some (m++part)):=by
     show _=_;rw[X.o,cd.o,ew,d5.o,aQ (by rw[F])]
    clear F;obtain⟨b2,g3,rfl,he,eP⟩:=fr.o.at_ (aE e7);have ff:=I (T3.cells eP);clear eP;have ht:=bi.o.size;go_wp2_with(refine wpList_append_lies _ rfl _ _ _ rfl h.heap.size 58 i1 _ 3 32 Tryz.underlying59 ge gZ g0 g2 rfl (by omega) _ m.length (jL m) rfl ci.o (A b2 g3) part.length eC (jL part) rfl (xX part) ff.o (KO part) e7 (by unfold maxLen;omega) (by omega) (by omega) _ rfl ?_;intro gg gc w6 e6 da gd gs);have ft:=I e6;have fz:=I (jq da ci.o f8.o (by decide));have fe:=I ((y.o.trans (bi.o.mono T)).grown da (by omega) (fun a i=>(ci.o.lt a i).1));clear e6 da gd gs;go_wp2;go_roundw
    ·
     refine⟨a+1,m++part,by omega,by go_num,fs.o,by rw[aB];omega,f1.o,?_,fz.o,fe.o⟩;rw[Jp,aB];exact ft.o
    ·simp[intOf];omega
   ·have M:(p==JD kind part)=false:=(by rw[bQ];exact F);rw[M];clear M;refine(xu w4).mono ?_;rintro Y w5 ⟨rfl,rfl⟩;have z:=I (b4.o (by rw[X.o,cd.o,ew,d5.o,aL (by intro r;injection r with r;exact F r)]));have G:=I (y.o.trans (bi.o.mono T));clear F;go_wp2;exact⟨rfl,G.o,.inl ⟨z.o,rfl⟩⟩
  ·have gi:a=w:=(by omega);subst gi;have z:J (jP pre k kind key c (some []) (qp b) b.ae=some m):=by
    show _=_;rw[U.o.1,U.o.2];exact eq.o
   clear x;go_wp2;go_ret;exact⟨y.o,.inr ⟨m,_,z.o,rfl,ev.o,er.o⟩⟩
def Yn(b:V')(c:O')(n cp:Nat)(a:W)(h:b[15]?=some (.slice c n cp)):C' 101 #[.agg b] a fun f g=>f=.returned (.slice c n cp)/\Below a.heap.size a g:=by
 obtain⟨d,i,_,j⟩:=jJ a b 120;have e:=I d;clear d;go_enter Tryz.func101,Tryz.ntmps101;go_wp2;go_ret;exact⟨rfl,e.o⟩
def FA(a:V7)(l P r:Nat)(e:V')(cv:Value)(m:Nat)(q:Nat->Value)(p:Nat->Nat->List W6)(o:Nat->Nat->W6)(n:Nat->Nat->Value)(pre:B8)(d:List W9)(c:Nat)(b:W)
  (g:K4 a l P r b e cv m q p o n)(t:c<a.U.length)(w:pre.length<=20)(x:(jh d (ji a.U c).key).length<=1000)(f i j k:Nat)
  (G:b.heap[f]?=some (.cells e 120 (0,0)))(O:b.cell? (A i 0)=some (N c))(T:b.cell? (A j 0)=some (S (jh d (ji a.U c).key)))(U:b.cell? (A k 0)=some (S pre)):C' 163 #[(Q f 0),(Q i 0),(Q j 0),(Q k 0)] b (DZ (jP pre d (ji a.U c).kind (ji a.U c).key c (some []) (qp a) a.ae) b):=by
 have B:=I (EW a l P r e cv m q p o n pre d c b g t w x);have H:=g.inf;clear g t w x;generalize jP pre d (ji a.U c).kind (ji a.U c).key c (some []) (qp a) a.ae=L at *;generalize jh d (ji a.U c).key=V at *;go_enter Tryz.func163,Tryz.ntmps163;go_wp2_with(refine kx rfl 120 (.tmp 0) rfl f rfl 120 e (0,0) _ G Tryz.underlying120 rfl H ?_);refine B.o.mono ?_;rintro M Z ⟨s,⟨u,rfl⟩|⟨K,v,z,rfl,y,h⟩⟩
 ·have C:=I u;clear u;go_wp2;exact⟨rfl,s,.inl ⟨C.o,rfl⟩⟩
 ·have F:=I z;have E:=I y;have D:=I h;obtain⟨X,Y,rfl⟩:=jt h;clear z y h;go_wp2;go_ret;exact⟨s,.inr ⟨K,_,F.o,rfl,E.o,D.o⟩⟩
variable{C:List Value}
def Co(e:w.ownsRow (n+1) m k x i C)(d:Value):(w.setCell (A n 0) d).ownsRow (n+1) m k x i C:=e.kept (qQ w n 0 d) (by
  rcases h:x.ownBlock with _|g
  ·exact .inl rfl
  ·refine .inr (fun m=>?_);have:=(e.lt g h).1;injection m with m
   omega)
def Ol(b:V7)(w P E:Nat)(t:V')(cv:Value)(y:Nat)(D:Nat->Value)(C:Nat->Nat->List W6)(B:Nat->Nat->W6)(z:Nat->Nat->Value)(pre:B8)(i:List W9)(c:Nat)(a:W)
  (O:K4 b w P E a t cv y D C B z)(U:c<b.U.length)(X:pre.length<=20)(Y:(jh i (ji b.U c).key).length<=1000)(m n o q:Nat)
  (H:a.heap[m]?=some (.cells t 120 (0,0)))(K:a.cell? (A n 0)=some (N c))(L:a.cell? (A o 0)=some (S (jh i (ji b.U c).key)))(M:a.cell? (A q 0)=some (S pre)):C' 68 #[.func (.func 163) #[] #[(Q m 0),(Q n 0),(Q o 0),(Q q 0)]] a fun g w'=>Below a.heap.size a w' /\
   ((jP pre i (ji b.U c).kind (ji b.U c).key c (some []) (qp b) b.ae=none/\g=.returned (.tuple #[.slice none 0 0,.bool false]))\/∃e v,jP pre i (ji b.U c).kind (ji b.U c).key c (some []) (qp b) b.ae=some e/\g=.returned (.tuple #[v,.bool true])/\(∀c∈e,qI c)/\w'.ownsRow a.heap.size 58 3 v e.length (jL e)):=by
 have b4:∀(G:Fn) (first F:V') (a:W),(Instr.makeFunc G first F).run Tryz.prog a=.ok (.func G first F) a:=fun _ _ _ _=>rfl;have h:Below a.heap.size a (a.alloc (Obj.cells #[Value.bool false] 4)):=(k8 _ _).alloc (aA _) _;have s:=I (FA b w P E t cv y D C B z pre i c (a.alloc (Obj.cells #[Value.bool false] 4)) (O.j h) U X Y m n o q (jd h H) (jf _ K) (jf _ L) (jf _ M));clear O U X Y H K L M;generalize jP pre i (ji b.U c).kind (ji b.U c).key c (some []) (qp b) b.ae=bv at *;go_enter_defers Tryz.func68,Tryz.ntmps68
 go_wp2_with fail;refine s.o.mono ?_;rintro g d ⟨j,ho⟩;have k:d.cell? (A a.heap.size 0)=some (.bool false):=(j.cell (p:=A a.heap.size 0) (by show a.heap.size<(a.alloc _).heap.size;simp)).trans (kF ..);have ac:d.frozen? (A a.heap.size 0)=false:=(j.frozen (p:=A a.heap.size 0) (by show a.heap.size<(a.alloc _).heap.size;simp)).trans (World.frozen?_alloc_at _ _ _ _ rfl);have x:=I (h.trans (j.mono h.size));have bX:a.heap.size<d.heap.size:=aZ d _ k;rcases ho with⟨V,rfl⟩|⟨e,v,hu,rfl,Z,l⟩
 ·have Hn:=I V;clear V j h s;go_wp2;refine l9 (f:=129) (args:=#[(Q a.heap.size 0)]) (by simp) (by simp[go_sem]) ?_;refine(YR (A a.heap.size 0) false 9 _ [] _ k ac).mono ?_;rintro g u' bi ⟨rfl,rfl,rfl⟩;have u:=cB d (A a.heap.size 0) (.bool false) k;have r:=I (x.o.setCell (p:=A a.heap.size 0) (aA _) (.bool false));generalize d.setCell _ _=K0 at *;simp[Leaves,settle,results,Tryz.results68,go_sem,u];exact⟨r.o,Hn.o⟩
 ·have Hu:=I hu;have be:=I Z;have ap:J (d.ownsRow (a.heap.size+1) 58 3 v e.length (jL e)):=by
   have g:(a.alloc (Obj.cells #[Value.bool false] 4)).heap.size=a.heap.size+1:=(by simp);rw[g]at l;exact l
  obtain⟨va,vc,rfl⟩:=jt l;clear hu Z l j h s;go_wp2;refine l9 (f:=129) (args:=#[(Q a.heap.size 0)]) (by simp) (by simp[go_sem]) ?_;refine(SM (A a.heap.size 0) true _ ?_ ?_).mono ?_
  ·exact cB d (A a.heap.size 0) (.bool true) k
  ·simp[ac]
  rintro g u' bi ⟨rfl,rfl,rfl⟩;have T:=cB d (A a.heap.size 0) (.bool true) k;have u:=cB _ (A a.heap.size 0) (.bool true) T;have r:=I ((x.o.setCell (p:=A a.heap.size 0) (aA _) (.bool true)).setCell (p:=A a.heap.size 0) (aA _) (.bool true));have am:=I (jQ (Co (Co ap.o (.bool true)) (.bool true)) (b':=a.heap.size) (Nat.le_succ _));clear T;generalize (d.setCell _ _).setCell _ _=K0 at *;simp[Leaves,settle,results,Tryz.results68,go_sem,u];exact⟨r.o,e,Hu.o,be.o,am.o⟩
def Ae(a:V7)(ce P d2:Nat)(o:V')(cv:Value)(Kb:Nat)(d1:Nat->Value)(Qp:Nat->Nat->List W6)(Qm:Nat->Nat->W6)(Pv:Nat->Nat->Value)(pre:B8)(ra:O')(eq:Nat)(b:List W9)(c:Nat)(d:W)
  (D:K4 a ce P d2 d o cv Kb d1 Qp Qm Pv)(hc:c<a.U.length)(eg:pre.length<=20)(hr:xD b=true)(e2:b.length<=maxLen)(hl:U2 d ra b):C' 102 #[.agg o,N c,S pre,.slice ra b.length eq] d fun H j=>Below d.heap.size d j /\
   ∃v,H=.returned (.tuple #[N (qq pre b a c).state,v])/\(∀y∈(qq pre b a c).cells,qI y)/\j.ownsRow d.heap.size 58 3 v (qq pre b a c).cells.length (jL (qq pre b a c).cells):=by
 have em:(jh b (ji a.U c).key).length<=1000:=by
  cases hh:jG b (ji a.U c).key with
  | true=>rw[JB hr hh];decide
  | false=>rw[(Xa hr).2 hh];decide
 have u:=D.small _ (show ji a.U c∈a.U by rw[xP hc];exact aJ _);have eM:=u.key.1;have eP:=u.key.2;have er:J ((ji a.U c).key≠0->jG b (ji a.U c).key=false->(qq pre b a c).state=1/\(qq pre b a c).cells=[]):=fun e f=>by
  unfold qq;rw[aQ ⟨by omega,f⟩];exact⟨rfl,rfl⟩
 have co:J (((ji a.U c).key=0\/jG b (ji a.U c).key=true)->jP pre b (ji a.U c).kind (ji a.U c).key c (some []) (qp a) a.ae=none->(qq pre b a c).state=2/\(qq pre b a c).cells=[]):=fun e f=>by
  unfold qq;rw[aL (by rintro⟨h3,K⟩;rcases e with e|e;omega;rw[e]at K;cases K),f];exact⟨rfl,rfl⟩
 have da:J (∀C,((ji a.U c).key=0\/jG b (ji a.U c).key=true)->jP pre b (ji a.U c).kind (ji a.U c).key c (some []) (qp a) a.ae=some C->(qq pre b a c).state=0/\(qq pre b a c).cells=C):=fun C e f=>by
  unfold qq;rw[aL (by rintro⟨h3,K⟩;rcases e with e|e;omega;rw[e]at K;cases K),f];exact⟨rfl,rfl⟩
 have V:=I (fun j (hb:Below d.heap.size d j) B2 h0 e f h3=>Ol a ce P d2 o cv Kb d1 Qp Qm Pv pre b c j (D.j hb) hc eg em d.heap.size (d.heap.size+1) B2 (d.heap.size+1+1) h0 e f h3);have es:=I (fun j (q:U2 j ra b)=>Zt ra eq b (ji a.U c).key j e2 q);have ds:=I D.inf;obtain⟨cb,cc,rfl,e4,k0,k1,k2,k3⟩:=Ec D.U hc;have cs:=I (fun j=>Yn o (some (A cb 0)) a.U.length cc j D.kq);have e5:(c:Int)<(a.U.length:Int):=by omega
 have Hl:=I hl;clear D eg hr em u hl k0 k1 k3 eM eP;generalize qq pre b a c=FD at *;generalize jP pre b (ji a.U c).kind (ji a.U c).key c (some []) (qp a) a.ae=e3 at *;generalize jh b (ji a.U c).key=w at *;generalize jG b (ji a.U c).key=has at *;generalize (ji a.U c).key=key at *;generalize a.U.length=n at *;obtain⟨b4,eS,d7,d8,ea⟩:=OG d o 120 #[N c] 3 #[S pre] 9;have U:=I (jf (.cells #[S pre] 9) (jf (.cells #[N c] 3) (jf (.cells o 120) k2)));clear k2;go_enter Tryz.func102,Tryz.ntmps102;go_upto_region 1 with fail;have ap:=I b4;have am:=I d7;have bi:=I d8;have dW:=I ea;have dd:=I (Hl.o.j b4);clear b4 d7 d8 ea eS;generalize ((d.alloc _).alloc _).alloc _=W0 at *;have m:J (W0.cell? (A (d.heap.size+1) 0)=some (N c)):=by show _=_;rw[jb bi.o];rfl
 refine k9 (S:=fun j=>j.heap[d.heap.size]?=some (.cells o 120 (0,0))/\j.cell? (A (d.heap.size+1) 0)=some (N c)/\j.cell? (A cb (c*4+2))=some (N key)) (by kernel_rfl) ?_ (fun d4=>?_)
 ·exact⟨am.o,m.o,U.o⟩
 refine kO (i:=0) (oi:=_) (v:=.agg o) rfl (by kernel_rfl) (by kernel_rfl) (by kernel_rfl) (fun _ _ _ q=>q) (fA ⟨by rfl,fun d eC=>?_⟩) (by assumption) ?_
 ·have e1:=ki (P:=Tryz.prog) d _ 120 120 o (0,0) _ eC.1 Tryz.underlying120 rfl ds.o;unfold execOp;simp[cK,bL,Act.eval,Instr.loadAt,Instr.sureAddr,dF,dE,cV,e1]
 simp only[jA,jB,jC,Act.put,jD,jE,jF];refine tk 2 (N c) ?_;simp only[jA,jB,jC,Act.put,jD,jE,jF];refine rd 1 (fun ev hK=>?_);simp only[jA,jB,jC];go_simp;go_at_call 101
 refine(cs.o _).mono ?_;rintro H w1 ⟨rfl,d5⟩;have s:=jg d5;have dr:J (w1.heap[d.heap.size]?=some (.cells o 120 (0,0))/\w1.cell? (A (d.heap.size+1) 0)=some (N c)/\w1.cell? (A cb (c*4+2))=some (N key)):=⟨jd s am.o,(s.cell (p:=A (d.heap.size+1) 0) (aZ W0 _ m.o)).trans m.o,(s.cell (p:=A cb (c*4+2)) (aZ W0 _ U.o)).trans U.o⟩
 have be:=I (ap.o.trans (s.mono ap.o.size));have dl:=I (dd.o.j s);have d0:=I (jd s dW.o);have dT:=I (jd s bi.o);have dv:=I (jd s am.o);clear d5 s
 try go_wp2_with fail
 refine hK.out _ _ dr.o (fun d4=>?_);clear hK ev
 try simp only[jA,jB,jC,Act.put,jD,jE,jF]
 refine tk 3 (Q cb (c*4)) ?_;refine tk 4 (Q cb (c*4+2)) ?_;refine tk 5 (N key) ?_;refine tk 6 (N key) ?_;simp only[jA,jB,jC,Act.put,jD,jE,jF];refine kp (by kernel_rfl) ?_ _;clear d4 dr m U am bi dW dd ap cs ds;have e6:∀(fn:Fn) (first d3:V') (d:W),(Instr.makeFunc fn first d3).run Tryz.prog d=.ok (.func fn first d3) d:=fun _ _ _ _=>rfl;go_wp2_with fail;refine(es.o w1 dl.o).mono ?_;rintro H l ⟨rfl,L⟩;obtain⟨M,e0,_,ec⟩:=jJ l #[S w] 9;have ci:=I (be.o.trans (L.mono be.o.size));have k:=I (ci.o.trans (M.mono ci.o.size));have X:=I (jd M (jd L dv.o));have Y:=I (jd M (jd L dT.o));have Z:=I (jd M (jd L d0.o));have ac:=I ec;clear L M e0 ec dv dT d0 dl be;by_cases cd:key≠0/\has=false
 ·obtain⟨x,rfl⟩:=cd;obtain⟨e,f⟩:=er.o x rfl;have r:=I e;have g:=I f;have eR:(key !=0)=true:=by rw[eI];exact x
  clear e f x;go_wp2;go_ret2;refine⟨k.o,.slice none 0 0,by rw[r.o];rfl,(fun y h=>by rw[g.o]at h;cases h),by rw[g.o];exact kg _ _ _ _⟩
 ·have d6:key=0\/has=true:=by
   by_cases q:key=0
   ·exact .inl q
   ·right;cases has with
    | true=>rfl
    | false=>exact absurd ⟨q,rfl⟩ cd
  have G:=I d6;clear cd d6;by_cases x:key=0
  ·subst x;go_wp2_with fail;have m:J ((l.alloc (.cells #[S w] 9)).cell? (A (d.heap.size+1) 0)=some (N c)):=by show _=_;rw[jb Y.o];rfl
   have E:J ((l.alloc (.cells #[S w] 9)).cell? (A (d.heap.size+1+1) 0)=some (S pre)):=by show _=_;rw[jb Z.o];rfl
   have F:J ((l.alloc (.cells #[S w] 9)).cell? (A l.heap.size 0)=some (S w)):=by show _=_;rw[jb ac.o];rfl
   refine(V.o _ k.o l.heap.size X.o m.o F.o E.o).mono ?_;clear X Y Z ac m E F V;generalize l.alloc _=w3 at *;rintro H w4 ⟨t,⟨O,rfl⟩|⟨C,v,T,rfl,u,B⟩⟩
   ·have z:=I (k.o.trans (t.mono k.o.size));obtain⟨e,f⟩:=co.o G.o O;have r:=I e;have g:=I f;clear e f O t;go_wp2;go_ret2;exact⟨z.o,.slice none 0 0,by rw[r.o];rfl,(fun y h=>by rw[g.o]at h;cases h),by rw[g.o];exact kg _ _ _ _⟩
   ·have z:=I (k.o.trans (t.mono k.o.size));obtain⟨e,f⟩:=da.o C G.o T;have r:=I e;have g:=I f;have bX:=I u;have bv:=I (jQ B k.o.size);obtain⟨va,vc,rfl⟩:=jt B;clear e f T t u B;go_wp2;go_ret2;exact⟨z.o,_,by rw[r.o];rfl,(fun y h=>by rw[g.o]at h;exact bX.o y h),by rw[g.o];exact bv.o⟩
  ·have eR:(key !=0)=true:=(by rw[eI];exact x);have hh:has=true:=by
    rcases G.o with q|q
    ·exact absurd q x
    ·exact q
   subst hh;clear x;go_wp2_with fail;have m:J ((l.alloc (.cells #[S w] 9)).cell? (A (d.heap.size+1) 0)=some (N c)):=by show _=_;rw[jb Y.o];rfl
   have E:J ((l.alloc (.cells #[S w] 9)).cell? (A (d.heap.size+1+1) 0)=some (S pre)):=by show _=_;rw[jb Z.o];rfl
   have F:J ((l.alloc (.cells #[S w] 9)).cell? (A l.heap.size 0)=some (S w)):=by show _=_;rw[jb ac.o];rfl
   refine(V.o _ k.o l.heap.size X.o m.o F.o E.o).mono ?_;clear X Y Z ac m E F V;generalize l.alloc _=w3 at *;rintro H w4 ⟨t,⟨O,rfl⟩|⟨C,v,T,rfl,u,B⟩⟩
   ·have z:=I (k.o.trans (t.mono k.o.size));obtain⟨e,f⟩:=co.o G.o O;have r:=I e;have g:=I f;clear e f O t;go_wp2;go_ret2;exact⟨z.o,.slice none 0 0,by rw[r.o];rfl,(fun y h=>by rw[g.o]at h;cases h),by rw[g.o];exact kg _ _ _ _⟩
   ·have z:=I (k.o.trans (t.mono k.o.size));obtain⟨e,f⟩:=da.o C G.o T;have r:=I e;have g:=I f;have bX:=I u;have bv:=I (jQ B k.o.size);obtain⟨va,vc,rfl⟩:=jt B;clear e f T t u B;go_wp2;go_ret2;exact⟨z.o,_,by rw[r.o];rfl,(fun y h=>by rw[g.o]at h;exact bX.o y h),by rw[g.o];exact bv.o⟩
def GW(a:U1)(v:Value):List Value:=[S a.name,N a.kind,N a.key,N a.state,v]
def Xt(a:Nat->U1)(b:Nat->Value)(n:Nat):List Value:=(List.range n).flatMap fun j=>GW (a j) (b j)
def Vl(a:Nat->U1)(b:Nat->Value)(n:Nat):Xt a b (n+1)=Xt a b n++GW (a n) (b n):=by simp[Xt,cI]
def IK(a:Nat->U1){b Ws:Nat->Value}(c:∀j,j<n->b j=Ws j):Xt a b n=Xt a Ws n:=by
 induction n with
 | zero=>rfl
 | succ n d=>rw[Vl,Vl,d (fun j e=>c j (by omega)),c n (by omega)]
structure U5 (base:Nat) (w:W) (v:Value) (F:Nat->U1) (n:Nat) (Vs:Nat->Value):Prop where
 row:w.ownsRow base 91 5 v n (Xt F Vs n)
 cells:∀j,j<n->w.ownsRow base 58 3 (Vs j) (F j).cells.length (jL (F j).cells)
 small:∀j,j<n->∀x∈(F j).cells,qI x
 apart:∀i j,i<j->j<n->∀a b,(Vs i).ownBlock=some a->(Vs j).ownBlock=some b->a<b
def U5.j{base:Nat}{b:Value}{c:Nat->U1}{n:Nat}{d:Nat->Value}(a:U5 base w b c n d)(e:Below w.heap.size w v):U5 base v b c n d:=⟨jy a.row e,fun j g=>jy (a.cells j g) e,a.small,a.apart⟩
variable{Y:Nat->U1}
def U5.lower{e b:Nat}(a:U5 e w x Y n T)(f:b<=e):U5 b w x Y n T:=⟨jQ a.row f,fun j h=>jQ (a.cells j h) f,a.small,a.apart⟩
def Tryz.bk:(Tryz.prog.info? 91).map (fun a=>(a.zero,a.size,a.bytes))=some (some (.agg #[.string ⟨#[]⟩,N 0,N 0,N 0,.slice none 0 0]),5,64):=by kernel_rfl
def U5.step{a t c:Value}(f:U5 n w a Y m T)(x:∀j,j<m->∀d,(T j).ownBlock=some d->d<k)(s:w.ownsRow k 58 3 c (Y m).cells.length (jL (Y m).cells))(B:n<=k)(E:∀F∈(Y m).cells,qI F)
  (b:w.grownBy v a.ownBlock)(D:v.ownsRow n 91 5 t (m+1) (Xt Y T m++GW (Y m) c)):U5 n v t Y (m+1) (fun j=>if j=m then c else T j):=by
 have l:∀j,j<m->(if j=m then c else T j)=T j:=fun j r=>aL (by omega);have q:(if m=m then c else T m)=c:=aQ rfl;refine⟨?_,?_,?_,?_⟩
 ·rw[Vl,IK Y (Ws:=T) l];show v.ownsRow n _ 5 t (m+1) (Xt Y T m++GW (Y m) (if m=m then c else T m));rw[q];exact D
 ·intro j r;by_cases g:j=m
  ·subst g;show v.ownsRow n _ 3 (if j=j then c else T j) _ _;rw[q];exact jQ (s.kept b (qd s f.row (by decide))) B
  ·rw[l j (by omega)];exact(f.cells j (by omega)).kept b (qd (f.cells j (by omega)) f.row (by decide))
 ·intro j r;by_cases g:j=m
  ·subst g;exact E
  ·exact f.small j (by omega)
 ·intro h j C r d o y z;have p:(if h=m then c else T h).ownBlock=some d:=y;have u:(if j=m then c else T j).ownBlock=some o:=z;rw[l h (by omega)]at p;by_cases g:j=m
  ·subst g;rw[q]at u;have G:=x h (by omega) d p;have H:=(s.lt o u).1;omega
  ·rw[l j (by omega)]at u;exact f.apart h j C (by omega) d o p u
def U5.c4{w l:W}{g b:Nat}(d:U5 n w x Y g T)(i:w.grownBy l (some b))(o:∀a,x.ownBlock=some a->a<b)(m:∀j,j<g->∀a,(T j).ownBlock=some a->a<b):U5 n l x Y g T:=by
 have key:∀{c:Value},(∀a,c.ownBlock=some a->a<b)->c.ownBlock=none\/c.ownBlock≠some b:=fun {c} p=>by
  rcases hv:c.ownBlock with _|q
  ·exact .inl rfl
  ·refine .inr (fun h=>?_);have:=p q hv;injection h with h
   omega
 exact⟨d.row.kept i (key o),fun j k=>(d.cells j k).kept i (key (m j k)),d.small,d.apart⟩
def YN(e:V7)(be P ds:Nat)(k:V')(cv:Value)(Kb:Nat)(dr:Nat->Value)(Qp:Nat->Nat->List W6)(Qm:Nat->Nat->W6)(Pv:Nat->Nat->Value)(pre:B8)(ra:O')(d6:Nat)(g:List W9)(b:W)
  (p:K4 e be P ds b k cv Kb dr Qp Qm Pv)(d4:pre.length<=20)(hr:xD g=true)(e6:g.length<=maxLen)(hl:U2 b ra g):C' 43 #[.agg k,S pre,.slice ra g.length d6] b fun u f=>Below b.heap.size b f/\∃v t,u=.returned v/\U5 b.heap.size f v (qq pre g e) e.U.length t:=by
 obtain⟨i0,hi,fb,fc,fd⟩:=ks Tryz.bk;have fs:=p.n6;have ce:=I (fun c Y f (E:Below b.heap.size b f)=>Ae e be P ds k cv Kb dr Qp Qm Pv pre ra d6 g c f (p.j E) Y d4 hr e6 (hl.j E));have dd:=I p.inf;have ci:J (∀c,(qq pre g e c).name=(ji e.U c).name/\(qq pre g e c).kind=(ji e.U c).kind/\(qq pre g e c).key=(ji e.U c).key):=fun c=>by
  unfold qq;split
  ·exact⟨rfl,rfl,rfl⟩
  ·split<;>exact⟨rfl,rfl,rfl⟩
 have bX:=I (fun c (Y:c<e.U.length) f (E:Below b.heap.size b f)=>Ec (jy p.U E) Y);obtain⟨ca,cc,rfl⟩:=jt p.U;have b4:=I (fun f=>Yn k ca e.U.length cc f p.kq);clear p d4 hr hl;generalize qq pre g e=d at *;generalize e.U.length=n at *;obtain⟨dv,fr,_,d2⟩:=jJ b k 120;have O:=I dv;have U:=I d2;clear dv d2;go_enter Tryz.func43,Tryz.ntmps43;go_upto_region 2 with fail;generalize b.alloc _=W0 at *;go_wp2_with(refine kx rfl 120 (.tmp 3) rfl b.heap.size rfl 120 k (0,0) _ U.o Tryz.underlying120 rfl dd.o ?_);refine(b4.o W0).mono ?_;rintro u w1 ⟨rfl,X⟩;have d7:=I (O.o.trans (X.mono O.o.size));have eC:=I (jd X U.o);clear X b4 U O;go_wp2;go_loopw [7,14] (fun v L wr=>∃(a:Nat) (t:Nat->Value),a<=n/\L=N a/\U5 b.heap.size wr v d a t/\wr.heap[b.heap.size]?=some (.cells k 120 (0,0))/\Below b.heap.size b wr) (fun _ L _=>n-(intOf L).toNat)
 case atStart=>exact⟨0,fun _=>.slice none 0 0,aG _,rfl,⟨kg _ _ _ _,fun j i=>absurd i (by omega),fun j i=>absurd i (by omega),fun L j _ i=>absurd i (by omega)⟩,eC.o,d7.o⟩
 case round=>
  obtain⟨a,t,fn,rfl,Z,hq,V⟩:=hrel;have D:=I Z;have Hq:=I hq;have C:=I V;have ap:=V.size;obtain⟨va,vc,rfl⟩:=jt Z.row;clear Z hq V;by_cases ac:a<n
  ·have fl:(a:Int)<(n:Int):=(by omega);obtain⟨cb,ff,e2,fk,k0,k1,k2,k3⟩:=bX.o a ac wr C.o;injection e2 with hca1 _ hca3
   subst hca1 hca3;have eq:=I (ci.o a);have em:=I (fun f=>ce.o a ac f);clear ci ce bX;generalize (ji e.U a).name=s at *;generalize (ji e.U a).kind=q at *;generalize (ji e.U a).key=r at *;obtain⟨e1,e7,G,e3⟩:=jJ wr #[S s,N q,N r,.slice none 0 0] 61;have x0:=G 0;have x1:=G 1;have x2:=G 2;simp only[cP,bU,bV]at x0 x1 x2;clear G e3;go_upto_region 6 with fail;clear x0 x1 x2 k0 k1 k2 k3 e1 e7;obtain⟨F,e5,_,dT⟩:=QB wr #[S s,N q,N r,.slice none 0 0] 61 #[S s,N q,N r,N 0,.slice none 0 0] 91;have T:=I F;have dl:=I (jd F Hq.o);have da:=I dT;have eg:=I (D.o.j F);clear F dT e5;generalize fa:(wr.alloc _).alloc _=wy at *;clear fa;go_wp2_with(refine kx rfl 120 (.tmp 3) rfl b.heap.size rfl 120 k (0,0) _ dl.o Tryz.underlying120 rfl dd.o ?_);refine(em.o wy (C.o.trans (T.o.mono ap))).mono ?_;rintro u h ⟨y,fe,rfl,d5,am⟩;have bi:=I (T.o.trans (y.mono T.o.size));have eM:=I (jd y dl.o);have w:=I (jd y da.o);have ea:=I (eg.o.j y);have es:=I d5;have cs:=I am;obtain⟨m,o,rfl⟩:=jt am;have c3:h.cell? (A (wr.heap.size+1) 3)=some (N 0):=(by rw[jb w.o];rfl);have c4:h.cell? (A (wr.heap.size+1) 4)=some (.slice none 0 0):=(by rw[jb w.o];rfl);have f3:=kh h (wr.heap.size+1) 3 _ _ w.o;have f4:=kh h (wr.heap.size+1) 4 _ _ w.o;clear y d5 am;go_upto_region 7 with fail;clear c3 c4 f3 f4;have e0:wr.heap.size+1<wy.heap.size:=(aF.1 da.o).1;have h3:=kj h (wr.heap.size+1) 3 _ _ (N (d a).state) w.o;have h4:=kj (h.setCell (A (wr.heap.size+1) 3) (N (d a).state)) (wr.heap.size+1) 4 _ _ (.slice m (d a).cells.length o) h3;have B:=je (qQ h (wr.heap.size+1) 3 (N (d a).state)) (qQ (h.setCell (A (wr.heap.size+1) 3) (N (d a).state)) (wr.heap.size+1) 4 (.slice m (d a).cells.length o));have ev:J (((h.setCell (A (wr.heap.size+1) 3) (N (d a).state)).setCell (A (wr.heap.size+1) 4) (.slice m (d a).cells.length o)).heap[wr.heap.size+1]?=some (.cells #[S s,N q,N r,N (d a).state,.slice m (d a).cells.length o] 91 (0,0))):=h4;have co:J (∀j,j<a->∀l,(t j).ownBlock=some l->l<wr.heap.size+1):=fun j i l x=>by
    have:=((D.o.cells j i).lt l x).2;omega
   have cd:=I (ea.o.c4 B (fun l x=>by have:=(D.o.row.lt l x).2;omega) co.o);have eP:=I (jm B eM.o (by omega));have er:=I (cs.o.kept B (by
    rcases hv:(Value.slice m (d a).cells.length o).ownBlock with _|eS
    ·exact .inl rfl
    ·refine .inr (fun u=>?_);have:=(cs.o.lt eS hv).1;injection u with u
     omega))
   have bv:=I (bi.o.trans (jn B (by omega) bi.o.size));clear h3 h4 B;generalize (h.setCell _ _).setCell _ _=M at *;have K:=cd.o.row;have ft:=bv.o.size;go_wp2_with(first|(refine kx rfl 91 (.tmp 10) rfl (wr.heap.size+1) rfl 91 _ (0,0) _ ev.o Tryz.underlying91 rfl (by kernel_rfl) ?_)|(at_builtin;refine ko _ rfl (.tmp 36) (.tmp 38) 32 rfl b.heap.size 91 i0 (.agg #[.string ⟨#[]⟩,N 0,N 0,N 0,.slice none 0 0]) 5 64 Tryz.underlying32 hi fb fc fd rfl (by decide) _ _ _ rfl (K.alloc _) (A _ 0) 1 1 [S s,N q,N r,N (d a).state,.slice m (d a).cells.length o] rfl rfl ?c1 ?c2 ?c3 ?c4 ?c5 ?_))
   case c1=>exact zf M #[S s,N q,N r,N (d a).state,.slice m (d a).cells.length o] 91 (by simp)
   case c2=>intro fe hu;simp at hu;rcases hu with rfl|rfl|rfl|rfl|rfl<;>rfl
   case c3=>unfold maxLen;omega
   case c4=>omega
   case c5=>simp;omega
   intro v5 w5 d3 H _;have z:Below M.heap.size M (M.alloc (.cells #[S s,N q,N r,N (d a).state,.slice m (d a).cells.length o] 91)):=(k8 _ _).alloc (aA _) _;obtain⟨dW,d0,d1⟩:=eq.o;have ec:=I ((cd.o.j z).step (fun j i l x=>Nat.lt_trans (co.o j i l x) e0) (jy er.o z) (aI ap (by omega)) es.o H (by
    unfold GW;rw[dW,d0,d1];exact d3))
   have eR:=I (jq H (K.alloc _) (jd z eP.o) (by decide));have d8:=I (((C.o.trans (bv.o.mono ap)).trans (z.mono (by omega))).grown H (by simp;omega) (fun a hk=>(K.lt a hk).1));clear d3 H z K dW d0 d1;go_wp2;go_roundw
   ·exact⟨a+1,_,by omega,by go_num,ec.o,eR.o,d8.o⟩
   ·simp[intOf];omega
  ·have e4:a=n:=(by omega);subst e4;clear ac;go_wp2;go_ret;exact⟨C.o,_,t,rfl,D.o⟩
variable{E:List W9}
def Rk{h:Bool}(a:qJ s r E h=(0,some Z)):r.length<=20/\xD E=true/\∃f parts footer,U8 f parts footer Z:=by
 unfold qJ at a;split at a
 ·simp at a
 split at a
 ·simp at a
 rename_i j g;refine⟨by omega,by simpa using g,?_⟩;split at a
 ·simp at a
 rename_i i k;split at a
 ·split at a
  ·simp at a
  ·rename_i e b;refine⟨_,_,_,Zz (b.trans ?_)⟩;split at a
   ·simp at a;rw[a]
   ·split at a
    ·simp at a
    ·split at a
     ·simp at a;rw[a]
     ·simp at a
 ·split at a
  ·simp at a
  ·split at a
   ·simp at a
   ·split at a
    ·simp at a
    ·rename_i e b;simp at a;exact⟨_,_,_,Zz (b.trans (by rw[a]))⟩
abbrev V9:V':=#[S [],S [],S [],S []]
variable{F:TypeId}
def Ub{P:Program}{f:Func}{p q q2:Tmp}(i:f.results=#[.cell p F,.tmp q,.tmp q2])(a:V')(b:W)(g:Nat)(e:V')(c d:Value)
  (k:a.getD p undef=(Q g 0))(m:a.getD q undef=c)(o:a.getD q2 undef=d)(j:(loadVar F (A g 0)).run P b=.ok (.agg e) b):(results f a).run P b=.ok (.tuple #[.agg e,c,d]) b:=by
 have l:a[p]?.getD undef=(Q g 0):=by simpa using k
 have n:a[q]?.getD undef=c:=by simpa using m
 have r:a[q2]?.getD undef=d:=by simpa using o
 simp[results,i,l,n,r,asAddr,j]
def Ww(b a d body:B8)(e:W)(j:b.length<=1000)(k:a.length<=1000)(l:d.length<=5000)(h:body.length<=5002):C' 120 #[S b,S a,S d,S body] e fun f g=>Below e.heap.size e g/\∃p,f=.returned (.tuple #[S p,.bool (qE b a d body).isSome])/\∀q,qE b a d body=some q->p=q:=by
 by_cases r:body.length<2
 ·refine(IW ⟨b.toArray⟩ ⟨a.toArray⟩ ⟨d.toArray⟩ ⟨body.toArray⟩ e (by simpa[ByteArray.size]using r)).mono ?_;rintro f g ⟨rfl,rfl⟩;have o:qE b a d body=none:=by
   unfold qE;rw[aL (by omega)]
  rw[o];exact⟨k8 _ _,[],rfl,fun q c=>by cases c⟩
 ·refine(TQ ⟨b.toArray⟩ ⟨a.toArray⟩ ⟨d.toArray⟩ ⟨body.toArray⟩ e (by simp[ByteArray.size];omega) (by simpa[ByteArray.size]using h) (by simpa[ByteArray.size]using j) (by simpa[ByteArray.size]using k) (by simpa[ByteArray.size]using l)).mono ?_;rintro f g ⟨rfl,m⟩;refine⟨m,zD b a (GX body),?_,?_⟩
  ·have n:Uv b a d body=(qE b a d body).isSome:=by
    rw[<-Vt];unfold qE;by_cases c:zg b a d (zD b a (GX body))=body
    ·rw[aQ ⟨h,by omega,c⟩];simp[c]
    ·rw[aL (fun i=>c i.2.2)];simpa using c
   rw[<-n]
  ·intro q c;unfold qE at c;split at c
   ·injection c
   ·cases c
def GN(E:O')(dd:Nat)(j:List W9)(key:Int)(c b body:B8)(a:W)(hl:U2 a E j)(er:j.length<=maxLen)(d6:(jh j key).length<=1000)(d3:b.length<=1000)(em:c.length<=5000)(es:body.length<=maxLen):C' 89 #[.slice E j.length dd,N key,S c,.agg #[S b,S body]] a fun X u=>Below a.heap.size a u /\
   ∃p,X=.returned (.tuple #[.agg #[S (jh j key),S b,S c,S body],S p,.bool (qE (jh j key) b c body).isSome])/\∀q,qE (jh j key) b c body=some q->p=q:=by
 have ds:J (5002<body.length->qE (jh j key) b c body=none):=fun F=>by
  unfold qE;rw[aL (by omega)]
 have dv:=I (fun u (hb:body.length<=5002)=>Ww (jh j key) b c body u d6 d3 em hb);have dT:=I (fun u (F:U2 u E j)=>JS E dd j key u er F);have Hl:=I hl;obtain⟨co,eq,d4,d5⟩:=QB a #[S b,S body] 167 V9 40;have G:=I co;have ap:=I d4;have b4:=I d5;have dr:=I (hl.j co);have ev:(c.length:Int)<=5000:=by omega
 clear hl d6 d3 co d4 d5 eq;generalize qE (jh j key) b c body=d2 at *;generalize jh j key=d at *;go_enter Tryz.func89,Tryz.ntmps89;go_upto_region 1 with fail;generalize (a.alloc _).alloc _=k at *;have c0:k.cell? (A a.heap.size 0)=some (S b):=by rw[kC k a.heap.size 0 _ _ (0,0) ap.o];rfl
 have c1:k.cell? (A a.heap.size 1)=some (S body):=by rw[kC k a.heap.size 1 _ _ (0,0) ap.o];rfl
 refine k9 (S:=fun u=>u.cell? (A a.heap.size 0)=some (S b)/\u.cell? (A a.heap.size 1)=some (S body)) (by kernel_rfl) ⟨c0,c1⟩ (fun w=>?_);refine tk 0 (.slice E j.length dd) ?_;refine tk 1 (N key) ?_;refine tk 3 (Q a.heap.size 0) ?_;refine tk 4 (S b) ?_;refine tk 5 (S c) ?_;refine tk 6 (Q a.heap.size 1) ?_;refine tk 7 (S body) ?_;simp only[jA,jB,jC,Act.put,jD,jE,jF];refine kB (rs:=[2,9]) (by kernel_rfl) (by simp) ?_;refine km (o:=_) rfl (fun m i=>?_) (km (o:=_) rfl (fun m i=>?_) kz)
 ·simp only[jA,jB,jC];go_simp;go_at_call 81
  refine(dT.o _ (show U2 k.drew E j from(dr.o.j (qD (k8 _ _))))).mono ?_;rintro X e ⟨rfl,ac⟩;have r:=jg ac;have H:=I (G.o.trans (r.mono G.o.size));have y:=I (jd r ap.o);have be:=I (jd r b4.o);clear ac r;have U:e.cell? (A a.heap.size 0)=some (S b):=by rw[kC e a.heap.size 0 _ _ (0,0) y.o];rfl
  have V:e.cell? (A a.heap.size 1)=some (S body):=by rw[kC e a.heap.size 1 _ _ (0,0) y.o];rfl
  try go_wp2_with fail
  refine i.out _ _ ⟨U,V⟩ (fun w=>?_);clear i m
  try simp only[jA,jB,jC,Act.put,jD,jE,jF]
  refine tk 8 (.agg #[S d,S b,S c,S body]) ?_;simp only[jA,jB,jC,Act.put,jD,jE,jF];refine rd 9 (fun m i=>?_);simp only[jA,jB,jC];go_simp
  try go_wp2_with fail
  have T:J ((e.alloc (.cells V9 40)).heap[e.heap.size]?=some (.cells V9 40 (0,0))):=(jJ e V9 40).2.2.2;have M:=I (jo (.cells V9 40) y.o);have cd:=I (jo (.cells V9 40) be.o);have K:=I (H.o.alloc H.o.size (.cells V9 40));have hz:=H.o.size;have d7:=(aF.1 be.o).1;have Y:(e.alloc (.cells V9 40)).cell? (A a.heap.size 0)=some (S b):=by rw[kC _ a.heap.size 0 _ _ (0,0) M.o];rfl
  have Z:(e.alloc (.cells V9 40)).cell? (A a.heap.size 1)=some (S body):=by rw[kC _ a.heap.size 1 _ _ (0,0) M.o];rfl
  refine i.out _ _ ⟨Y,Z⟩ (fun w=>?_);clear i m Y Z
  try simp only[jA,jB,jC,Act.put,jD,jE,jF]
  refine rd 10 (fun m i=>?_);simp only[jA,jB,jC];rw[aQ (by simp[Region.wanted])];refine kL 40 (.tmp 11) (.tmp 22) rfl e.heap.size #[S d,S b,S c,S body] rfl rfl 40 V9 T.o (by kernel_rfl) rfl (by simp[Value.oneCell']) ?_;have h:=jH (e.alloc (.cells V9 40)) e.heap.size #[S d,S b,S c,S body];have l:=I (kr (e.alloc (.cells V9 40)) e.heap.size _ #[S d,S b,S c,S body] 40 (0,0) T.o);have z:=I (jm h M.o (by omega));have C:=I (jm h cd.o (by omega));have s:=I (K.o.trans (jn h (by omega) K.o.size));have f0:((e.alloc (.cells V9 40)).setRow e.heap.size #[S d,S b,S c,S body]).cell? (A a.heap.size 0)=some (S b):=by rw[kC _ a.heap.size 0 _ _ (0,0) z.o];rfl
  have f1:((e.alloc (.cells V9 40)).setRow e.heap.size #[S d,S b,S c,S body]).cell? (A a.heap.size 1)=some (S body):=by rw[kC _ a.heap.size 1 _ _ (0,0) z.o];rfl
  refine i.out _ _ ⟨f0,f1⟩ (fun w=>?_);clear i m f0 f1 h;refine kp (by kernel_rfl) ?_ _;clear w;generalize ci:(e.alloc (.cells V9 40)).setRow e.heap.size #[S d,S b,S c,S body]=f at *;clear ci;generalize bi:e.heap.size=g at l ⊢;clear bi;have a0:f.cell? (A a.heap.size 1)=some (S body):=by rw[kC f a.heap.size 1 _ _ (0,0) z.o];rfl
  have b0:f.cell? (A g 0)=some (S d):=by rw[kC f g 0 _ _ (0,0) l.o];rfl
  have b1:f.cell? (A g 1)=some (S b):=by rw[kC f g 1 _ _ (0,0) l.o];rfl
  have b2:f.cell? (A g 2)=some (S c):=by rw[kC f g 2 _ _ (0,0) l.o];rfl
  have b3:f.cell? (A g 3)=some (S body):=by rw[kC f g 3 _ _ (0,0) l.o];rfl
  clear c0 c1 U V;by_cases D:5002<body.length
  ·have da:(5002:Int)<(body.length:Int):=(by omega);have HN:=I (ds.o D);clear D;go_wp2_with(first|(refine kx rfl 40 (.tmp 11) rfl g rfl 40 #[S d,S b,S c,S body] (0,0) _ l.o Tryz.underlying40 rfl (by kernel_rfl) ?_)|(refine kl rfl 40 (.tmp 8) (.tmp 32) rfl (a.heap.size+1) #[S d,S b,S c,S body] rfl rfl 40 V9 C.o (by kernel_rfl) rfl (by simp[Value.oneCell']) ?_));have h:=jH f (a.heap.size+1) #[S d,S b,S c,S body];have B:=I (kr f (a.heap.size+1) _ #[S d,S b,S c,S body] 40 (0,0) C.o);have x:=I (s.o.trans (jn h (by omega) s.o.size));clear h;generalize f.setRow _ _=n at *;rw[HN.o];exact kk (v:=.tuple #[.agg #[S d,S b,S c,S body],S [],.bool false]) (Ub (p:=8) (q:=9) (q2:=10) rfl _ _ _ _ _ _ rfl rfl rfl (ki (P:=Tryz.prog) n (a.heap.size+1) 40 40 #[S d,S b,S c,S body] (0,0) _ B.o Tryz.underlying40 rfl (by kernel_rfl))) rfl ⟨x.o,[],rfl,fun q F=>by cases F⟩
  ·have da:(body.length:Int)<=5002:=(by omega);have cs:body.length<=5002:=(by omega);clear D;go_wp2_with fail;refine(dv.o f cs).mono ?_;rintro X n ⟨t,pl,rfl,am⟩;have L:=I (s.o.trans (t.mono s.o.size));have ce:=I (jd t l.o);have O:=I (jd t C.o);have bv:=I am;clear t am a0 b0 b1 b2 b3;go_wp2_with(first|(refine kx rfl 40 (.tmp 11) rfl g rfl 40 #[S d,S b,S c,S body] (0,0) _ ce.o Tryz.underlying40 rfl (by kernel_rfl) ?_)|(refine kl rfl 40 (.tmp 8) (.tmp 45) rfl (a.heap.size+1) #[S d,S b,S c,S body] rfl rfl 40 V9 O.o (by kernel_rfl) rfl (by simp[Value.oneCell']) ?_));have h:=jH n (a.heap.size+1) #[S d,S b,S c,S body];have B:=I (kr n (a.heap.size+1) _ #[S d,S b,S c,S body] 40 (0,0) O.o);have x:=I (L.o.trans (jn h (by omega) L.o.size));clear h;generalize n.setRow _ _=w5 at *;exact kk (v:=.tuple #[.agg #[S d,S b,S c,S body],S pl,.bool d2.isSome]) (Ub (p:=8) (q:=9) (q2:=10) rfl _ _ _ _ _ _ rfl rfl rfl (ki (P:=Tryz.prog) w5 (a.heap.size+1) 40 40 #[S d,S b,S c,S body] (0,0) _ B.o Tryz.underlying40 rfl (by kernel_rfl))) rfl ⟨x.o,pl,rfl,bv.o⟩
 ·simp only[jA,jB,jC];go_simp
  try go_wp2_with fail
  have dW:J ((k.alloc (.cells V9 40)).heap[k.heap.size]?=some (.cells V9 40 (0,0))):=(jJ k V9 40).2.2.2;have bX:=I (jo (w:=k) (.cells V9 40) ap.o);have ea:=I (jo (w:=k) (.cells V9 40) b4.o);have dl:=I (G.o.alloc G.o.size (.cells V9 40));have d8:=I (dr.o.j ((k8 _ k).alloc (aA _) (.cells V9 40)));have hz:=G.o.size;have d7:=(aF.1 b4.o).1;have Y:(k.alloc (.cells V9 40)).cell? (A a.heap.size 0)=some (S b):=by rw[kC _ a.heap.size 0 _ _ (0,0) bX.o];rfl
  have Z:(k.alloc (.cells V9 40)).cell? (A a.heap.size 1)=some (S body):=by rw[kC _ a.heap.size 1 _ _ (0,0) bX.o];rfl
  refine i.out _ _ ⟨Y,Z⟩ (fun w=>?_);clear i m
  try simp only[jA,jB,jC,Act.put,jD,jE,jF]
  clear Y Z;generalize eg:k.alloc (.cells V9 40)=WA at *;clear eg;generalize bi:k.heap.size=g at dW ⊢;have ec:=I bi;clear bi;refine rd 2 (fun m i=>?_);simp only[jA,jB,jC];go_simp;go_at_call 81
  refine(dT.o _ (show U2 WA.drew E j from(d8.o.j (qD (k8 _ _))))).mono ?_;rintro X e ⟨rfl,ac⟩;have r:=jg ac;have H:=I (dl.o.trans (r.mono dl.o.size));have y:=I (jd r bX.o);have be:=I (jd r ea.o);have T:=I (jd r dW.o);have M:=y;have cd:=be;have K:=H;clear ac r;have U:e.cell? (A a.heap.size 0)=some (S b):=by rw[kC e a.heap.size 0 _ _ (0,0) y.o];rfl
  have V:e.cell? (A a.heap.size 1)=some (S body):=by rw[kC e a.heap.size 1 _ _ (0,0) y.o];rfl
  try go_wp2_with fail
  refine i.out _ _ ⟨U,V⟩ (fun w=>?_);clear i m
  try simp only[jA,jB,jC,Act.put,jD,jE,jF]
  refine tk 8 (.agg #[S d,S b,S c,S body]) ?_;simp only[jA,jB,jC,Act.put,jD,jE,jF];refine rd 10 (fun m i=>?_);simp only[jA,jB,jC];have eC:a.heap.size+1<g:=by rw[<-ec.o];exact d7
  rw[aQ (by simp[Region.wanted])];refine kL 40 (.tmp 11) (.tmp 22) rfl g #[S d,S b,S c,S body] rfl rfl 40 V9 T.o (by kernel_rfl) rfl (by simp[Value.oneCell']) ?_;have h:=jH e g #[S d,S b,S c,S body];have l:=I (kr e g _ #[S d,S b,S c,S body] 40 (0,0) T.o);have z:=I (jm h M.o (by omega));have C:=I (jm h cd.o (by omega));have s:=I (K.o.trans (jn h (by omega) K.o.size));have f0:(e.setRow g #[S d,S b,S c,S body]).cell? (A a.heap.size 0)=some (S b):=by rw[kC _ a.heap.size 0 _ _ (0,0) z.o];rfl
  have f1:(e.setRow g #[S d,S b,S c,S body]).cell? (A a.heap.size 1)=some (S body):=by rw[kC _ a.heap.size 1 _ _ (0,0) z.o];rfl
  refine i.out _ _ ⟨f0,f1⟩ (fun w=>?_);clear i m f0 f1 h;refine kp (by kernel_rfl) ?_ _;clear w;generalize ci:e.setRow g #[S d,S b,S c,S body]=f at *;clear ci
  skip
  have a0:f.cell? (A a.heap.size 1)=some (S body):=by rw[kC f a.heap.size 1 _ _ (0,0) z.o];rfl
  have b0:f.cell? (A g 0)=some (S d):=by rw[kC f g 0 _ _ (0,0) l.o];rfl
  have b1:f.cell? (A g 1)=some (S b):=by rw[kC f g 1 _ _ (0,0) l.o];rfl
  have b2:f.cell? (A g 2)=some (S c):=by rw[kC f g 2 _ _ (0,0) l.o];rfl
  have b3:f.cell? (A g 3)=some (S body):=by rw[kC f g 3 _ _ (0,0) l.o];rfl
  clear c0 c1 U V;by_cases D:5002<body.length
  ·have da:(5002:Int)<(body.length:Int):=(by omega);have HN:=I (ds.o D);clear D;go_wp2_with(first|(refine kx rfl 40 (.tmp 11) rfl g rfl 40 #[S d,S b,S c,S body] (0,0) _ l.o Tryz.underlying40 rfl (by kernel_rfl) ?_)|(refine kl rfl 40 (.tmp 8) (.tmp 32) rfl (a.heap.size+1) #[S d,S b,S c,S body] rfl rfl 40 V9 C.o (by kernel_rfl) rfl (by simp[Value.oneCell']) ?_));have h:=jH f (a.heap.size+1) #[S d,S b,S c,S body];have B:=I (kr f (a.heap.size+1) _ #[S d,S b,S c,S body] 40 (0,0) C.o);have x:=I (s.o.trans (jn h (by omega) s.o.size));clear h;generalize f.setRow _ _=n at *;rw[HN.o];exact kk (v:=.tuple #[.agg #[S d,S b,S c,S body],S [],.bool false]) (Ub (p:=8) (q:=9) (q2:=10) rfl _ _ _ _ _ _ rfl rfl rfl (ki (P:=Tryz.prog) n (a.heap.size+1) 40 40 #[S d,S b,S c,S body] (0,0) _ B.o Tryz.underlying40 rfl (by kernel_rfl))) rfl ⟨x.o,[],rfl,fun q F=>by cases F⟩
  ·have da:(body.length:Int)<=5002:=(by omega);have cs:body.length<=5002:=(by omega);clear D;go_wp2_with fail;refine(dv.o f cs).mono ?_;rintro X n ⟨t,pl,rfl,am⟩;have L:=I (s.o.trans (t.mono s.o.size));have ce:=I (jd t l.o);have O:=I (jd t C.o);have bv:=I am;clear t am a0 b0 b1 b2 b3;go_wp2_with(first|(refine kx rfl 40 (.tmp 11) rfl g rfl 40 #[S d,S b,S c,S body] (0,0) _ ce.o Tryz.underlying40 rfl (by kernel_rfl) ?_)|(refine kl rfl 40 (.tmp 8) (.tmp 45) rfl (a.heap.size+1) #[S d,S b,S c,S body] rfl rfl 40 V9 O.o (by kernel_rfl) rfl (by simp[Value.oneCell']) ?_));have h:=jH n (a.heap.size+1) #[S d,S b,S c,S body];have B:=I (kr n (a.heap.size+1) _ #[S d,S b,S c,S body] 40 (0,0) O.o);have x:=I (L.o.trans (jn h (by omega) L.o.size));clear h;generalize n.setRow _ _=w5 at *;exact kk (v:=.tuple #[.agg #[S d,S b,S c,S body],S pl,.bool d2.isSome]) (Ub (p:=8) (q:=9) (q2:=10) rfl _ _ _ _ _ _ rfl rfl rfl (ki (P:=Tryz.prog) w5 (a.heap.size+1) 40 40 #[S d,S b,S c,S body] (0,0) _ B.o Tryz.underlying40 rfl (by kernel_rfl))) rfl ⟨x.o,pl,rfl,bv.o⟩
end Go.Proofs.YthhpbhpfagoapaaGreat
