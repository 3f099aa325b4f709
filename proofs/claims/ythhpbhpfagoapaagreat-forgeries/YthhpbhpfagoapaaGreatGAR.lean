import Derived.Test.YthhpbhpfagoapaaGreatGAQ
import Derived.Deep.RegionLawGrows
namespace Go.Proofs.YthhpbhpfagoapaaGreat
set_option linter.all false
set_option maxRecDepth 100000
set_option maxHeartbeats 16000000
open Go.RowKit
theorem AK(b q:Nat)(h g:Value)(j:V6)(a:G8)(plain:B8)(c:W)(z:a.o.length<=90000000)(y:plain.length<=5000)
  (k:b<=c.heap.size)(m:U3 c b q h g j a) :
  C' 218 #[(Q q 0),S plain] c fun e o=>e=.returned (.tuple #[])/\U3 o b q h g j (Qh plain a)/\V8 U6 b c o:=by
 have u:=I m;have s:J (Qh plain a=⟨a.o++[qh (plain.length:Int),plain].flatten,a.log⟩):=by simp[J,Qh]
 have w:=jx (plain.length:Int);clear m;go_enter Tryz.func218,Tryz.ntmps218;go_wp2_with fail;refine(XD (plain.length:Int) c (by omega) (by omega)).mono ?_;rintro e p ⟨rfl,d⟩;have x:([qh (plain.length:Int),plain]:List (B8)).flatten.length=plain.length+2:=by simp[w];omega
 generalize qh (plain.length:Int)=i at *;go_wp2_with fail;obtain⟨f,_,_,v⟩:=jJ p #[S i,S plain] 9;refine(KV b q p.heap.size 2 h g j a [i,plain] _ rfl (by decide) (by omega) ?_ ((u.o.j d).j f) v).mono ?_
 ·have:=d.size;have:=f.size;omega
 rintro e B ⟨rfl,n,l⟩;have r:=I (((Below.ag d k).trans (Below.ag f (aI k d.size))).trans l);have t:=I n;clear n l;go_wp2;go_end0
 exact⟨rfl,by rw[s.o];exact t.o,r.o⟩
theorem jek(c b a plain:B8)(d:W)(f:c.length<=1000)(g:b.length<=1000)(h:a.length<=5000)(i:plain.length<=5000) :
  C' 257 #[S c,S b,S a,S plain] d fun e j=>e=.returned (S (zg c b a plain))/\Below d.heap.size d j :=
 OH ⟨c.toArray⟩ ⟨b.toArray⟩ ⟨a.toArray⟩ ⟨plain.toArray⟩ d (by rw[jT];exact f) (by rw[jT];exact g) (by rw[jT];exact h) (by rw[jT];exact i)
variable{w:W}{n:Nat}{q x y z:Value}{X:V6}
theorem Xn(b:w.heap[n]?=some (.cells (F4 x y z q X) 231 (0,0))) :
  w.cell? (A n 6)=some (N X.draw)/\w.cell? (A n 9)=some q:=⟨(xg b).1.2.2.2.2.1,(xg b).1.2.2.2.2.2.2.2⟩
theorem TW(b:B8)(c:Nat)(a:W)(j:b.length<=1000)(d:a.heap[c]?=some (.cells #[S b] 9 (0,0))) :
  C' 194 #[R c 1 1] a fun e i=>e=.returned (S b)/\Below a.heap.size a i:=by
 have:=Uy [b] c 1 a (by simp) (by simp;omega) (aF.1 d).1 (by
  intro h g;have f:h=0:=by simpa using g
  subst f;rw[jb d];rfl)
 simpa using this
theorem Rw(h q:Nat)(tv:Value)(m:O')(w:Nat)(c:List W9)(j:V6)(a:G8)(key:Int)(plain extra:B8)(k:W)(hs:a.o.length<=90000000)(hg:a.log.length<=60000)(hl:plain.length<=5000)(he:extra.length<=5000)
  (em:0<=j.draw)(eq:j.draw<=65535)(dr:(jh c key).length<=1000)(eC:c.length<=maxLen)(hr:U2 k m c)(hB:h<=k.heap.size)(hp:U3 k h q tv (.slice m c.length w) j a) :
  C' 219 #[(Q q 0),N key,S plain,S extra] k fun d b=>d=.returned (.tuple #[])/\U3 b h q tv (.slice m c.length w) j (JG j.draw (jh c key) extra plain a)/\V8 U6 h k b:=by
 obtain⟨i0,hi,eM,eP,eR⟩:=ks Tryz.ak;have z:=I hp;have Hr:=I hr;clear hp hr;have d1:J (JG j.draw (jh c key) extra plain a=⟨a.o++[qh ((zg (jh c key) (xn j.draw a.log.length) extra plain).length:Int),xn j.draw a.log.length,zg (jh c key) (xn j.draw a.log.length) extra plain].flatten,
   a.log++[⟨jh c key,xn j.draw a.log.length,extra,zg (jh c key) (xn j.draw a.log.length) extra plain⟩]⟩):=by simp[J,JG]
 have HN:J ([qh j.draw,qh (a.log.length:Int)].flatten=xn j.draw a.log.length):=by simp[J,xn]
 have fd:(xn j.draw a.log.length).length<=4:=cO (UI j.draw a.log.length);have fb:=cO (zT (jh c key) (xn j.draw a.log.length) extra plain);have e5:(qh j.draw).length<=2:=cO (jx j.draw);have e6:(qh (a.log.length:Int)).length<=2:=cO (jx (a.log.length:Int));obtain⟨ov,lv,Y,ec,da,V⟩:=z.o;obtain⟨la,lc,rfl⟩:=jt V;have c7:=(xg Y).1.2.2.2.2.2.1;have am:=I Y;have d3:=I da;have d2:=I V;have d5:=I dr;clear Y da V dr;go_enter Tryz.func219,Tryz.ntmps219;go_wp2_with fail;refine(Zt m w c key k eC Hr.o).mono ?_;rintro d w1 ⟨rfl,s⟩;have ds:=d5.o;generalize jG c key=hk at *;generalize bi:jh c key=g at *;have d0:=I bi;clear bi c7;have B:=I (jd s am.o);go_wp2_with fail;generalize bv:qh j.draw=n at *;generalize bX:qh (a.log.length:Int)=o at *;have HA:J (∀b,C' 220 #[N j.draw] b fun d x=>d=.returned (S n)/\Below b.heap.size b x):=by
  intro b;rw[<-bv];exact XD _ b em eq
 have dv:J (∀b,C' 220 #[N a.log.length] b fun d x=>d=.returned (S o)/\Below b.heap.size b x):=by
  intro b;rw[<-bX];exact XD _ b (by omega) (by omega)
 clear bv bX;go_region_held3 (fun b=>b.cell? (A q 6)=some (N j.draw)/\b.cell? (A q 9)=some (.slice la a.log.length lc))
  (first|exact Xn E|exact Xn (jo _ p)|exact Xn p|exact Xn D|exact Xn B.o)
  (first
   | (go_at_call_of 220 (N j.draw);refine(HA.o _).mono ?_;rintro d x ⟨rfl,l⟩;replace l:=jg l;have D:=jd l B.o)
   | (go_at_call 220;refine(dv.o _).mono ?_;rintro d w3 ⟨rfl,M⟩;have p:=jd M D)
   | (go_at_call 194;refine(ZJ [n,o] #[S n,S o] 2 _ _ ?_ rfl rfl ?_ ?_).mono ?_;(first|rfl|simp);decide;(simp;omega);rintro d w4 ⟨rfl,O⟩;have E:=jd O p))
 have F:=s.trans (l.mono s.size);have G:=F.trans (M.mono F.size);have H:=G.trans (O.mono G.size);have ap:=I E;clear D p E s l M O F G;have er:(n++o)=xn j.draw a.log.length:=by rw[<-HN.o];simp
 go_simp;clear er HN;generalize xn j.draw a.log.length=f at *;go_wp2_with fail;refine(jek g f extra plain w4 ds (by omega) he hl).mono ?_;rintro d w5 ⟨rfl,P⟩;generalize ea:zg g f extra plain=body at *;clear ea;have K:=H.trans (P.mono H.size);have d4:=I (jd P ap.o);clear H P;go_wp2_with fail;refine(XD (body.length:Int) w5 (by omega) (by omega)).mono ?_;rintro d w6 ⟨rfl,b4⟩;have L:=K.trans (b4.mono K.size);have e7:(qh (body.length:Int)).length<=2:=cO (jx (body.length:Int));have es:([qh (body.length:Int),f,body]:List (B8)).flatten.length<=body.length+6:=by simp;omega
 generalize qh (body.length:Int)=C at *;clear b4 K;go_wp2_with fail;obtain⟨cd,_,_,ce⟩:=jJ w6 #[S C,S f,S body] 9;have r:=L.trans (cd.mono L.size);refine(KV h q w6.heap.size 3 tv (.slice m c.length w) j a [C,f,body] _ rfl (by decide) (by omega) ?_ (z.o.j r) ce).mono ?_
 ·have:=r.size;omega
 rintro d w8 ⟨rfl,ev,ci⟩;have ac:=I ((Below.ag (T:=U6) r hB).trans ci);have eS:=ac.o.size;have e2:J (⟨g,f,extra,body⟩=(⟨g,f,extra,body⟩:V5)):=rfl;generalize be:a.o++[C,f,body].flatten=e0 at *;have e1:=I be;clear be ce cd r L ci es am B ap d4 z d3 d2;obtain⟨fn,fl,v,_,X,u⟩:=ev;simp only at X u;obtain⟨ff,fk,rfl⟩:=jt u;go_wp2_with fail;have c9:=(xg v).1.2.2.2.2.2.2.2;have fe:q<w8.heap.size:=(aF.1 v).1;have dl:=v;have i:=jo (.cells #[S g] 9) dl;have d6:=(Xn i).2;have y:=I (lx (kX u) (.cells #[S g] 9));have dW:=I (lx (kX X) (.cells #[S g] 9));have eg:h<=w8.heap.size:=aI hB eS
 first|go_region_law (first
   | (refine step_append_lies _ (by rfl) _ _ _ (by rfl) h 40 i0 _ 4 64 Tryz.underlying28 hi eM eP eR rfl (by omega) _ a.log.length (qg a.log) (by rfl) ((ju y.o e).alloc _) (A w9.heap.size 0) 1 1 [S g,S f,S extra,S body] (by rfl) (by rfl) (World.news_of_block (cs:=#[S g,S f,S extra,S body]) (t:=40) (fr:=(0,0)) (kH w9 _)) (by simp[Value.oneCell']) (by omega) (by unfold maxLen;omega) (by omega) (by have:=e.size;simp at *;omega) _ rfl ?_;intro gg cc fs dd U fa fc;have Z:=jq U ((ju y.o e).alloc _) (jo _ (jd e i)) (by decide);have d7:=(xg Z).2 9;have d8:=(Xn Z).2)
   | (go_simp;go_at_call 194;refine(TW g _ _ ds ?_).mono ?_;exact kH _ _;rintro d w9 ⟨rfl,e⟩;have e3:=(Xn (jd e i)).2;have e4:=(Xn (jo (.cells #[S g,S f,S extra,S body] 40) (jd e i))).2))|fail
 all_goals
  have HR:=I (Wj (st:=⟨e0,a.log⟩) (log2:=a.log++[⟨g,f,extra,body⟩]) (jo _ (jd e i)) ec ((ju dW.o e).alloc _) ((ju y.o e).alloc _) (by have:=e.size;simp at *;omega) (by rw[XM];exact dd) (by simp) U);have co:V8 U6 h w8 w9:=V8.b3 (((V8.refl _ _ _).alloc (by simpa using eg) _).trans (Below.ag e (by simp;omega)));have dT:=I ((ac.o.trans co).trans ((Below.ag ((k8 _ _).alloc (aA _) _) (by have:=e.size;simp at *;omega)).trans HR.o.2));clear i c9 d6 v dl X u e dd U Z d7 d8 co;go_wp2;go_end0
  exact⟨rfl,by rw[d0.o,d1.o];exact HR.o.1,dT.o⟩
theorem TZ(i q:Nat)(s:Value)(o:O')(r:Nat)(b:List W9)(j:V6)(d:G8)(key:Int)(sort:UInt8)(g c p:Nat)(plain:B8)(f:W)(M:d.o.length<=90000000)(hg:d.log.length<=60000)(D:plain.length<=5000)
  (be:g<=65535)(ac:c<=65535)(bi:p<=65535)(H:j.pre.length<=20)
  (am:0<=j.draw)(ap:j.draw<=65535)(O:(jh b key).length<=1000)(bv:b.length<=maxLen)(K:U2 f o b)(m:i<=f.heap.size)(E:U3 f i q s (.slice o b.length r) j d) :
  C' 256 #[(Q q 0),N key,zan sort g c p,S plain] f fun k a=>k=.returned (.tuple #[])/\U3 a i q s (.slice o b.length r) j (ZX j b key sort g c p plain d)/\V8 U6 i f a:=by
 have y:=I E;have V:=I K;have Y:=I O;clear E K O;obtain⟨e,b4,l,B⟩:=jJ f #[S [sort],N g,N c,N p] 111;by_cases n:key=0
 ·have u:J (ZX j b key sort g c p plain d=Qh plain d):=by simp[J,ZX,n]
  subst n;go_enter Tryz.func256,Tryz.ntmps256;go_wp2_with fail;refine(AK i q s (.slice o b.length r) j d plain _ M D (aI m e.size) (y.o.j e)).mono ?_;rintro k w1 ⟨rfl,F,C⟩;have t:=I ((Below.ag e m).trans C);have T:=I F;clear F C e l B;go_wp2;refine kk (results_none rfl _ _ _) rfl ?_;exact⟨rfl,by rw[u.o];exact T.o,t.o⟩
 ·have u:J (ZX j b key sort g c p plain d=JG j.draw (jh b key) (jz j.pre sort g c p) plain d):=by simp[J,ZX,n]
  have w:(key==0)=false:=by simp[n]
  have bX:=zL j.pre sort g c p H;have v:=I e;have z:=I (y.o.j e);have X:=I (V.o.j e);have Z:BoxM _ f.heap.size sort g c p:=⟨l 0,l 1,l 2,l 3⟩;clear n l B e;go_enter Tryz.func256,Tryz.ntmps256;go_wp2_with fail;generalize f.alloc _=wb at *;obtain⟨ov,lv,L,_⟩:=z.o;have c5:=(xg L).1.2.2.2.1;obtain⟨x0,x1,x2,x3⟩:=Z;have x:J (∀a,Below a.heap.size a a->C' 171 #[zan sort g c p,S j.pre,.slice none 0 0] a fun k P=>k=.returned (S (jz j.pre sort g c p++[]))/\Below a.heap.size a P):=fun a _=>Kp sort g c p j.pre (.slice none 0 0) [] a be ac bi H (by simp) (UV a);rw[aT]at x;generalize jz j.pre sort g c p=ex at *;go_region_with (first
   | (go_at_call 171;refine(x.o _ (k8 _ _)).mono ?_;rintro k w1 ⟨rfl,h⟩;replace h:=jg h)
   | (go_at_call 219;refine(Rw i q s o r b j d key plain ex _ M hg D (by omega) am ap Y.o bv (X.o.j h) ?_ (z.o.j h)).mono ?_;exact aI m (aI v.o.size h.size);rintro k P ⟨rfl,G,w⟩))
  all_goals
   have t:=I (((Below.ag v.o m).trans (Below.ag h (aI m v.o.size))).trans w);have U:=I G;clear G w h x0 x1 x2 x3 L c5;go_wp2;go_end0
   exact⟨rfl,by rw[u.o];exact U.o,t.o⟩
end Go.Proofs.YthhpbhpfagoapaaGreat
