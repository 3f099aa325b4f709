import Derived.Test.YthhpbhpfagoapaaGreatGAW
import Derived.Test.YthhpbhpfagoapaaGreatGAI
import Derived.Test.YthhpbhpfagoapaaGreatGAU
namespace Go.Proofs.YthhpbhpfagoapaaGreat
set_option linter.all false
set_option maxRecDepth 100000
set_option maxHeartbeats 16000000
open Go.RowKit
variable{K:Int}{D:List Z9}
def jak(b:qi K D=true)(i:∀c∈D,D9 c):(∀c∈D,qI c)/\D.length<=60:=by
 unfold qi at b;simp only[aK,dp,aN,cY]at b;obtain⟨⟨j,h⟩,g⟩:=b;refine⟨fun c d=>?_,h⟩;obtain⟨e,f,_⟩:=i c d;refine⟨e,f,?_⟩;have:=g c d;unfold qV at this;split at this
 ·simp at this;rw[this.2];simp
 ·split at this
  ·simp at this;rw[this];simp
  ·simp at this;exact this.2
def Mh(d:W)(v:Value):Option (List Z9)->Prop
 | none=>∃a b,v=.slice a 0 b
 | some c=>∃a b,v=.slice a c.length b/\T3 d a c
structure D2 (w:W) (a:O') (l:List V5):Prop where
 at_:l≠[]->∃b,a=some (A b 0)/\b<w.heap.size/\∀j (h:j<l.length),
  w.cell? (A b (j*4))=some (S (l[j]).ab)/\w.cell? (A b (j*4+1))=some (S (l[j]).I)/\w.cell? (A b (j*4+2))=some (S (l[j]).extra)/\w.cell? (A b (j*4+3))=some (S (l[j]).body)
variable{a:O'}
def D2.j{d f:W}{r:List V5}(g:D2 d a r)(b:Below d.heap.size d f):D2 f a r:=by
 refine⟨fun q=>?_⟩;obtain⟨e,m,c,n⟩:=g.at_ q;refine⟨e,m,aC c b.size,fun j o=>?_⟩;obtain⟨h,i,k,l⟩:=n j o;exact⟨(b.cell (p:=A e _) c).trans h,(b.cell (p:=A e _) c).trans i,(b.cell (p:=A e _) c).trans k,(b.cell (p:=A e _) c).trans l⟩
variable{u v w:W}{g i k m n:Nat}{q x y z:Value}{U:List V5}
def UO(a:w.ownsRow n 40 4 x m (qg U)):∃c d,x=.slice c U.length d/\D2 w c U:=by
 have p:m=U.length:=by have:=a.1;rw[ZG]at this;omega
 subst p;rcases a.2 with⟨rfl,h⟩|⟨g,d,r,rfl,_,s,_⟩
 ·have:U=[]:=aO h;subst this;exact⟨none,0,rfl,⟨fun q=>absurd rfl q⟩⟩
 ·refine⟨_,_,rfl,⟨fun _=>⟨g,rfl,(a.lt g rfl).2,fun j o=>?_⟩⟩⟩;obtain⟨i,k,l,b⟩:=WC U j o;exact⟨by rw[a.cellAt (j*4) (by omega)];exact i,by rw[a.cellAt (j*4+1) (by omega)];exact k,by rw[a.cellAt (j*4+2) (by omega)];exact l,by rw[a.cellAt (j*4+3) (by omega)];exact b⟩
variable{X:V6}{E:List W9}
def P6.cl(c:P6 X E):(Xu X E).length<=100000:=by
 have:=(c.body (xF X).length).2;rw[aS]at this;unfold Xu Jr;have b:zY X E=qk X E ⟨Jy X.J,[]⟩ (xF X):=rfl;rw[<-b]at this;split
 ·rw[(Ky _ _ _ _ _).2];simp only[Qh];omega
 ·rw[(Ky _ _ _ _ _).2];omega
def CX(j:V6)(a:List W9):0<(Xu j a).length:=by
 unfold Xu Jr;split
 ·rw[(Ky _ _ _ _ _).2];omega
 ·rw[(Ky _ _ _ _ _).2];omega
def Od:DecidableEq V5:=fun a b=>decidable_of_iff (a.ab=b.ab/\a.I=b.I/\a.extra=b.extra/\a.body=b.body) ⟨fun⟨d,e,f,g⟩=>by cases a;cases b;simp_all,fun c=>by subst c;exact⟨rfl,rfl,rfl,rfl⟩⟩
def DY(b:V5)(a:List V5):Decidable (b∈a):=letI:DecidableEq V5:=Od;inferInstance
def Ux(b:V5)(a:List V5):Bool:=@decide (b∈a) (DY b a)
def G0{b:V5}:Ux b U=true↔b∈U:=@gD _ (DY b U)
def E0{b:V5}:Ux b U=false↔¬b∈U:=@cW _ (DY b U)
abbrev P7(a:V5):Value:=.agg #[S a.ab,S a.I,S a.extra,S a.body]
variable{F:TypeId}
def Jc(b:w.heap[n]?=some (.cells #[x,y,z,q] F (0,0))):w.cell? (A n 0)=some x/\w.cell? (A n 1)=some y/\w.cell? (A n 2)=some z/\w.cell? (A n 3)=some q:=⟨by rw[jb b];rfl,by rw[jb b];rfl,by rw[jb b];rfl,by rw[jb b];rfl⟩
def Yc(f:w.heap[n]?=some (.cells #[x,y,z,q] F (0,0)))(a b c d:Value):((((w.setCell (A n 0) a).setCell (A n 1) b).setCell (A n 2) c).setCell (A n 3) d).heap[n]?=some (.cells #[a,b,c,d] F (0,0)):=by
 have h:=kj w n 0 _ F a f;have i:=kj _ n 1 _ F b h;have j:=kj _ n 2 _ F c i;have k:=kj _ n 3 _ F d j;simpa using k
def SV(v:O')(Z:Nat)(b:List V5)(a:V5)(e:W)(hm:b.length<=10000000)(y:D2 e v b):C' 167 #[.slice v b.length Z,P7 a] e fun ac w'=>(∃s,ac=.returned (N s)/\((0<=s/\a∈b)\/(s=-1/\a∉b)))/\Below e.heap.size e w':=by
 obtain⟨o,C,_,x⟩:=jJ e #[S a.ab,S a.I,S a.extra,S a.body] 40;have X:=I (y.j o);have U:=I o;have V:=I x;clear y o x;go_enter Tryz.func167,Tryz.ntmps167;go_wp2;generalize e.alloc (.cells #[S a.ab,S a.I,S a.extra,S a.body] 40)=T at *;generalize B:e.heap.size=px at *;have Y:=I B;clear B;go_loopw [8] (fun r wr=>∃c:Nat,c<=b.length/\r=N c/\a∉b.take c/\Below T.heap.size T wr) (fun r _=>b.length-(intOf r).toNat)
 case atStart=>exact⟨0,aG _,rfl,(by simp),k8 _ _⟩
 case round=>
  obtain⟨c,hk,rfl,D,i⟩:=hrel;have u:=I D;clear D;have t:J (Below e.heap.size e wr):=by show Below e.heap.size e wr;rw[Y.o];exact U.o.trans (i.mono (eN C))
  by_cases p:c<b.length
  ·obtain⟨be,rfl,bi,w⟩:=(X.o.j i).at_ (aE (by omega));obtain⟨g1,g2,g3,g4⟩:=w c p;have g:J (a=b[c]->a∈b):=fun h=>h▸aJ p;have f:J (a≠b[c]->a∉b.take (c+1)):=by
    intro am z;rw[aH p,aX]at z;rcases z with h|h
    ·exact u.o h
    ·simp only[bD,bH,dm]at h;exact am h
   clear w;have E:=(i.block px C).trans V.o;obtain⟨x1,x2,x3,x4⟩:=Jc E;clear E;have bv:(c:Int)<(b.length:Int):=(by omega);have j:=I i;clear i;generalize b[c]=ap at *;obtain⟨F,G,H,K⟩:=a;obtain⟨L,M,O,P⟩:=ap;simp only at g1 g2 g3 g4 x1 x2 x3 x4;by_cases k:F=L
   ·subst k;by_cases l:G=M
    ·subst l;by_cases m:H=O
     ·subst m;by_cases n:K=P
      ·subst n;have d:=I (g.o rfl);clear g f;go_wp2_with fail;go_quiet(fail);go_wp2;go_ret;exact⟨⟨_,rfl,.inl ⟨by omega,d.o⟩⟩,below_drewN t.o nq⟩
      ·have q:(K==P)=false:=(by simpa using n);have d:=I (f.o (by simp[n]));clear g f n;go_wp2_with fail;go_quiet(fail);go_wp2_with fail;go_roundw
       ·exact⟨c+1,by omega,by go_num,d.o,below_drewN j.o nq⟩
       ·simp[intOf];omega
     ·have q:(H==O)=false:=(by simpa using m);have d:=I (f.o (by simp[m]));clear g f m;go_wp2_with fail;go_quiet(fail);go_wp2_with fail;go_roundw
      ·exact⟨c+1,by omega,by go_num,d.o,below_drewN j.o nq⟩
      ·simp[intOf];omega
    ·have q:(G==M)=false:=(by simpa using l);have d:=I (f.o (by simp[l]));clear g f l;go_wp2_with fail;go_quiet(fail);go_wp2_with fail;go_roundw
     ·exact⟨c+1,by omega,by go_num,d.o,below_drewN j.o nq⟩
     ·simp[intOf];omega
   ·have q:(F==L)=false:=(by simpa using k);have d:=I (f.o (by simp[k]));clear g f k;go_wp2_with fail;go_quiet(fail);go_wp2_with fail;go_roundw
    ·exact⟨c+1,by omega,by go_num,d.o,below_drewN j.o nq⟩
    ·simp[intOf];omega
  ·have d:J (a∉b):=by
    have:=u.o;rw[aU (by omega)]at this;exact this
   go_wp2;go_ret;exact⟨⟨_,rfl,.inr ⟨rfl,d.o⟩⟩,t.o⟩
def IY(j:O')(l:Nat)(b:List V5)(a:V5)(c:W)(p:b.length<=10000000)(o:D2 c j b):C' 107 #[.slice j b.length l,P7 a] c fun m q=>m=.returned (.bool (Ux a b))/\Below c.heap.size c q:=by
 obtain⟨k,w,_,n⟩:=jJ c #[S a.ab,S a.I,S a.extra,S a.body] 40;have h:=I (SV j l b a (c.alloc (.cells #[S a.ab,S a.I,S a.extra,S a.body] 40)) p (o.j k));have e:=I k;obtain⟨r,s,t,u⟩:=Jc n;clear o k n r s t u;go_enter Tryz.func107,Tryz.ntmps107;go_wp2_with fail;refine h.o.mono ?_;rintro m y ⟨⟨x,rfl,⟨v,d⟩|⟨rfl,d⟩⟩,f⟩
 ·have i:J (Ux a b=true):=G0.2 d;have g:=I (e.o.trans (f.mono e.o.size));clear d h f;go_wp2;go_ret;exact⟨by rw[i.o];rfl,g.o⟩
 ·have i:J (Ux a b=false):=E0.2 d;have g:=I (e.o.trans (f.mono e.o.size));clear d h f;go_wp2;go_ret;exact⟨by rw[i.o];rfl,g.o⟩
def Jv(b a:List V5):Option V5:=b.find? fun c=>!Ux c a
def ZS:Option V5->Value
 | some a=>.tuple #[P7 a,N 0]
 | none=>.tuple #[P7 ⟨[],[],[],[]⟩,N 11]
def PX{a d:List V5}(k:n<a.length)(g:∀c∈a.take n,c∈d)(h:a[n]∉d):Jv a d=some a[n]:=by
 unfold Jv;have f:a=a.take n++a[n]::a.drop (n+1):=by rw[List.getElem_cons_drop,aY]
 have i:(a.take n).find? (fun c=>!Ux c d)=none:=by
  rw[dU];intro c j;simp[G0.2 (g c j)]
 have e:(a.take n++a[n]::a.drop (n+1)).find? (fun c=>!Ux c d)=some a[n]:=by
  rw[gK,i,List.find?_cons];simp[E0.2 h]
 rw[<-f]at e;exact e
def Mg{c b:List V5}(d:∀a∈c,a∈b):Jv c b=none:=by
 unfold Jv;rw[dU];intro a e;simp[G0.2 (d a e)]
def YS(X a2:O')(b4 Y:Nat)(c f:List V5)(a:W)(hm:c.length<=10000000)(ce:f.length<=10000000)(hl:D2 a X c)(be:D2 a a2 f):C' 45 #[.slice X c.length b4,.slice a2 f.length Y] a fun Z w'=>Z=.returned (ZS (Jv c f))/\Below a.heap.size a w':=by
 obtain⟨o,bi,_,ap⟩:=jJ a #[S [],S [],S [],S []] 40;have Hl:=I (hl.j o);have bX:=I (be.j o);have m:=I o;have U:=I ap;clear hl be o ap;go_enter Tryz.func45,Tryz.ntmps45;go_wp2;generalize a.alloc (.cells #[.string ⟨#[]⟩,.string ⟨#[]⟩,.string ⟨#[]⟩,.string ⟨#[]⟩] 40)=w0 at *;go_loopw [10] (fun K wr=>∃e:Nat,e<=c.length/\K=N e/\(∀k∈c.take e,k∈f)/\Below w0.heap.size w0 wr) (fun K _=>c.length-(intOf K).toNat)
 case atStart=>exact⟨0,aG _,rfl,(by simp),k8 _ _⟩
 case round=>
  obtain⟨e,hk,rfl,ht,n⟩:=hrel;have B:=I ht;have l:=I n;clear ht;by_cases H:e<c.length
  ·obtain⟨b,rfl,co,am⟩:=(Hl.o.j n).at_ (aE (by omega));obtain⟨g1,g2,g3,g4⟩:=am e H;have y:J (c[e]∉f->Jv c f=some c[e]):=fun h=>PX H B.o h;have w:J (c[e]∈f->∀k∈c.take (e+1),k∈f):=by
    intro g k hx;rw[aH H,aX]at hx;rcases hx with h|h
    ·exact B.o k h
    ·simp only[bD,bH,dm]at h;subst h;exact g
   clear am n;have cs:(e:Int)<(c.length:Int):=(by omega);generalize hs:c[e]=b at *;clear hs;go_upto_region 4 with fail;clear g1 g2 g3 g4;obtain⟨ac,bv,_,G⟩:=jJ wr #[S b.ab,S b.I,S b.extra,S b.body] 40;generalize wr.alloc (.cells #[.string ⟨b.ab.toArray⟩,.string ⟨b.I.toArray⟩,.string ⟨b.extra.toArray⟩,.string ⟨b.body.toArray⟩] 40)=w3 at *;have r:=I (l.o.trans (ac.mono l.o.size));have T:=I (IY a2 Y f b w3 ce (bX.o.j r.o));obtain⟨L,M,O,P⟩:=Jc G;have V:=I G;clear G ac;generalize ci:wr.heap.size=px at *;clear ci;go_wp2_with fail;refine T.o.mono ?_;clear L M O P T;rintro Z i ⟨rfl,q⟩;have s:=I (r.o.trans (q.mono r.o.size));obtain⟨L,M,O,P⟩:=Jc ((q.block px bv).trans V.o);have da:px<i.heap.size:=aC bv q.size;clear q V;by_cases g:b∈f
   ·have hd:Ux b f=true:=G0.2 g;have j:=I (w.o g);clear g y w L M O P;go_wp2;go_roundw
    ·exact⟨e+1,by omega,by go_num,j.o,s.o⟩
    ·simp[intOf];omega
   ·have hd:Ux b f=false:=E0.2 g;have j:=I (y.o g);have d:=(s.o.block a.heap.size bi).trans U.o;have z:=I d;obtain⟨y0,y1,y2,y3⟩:=Jc d;have f0:=kh i a.heap.size 0 _ _ d;have f1:=kh i a.heap.size 1 _ _ d;have f2:=kh i a.heap.size 2 _ _ d;have f3:=kh i a.heap.size 3 _ _ d;clear g y w d;have x:=I (Yc z.o (S b.ab) (S b.I) (S b.extra) (S b.body));have t:=I (m.o.trans (s.o.mono m.o.size));have u:=I ((((t.o.setCell (p:=A a.heap.size 0) (aA _) (S b.ab)).setCell (p:=A a.heap.size 1) (aA _) (S b.I)).setCell (p:=A a.heap.size 2) (aA _) (S b.extra)).setCell (p:=A a.heap.size 3) (aA _) (S b.body));go_wp2;generalize (((i.setCell _ _).setCell _ _).setCell _ _).setCell _ _=K0 at *;obtain⟨C,D,E,F⟩:=Jc x.o;exact kk (v:=ZS (some b)) (by simp[results,Tryz.results45,go_sem,C,D,E,F,ZS]) rfl ⟨by rw[j.o],u.o⟩
  ·have cd:e=c.length:=(by omega);subst cd;have j:J (Jv c f=none):=Mg (by have:=B.o;rw[aS]at this;exact this);have d:=(l.o.block a.heap.size bi).trans U.o;have z:=I d;obtain⟨y0,y1,y2,y3⟩:=Jc d;have f0:=kh wr a.heap.size 0 _ _ d;have f1:=kh wr a.heap.size 1 _ _ d;have f2:=kh wr a.heap.size 2 _ _ d;have f3:=kh wr a.heap.size 3 _ _ d;clear d n;have x:=I (Yc z.o (S []) (S []) (S []) (S []));have t:=I (m.o.trans (l.o.mono m.o.size));have u:=I ((((t.o.setCell (p:=A a.heap.size 0) (aA _) (S [])).setCell (p:=A a.heap.size 1) (aA _) (S [])).setCell (p:=A a.heap.size 2) (aA _) (S [])).setCell (p:=A a.heap.size 3) (aA _) (S []));go_wp2;generalize (((wr.setCell _ _).setCell _ _).setCell _ _).setCell _ _=K0 at *;obtain⟨C,D,E,F⟩:=Jc x.o;exact kk (v:=ZS none) (by simp[results,Tryz.results45,go_sem,C,D,E,F,ZS]) rfl ⟨by rw[j.o],u.o⟩
def ZL(pre:B8)(g:List W9)(key:Int)(c:Nat):∀(b:List V1) (a:List W6) (d:List V1) (e:List W6),a.length=b.length ->
  xm pre g key c (b++d) (a++e)=xm pre g key c b a++xm pre g key c d e:=by
 intro b
 induction b with
 | nil=>intro a d e f;rw[aO f];simp[xm]
 | cons j b h=>
  intro a d e f;cases a with
  | nil=>simp at f
  | cons i a=>
   simp only[bF,xm];rw[h a d e (by simpa using f),aD]
def RR(pre:B8)(h:List W9)(key:Int)(c:Nat):∀(b:List V1) (a:List W6),(∀d∈b,d.c≠c)->xm pre h key c b a=[]:=by
 intro b
 induction b with
 | nil=>intro a _;cases a<;>rfl
 | cons d b g=>
  intro a e;cases a with
  | nil=>rfl
  | cons j a=>
   simp only[xm];rw[aL (e d (by simp)),g a (fun i f=>e i (bA _ f))];rfl
def EQ(pre:B8)(b:List W9)(key:Int)(sort:UInt8)(g c p:Nat)(a:W6):V5:=⟨jh b key,a.I,jz pre sort g c p,a.body⟩
def Jd(pre:B8)(a:List W9)(key:Int)(g c:Nat)(f:List W6)(e:W6):List V5:=f.mapIdx (fun b d=>EQ pre a key 80 g c b d)++[EQ pre a key 77 g c 0 e]
def Dg(pre:B8)(i:List W9)(key:Int)(P g c start n:Nat):∀(e:List W6),xm pre i key c (jr P g c start n e.length) e=e.mapIdx (fun l d=>EQ pre i key 80 g c l d):=by
 intro e;have o:∀(a:Nat) (b:List W6),b.length=a->xm pre i key c (jr P g c start n a) b=b.mapIdx (fun l d=>EQ pre i key 80 g c l d):=by
  intro a
  induction a with
  | zero=>intro b f;rw[aO f];rfl
  | succ a m=>
   intro b f;obtain⟨h,d,rfl⟩:∃h d,b=h++[d]:=⟨b.dropLast,b.getLast (by intro j;subst j;simp at f),(ed _).symm⟩;have k:h.length=a:=(by simpa using f);have j:jr P g c start n (a+1)=jr P g c start n a++[⟨80,g,c,a,start+a*P,jv n P a⟩]:=(by simp[jr,cI]);rw[j,ZL _ _ _ _ _ _ _ _ (by simp[jr,k]),m h k,gF]
   congr 1;simp[xm,EQ,k]
 exact o e.length e rfl
def DH(pre:B8)(f:List W9)(key:Int)(a:List W6)(e:W6)(h:a.length=qc (jv n m i) k):xm pre f key g (jl n m k i g) (a++[e])=Jd pre f key i g a e:=by
 unfold jl Jd;rw[<-h,ZL _ _ _ _ _ _ _ _ (by simp[jr]),Dg];simp[xm,EQ]
def Dn{t:List W8}{X7:Nat->Nat->List W6}{e d P g:Nat}(pre:B8)(f:List W9)(key:Int)(c:Nat):∀{a:Nat},(∀b,b<a->V2 t (jl e d P g b) (X7 g b)) ->
  xm pre f key c (jp e d P g a) (xU X7 g a)=if c<a then xm pre f key c (jl e d P g c) (X7 g c)else[]:=by
 intro a
 induction a with
 | zero=>intro _;simp[jp,xU,xm]
 | succ a n=>
  intro j;rw[Qg,JA,ZL _ _ _ _ _ _ _ _ (xj (Kh (fun b m=>j b (by omega)))),n (fun b m=>j b (by omega))];by_cases k:c<a
  ·rw[aQ k,aQ (by omega),RR pre f key c (jl e d P g a) (X7 g a) (fun i h=>by rw[XQ i h];omega),aT]
  ·rw[aL k];by_cases l:c=a
   ·subst l;rw[aQ (by omega)];rfl
   ·rw[aL (by omega),RR pre f key c (jl e d P g a) (X7 g a) (fun i h=>by rw[XQ i h];omega)];rfl
def Ju(pre:B8)(d:List W9)(key:Int)(c:Nat)(b:Nat->Nat->List W6)(a:Nat->Nat->W6)(n:Nat):List V5:=(List.range n).flatMap fun g=>Jd pre d key g c (b g c) (a g c)
def GC(pre:B8)(d:List W9)(key:Int)(c:Nat)(b:Nat->Nat->List W6)(a:Nat->Nat->W6)(n:Nat):Ju pre d key c b a (n+1)=Ju pre d key c b a n++Jd pre d key n c (b n c) (a n c):=by simp[Ju,cI]
def FP{t:List W8}{b:Nat->Nat->List W6}{d:Nat->Nat->W6}{i e h P:Nat}(pre:B8)(k:List W9)(key:Int){c:Nat}(l:c<e):∀{n:Nat},(∀g,g<n->∀a,a<e->V2 t (jl i h P g a) (b g a++[d g a])/\(b g a).length=qc (jv i h g) P) ->
  xm pre k key c (jM i e h P n) (xH (fun g c=>b g c++[d g c]) e n)=Ju pre k key c b d n:=by
 intro n
 induction n with
 | zero=>intro _;rfl
 | succ n o=>
  intro f;rw[XS,JU,ZL _ _ _ _ _ _ _ _ (xj (Rz (X7:=fun g c=>b g c++[d g c]) (fun g m a j=>(f g (by omega) a j).1))),o (fun g m=>f g (by omega)),Dn (t:=t) (X7:=fun g c=>b g c++[d g c]) pre k key c (fun a j=>(f n (by omega) a j).1),aQ l,GC,DH _ _ _ _ _ (f n (by omega) c l).2]
def Eo(pre:B8)(d:List W9)(key:Int)(g c:Nat)(a:List W6)(b:W6):(Jd pre d key g c a b).length=a.length+1:=by simp[Jd]
def Im(key:Int)(g c:Nat)(b:List W6)(d:W6)(a:Nat):List Value:=if h:a<b.length then[S [80],N g,N c,N a,S (jX key b[a]).1,S (jX key b[a]).2]else[S [77],N g,N c,N 0,S (jX key d).1,S (jX key d).2]
def KL(a:Bool):Z9:=⟨a,0,[]⟩
structure H6 (w1 wr:W) (p:Nat) (s:B8) (st:Option B8) (lv:Value) (fl:List Bool):Prop where
 row:wr.ownsRow w1.heap.size 58 3 lv fl.length (jL (fl.map KL))
 spot:qo wr p s st
 grown:w1.grownBy wr (some p)
def DP(a:List Bool):∀c∈a.map KL,D9 c:=by
 intro c b;obtain⟨d,_,rfl⟩:=cM.1 b;exact⟨by simp[KL],by simp[KL],by simp[KL]⟩
variable{s:B8}{M:Option (B8)}
def Fw{b:List Bool}{a:Bool}{o:Obj}(t:n<w.heap.size)(e:H6 w v n s M x (b++List.replicate m a))
  (r:u.ownsRow w.heap.size 58 3 y ((b++List.replicate m a).length+1) (jL ((b++List.replicate m a).map KL)++[.bool a,N 0,S []]))(k:(v.alloc o).grownBy u x.ownBlock):H6 w u n s M y (b++List.replicate (m+1) a):=by
 have g:=e.grown.size;have i:∀j,x.ownBlock=some j->w.heap.size<=j:=fun j f=>(e.row.lt j f).1;rw[VD];generalize b++List.replicate m a=c at *;refine⟨?_,?_,?_⟩
 ·rw[eb,List.map_singleton,RZ,aB];exact r
 ·exact Xs (Jx e.spot (by omega) o) (by simp;omega) k (fun j f=>by have:=i j f;omega)
 ·exact Jt (zW e.grown o) k i
def Sh(n a:Nat)(b:List Bool)(d:Bool)(c:Option B8)(e:¬(b.length<n/\c.isSome=true)):Qo n a b d c=(b,c):=by
 cases a with
 | zero=>rfl
 | succ a=>rw[Qo,aL e]
def US(a:List Bool)(b:Nat):qe (a++List.replicate b false)=qe a+b/\qe (a++List.replicate b true)=qe a:=by
 unfold qe;rw[dI,dI,aB,aB,gh,gh];simp
def Ta(a:List Bool):qe a<=a.length:=du _ _
def Dm(b:Below w.heap.size w v)(e:v.grownBy u (some n))(g:w.heap.size<=n):Below w.heap.size w u:=b.grown e b.size (fun h f=>by simp at f;omega)
def NH(a e:List Bool):∀(v:List Z9),qF (a++e) v=qF a v++qF e (v.drop (qe a)):=by
 induction a with
 | nil=>intro v;simp[qF,qe]
 | cons f a d=>
  intro v;cases f with
  | true=>
   have b:qe (true::a)=qe a:=(by simp[qe]);simp only[bF,qF,b];rw[d]
  | false=>
   have b:qe (false::a)=qe a+1:=(by simp[qe]);cases v with
   | nil=>
    simp only[bF,qF,b];rw[d];simp
   | cons c v=>
    simp only[bF,qF,b];rw[d];simp
def Xq(a:List Bool):∀(v:List Z9),(qF a v).length=a.length:=by
 induction a with
 | nil=>intro v;rfl
 | cons c a b=>
  intro v;cases c with
  | true=>simp[qF,b]
  | false=>cases v<;>simp[qF,b]
def Pi(a:List Bool)(b:qe a=0)(v:List Z9):qF a v=a.map KL:=by
 induction a with
 | nil=>rfl
 | cons e a d=>
  cases e with
  | true=>
   have c:qe (true::a)=qe a:=(by simp[qe]);rw[c]at b;simp only[qF,eo,d b];rfl
  | false=>
   have c:qe (false::a)=qe a+1:=(by simp[qe]);omega
def IU(a:List Bool)(b:Nat)(f:b<a.length)(e:a[b]=false):qe (a.take b)<qe a/\qe (a.take (b+1))=qe (a.take b)+1:=by
 have c:a.take (b+1)=a.take b++[a[b]]:=aH f;have d:qe (a.take (b+1))=qe (a.take b)+1:=by
  rw[c,e];exact(US (a.take b) 1).1
 have g:qe (a.take (b+1))+qe (a.drop (b+1))=qe a:=by
  unfold qe;rw[<-aB,<-dI,aY]
 exact⟨by omega,d⟩
def YL(a:List Bool)(b:Nat)(d:b<a.length)(c:a[b]=true):qe (a.take (b+1))=qe (a.take b):=by
 rw[aH d,c];exact(US (a.take b) 1).2
def Ut(a:List Bool)(v:List Z9)(k:Nat):List Z9:=qF (a.take k) v++(a.drop k).map KL
def UR(a:List Bool)(v:List Z9)(k:Nat):(Ut a v k).length=a.length:=by
 unfold Ut;rw[aB,Xq,cJ,aM,aP];omega
def jbd(a:List Bool)(v:List Z9):Ut a v 0=a.map KL:=by simp[Ut,qF]
def jbz(a:List Bool)(v:List Z9):Ut a v a.length=qF a v:=by simp[Ut]
def jeq(b:List Bool)(v:List Z9)(a:Nat)(c:a<b.length):(Ut b v a)[a]?=some (KL b[a]):=by
 unfold Ut;rw[bM (by rw[Xq,aM];omega),Xq,aM,d9 (by omega),fV,dB,List.getElem?_drop];simp[c]
def WR(a:List Bool)(v:List Z9)(b:Nat)(c:b<a.length)(d:a[b]=true):Ut a v (b+1)=Ut a v b:=by
 unfold Ut;rw[aH c,NH,bK c,d];simp[qF,KL]
def FQ(b:List Bool)(v:List Z9)(a:Nat)(c:a<b.length)(d:b[a]=false)(e:qe (b.take a)<v.length):Ut b v (a+1)=(Ut b v a).set a v[qe (b.take a)]:=by
 unfold Ut;rw[aH c,NH,bK c,d];rw[bI _ _ (by rw[Xq,aM];omega)];rw[bK e];simp[qF,Xq,d9 (eN c)]
def PD(b:List Z9):∀(a:Nat) (c:Z9),a<b.length->(((jL b).set (a*3) (.bool c.null)).set (a*3+1) (N c.int)).set (a*3+2) (S c.text)=jL (b.set a c):=by
 induction b with
 | nil=>intro a c f;simp at f
 | cons i b h=>
  intro a c f;have e:∀d:Z9,∀g:List Z9,jL (d::g)=.bool d.null::N d.int::S d.text::jL g:=by intro d g;simp[jL]
  cases a with
  | zero=>simp[e]
  | succ a=>
   rw[e,fH,e,<-h a c (by simpa using f)];rw[show(a+1)*3=a*3+3 by omega];simp[fH]
def jbq{l:List Z9}{c:Z9}{a:Nat}(e:w.ownsRow n 58 3 (R m l.length k) l.length (jL l))(f:a<l.length):(((w.setCell (A m (a*3)) (.bool c.null)).setCell (A m (a*3+1)) (N c.int)).setCell (A m (a*3+2)) (S c.text)).ownsRow n 58 3 (R m l.length k) l.length (jL (l.set a c)):=by
 rw[<-PD l a c f];exact(((e.stored _ _).1.stored _ _).1.stored _ _).1
def jaw(e:List Bool):∀(v:List Z9),(∀c∈v,D9 c)->∀c∈qF e v,D9 c:=by
 induction e with
 | nil=>intro v _ c a;simp[qF]at a
 | cons h e f=>
  intro v b c a;have d:∀g:Bool,D9 ⟨g,0,[]⟩:=fun g=>⟨by simp,by simp,by simp⟩;cases h with
  | true=>
   simp only[qF,bD]at a;rcases a with rfl|a
   ·exact d true
   ·exact f v b c a
  | false=>
   cases v with
   | nil=>
    simp only[qF,bD]at a;rcases a with rfl|a
    ·exact d _
    ·exact f _ b c a
   | cons j v=>
    simp only[qF,bD]at a;rcases a with rfl|a
    ·exact b _ (by simp)
    ·exact f v (fun i d=>b i (by simp[d])) c a
def Om(d:w.ownsRow n 58 3 (R m i k) i (jL D))(q:D.length=i)(a:Nat)(p:a<i)(c:Z9)(j:D[a]?=some c):w.cell? (A m (a*3))=some (.bool c.null)/\w.cell? (A m (a*3+1))=some (N c.int)/\w.cell? (A m (a*3+2))=some (S c.text)/\w.frozen? (A m (a*3))=false/\w.frozen? (A m (a*3+1))=false/\w.frozen? (A m (a*3+2))=false:=by
 have g:a<D.length:=by omega
 obtain⟨f,h,b⟩:=ZA D a g;have o:D[a]=c:=by rw[aR g]at j;exact gQ j
 rw[o]at f h b;exact⟨by rw[d.cellAt (a*3) (by omega)];exact f,by rw[d.cellAt (a*3+1) (by omega)];exact h,by rw[d.cellAt (a*3+2) (by omega)];exact b,d.frozenAt _,d.frozenAt _,d.frozenAt _⟩
def NI(b:W)(a:B8):qo (b.alloc (Obj.cells #[S a,N 0,Value.bool false] 243)) b.heap.size a (some a):=by
 refine⟨0,false,?_,aG _,by simp⟩;rw[World.alloc];simp
def Ac(i:W)(g f j h:Nat)(d e c:Value):i.grownBy (((i.setCell (A g f) d).setCell (A g j) e).setCell (A g h) c) (some g):=by
 refine⟨rfl,rfl,rfl,by simp,fun a _ l=>?_⟩;have b:a≠g:=fun k=>l (by rw[k]);rw[kA _ (A g h) a c b,kA _ (A g j) a e b,kA _ (A g f) a d b]
def Tc:∀b∈jl n m k i g,b.c=g/\b.many<=m:=by
 intro b a;rcases aX.1 a with a|a
 ·simp only[jr,cM,cF]at a;obtain⟨f,_,rfl⟩:=a;exact⟨rfl,aI (Qz _ _ _).2 (Qz _ _ _).1⟩
 ·simp only[bD,bH,dm]at a;subst a;exact⟨rfl,(Qz _ _ _).1⟩
def VQ:∀b∈jp n m k i g,b.c<g/\b.many<=m:=by
 intro b a;simp only[jp,cU,cF]at a;obtain⟨c,j,a⟩:=a;obtain⟨P,h⟩:=Tc b a;exact⟨by omega,h⟩
def Ie:∀b∈jM n m k i g,b.c<m/\b.many<=k:=by
 intro b a;simp only[jM,cU,cF]at a;obtain⟨P,_,a⟩:=a;exact VQ b a
theorem Cg(l:O')(m:Nat)(j:V6)(r:O')(B:Nat)(b:List W9)(d:W)(x:F6 d l m j)(K:U2 d r b)(L:b.length<=maxLen) :
  C' 137 #[D0 (.slice l j.table.length m) j,.slice r b.length B] d fun w w'=>w=.returned (.bool (Vy j.table b j.table.length&&jG b j.J.R))/\Below d.heap.size d w':=by
 have P:=I x;have U:=I K;have be:=x.len;unfold maxLen at be;clear x K;go_enter Tryz.func137,Tryz.ntmps137;go_wp2;obtain⟨o,bi,_,_⟩:=jJ d #[.slice l j.table.length m,N j.J.group,N j.J.aa,N j.J.R,.bool j.J.told,S j.pre,N j.draw] 26;have V:=I (UC d (.slice l j.table.length m) j 26);have T:=I (P.o.j o);have D:=I (U.o.j o);have k:=I o;clear o;generalize d.alloc _=M at *;go_loopw [14] (fun z wr=>∃a:Nat,a<=j.table.length/\z=N a/\Vy j.table b a=true/\Below M.heap.size M wr) (fun z _=>j.table.length-(intOf z).toNat)
 case atStart=>exact⟨0,aG _,rfl,rfl,k8 _ _⟩
 case round =>
  obtain⟨a,ce,rfl,E,c⟩:=hrel;have u:=I E;clear E;by_cases y:a<j.table.length
  ·obtain⟨bX,ci,rfl,am,H⟩:=(T.o.table.j c).at_ (aE (by omega));obtain⟨g1,Y,Z,v,g4,ca,X,rfl,_⟩:=H a y;clear H;have cd:(a:Int)<(j.table.length:Int):=(by omega);have e:=I (Sp (r:=b) y);have i:J ((decide ((j.table[a]).key=0)||jG b (j.table[a]).key)=false->Vy j.table b j.table.length=false):=by
    intro ac;simp only[Vy,aS,el];exact⟨j.table[a],aJ y,by rw[ac];simp⟩
   go_wp2_with fail;obtain⟨F,bv,G,_⟩:=jJ wr #[S (j.table[a]).name,N (j.table[a]).kind,N (j.table[a]).key,.slice ca (j.table[a]).cells.length X] 61;have C:=G 2;simp only[cP,bU,bV]at C;have n:=c.trans (F.mono c.size);clear G F g1 Y Z g4 c am;generalize wr.alloc _=wb at *;refine(Zt r B b (j.table[a]).key wb L (D.o.j n)).mono ?_;rintro w w2 ⟨rfl,g⟩;have z2:=(g.cell (p:=A wr.heap.size 2) bv).trans C;have f:=n.trans (g.mono n.size);have s:=I (k.o.trans (f.mono k.o.size));clear C n g;generalize jh b (j.table[a]).key=sv at *;cases q:jG b (j.table[a]).key with
   | true =>
    have t:J (Vy j.table b (a+1)=true):=by show _=_;rw[e.o,u.o,q];simp
    clear q e;go_wp2;go_roundw
    ·exact⟨a+1,by omega,by go_num,t.o,f⟩
    ·simp[intOf];omega
   | false =>
    rw[q]at e i;clear q;by_cases h:(j.table[a]).key=0
    ·have t:J (Vy j.table b (a+1)=true):=by show _=_;rw[e.o,u.o];simp[h]
     rw[h]at z2;clear e i h;go_wp2;go_roundw
     ·exact⟨a+1,by omega,by go_num,t.o,f⟩
     ·simp[intOf];omega
    ·have b4:((j.table[a]).key != 0)=true:=(by simp[h]);have O:J (Vy j.table b j.table.length=false):=i.o (by simp[h]);clear e i h;go_wp2;go_ret;exact⟨jI (by rw[O.o];rfl),s.o⟩
  ·have ap:a=j.table.length:=(by omega);subst ap;obtain⟨x0,x1,x2,x3,x4,x5,x6⟩:=V.o.j bi c;clear x0 x1 x2 x4 x5 x6;go_wp2_with fail;refine(Zt r B b j.J.R _ L (D.o.j c)).mono ?_;rintro w w2 ⟨rfl,g⟩;have f:=c.trans (g.mono c.size);have s:=I (k.o.trans (f.mono k.o.size));clear x3 g c f;generalize jh b j.J.R=sv at *;go_wp2;go_ret;exact⟨jI (by rw[u.o];rfl),s.o⟩
def Mb(i:O')(k:Nat)(j:V6)(F:O')(P:Nat)(a:List W9)(d:W)(x:F6 d i k j)(hr:U2 d F a)(am:a.length<=maxLen):C' 75 #[D0 (.slice i j.table.length k) j,.slice F a.length P] d fun f w'=>f=.returned (N (xp j a))/\Below d.heap.size d w':=by
 have K:=I x;have Hr:=I hr;have bv:=x.len;have ac:=x.pre;have bi:=I ac;unfold maxLen at bv ac;clear x hr;have e:J (xp j a=if xk j.table=false then 5 else if UU j=false then 7 else if xD a=false then 1 else if XU j a=true then 8 else 0):=rfl;have g:J (UU j=(qK j.J&&(decide (j.pre.length<=20)&&(decide (0<=j.draw)&&decide (j.draw<=65535))))):=rfl;have be:=I (Sa (j:=j) (r:=a));go_enter Tryz.func75,Tryz.ntmps75;go_wp2_with fail;obtain⟨w,O,_,_⟩:=jJ d #[.slice i j.table.length k,N j.J.group,N j.J.aa,N j.J.R,.bool j.J.told,S j.pre,N j.draw] 26;have M:=I (UC d (.slice i j.table.length k) j 26);have U:=I (K.o.j w);have V:=I (Hr.o.j w);have h:=I w;clear w;generalize d.alloc _=w0 at *;refine(MV i k j.table w0 K.o.len K.o.cap_ U.o.table).mono ?_;rintro f w1 ⟨rfl,n⟩;obtain⟨o,p,q,r,s,t,u⟩:=M.o.j O n;have ap:=I (h.o.trans (n.mono h.o.size));cases E:xk j.table with
 | false=>
  have c:=I E;clear E;go_wp2;go_ret;exact⟨qX (by rw[e.o,c.o];rfl),ap.o⟩
 | true=>
  have c:=I E;clear E;go_wp2_with fail;refine(Iy j.J _).mono ?_;rintro f w2 ⟨rfl,X⟩;have l:=n.trans (X.mono n.size);have G:=I (h.o.trans (l.mono h.o.size));clear o p q r s t u n X;obtain⟨o,p,q,r,s,t,u⟩:=M.o.j O l;cases B:qK j.J with
  | false=>
   have b:J (UU j=false):=by show _=_;rw[g.o,B];rfl
   clear B;go_wp2;go_ret;exact⟨qX (by rw[e.o,c.o,b.o];rfl),G.o⟩
  | true=>
   rw[B]at g;clear B;go_wp2_with fail;refine(NS j.pre _ bi.o).mono ?_;rintro f w3 ⟨rfl,rfl⟩;cases C:decide (j.pre.length<=20)with
   | false=>
    have b:J (UU j=false):=by show _=_;rw[g.o,C];rfl
    clear C;go_wp2;go_ret;exact⟨qX (by rw[e.o,c.o,b.o];rfl),G.o⟩
   | true=>
    rw[C]at g;clear C;go_wp2_with fail;refine(Sq j.draw _).mono ?_;rintro f w3 ⟨rfl,rfl⟩;cases D:(decide (0<=j.draw)&&decide (j.draw<=65535))with
    | false=>
     have b:J (UU j=false):=by show _=_;rw[g.o,D];rfl
     clear D;go_wp2;go_ret;exact⟨qX (by rw[e.o,c.o,b.o];rfl),G.o⟩
    | true=>
     have b:J (UU j=true):=by show _=_;rw[g.o,D];rfl
     clear D;go_wp2_with fail;refine(EP F P a _ am (V.o.j l)).mono ?_;rintro f w3 ⟨rfl,Y⟩;have m:=l.trans (Y.mono l.size);have H:=I (h.o.trans (m.mono h.o.size));clear o p q r s t u l Y;obtain⟨o,p,q,r,s,t,u⟩:=M.o.j O m;cases y:xD a with
     | false=>
      have v:=I y;clear y;go_wp2;go_ret;exact⟨qX (by rw[e.o,c.o,b.o,v.o];rfl),H.o⟩
     | true=>
      have v:=I y;clear y;go_wp2_with fail;refine(Cg i k j F P a _ (U.o.j m) (V.o.j m) am).mono ?_;rintro f w4 ⟨rfl,Z⟩;have T:=I (H.o.trans (Z.mono H.o.size));rw[be.o c.o];clear o p q r s t u m Z;cases z:XU j a with
      | true=>
       have L:=I z;clear z;go_wp2;go_ret;exact⟨qX (by rw[e.o,c.o,b.o,v.o,L.o];rfl),T.o⟩
      | false=>
       have L:=I z;clear z;go_wp2;go_ret;exact⟨qX (by rw[e.o,c.o,b.o,v.o,L.o];rfl),T.o⟩
variable{d:Option Nat}
def V8.cz{i:List TypeId}(b:V8 i n w v)(f:v.grownBy u d)(g:n<=w.heap.size)(m:∀a,d=some a->w.heap.size<=a):V8 i n w u:=by
 have j:∀a,a<w.heap.size->u.heap[a]?=v.heap[a]?:=fun a c=>f.block a (aC c b.size) (fun k=>by have:=m a k.symm;omega);refine⟨f.os.trans b.os,f.tape.trans b.tape,f.output.trans b.output,aI b.size f.size,fun a c=>(j a (by omega)).trans (b.block a c),fun a o c l=>?_⟩;exact(j a (aF.1 c).1).trans (b.other a o c l)
def AT(q:Nat)(e:O')(o:Nat)(m:Value)(j:V6)(n:G8)(f:Nat)(a:W)(b:0<j.table.length)(k:P3 a e j.table)(l:U3 a f q (.slice e j.table.length o) m j n):C' 142 #[(Q q 0)] a fun h p=>h=.returned (N (qv j.table:Int))/\p=a:=by
 obtain⟨z,x,d,_⟩:=l;have c0:=(xg d).1.1;obtain⟨r,y,rfl,v,c⟩:=k.at_ (aE (by omega));obtain⟨_,_,_,B,i,s,t,rfl,w,_⟩:=c 0 b;simp only[eX,dD]at i;have u:(0:Int)<(j.table.length:Int):=by omega
 have g:=I (NZ b);clear c d;go_enter Tryz.func142,Tryz.ntmps142;go_wp2;go_ret;exact⟨qX (by rw[g.o]),rfl⟩
def Tryz.bc:(Tryz.prog.info? 3).map (fun i=>(i.zero,i.size,i.bytes))=some (some (N 0),1,8):=by kernel_rfl
def Vh(a:List Nat)(n:Nat):xA (a++[n])=xA a++[N n]:=by simp[xA]
def MG(q:Nat)(x:O')(y:Nat)(u:O')(w:Nat)(e:List W9)(j:V6)(f:G8)(g h:W)(C:Laid g x y u w j e)(hb:Below g.heap.size g h)
  (hs:f.o.length<=4)(hg:f.log.length=0)(hp:U3 h g.heap.size q (.slice x j.table.length y) (.slice u e.length w) j f):C' 140 #[(Q q 0)] h
   fun K m=>∃v,K=.returned v/\m.ownsRow h.heap.size 3 1 v (qB j e f true (xF j)).length (xA (qB j e f true (xF j))) /\
    U3 m g.heap.size q (.slice x j.table.length y) (.slice u e.length w) j (qk j e f (xF j))/\V8 U6 g.heap.size h m:=by
 obtain⟨i0,hi,ga,gb,gc⟩:=ks Tryz.bc;have Hp:=I hp;have HL:=I C;have H:=I hb;have h1:=C.af.table.ao.1;have d4:=C.af.table.ao.2;obtain⟨⟨Z,be⟩,⟨gg,gi⟩,_⟩:=C.af.a3;have hR:=C.af.table.rows;have es:=C.af.J;simp only[qK,aK,aN]at es;obtain⟨a,hG⟩:∃a:Nat,j.J.group=(a:Int):=⟨j.J.group.toNat,by omega⟩;have ac:j.J.group.toNat=a:=by omega
 have ce:=I ac;have dl:J (xF j=jM (qv j.table) j.table.length a j.J.aa.toNat (qc (qv j.table) a)):=by show _=_;unfold xF jR;rw[ac]
 rw[ac]at Z be;obtain⟨ov,lv,t,d3,_⟩:=hp;have c1:=(xg t).1.2.1;rw[hG]at c1;have fk:=I (AT q x y (.slice u e.length w) j f g.heap.size);have fl:=I (VC (r:=e) C.af.table);generalize d6:qv j.table=d at *;have da:=I d6;generalize d5:j.J.aa.toNat=P at *;have e4:=I d5;clear C hb es hG ac d6 d5;go_enter Tryz.func140,Tryz.ntmps140;go_wp2_with fail;have hq:q<h.heap.size:=(aF.1 t).1;go_region_held3 (fun m=>m.cell? (A q 1)=some (N a))
  (first|exact(L.cell (p:=A q 1) hq).trans c1|exact c1)
  (first
   | (go_at_call 142;refine(fk.o _ (by omega) ((HL.o.table.j H.o).j (Qj _)) (Hp.o.j (Qj _))).mono ?_;rintro K w1 ⟨rfl,rfl⟩)
   | (go_at_call 215;refine(Gn d a _ (by omega) Z (by omega)).mono ?_;rintro K w2 ⟨sv,rfl,z,L⟩;replace L:=jg L;obtain⟨sa,sc,rfl⟩:=jt z))
 have eC:w2.ownsRow h.heap.size 290 2 (.slice sa (qc d a) sc) (qc d a) (Xb d a (qc d a)):=z;have s:=I eC;have cs:=I (Hp.o.j L);have ci:=I (Below.ag (T:=U6) L H.o.size);have gr:=QP (n:=d) Z;have eR:=I (fun b=>JE (n:=d) (size:=a) (i:=b) Z);clear z eC L c1 t hq;generalize qc d a=o at *;go_wp2_with fail;go_loopw [3,17] (fun v E wr=>∃b:Nat,b<=o/\E=N b/\U3 wr g.heap.size q (.slice x j.table.length y) (.slice u e.length w) j (qk j e f (jM d j.table.length a P b))/\wr.ownsRow h.heap.size 3 1 v (qB j e f true (jM d j.table.length a P b)).length (xA (qB j e f true (jM d j.table.length a P b)))/\wr.ownsRow h.heap.size 290 2 (.slice sa o sc) o (Xb d a o)/\V8 U6 g.heap.size h wr) (fun _ E _=>o-(intOf E).toNat)
 case atStart=>exact⟨0,aG _,rfl,cs.o,kg _ _ _ _,s.o,ci.o⟩
 case round=>
  clear cs s ci Hp;obtain⟨b,gw,rfl,U,i,z,r⟩:=hrel;have B:=I U;have ap:=I i;have s:=I z;have Y:=H.o.trans r.below;clear U i z;by_cases ec:b<o
  ·have gt:(b:Int)<(o:Int):=(by omega);obtain⟨sg,rfl,f8,s1,s2⟩:=NQ s.o ec;have ea:b*a<d:=(eR.o b).1 ec;have b4:=B.o;obtain⟨ov,lv,t,d3,_⟩:=b4;have c0:=(xg t).1.1;have hq:q<wr.heap.size:=(aF.1 t).1;have eP:J (∀c (M:G8) (m:W),Below g.heap.size g m->M.o.length<=80000000->M.log.length<=22000->c<j.table.length->U3 m g.heap.size q (.slice x j.table.length y) (.slice u e.length w) j M ->
     C' 216 #[(Q q 0),N b,N c,.agg #[N ((b*a:Nat):Int),N ((min (b*a+a) d:Nat):Int)]] m
      fun K w2=>K=.returned (.tuple #[])/\U3 w2 g.heap.size q (.slice x j.table.length y) (.slice u e.length w) j (qk j e M (jl d a P b c))/\V8 U6 g.heap.size m w2):=by
    intro c M m f9 ho f2 hc f6;have:=SJ q x y u w e j M b c g m HL.o f9 ho f2 (by rw[ce.o,da.o];exact ea) hc f6;rw[ce.o,da.o,e4.o]at this;exact this
   have dd:=I (JU d j.table.length a P b);have eg:=Ui d j.table.length a P b;generalize fw:b*a=kG at *;generalize ft:min (kG+a) d=cd at *;have e7:J (∀k∈jM d j.table.length a P b,k.c<j.table.length/\k.many<=60):=fun k am=>⟨(Ie k am).1,by have:=(Ie k am).2;omega⟩;have gU:=Gc d j.table.length a P b (by omega) be d4;have ds:=I eg;clear fw ft ea eg;go_wp2_with fail;obtain⟨D,gX,_,d8⟩:=jJ wr #[N kG,N cd] 290;have co:=I (r.trans (Below.ag D (by have:=Y.size;omega)));have dr:=I d8;have dT:=I (B.o.j D);have dv:=I (ju ap.o D);have dW:=I (ju s.o D);clear s1 s2 D r f8 d8 Y c0 t;generalize wr.alloc _=wx at *;generalize wr.heap.size=bq at *;go_loopw [3,28] (fun v E V=>∃c:Nat,c<=j.table.length/\E=N c/\U3 V g.heap.size q (.slice x j.table.length y) (.slice u e.length w) j (qk j e f (jM d j.table.length a P b++jp d a P b c))/\V.ownsRow h.heap.size 3 1 v (qB j e f true (jM d j.table.length a P b++jp d a P b c)).length (xA (qB j e f true (jM d j.table.length a P b++jp d a P b c)))/\V.ownsRow h.heap.size 290 2 (R sg o sc) o (Xb d a o)/\V.heap[bq]?=some (.cells #[N kG,N cd] 290 (0,0))/\V8 U6 g.heap.size h V) (fun _ E _=>j.table.length-(intOf E).toNat)
   case atStart=>exact⟨0,aG _,rfl,by simpa[jp]using dT.o,by simpa[jp]using dv.o,dW.o,dr.o,co.o⟩
   case round=>
    clear dT dv dW dr co B ap s;obtain⟨c,gp,rfl,U,i,z,D,r⟩:=hrel;have B:=I U;have s:=I z;have fc:=I D;have Y:=H.o.trans r.below;have d7:∀k∈jM d j.table.length a P b++jp d a P b c,k.c<j.table.length/\k.many<=60:=by
     intro k am;rcases aX.1 am with X|X
     ·exact e7.o k X
     ·exact⟨by have:=(VQ k X).1;omega,by have:=(VQ k X).2;omega⟩
    have f3:=fl.o (jM d j.table.length a P b++jp d a P b c) f d7;have gs:=Rc d a P b c (by omega) be;rw[aB]at f3;have fe:J ((qB j e f true (jM d j.table.length a P b++jp d a P b c)).length<=366):=by
     show _<=_;have e1:=QL j e f d j.table.length a P b;rw[Jz,aB,e1,ds.o,Zr];have:b*j.table.length<=60*6:=cS (by omega) d4;omega
    clear U z D d7;by_cases f1:c<j.table.length
    ·have go:(c:Int)<(j.table.length:Int):=(by omega);have e5:J (qB j e f true (jM d j.table.length a P b++jp d a P b (c+1))=qB j e f true (jM d j.table.length a P b++jp d a P b c)++[(qk j e f (jM d j.table.length a P b++jp d a P b c)).o.length]):=by
      show _=_;rw[JA,<-aD,Jz (l:=jM d j.table.length a P b++jp d a P b c)];have f5:qS true (jM d j.table.length a P b++jp d a P b c)=true:=(by rw[JI,ds.o,Zf]);rw[f5,NE]
     have fa:J (qk j e f (jM d j.table.length a P b++jp d a P b (c+1))=qk j e (qk j e f (jM d j.table.length a P b++jp d a P b c)) (jl d a P b c)):=by
      show _=_;rw[JA,<-aD,Zn]
     have gA:=fe.o;generalize qk j e f (jM d j.table.length a P b++jp d a P b c)=F at *;generalize qB j e f true (jM d j.table.length a P b++jp d a P b c)=gY at *;have b4:=B.o;obtain⟨ov,lv,t,d3,em,f4⟩:=b4;obtain⟨oa,oc,rfl⟩:=jt em;have c8:=(xg t).1.2.2.2.2.2.2.1;have f7:=Y.size;have gT:=r.size;clear t em f4;go_wp2_with(at_builtin;refine ko _ rfl (.tmp 31) (.tmp 37) 82 rfl h.heap.size 3 i0 (N 0) 1 8 Tryz.underlying82 hi ga gb gc rfl (by decide) _ _ _ rfl (i.alloc _) (A _ 0) 1 1 [N F.o.length] rfl rfl ?c1 ?c2 ?c3 ?c4 ?c5 ?_)
     case c1=>exact qr wr #[N F.o.length] 3
     case c2=>intro gZ hu;simp at hu;subst hu;rfl
     case c3=>unfold maxLen;omega
     case c4=>omega
     case c5=>simp;omega
     intro v3 w4 eq G _;have ev:U3 w4 g.heap.size q (.slice x j.table.length y) (.slice u e.length w) j F:=by
      obtain⟨ge,gd,fr,fs,d0,d1⟩:=B.o.j ((k8 _ _).alloc (aA _) (.cells #[N F.o.length] 3));exact⟨ge,gd,jq G (i.alloc _) fr (by decide),fs,d0.kept G (qd d0 (i.alloc _) (by decide)),d1.kept G (qd d1 (i.alloc _) (by decide))⟩
     have bX:=i.alloc (.cells #[N F.o.length] 3);have eM:=(s.o.alloc (.cells #[N F.o.length] 3)).kept G (qd (s.o.alloc (.cells #[N F.o.length] 3)) bX (by decide));have bv:=jq G bX (jo _ fc.o) (by decide);have bi:V8 U6 g.heap.size h w4:=(r.alloc f7 _).cz G H.o.size (fun b hk=>(i.lt b hk).1);have d2:=H.o.trans bi.below;have e0:J (w4.ownsRow h.heap.size 3 1 v3 (qB j e f true (jM d j.table.length a P b++jp d a P b (c+1))).length (xA (qB j e f true (jM d j.table.length a P b++jp d a P b (c+1))))):=by
      show World.ownsRow _ _ _ _ _ _ _;rw[e5.o,Vh,aB];exact eq
     obtain⟨y0,y1⟩:=jcq bv;have fd:=I bv;have fn:=I eM;have ff:=I ev;clear i G eq bX eM bv ev c8 r;go_wp2_with fail;refine(eP.o c F w4 d2 (by omega) (by omega) f1 ff.o).mono ?_;rintro K w5 ⟨rfl,er,O⟩;have e3:=I er;have eS:=I (bi.trans O);have e6:=I (O.owns fn.o (by decide));have fb:=I (O.row fd.o (by decide));have e2:=I (O.owns e0.o (by decide));clear er O y0 y1 bi d2;go_wp2;go_roundw
     ·exact⟨c+1,by omega,by go_num,by rw[fa.o];exact e3.o,e2.o,e6.o,fb.o,eS.o⟩
     ·simp[intOf];omega
    ·have fv:c=j.table.length:=(by omega);subst fv;have HO:=I i;have HK:=I r;clear i r;go_wp2;go_roundw
     ·exact⟨b+1,by omega,by go_num,by rw[dd.o];exact B.o,by rw[dd.o];exact HO.o,s.o,HK.o⟩
     ·simp[intOf];omega
  ·have fz:b=o:=(by omega);subst fz;go_wp2;go_ret;exact⟨_,rfl,by rw[dl.o];exact ap.o,by rw[dl.o];exact B.o,r⟩
def jfd(j:V6)(x:List W9)(b:P6 j x)(d:O')(g:Nat)(e:Value)(places:List Nat)(f:Nat)(a:W)(v:places.length<=360)(s:∀z∈places,z<=80000000)
  (r:P3 a d j.table)(t:a.ownsRow f 3 1 e places.length (xA places)):C' 217 #[.agg #[N (qv j.table:Int),N j.J.group,N j.J.aa,N j.J.R,.bool j.J.told,.slice d j.table.length g,e]] a
   fun i y=>i=.returned (S (qG (qv j.table) j.J j.table places))/\Below a.heap.size a y:=by
 have u:=b.J;simp only[qK,aK,aN]at u;have o:=b.table.rows;have n:=b.table.ao.2;have h:=Fq (qv j.table) j.J.group.toNat j.J.aa.toNat j.J.R.toNat j.J.told d g j.table e places f a o (by omega) (by omega) (by omega) n v s (by
  intro c p;obtain⟨w,q,rfl⟩:=cA.1 p;obtain⟨a1,a2,a3,a4⟩:=b.table.head w q;exact⟨(UM a1).2,by omega,a3,a4⟩) r t
 have k:((j.J.group.toNat:Nat):Int)=j.J.group:=by omega
 have l:((j.J.aa.toNat:Nat):Int)=j.J.aa:=by omega
 have m:((j.J.R.toNat:Nat):Int)=j.J.R:=by omega
 rw[k,l,m]at h;exact h
def AX(a:B8)(b:Nat)(d:W)(k:a.length<=100000)(e:d.heap[b]?=some (.cells #[S a] 9 (0,0))):zad d (R b 1 1) a:=by
 intro j h;have c:=jd h e;have:=Uy [a] b 1 j (by simp) (by simp;omega) (aF.1 c).1 (by
  intro i g;have f:i=0:=by simpa using g
  subst f;rw[jb c];rfl)
 simpa using this
def Et{d e f g h i k:Value}(c:w.heap[n]?=some (.cells #[d,e,f,g,h,i,k] F (0,0)))(l:w.heap[m]?=some (.cells (F4 x y z q X) 231 (0,0))):w.cell? (A n 0)=some d/\w.cell? (A n 1)=some e/\w.cell? (A n 2)=some f/\w.cell? (A n 3)=some g/\w.cell? (A n 4)=some h/\w.cell? (A n 5)=some i/\w.cell? (A n 6)=some k/\w.cell? (A m 5)=some (S X.pre):=⟨by rw[jb c];rfl,by rw[jb c];rfl,by rw[jb c];rfl,by rw[jb c];rfl,by rw[jb c];rfl,by rw[jb c];rfl,by rw[jb c];rfl,(xg l).1.2.2.2.1⟩
def Bc(j:V6)(c:List W9)(a:B8)(b:G8)(f:a.length<=3900):b.o.length<=(Jr j c a b).o.length/\(Jr j c a b).o.length<=b.o.length+4000:=by
 unfold Jr;split
 ·have d:=(Ky j.draw (jh c j.J.R) (jz j.pre 83 0 0 0++a) [] (Qh a b)).1;have e:=Ij a b;rw[d,e];simp only[bJ];omega
 ·have d:=(Ky j.draw (jh c j.J.R) (jz j.pre 70 0 0 0) a b).1;omega
def jav(q:Nat)(f:O')(g:Nat)(p:O')(r:Nat)(b:List W9)(j:V6)(a:G8)(Y:Value)(places:List Nat)(d1:Nat)(k d:W)(v:Laid k f g p r j b)(hb:Below k.heap.size k d)
  (hs:a.o.length<=80000000)(hg:a.log.length<=22000)(e1:places.length<=360)(d7:∀x∈places,x<=80000000)(eR:(qG (qv j.table) j.J j.table places).length<=3900)
  (dr:d.ownsRow d1 3 1 Y places.length (xA places))
  (hp:U3 d k.heap.size q (.slice f j.table.length g) (.slice p b.length r) j a):C' 141 #[(Q q 0),.agg #[N (qv j.table:Int),N j.J.group,N j.J.aa,N j.J.R,.bool j.J.told,.slice f j.table.length g,Y]] d
   fun h e=>h=.returned (.tuple #[])/\U3 e k.heap.size q (.slice f j.table.length g) (.slice p b.length r) j ⟨(Jr j b (qG (qv j.table) j.J j.table places) a).o++(qh (((Jr j b (qG (qv j.table) j.J j.table places) a).o.length-a.o.length:Nat):Int)++[67,70]),(Jr j b (qG (qv j.table) j.J j.table places) a).log⟩/\V8 U6 k.heap.size d e:=by
 have Hp:=I hp;have l:=I v;have Hb:=I hb;have ec:J (∀e,Below d.heap.size d e->C' 217 #[.agg #[N (qv j.table:Int),N j.J.group,N j.J.aa,N j.J.R,.bool j.J.told,.slice f j.table.length g,Y]] e
   fun h B=>h=.returned (S (qG (qv j.table) j.J j.table places))/\Below e.heap.size e B):=fun e hw=>jfd j b v.af f g Y places d1 e e1 d7 ((v.table.j hb).j hw) (ju dr hw)
 obtain⟨pa,pc,rfl,_⟩:=UB dr;generalize es:qG (qv j.table) j.J j.table places=c at *;have d3:=Bc j b c a eR;have P:J (Jr j b c a=if j.J.told=true then JG j.draw (jh b j.J.R) (jz j.pre 83 0 0 0++c) [] (Qh c a)else JG j.draw (jh b j.J.R) (jz j.pre 70 0 0 0) c a):=rfl;have fa:=zL j.pre 83 0 0 0 v.af.pre;have fb:=zL j.pre 70 0 0 0 v.af.pre;have e0:=Ij c a;obtain⟨ov,lv,V,e7,d5,eS⟩:=hp;obtain⟨oa,oc,rfl⟩:=jt d5;have c8:=(xg V).1.2.2.2.2.2.2.1;have hq:q<d.heap.size:=(aF.1 V).1;have eq:=I V;have d0:=I (v.ab j.J.R);clear es dr V d5 eS v hb d7;go_enter Tryz.func141,Tryz.ntmps141;go_wp2_with fail;obtain⟨da,fc,_,dd⟩:=jJ d #[N (qv j.table:Int),N j.J.group,N j.J.aa,N j.J.R,.bool j.J.told,.slice f j.table.length g,.slice pa places.length pc] 117;have bX:=I da;have ds:=jd da eq.o;clear da c8;generalize d.alloc _=wx at *;go_region_held3 (fun e=>e.cell? (A d.heap.size 0)=some (N (qv j.table:Int))/\e.cell? (A d.heap.size 1)=some (N j.J.group)/\e.cell? (A d.heap.size 2)=some (N j.J.aa)/\e.cell? (A d.heap.size 3)=some (N j.J.R)/\e.cell? (A d.heap.size 4)=some (.bool j.J.told)/\e.cell? (A d.heap.size 5)=some (.slice f j.table.length g)/\e.cell? (A d.heap.size 6)=some (.slice pa places.length pc)/\e.cell? (A q 5)=some (S j.pre))
  (first|exact Et Y1 Z1|exact Et dd ds)
  (first
   | (go_at_call 217;refine(ec.o _ bX.o.drew).mono ?_;rintro h w1 ⟨rfl,z⟩;replace z:=jg z;have Y1:=jd z dd;have Z1:=jd z ds))
 have ce:=bX.o.trans (z.mono bX.o.size);have y:=Hb.o.trans (ce.mono Hb.o.size);have dW:=I (Hp.o.j ce);have dT:=I (Below.ag (T:=U6) ce Hb.o.size);have y4:=(Et Y1 Z1).2.2.2.2.1;have e6:=I (l.o.ring.j y);clear Y1 Z1 dd ds z;go_simp;have eP:∀(Z:W),U3 Z k.heap.size q (.slice f j.table.length g) (.slice p b.length r) j (Jr j b c a)->V8 U6 k.heap.size d Z->True:=fun _ _ _=>trivial;clear eP;cases X:j.J.told with
 | true=>
  have C:J (Jr j b c a=JG j.draw (jh b j.J.R) (jz j.pre 83 0 0 0++c) [] (Qh c a)):=by show _=_;rw[P.o,X];rfl
  clear P y4;go_wp2_with fail;refine(AK k.heap.size q (.slice f j.table.length g) (.slice p b.length r) j a c w1 (by omega) (by omega) y.size dW.o).mono ?_;rintro h B ⟨rfl,d6,dl⟩;have eg:=I d6;have ci:=y.trans dl.below;have d8:=I (dT.o.trans dl);clear d6 dl X;go_wp2_with fail;obtain⟨U,_,_,d4⟩:=jJ B #[S c] 9;have d2:=AX c B.heap.size _ (by omega) d4;have co:=ci.trans (U.mono ci.size);have em:=I (eg.o.j U);have ea:=I (d8.o.trans (Below.ag (T:=U6) U ci.size));clear U d4;generalize B.alloc _=Z at *;refine(Kp 83 0 0 0 j.pre (R B.heap.size 1 1) c Z (by decide) (by decide) (by decide) l.o.af.pre (by omega) d2).mono ?_;rintro h w4 ⟨rfl,m⟩;have s:=co.trans (m.mono co.size);have b4:=I (em.o.j m);have ac:=I (ea.o.trans (Below.ag (T:=U6) m co.size));have eM:(jz j.pre 83 0 0 0++c).length<=5000:=by rw[aB];omega
  generalize jz j.pre 83 0 0 0++c=ex at *;clear m d2;go_wp2_with fail;refine(Rw k.heap.size q (.slice f j.table.length g) p r b j (Qh c a) j.J.R [] ex w4 (by rw[e0];omega) (by simp only[Qh];omega) (by decide) eM l.o.af.draw.1 l.o.af.draw.2 d0.o l.o.len (l.o.ring.j s) s.size b4.o).mono ?_;rintro h w5 ⟨rfl,x,w⟩;rw[<-C.o]at x;have am:=I (ac.o.trans w);have t:=s.trans w.below;have cd:=I x;obtain⟨e5,e2,M,_,K,_⟩:=x;obtain⟨e3,e4,rfl⟩:=jt K;have c8:=(xg M).1.2.2.2.2.2.2.1;clear M K w C;generalize E:Jr j b c a=i at *;have bi:=I E;clear E;obtain⟨ev,eC⟩:=d3;have dv:IntKind.i64.wrap ((i.o.length:Int)-(a.o.length:Int))=((i.o.length-a.o.length:Nat):Int):=by rw[kE];omega
  go_wp2_with fail;refine(XD ((i.o.length-a.o.length:Nat):Int) w5 (by omega) (by omega)).mono ?_;rintro h O ⟨rfl,n⟩;have u:=t.trans (n.mono t.size);have er:(qh ((i.o.length-a.o.length:Nat):Int)).length<=2:=cO (jx _);generalize F:qh ((i.o.length-a.o.length:Nat):Int)=D at *;have bv:=I F;clear F;clear dv c8;go_wp2_with fail;obtain⟨o,_,_,G⟩:=jJ O #[S D,S [67,70]] 9;have cs:=u.trans (o.mono u.size);refine(KV k.heap.size q O.heap.size 2 (.slice f j.table.length g) (.slice p b.length r) j i [D,[67,70]] _ rfl (by decide) (by simp;omega) cs.size ((cd.o.j n).j o) G).mono ?_;rintro h w8 ⟨rfl,L,H⟩;have ap:=I (((am.o.trans (Below.ag (T:=U6) n t.size)).trans (Below.ag (T:=U6) o u.size)).trans H);have be:=I L;clear L H n o G;go_wp2;go_end0
  exact⟨rfl,by rw[bi.o,bv.o];simpa using be.o,ap.o⟩
 | false=>
  have C:J (Jr j b c a=JG j.draw (jh b j.J.R) (jz j.pre 70 0 0 0) c a):=by show _=_;rw[P.o,X];rfl
  clear P y4;go_wp2_with fail;refine(Kp 70 0 0 0 j.pre (.slice none 0 0) [] w1 (by decide) (by decide) (by decide) l.o.af.pre (by decide) (UV w1)).mono ?_;rw[aT];rintro h w4 ⟨rfl,m⟩;have s:=y.trans (m.mono y.size);have b4:=I (dW.o.j m);have ac:=I (dT.o.trans (Below.ag (T:=U6) m y.size));generalize jz j.pre 70 0 0 0=ex at *;clear m X;go_wp2_with fail;refine(Rw k.heap.size q (.slice f j.table.length g) p r b j a j.J.R c ex w4 (by omega) (by omega) (by omega) (by omega) l.o.af.draw.1 l.o.af.draw.2 d0.o l.o.len (l.o.ring.j s) s.size b4.o).mono ?_;rintro h w5 ⟨rfl,x,w⟩;rw[<-C.o]at x;have am:=I (ac.o.trans w);have t:=s.trans w.below;have cd:=I x;obtain⟨e5,e2,M,_,K,_⟩:=x;obtain⟨e3,e4,rfl⟩:=jt K;have c8:=(xg M).1.2.2.2.2.2.2.1;clear M K w C;generalize E:Jr j b c a=i at *;have bi:=I E;clear E;obtain⟨ev,eC⟩:=d3;have dv:IntKind.i64.wrap ((i.o.length:Int)-(a.o.length:Int))=((i.o.length-a.o.length:Nat):Int):=by rw[kE];omega
  go_wp2_with fail;refine(XD ((i.o.length-a.o.length:Nat):Int) w5 (by omega) (by omega)).mono ?_;rintro h O ⟨rfl,n⟩;have u:=t.trans (n.mono t.size);have er:(qh ((i.o.length-a.o.length:Nat):Int)).length<=2:=cO (jx _);generalize F:qh ((i.o.length-a.o.length:Nat):Int)=D at *;have bv:=I F;clear F;clear dv c8;go_wp2_with fail;obtain⟨o,_,_,G⟩:=jJ O #[S D,S [67,70]] 9;have cs:=u.trans (o.mono u.size);refine(KV k.heap.size q O.heap.size 2 (.slice f j.table.length g) (.slice p b.length r) j i [D,[67,70]] _ rfl (by decide) (by simp;omega) cs.size ((cd.o.j n).j o) G).mono ?_;rintro h w8 ⟨rfl,L,H⟩;have ap:=I (((am.o.trans (Below.ag (T:=U6) n t.size)).trans (Below.ag (T:=U6) o u.size)).trans H);have be:=I L;clear L H n o G;go_wp2;go_end0
  exact⟨rfl,by rw[bi.o,bv.o];simpa using be.o,ap.o⟩
def Wn(d:Option B8):qC 2 d=([],none)\/∃a b c,d=some (a::b::c)/\qC 2 d=([a,b],some c):=by
 rcases d with _|e
 ·exact .inl rfl
 rcases e with _|⟨a,_|⟨b,c⟩⟩
 ·exact .inl (Zi (.inr (by simp)))
 ·exact .inl (Zi (.inr (by simp)))
 ·refine .inr ⟨a,b,c,rfl,?_⟩;rw[Qc (by decide) (by simp;omega)];rfl
def jcu(a b:UInt8):wrap64 (wrap64 (((⟨#[a,b]⟩:ByteArray)[0]'(by simp[ByteArray.size])).toNat:Int)+wrap64 (256*wrap64 (((⟨#[a,b]⟩:ByteArray)[1]'(by simp[ByteArray.size])).toNat:Int)))=((XT [a,b]:Nat):Int):=by
 have c:=a.toNat_lt;have d:=b.toNat_lt;show wrap64 (wrap64 (a.toNat:Int)+wrap64 (256*wrap64 (b.toNat:Int)))=((a.toNat+256*b.toNat:Nat):Int);generalize a.toNat=e at *;generalize b.toNat=f at *;simp only[wrap64];omega
def EZ(p:Nat)(f:B8)(a:Option B8)(h:W)(r:f.length<=maxLen)(n:qo h p f a):C' 148 #[(Q p 0)] h fun l o=>l=.returned (N ((zp a).1:Int))/\qo o p f (zp a).2/\h.grownBy o (some p):=by
 have q:=I n;clear n;go_enter Tryz.func148,Tryz.ntmps148;go_wp2_with fail;refine(XX p f a 2 _ r (by decide) (by decide) q.o).mono ?_;rintro l v ⟨rfl,g,m⟩;have e:=VU g;have d:=I g;have i:=I m;have c:J (zp a=(XT (qC 2 a).1,(qC 2 a).2)):=rfl;clear g m;rcases Wn a with b|⟨j,k,u,rfl,b⟩
 ·rw[b]at e d c ⊢;simp only[Xw]at e;clear b;go_wp2;go_ret;rw[c.o];exact⟨rfl,d.o,i.o⟩
 ·rw[b]at e d c ⊢;simp only[Xw]at e;clear b;have s:=j.toNat_lt;have t:=k.toNat_lt;go_wp2_with fail;go_quiet(fail);go_wp2;go_ret;rw[c.o];exact⟨qX (jcu j k),d.o,Qq i.o nq⟩
def qL{o:Obj}(f:w.grownBy v (some n))(c:w.heap[m]?=some o)(h:m≠n):v.heap[m]?=some o:=by
 have g:=(aF.1 c).1;rw[f.block m g (by intro b;injection b with b;exact h b)];exact c
def Xd{o:Obj}(c:Obj)(b:w.heap[n]?=some o):(w.alloc c).heap[n]?=some o:=by
 have d:=(aF.1 b).1;rw[(kR w c none).block n d (by simp)];exact b
def Qk(a:W)(q b:Nat)(v:Value):a.grownBy (a.setCell (A q b) v) (some q):=⟨rfl,rfl,rfl,by simp,fun e _ d=>kA a (A q b) e v (fun c=>d (by simp[c]))⟩
def Zo(a:W)(q:Nat)(b:V'):a.grownBy (a.setRow q b) (some q):=⟨rfl,rfl,rfl,by simp,fun e _ d=>kK a q e b (fun c=>d (by rw[c]))⟩
def Ji(a:w.grownBy v (some n))(b:v.grownBy u (some m))(j:w.heap.size<=m):w.grownBy u (some n):=⟨b.os.trans a.os,b.tape.trans a.tape,b.output.trans a.output,aI a.size b.size,fun f e i=>(b.block f (aC e a.size) (by intro d;injection d with d;omega)).trans (a.block f e i)⟩
def XF(a:qo w n s M):n<w.heap.size:=by
 obtain⟨_,_,a,_⟩:=a;exact(aF.1 a).1
def zk(f:qo w n s M)(h:w.grownBy v (some m))(i:n≠m):qo v n s M:=by
 obtain⟨at_,e,j,g,k⟩:=f;exact⟨at_,e,qL h j i,g,k⟩
def VF(p:Nat)(h:B8)(c:Option B8)(b:W)(hs:h.length<=maxLen)(Y:qo b p h c):C' 150 #[(Q p 0)] b fun B w'=>B=.returned (.agg #[S (qO c).1.1,S (qO c).1.2])/\qo w' p h (qO c).2/\b.grownBy w' (some p):=by
 have d7:=XF Y;obtain⟨d3,ea,_,cs⟩:=jJ b #[S [],S []] 167;have bi:=I (Jx Y d7 (.cells #[S [],S []] 167));have g:J (qO c=(((qC 4 (zp c).2).1,(qC ((zp c).1:Int) (qC 4 (zp c).2).2).1),if(zp c).1<2 then none else(qC ((zp c).1:Int) (qC 4 (zp c).2).2).2)):=rfl;have hn:=Ef (qC 2 c).1;have d5:(zp c).1<=65535:=hn;have dT:=I (kR b (.cells #[S [],S []] 167) (some p));have bX:=I cs;clear Y d3 cs hn;go_enter Tryz.func150,Tryz.ntmps150;go_wp2_with fail;generalize b.alloc _=W0 at *;refine(EZ p h c W0 hs bi.o).mono ?_;rintro B w1 ⟨rfl,da,U⟩;have am:=I (je dT.o U);have b4:=I (qL U bX.o (by omega));have G:=I da;clear U da bi;generalize zp c=x at *;obtain⟨n,ds⟩:=x;simp only at g d5 G ⊢;go_wp2_with fail;refine(XX p h ds 4 w1 hs (by decide) (by decide) G.o).mono ?_;rintro B D ⟨rfl,dd,V⟩;have dW:=I (je am.o V);have K:=I (qL V b4.o (by omega));have z:=I dd;clear V dd G b4 am bX;generalize qC 4 ds=x at *;obtain⟨a,dv⟩:=x;simp only at g z ⊢;go_wp2_with fail;obtain⟨d4,_,_,ci⟩:=jJ D #[S a,S []] 167;have d6:=XF z.o;have ec:b.heap.size<D.heap.size:=(aF.1 K.o).1;have bv:=I (Jx z.o d6 (.cells #[S a,S []] 167));have cd:=I (Xd (.cells #[S a,S []] 167) K.o);have ap:=I (zW dW.o (.cells #[S a,S []] 167));have ac:=I ci;clear d4 ci z K;generalize hW:D.alloc _=W2 at *;clear hW;generalize D.heap.size=f at *;refine(XX p h dv (n:Int) W2 hs (by omega) (by omega) bv.o).mono ?_;rintro B k ⟨rfl,dl,C⟩;have be:=I (je ap.o C);have ce:=I (qL C cd.o (by omega));have y:=I (qL C ac.o (by omega));have H:=I dl;clear C dl ap cd ac bv;generalize qC (n:Int) dv=x at *;obtain⟨body,eg⟩:=x;simp only at g H ⊢;have d2:k.cell? (A f 1)=some (S []):=by rw[kC k f 1 _ _ (0,0) y.o];rfl
 have d8:=kh k f 1 _ _ y.o;go_upto_region 4 with fail;clear d2 d8;have E:=I (kj k f 1 _ _ (S body) y.o);have d0:=I (GM H.o (q:=A f 1) (by show p≠f;omega) (S body));have L:=I (qL (Qk k f 1 (S body)) ce.o (by omega));have F:=I (Ji be.o (Qk k f 1 (S body)) (by omega));clear y H ce be;generalize k.setCell _ _=l at *;obtain⟨at_,d1,Z,T,dr⟩:=d0.o;obtain⟨⟨c0,c1,c2⟩,cf⟩:=zi Z;have O:=cf 2;have M:=I Z;clear Z cf c0 c1;cases d1 with
 | true=>
  go_upto_region 5 with fail;obtain⟨j,d⟩:=Kk (v:=.bool true) M.o;have u:J (qo (l.setCell (A p 2) (.bool true)) p h (qO c).2):=⟨at_,true,j,T,by rw[g.o];rw[dr];simp⟩;have i:=I (qL d L.o (by omega));have m:=I (qL d E.o (by omega));have o:=I (je F.o d);clear j d c2 O;generalize l.setCell _ _=e at *;go_wp2_with(first|(refine kx rfl 167 (.tmp 4) rfl f rfl 167 #[S a,S body] (0,0) _ m.o Tryz.underlying167 rfl (by kernel_rfl) ?_)|(refine kl rfl 167 (.tmp 2) (.tmp 25) rfl b.heap.size #[S a,S body] rfl rfl 167 #[S [],S []] i.o (by kernel_rfl) rfl (by simp[Value.oneCell']) ?_));have s:J ((qO c).1=(a,body)):=by show _=_;rw[g.o]
  rw[s.o];have w:=I (kr e b.heap.size _ #[S a,S body] 167 (0,0) i.o);have t:=I (zk u.o (Zo e b.heap.size #[S a,S body]) (by omega));have r:=I (Ji o.o (Zo e b.heap.size #[S a,S body]) (aA _));generalize e.setRow _ _=w7 at *;exact kk (v:=.agg #[S a,S body]) (kV (P:=Tryz.prog) (p:=2) (ty:=167) rfl _ _ b.heap.size 167 #[S a,S body] (0,0) _ rfl w.o Tryz.underlying167 rfl (by kernel_rfl)) rfl ⟨rfl,t.o,r.o⟩
 | false=>
  by_cases co:n<2
  ·have X:(n:Int)<2:=(by omega);have hd:decide ((n:Int)<2)=true:=dK X;go_upto_region 5 with fail;obtain⟨j,d⟩:=Kk (v:=.bool true) M.o;have u:J (qo (l.setCell (A p 2) (.bool true)) p h (qO c).2):=⟨at_,true,j,T,by rw[g.o];simp[co]⟩;have i:=I (qL d L.o (by omega));have m:=I (qL d E.o (by omega));have o:=I (je F.o d);clear j d c2 O;generalize l.setCell _ _=e at *;go_wp2_with(first|(refine kx rfl 167 (.tmp 4) rfl f rfl 167 #[S a,S body] (0,0) _ m.o Tryz.underlying167 rfl (by kernel_rfl) ?_)|(refine kl rfl 167 (.tmp 2) (.tmp 25) rfl b.heap.size #[S a,S body] rfl rfl 167 #[S [],S []] i.o (by kernel_rfl) rfl (by simp[Value.oneCell']) ?_));have s:J ((qO c).1=(a,body)):=by show _=_;rw[g.o]
   rw[s.o];have w:=I (kr e b.heap.size _ #[S a,S body] 167 (0,0) i.o);have t:=I (zk u.o (Zo e b.heap.size #[S a,S body]) (by omega));have r:=I (Ji o.o (Zo e b.heap.size #[S a,S body]) (aA _));generalize e.setRow _ _=w7 at *;exact kk (v:=.agg #[S a,S body]) (kV (P:=Tryz.prog) (p:=2) (ty:=167) rfl _ _ b.heap.size 167 #[S a,S body] (0,0) _ rfl w.o Tryz.underlying167 rfl (by kernel_rfl)) rfl ⟨rfl,t.o,r.o⟩
  ·have X:¬(n:Int)<2:=(by omega);have hd:decide ((n:Int)<2)=false:=bS X;go_upto_region 5 with fail;obtain⟨j,d⟩:=Kk (v:=.bool false) M.o;have u:J (qo (l.setCell (A p 2) (.bool false)) p h (qO c).2):=⟨at_,false,j,T,by rw[g.o];rw[dr];simp[co]⟩;have i:=I (qL d L.o (by omega));have m:=I (qL d E.o (by omega));have o:=I (je F.o d);clear j d c2 O;generalize l.setCell _ _=e at *;go_wp2_with(first|(refine kx rfl 167 (.tmp 4) rfl f rfl 167 #[S a,S body] (0,0) _ m.o Tryz.underlying167 rfl (by kernel_rfl) ?_)|(refine kl rfl 167 (.tmp 2) (.tmp 25) rfl b.heap.size #[S a,S body] rfl rfl 167 #[S [],S []] i.o (by kernel_rfl) rfl (by simp[Value.oneCell']) ?_));have s:J ((qO c).1=(a,body)):=by show _=_;rw[g.o]
   rw[s.o];have w:=I (kr e b.heap.size _ #[S a,S body] 167 (0,0) i.o);have t:=I (zk u.o (Zo e b.heap.size #[S a,S body]) (by omega));have r:=I (Ji o.o (Zo e b.heap.size #[S a,S body]) (aA _));generalize e.setRow _ _=w7 at *;exact kk (v:=.agg #[S a,S body]) (kV (P:=Tryz.prog) (p:=2) (ty:=167) rfl _ _ b.heap.size 167 #[S a,S body] (0,0) _ rfl w.o Tryz.underlying167 rfl (by kernel_rfl)) rfl ⟨rfl,t.o,r.o⟩
end Go.Proofs.YthhpbhpfagoapaaGreat
