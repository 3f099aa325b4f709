import Derived.Test.YthhpbhpfagoapaaGreatGAM
import Derived.Test.YthhpbhpfagoapaaGreatGAP
namespace Go.Proofs.YthhpbhpfagoapaaGreat
set_option linter.all false
set_option maxRecDepth 100000
set_option maxHeartbeats 16000000
open Go.RowKit
def B4:B8->Nat
 | []=>0
 | c::a=>c.toNat+256*B4 a
theorem OC(a:B8):B4 a<256^a.length:=by
 induction a with
 | nil=>simp[B4]
 | cons c a b =>
  have:=c.toNat_lt;simp only[B4,bC,eL];omega
theorem OM(a:B8)(c:UInt8):B4 (a++[c])=B4 a+256^a.length*c.toNat:=by
 induction a with
 | nil=>simp[B4]
 | cons d a b =>
  simp only[bF,B4,b,bC,eL];rw[gj,Nat.mul_comm (256^a.length) 256,fM];omega
theorem jbp(a:B8)(b:a.length<=8):GH a=B4 a:=by
 induction a with
 | nil=>rfl
 | cons c a d =>
  have e:=OC a;have f:=c.toNat_lt;simp only[bC]at b;have g:256^a.length<=256^7:=eK (by decide) (by omega);have h:256^7=72057594037927936:=by decide
  simp only[GH,B4,d (by omega)];omega
theorem Mj(a:Nat):256^a=2^(8*a):=by rw[show 256=2^8 from rfl,<-Nat.pow_mul]
theorem jfx(b c a:Nat)(d:b<256^a)(f:a<=7)(k:c<256) :
  bits .or .u64 (b:Int) (IntKind.u64.wrap ((c:Int)*2^(8*a)))=((b+256^a*c:Nat):Int):=by
 have i:256^a<=256^7:=eK (by decide) f;have j:256^7=72057594037927936:=by decide
 have h:256^a*c<=72057594037927936*255:=cS (by omega) (by omega);have g:IntKind.u64.wrap ((c:Int)*2^(8*a))=((2^(8*a)*c:Nat):Int):=by
  rw[kJ];have e:((c:Int)*2^(8*a))=((2^(8*a)*c:Nat):Int):=by
   rw[gG];simp
  rw[e];rw[Mj]at h;generalize 2^(8*a)*c=q at *;omega
 rw[g,u64_or_nat _ _ (by omega) (by rw[<-Mj];omega),Mj];rw[Mj]at d;rw[gO,<-eH d]
 congr 1;omega
theorem jfz(a:Int)(c:B9 a):wrap64 (B4 (bB a):Int)=a:=by
 have b:=jdm a [] c.1 c.2;have d:=Ks a;unfold bR at b;rw[aT]at b;have e:qC 8 (some (bB a))=(bB a,some []):=by
  rw[Qc (by omega) (by omega)];simp[aU,fh,d]
 rw[e]at b;simp only[cX]at b;rw[<-jbp (bB a) (by omega)];exact b.1
theorem Ld(p:Nat)(e rest:B8)(i:W)(z:e.length<=maxLen)(w:qU i p e rest) :
  C' 190 #[(Q p 0)] i (RX B9 bB (fun v=>N v) p e rest i):=by
 have G:=I z;have D:=I w;clear z w;go_enter Tryz.func190,Tryz.ntmps190;go_wp2;go_loopw [3,5] (fun n t wr=>∃(b:Nat) (a d:B8),b<=8/\t=N b/\a.length=b/\rest=a++d/\n=.int .u64 (B4 a:Int)/\qU wr p e d/\i.grownBy wr (some p)) (fun _ t _=>8-(intOf t).toNat)
 case atStart=>exact⟨0,[],rest,by omega,rfl,rfl,rfl,rfl,D.o,qb _ _⟩
 case round =>
  obtain⟨b,a,d,Y,rfl,r,y,rfl,h,u⟩:=hrel;have f:=I r;have k:=I y;have j:=I u;have g:=OC a;rw[r]at g;clear r y u;by_cases Z:b<8
  ·go_wp2_with fail;refine(Kz p e d _ G.o h).mono ?_;rintro T w2 ⟨s,⟨rfl,rfl⟩|⟨c,O,rfl,rfl,x⟩⟩
   ·go_wp2;refine⟨rfl,je j.o s,.inl ⟨rfl,fun H q V l=>?_⟩⟩;have m:=bN List.length (k.o.symm.trans l);have o:=Ks H;have U:=f.o;simp only[aB,bJ]at m;omega
   ·have X:=c.toNat_lt;have ho:=jfx (B4 a) c.toNat b g (by omega) (by omega);have B:=I (je j.o s);have F:=I x;have C:J (B4 (a++[c])=B4 a+256^b*c.toNat):=by
     show _=_;rw[OM,f.o]
    clear h x s;generalize B4 a=P at *;go_wp2_with fail;go_roundw
    ·exact⟨b+1,a++[c],O,by omega,by go_num,by simp[f.o],by rw[k.o];simp,by simp[C.o],F.o,B.o⟩
    ·simp[intOf];omega
  ·have M:b=8:=(by omega);subst M;have ac:B4 a<18446744073709551616:=aC g (by decide);have E:=I h;clear h g;go_wp2;go_ret;refine⟨j.o,.inr ⟨wrap64 (B4 a:Int),d,Ea _,rfl,E.o,fun K q L l=>?_⟩⟩;have m:=k.o.symm.trans l;have o:=bO m (by rw[f.o,Ks]);rw[o.1,jfz K L];exact⟨rfl,o.2.symm⟩
theorem jbw(b:B8)(a:Nat):(⟨b.toArray⟩:ByteArray).extract 0 a=⟨(b.take a).toArray⟩:=by
 rw[Nv];simp
def EA(a t:B8):B8:=uB (jY a t)++xB (t.drop (jY a t))
theorem TL(a t:B8):a.take (jY a t)=t.take (jY a t):=by
 induction a generalizing t with
 | nil=>simp[jY]
 | cons d a c =>
  cases t with
  | nil=>simp[jY]
  | cons e t =>
   simp only[jY];by_cases b:d=e
   ·rw[aQ b,dN,dN,c t,b]
   ·simp[b]
theorem Rx(p:Nat)(g rest a:B8)(v:W)(G:g.length<=maxLen)(ha:a.length<=12)(E:qU v p g rest) :
  C' 207 #[(Q p 0),S a] v (RX (fun c:B8=>c.length<=12) (EA a) S p g rest v):=by
 have y:=I G;have U:=I E;have hz:=jT a;clear G E;go_enter Tryz.func207,Tryz.ntmps207;go_wp2_with fail;refine(UY p g rest a.length _ y.o (by omega) U.o).mono ?_;rintro B w1 ⟨r,⟨rfl,t⟩|⟨n,L,hn,rfl,F,f⟩⟩
 ·go_wp2;refine⟨rfl,r,.inl ⟨rfl,fun c q H i=>t (jY a c) (xB (c.drop (jY a c))++q) (Qy a c).1 (by rw[i,EA,aD])⟩⟩
 ·have z:=I f;have V:=I F;clear f F;have be:n<=a.length:=hn;have am:(0:Int)<=(n:Int):=by omega
  have ap:(n:Int)<=(a.length:Int):=by omega
  have bi:=jbw a n;have bv:IntKind.i64.wrap ((12:Int)-(n:Int))=((12-n:Nat):Int):=by rw[kE];omega
  have x:J ((a.take n).length=n):=by show _=_;rw[aM];omega
  generalize C:a.take n=h at *;have T:=I C;clear C;go_wp2_with fail;refine k9 (S:=fun w'=>True) (by kernel_rfl) trivial (fun j=>?_);refine tk 0 (S a) ?_;refine tk 1 (N n) ?_;refine tk 2 (S h) ?_;refine tk 3 (Q p 0) ?_;refine tk 4 (N n) ?_;refine tk 5 (N ((12-n:Nat):Int)) ?_;simp only[jA,jB,jC,Act.put,jD,jE,jF];refine rd 6 (fun e d=>?_);simp only[jA,jB,jC];go_simp;go_at_call 247
  refine(At p g L (12-n) _ y.o (by omega) (show qU w1.drew p g L from V.o)).mono ?_;rintro B w ⟨s,⟨rfl,t⟩|⟨c,r2,H,rfl,u,K⟩⟩
  ·have k:=je r (jS s);refine⟨rfl,k,.inl ⟨rfl,fun b q f i=>?_⟩⟩;obtain⟨l,m⟩:=z.o (jY a b) (xB (b.drop (jY a b))++q) (Qy a b).1 (by rw[i,EA,aD]);subst l;exact t (b.drop (jY a b)) q (by show _<=_;rw[aP];have:b.length<=12:=f;omega) m.symm
  ·have k:=je r (jS s);have P:=I k;have X:=I u;have Y:=I K;have bX:c.length<=12-n:=H;have ac:=zh u;clear s k u K;(try go_wp2_with fail);refine d.out _ _ trivial (fun j=>?_);clear d e;(try simp only[jA,jB,jC,Act.put,jD,jE,jF]);refine rd 7 (fun e d=>?_);simp only[jA,jB,jC];go_simp;(try go_wp2_with fail);refine d.out _ _ trivial (fun j=>?_);clear d e;(try simp only[jA,jB,jC,Act.put,jD,jE,jF]);refine rd 8 (fun e d=>?_);simp only[jA,jB,jC];go_simp;go_at_call 194
   refine(Ck [h,c] #[S h,S c] 2 _ _ (kH w _) rfl rfl (by decide) (by have:=x.o;simp;omega)).mono ?_;rintro B w4 ⟨rfl,D⟩;have o:Below w.heap.size w w4:=zl D;(try go_wp2_with fail);refine d.out _ _ trivial (fun j=>?_);clear d e;(try simp only[jA,jB,jC,Act.put,jD,jE,jF]);refine rd 9 (fun e d=>?_);simp only[jA,jB,jC];go_simp;(try go_wp2_with fail);refine d.out _ _ trivial (fun j=>?_);clear d e;(try simp only[jA,jB,jC,Act.put,jD,jE,jF]);refine kp (by kernel_rfl) ?_ _;have M:=I (xf X.o o ac);have O:=I (jU P.o o);clear D o;go_wp2;go_ret;refine⟨O.o,.inr ⟨h++c,r2,?_,qH (by simp),M.o,fun b q f i=>?_⟩⟩
   ·show(h++c).length<=12;rw[aB,x.o];omega
   ·obtain⟨l,m⟩:=z.o (jY a b) (xB (b.drop (jY a b))++q) (Qy a b).1 (by rw[i,EA,aD]);subst l;obtain⟨Z,h4⟩:=Y.o (b.drop (jY a b)) q (by show _<=_;rw[aP];have:b.length<=12:=f;omega) m.symm;refine⟨?_,h4⟩;rw[<-T.o,TL,<-Z,aY]
def okI(c:Z9):Prop:=c.null=false/\c.text=[]/\B9 c.int
def H9(c:Z9):Prop:=c.null=false/\c.int=0/\c.text.length<=12
variable{f:Z9}
theorem Qt{q:Prop}(a:f∈([]:List Z9)):q:=by cases a
def Uq(a:Z9->Z9->B8):Z9->List Z9->B8
 | _,[]=>[]
 | b,c::d=>a b c++Uq a c d
def Qd:Z9->List Z9->Z9
 | a,[]=>a
 | _,c::b=>Qd c b
def YV(_ c:Z9):B8:=bB c.int
def Ud(_ c:Z9):B8:=xB c.text
def Eh(a c:Z9):B8:=zB (wrap64 (c.int-a.int))
def Gi(a c:Z9):B8:=EA a.text c.text
theorem Um(b:Z9)(a:List Z9)(c:Z9):Qd b (a++[c])=c:=by
 induction a generalizing b with
 | nil=>rfl
 | cons d a e=>exact e d
theorem Tg(c:Z9->Z9->B8)(b:Z9)(a d:List Z9):Uq c b (a++d)=Uq c b a++Uq c (Qd b a) d:=by
 induction a generalizing b with
 | nil=>rfl
 | cons f a e=>simp only[bF,Uq,Qd,e,aD]
theorem MA(b:Z9)(a:List Z9)(d:a≠[]):Qd b a∈a:=by
 induction a generalizing b with
 | nil=>exact absurd rfl d
 | cons c a e =>
  cases a with
  | nil=>simp[Qd]
  | cons f a=>exact bA _ (e c (by simp))
variable{D:List Z9}
theorem CO(d:∀c∈D,okI c):B9 (Qd qY D).int:=by
 by_cases b:D=[]
 ·subst b;exact⟨by decide,by decide⟩
 ·exact(d _ (MA qY D b)).2.2
theorem EE(d:∀c∈D,H9 c):(Qd qY D).text.length<=12:=by
 by_cases b:D=[]
 ·subst b;decide
 ·exact(d _ (MA qY D b)).2.2
def Mv(d:Z9->Z9->B8)(e:List Z9->Prop)(rest:B8)(b:List Z9)(f:B8):Prop :=
 ∀a q,e a->rest=Uq d qY a++q->∃c,a=b++c/\f=Uq d (Qd qY b) c++q
theorem Vp(d:Z9->Z9->B8)(a:List Z9->Prop)(rest:B8):Mv d a rest [] rest:=fun c q _ b=>⟨c,rfl,b⟩
variable{l r s:B8}{c g h i k m n p:Nat}
theorem UD{e:Z9->Z9->B8}{f:List Z9->Prop}(b:Mv e f s D r)(i:D.length=n)(t:n<m)(p:∀j,f j->j.length=m) :
  ∀a q,f a->s=Uq e qY a++q->∃c d,a=D++c::d/\r=e (Qd qY D) c++(Uq e c d++q):=by
 intro a q h o;obtain⟨rest,g,l⟩:=b a q h o;cases rest with
 | nil =>
  have:=p a h;rw[g,aT]at this;omega
 | cons c d=>exact⟨c,d,g,by rw[l,Uq,aD]⟩
theorem Gl{e:Z9->Z9->B8}{d:List Z9->Prop}{ok:Z9->Prop}(p:Mv e d s D r)(t:D.length=n)(u:n<m)(b:∀a,d a->a.length=m)
  (w:∀c q,ok c->r=e (Qd qY D) c++q->c=f/\q=l)(v:∀a,d a->∀c∈a,ok c):Mv e d s (D++[f]) l:=by
 intro i q g k;obtain⟨c,x,rest,j⟩:=UD p t u b i q g k;obtain⟨rfl,o⟩:=w c _ (v i g c (by rw[rest];simp)) j;exact⟨x,by rw[rest];simp,by rw[<-o,Um]⟩
theorem Ny{h:Z9->Z9->B8}{c:List Z9->Prop}(j:Mv h c s D r)(p:D.length=n)(m:∀f,c f->f.length=n) :
  ∀a q,c a->s=Uq h qY a++q->a=D/\q=r:=by
 intro a q e k;obtain⟨o,d,i⟩:=j a q e k;have:=m a e;rw[d,aB]at this;have l:o=[]:=aO (by omega);subst l;exact⟨by rw[d,aT],by rw[i];rfl⟩
def ZN(j:TypeId)(row:List Z9->List Value)(b:List Z9->Prop)(f:List Z9->B8)(p:Nat)(i rest:B8)(h:W)(e:Ending)(d:W):Prop :=
 h.grownBy d (some p)/\((e=T8/\∀a q,b a->rest≠f a++q)\/∃a g v,b a/\e=.returned v/\d.ownsRow h.heap.size j 1 v a.length (row a)/\qU d p i g/\∀c q,b c->rest=f c++q->c=a/\q=g)
variable{u v w:W}{q x y z:Value}{C:List Value}
theorem Kr{o:Obj}(f:qU v n s r)(y:n<w.heap.size)(g:w.grownBy v (some n))(e:v.ownsRow w.heap.size k i x m C)
  (d:(v.alloc o).grownBy u x.ownBlock):qU u n s r/\w.grownBy u (some n):=by
 have a:=zh f;have c:some n≠x.ownBlock:=by
  intro p;have:=(e.lt n p.symm).1;omega
 obtain⟨at_,j,b,l⟩:=f;refine⟨⟨at_,?_,b,l⟩,Jt (zW g o) d (fun t q=>(e.lt t q).1)⟩;rw[d.block n (by simp;omega) c];rw[<-j];exact((k8 v.heap.size v).alloc (aA _) o).block n a
theorem FZ(g p f:Nat)(m rest:B8)(e:W)(hs:m.length<=maxLen)(j:f<=60)(D:qU e p m rest) :
  C' 182 #[G6 g,(Q p 0),N f] e (ZN 3 Zs (fun d=>d.length=f/\∀c∈d,okI c) (Uq YV qY) p m rest e):=by
 obtain⟨i0,hi,cs,da,dd⟩:=ks Tryz.ay;have Hs:=I hs;have Hp:=I D;have Y:=zh D;clear hs D;go_enter Tryz.func182,Tryz.ntmps182;go_wp2;obtain⟨o,am,M⟩:=Qr e #[R g 3 3,V4 187,V4 188,V4 189,V4 190,V4 191,V4 192] 215;have O:_=some (V4 190):=M 4;have Hc:=I O;have bi:=I (xf Hp.o o Y);have w:=I o;have co:=bE (bG e.heap.size) am.symm;have Z:=aC Y o.size;clear M O o am;generalize e.alloc _=F at *;go_loopw [7,9] (fun v E wr=>∃(h:Nat) (b:List Z9) (l:B8),h<=f/\E=N h/\b.length=h/\(∀c∈b,okI c)/\wr.ownsRow F.heap.size 3 1 v h (Zs b)/\qU wr p m l/\F.grownBy wr (some p)/\Mv YV (fun d=>d.length=f/\∀c∈d,okI c) rest b l)
  (fun _ E _=>f-(intOf E).toNat)
 case atStart=>exact⟨0,[],rest,aG _,rfl,rfl,(fun c a=>Qt a),kg _ _ _ _,bi.o,qb _ _,Vp _ _ _⟩
 case round =>
  obtain⟨h,b,l,dr,rfl,L,B,t,u,r,U⟩:=hrel;have i:=I L;have H:=I B;have y:=I U;have x:=I r;have dl:=I (CO B);clear L B U;by_cases V:h<f
  ·have b4:=(r.cell_far (A e.heap.size 4) co (by intro a;simp at a;omega)).trans Hc.o;clear r;go_wp2_with fail;refine(Ld p m l _ Hs.o u).mono ?_;rintro e w2 ⟨s,⟨rfl,ce⟩|⟨n,r2,hx,rfl,ac,k⟩⟩
   ·go_wp2;refine⟨rfl,je (jU (qb e _) w.o) (je x.o s),.inl ⟨rfl,fun l2 q T a=>?_⟩⟩;obtain⟨c,l4,bX,h4⟩:=UD y.o i.o V (fun d a=>a.1) l2 q T a;exact ce c.int _ ((T.2 c (bX▸by simp)).2.2) h4
   ·have Hu:=I k;have Hx:=I hx;have C:=xI t Z s;have z:=je x.o s;clear t u k b4 s hx;go_wp2_with(at_builtin;refine ko _ rfl (.tmp 11) (.tmp 16) 82 rfl F.heap.size 3 i0 (N 0) 1 8 Tryz.underlying82 hi cs da dd rfl (by decide) _ _ _ rfl (C.alloc _) (A _ 0) 1 1 [N n] rfl rfl ?c1 ?c2 ?c3 ?c4 ?c5 ?_)
    case c1=>exact qr w2 #[N n] 3
    case c2=>intro u k;simp at k;subst k;rfl
    case c3=>unfold maxLen;omega
    case c4=>omega
    case c5=>have:=z.size;simp;omega
    intro v3 w3 X P _;have G:=I (Kr ac Z z C P);have ap:=I X;clear C X P z ac;go_wp2;go_roundw
    ·exact⟨h+1,b++[⟨false,n,[]⟩],r2,by omega,by go_num,by simp[i.o],fun c j=>(aX.1 j).elim (H.o c) (fun a=>by simp only[bD,bH,dm]at a;subst a;exact⟨rfl,rfl,Hx.o⟩),by rw[show Zs (b++[⟨false,n,[]⟩])=Zs b++[N n] by simp[Zs]];exact ap.o,G.o.1,G.o.2,Gl y.o i.o V (fun d a=>a.1) (fun c q j a=>by
     obtain⟨K,e2⟩:=Hu.o c.int q j.2.2 a;refine⟨?_,e2⟩;obtain⟨cn,ci,ct⟩:=c;obtain⟨o1,o2,o3⟩:=j;simp only at o1 o2 K;subst o1 o2 K;rfl) (fun d a=>a.2)⟩
    ·simp[intOf];omega
  ·have cd:h=f:=(by omega);subst cd;have be:=I t;have bv:=I u;clear r t u;go_wp2;go_ret;refine⟨je (jU (qb e _) w.o) x.o,.inr ⟨b,l,_,⟨i.o,H.o⟩,rfl,?_,bv.o,Ny y.o i.o (fun d a=>a.1)⟩⟩;rw[i.o];exact jQ be.o w.o.size
theorem AW(g p f:Nat)(m rest:B8)(e:W)(hs:m.length<=maxLen)(j:f<=60)(D:qU e p m rest) :
  C' 197 #[K9 g,(Q p 0),N f] e (ZN 9 QX (fun d=>d.length=f/\∀c∈d,H9 c) (Uq Ud qY) p m rest e):=by
 obtain⟨i0,hi,cs,da,dd⟩:=ks Tryz.ar;have Hs:=I hs;have Hp:=I D;have Y:=zh D;clear hs D;go_enter Tryz.func197,Tryz.ntmps197;go_wp2;obtain⟨o,am,M⟩:=Qr e #[R g 3 3,V4 202,V4 203,V4 204,V4 205,V4 206,V4 207] 225;have O:_=some (V4 205):=M 4;have Hc:=I O;have bi:=I (xf Hp.o o Y);have w:=I o;have co:=bE (bG e.heap.size) am.symm;have Z:=aC Y o.size;clear M O o am;generalize e.alloc _=F at *;go_loopw [7,9] (fun v E wr=>∃(h:Nat) (b:List Z9) (l:B8),h<=f/\E=N h/\b.length=h/\(∀c∈b,H9 c)/\wr.ownsRow F.heap.size 9 1 v h (QX b)/\qU wr p m l/\F.grownBy wr (some p)/\Mv Ud (fun d=>d.length=f/\∀c∈d,H9 c) rest b l)
  (fun _ E _=>f-(intOf E).toNat)
 case atStart=>exact⟨0,[],rest,aG _,rfl,rfl,(fun c a=>Qt a),kg _ _ _ _,bi.o,qb _ _,Vp _ _ _⟩
 case round =>
  obtain⟨h,b,l,dr,rfl,L,B,t,u,r,U⟩:=hrel;have i:=I L;have H:=I B;have y:=I U;have x:=I r;have dl:=I (EE B);clear L B U;by_cases V:h<f
  ·have b4:=(r.cell_far (A e.heap.size 4) co (by intro a;simp at a;omega)).trans Hc.o;clear r;go_wp2_with fail;refine(DA p m l _ Hs.o u).mono ?_;rintro e w2 ⟨s,⟨rfl,ce⟩|⟨n,r2,hx,rfl,ac,k⟩⟩
   ·go_wp2;refine⟨rfl,je (jU (qb e _) w.o) (je x.o s),.inl ⟨rfl,fun l2 q T a=>?_⟩⟩;obtain⟨c,l4,bX,h4⟩:=UD y.o i.o V (fun d a=>a.1) l2 q T a;exact ce c.text _ ((T.2 c (bX▸by simp)).2.2) h4
   ·have Hu:=I k;have Hx:=I hx;have C:=xI t Z s;have z:=je x.o s;clear t u k b4 s hx;go_wp2_with(at_builtin;refine ko _ rfl (.tmp 11) (.tmp 16) 71 rfl F.heap.size 9 i0 (.string ⟨#[]⟩) 1 16 Tryz.underlying71 hi cs da dd rfl (by decide) _ _ _ rfl (C.alloc _) (A _ 0) 1 1 [S n] rfl rfl ?c1 ?c2 ?c3 ?c4 ?c5 ?_)
    case c1=>exact qr w2 #[S n] 9
    case c2=>intro u k;simp at k;subst k;rfl
    case c3=>unfold maxLen;omega
    case c4=>omega
    case c5=>have:=z.size;simp;omega
    intro v3 w3 X P _;have G:=I (Kr ac Z z C P);have ap:=I X;clear C X P z ac;go_wp2;go_roundw
    ·exact⟨h+1,b++[⟨false,0,n⟩],r2,by omega,by go_num,by simp[i.o],fun c j=>(aX.1 j).elim (H.o c) (fun a=>by simp only[bD,bH,dm]at a;subst a;exact⟨rfl,rfl,Hx.o⟩),by rw[show QX (b++[⟨false,0,n⟩])=QX b++[S n] by simp[QX,Jk,KF]];exact ap.o,G.o.1,G.o.2,Gl y.o i.o V (fun d a=>a.1) (fun c q j a=>by
     obtain⟨K,e2⟩:=Hu.o c.text q j.2.2 a;refine⟨?_,e2⟩;obtain⟨cn,ci,ct⟩:=c;obtain⟨o1,o2,o3⟩:=j;simp only at o1 o2 K;subst o1 o2 K;rfl) (fun d a=>a.2)⟩
    ·simp[intOf];omega
  ·have cd:h=f:=(by omega);subst cd;have be:=I t;have bv:=I u;clear r t u;go_wp2;go_ret;refine⟨je (jU (qb e _) w.o) x.o,.inr ⟨b,l,_,⟨i.o,H.o⟩,rfl,?_,bv.o,Ny y.o i.o (fun d a=>a.1)⟩⟩;rw[i.o];exact jQ be.o w.o.size
theorem Sy(g p f:Nat)(m rest:B8)(e:W)(hs:m.length<=maxLen)(j:f<=60)(D:qU e p m rest) :
  C' 184 #[G6 g,(Q p 0),N f] e (ZN 3 Zs (fun d=>d.length=f/\∀c∈d,okI c) (Uq Eh qY) p m rest e):=by
 obtain⟨i0,hi,da,dd,dl⟩:=ks Tryz.ay;have Hs:=I hs;have Hp:=I D;have Y:=zh D;clear hs D;go_enter Tryz.func184,Tryz.ntmps184;go_wp2;obtain⟨o,am,M⟩:=Qr e #[R g 3 3,V4 187,V4 188,V4 189,V4 190,V4 191,V4 192] 215;have O:_=some (V4 192):=M 6;have Hc:=I O;have bv:=I (xf Hp.o o Y);have w:=I o;have cs:=bE (bG e.heap.size) am.symm;have Z:=aC Y o.size;clear M O o am;generalize e.alloc _=F at *;go_loopw [7,8,10] (fun v u E wr=>∃(h:Nat) (b:List Z9) (l:B8),h<=f/\E=N h/\u=N (Qd qY b).int/\b.length=h/\(∀c∈b,okI c)/\wr.ownsRow F.heap.size 3 1 v h (Zs b)/\qU wr p m l/\F.grownBy wr (some p)/\Mv Eh (fun d=>d.length=f/\∀c∈d,okI c) rest b l)
  (fun _ _ E _=>f-(intOf E).toNat)
 case atStart=>exact⟨0,[],rest,aG _,rfl,rfl,rfl,(fun c a=>Qt a),kg _ _ _ _,bv.o,qb _ _,Vp _ _ _⟩
 case round =>
  obtain⟨h,b,l,dr,rfl,rfl,L,B,t,u,r,U⟩:=hrel;have i:=I L;have H:=I B;have y:=I U;have x:=I r;have be:=I (CO B);clear L B U;by_cases V:h<f
  ·have cd:=(r.cell_far (A e.heap.size 6) cs (by intro a;simp at a;omega)).trans Hc.o;clear r;go_wp2_with fail;refine(Vx p m l (Qd qY b).int _ Hs.o (be.o) u).mono ?_;rintro e w2 ⟨s,⟨rfl,co⟩|⟨n,r2,hx,rfl,ac,k⟩⟩
   ·go_wp2;refine⟨rfl,je (jU (qb e _) w.o) (je x.o s),.inl ⟨rfl,fun l2 q T a=>?_⟩⟩;obtain⟨c,l4,b4,h4⟩:=UD y.o i.o V (fun d a=>a.1) l2 q T a;exact co c.int _ ((T.2 c (b4▸by simp)).2.2) h4
   ·have Hu:=I k;have Hx:=I hx;have C:=xI t Z s;have z:=je x.o s;clear t u k cd s hx;go_wp2_with(at_builtin;refine ko _ rfl (.tmp 17) (.tmp 19) 82 rfl F.heap.size 3 i0 (N 0) 1 8 Tryz.underlying82 hi da dd dl rfl (by decide) _ _ _ rfl (C.alloc _) (A _ 0) 1 1 [N n] rfl rfl ?c1 ?c2 ?c3 ?c4 ?c5 ?_)
    case c1=>exact qr w2 #[N n] 3
    case c2=>intro u k;simp at k;subst k;rfl
    case c3=>unfold maxLen;omega
    case c4=>omega
    case c5=>have:=z.size;simp;omega
    intro v3 w3 X P _;have G:=I (Kr ac Z z C P);have ap:=I X;clear C X P z ac;go_wp2;go_roundw
    ·exact⟨h+1,b++[⟨false,n,[]⟩],r2,by omega,by go_num,by rw[Um],by simp[i.o],fun c j=>(aX.1 j).elim (H.o c) (fun a=>by simp only[bD,bH,dm]at a;subst a;exact⟨rfl,rfl,Hx.o⟩),by rw[show Zs (b++[⟨false,n,[]⟩])=Zs b++[N n] by simp[Zs]];exact ap.o,G.o.1,G.o.2,Gl y.o i.o V (fun d a=>a.1) (fun c q j a=>by
     obtain⟨K,e2⟩:=Hu.o c.int q j.2.2 a;refine⟨?_,e2⟩;obtain⟨cn,ci,ct⟩:=c;obtain⟨o1,o2,o3⟩:=j;simp only at o1 o2 K;subst o1 o2 K;rfl) (fun d a=>a.2)⟩
    ·simp[intOf];omega
  ·have ce:h=f:=(by omega);subst ce;have bi:=I t;have bX:=I u;clear r t u;go_wp2;go_ret;refine⟨je (jU (qb e _) w.o) x.o,.inr ⟨b,l,_,⟨i.o,H.o⟩,rfl,?_,bX.o,Ny y.o i.o (fun d a=>a.1)⟩⟩;rw[i.o];exact jQ bi.o w.o.size
theorem Py(g p f:Nat)(m rest:B8)(e:W)(hs:m.length<=maxLen)(j:f<=60)(D:qU e p m rest) :
  C' 201 #[K9 g,(Q p 0),N f] e (ZN 9 QX (fun d=>d.length=f/\∀c∈d,H9 c) (Uq Gi qY) p m rest e):=by
 obtain⟨i0,hi,da,dd,dl⟩:=ks Tryz.ar;have Hs:=I hs;have Hp:=I D;have Y:=zh D;clear hs D;go_enter Tryz.func201,Tryz.ntmps201;go_wp2;obtain⟨o,am,M⟩:=Qr e #[R g 3 3,V4 202,V4 203,V4 204,V4 205,V4 206,V4 207] 225;have O:_=some (V4 207):=M 6;have Hc:=I O;have bv:=I (xf Hp.o o Y);have w:=I o;have cs:=bE (bG e.heap.size) am.symm;have Z:=aC Y o.size;clear M O o am;generalize e.alloc _=F at *;go_loopw [7,8,10] (fun v u E wr=>∃(h:Nat) (b:List Z9) (l:B8),h<=f/\E=N h/\u=S (Qd qY b).text/\b.length=h/\(∀c∈b,H9 c)/\wr.ownsRow F.heap.size 9 1 v h (QX b)/\qU wr p m l/\F.grownBy wr (some p)/\Mv Gi (fun d=>d.length=f/\∀c∈d,H9 c) rest b l)
  (fun _ _ E _=>f-(intOf E).toNat)
 case atStart=>exact⟨0,[],rest,aG _,rfl,rfl,rfl,(fun c a=>Qt a),kg _ _ _ _,bv.o,qb _ _,Vp _ _ _⟩
 case round =>
  obtain⟨h,b,l,dr,rfl,rfl,L,B,t,u,r,U⟩:=hrel;have i:=I L;have H:=I B;have y:=I U;have x:=I r;have be:=I (EE B);clear L B U;by_cases V:h<f
  ·have cd:=(r.cell_far (A e.heap.size 6) cs (by intro a;simp at a;omega)).trans Hc.o;clear r;go_wp2_with fail;refine(Rx p m l (Qd qY b).text _ Hs.o (be.o) u).mono ?_;rintro e w2 ⟨s,⟨rfl,co⟩|⟨n,r2,hx,rfl,ac,k⟩⟩
   ·go_wp2;refine⟨rfl,je (jU (qb e _) w.o) (je x.o s),.inl ⟨rfl,fun l2 q T a=>?_⟩⟩;obtain⟨c,l4,b4,h4⟩:=UD y.o i.o V (fun d a=>a.1) l2 q T a;exact co c.text _ ((T.2 c (b4▸by simp)).2.2) h4
   ·have Hu:=I k;have Hx:=I hx;have C:=xI t Z s;have z:=je x.o s;clear t u k cd s hx;go_wp2_with(at_builtin;refine ko _ rfl (.tmp 17) (.tmp 19) 71 rfl F.heap.size 9 i0 (.string ⟨#[]⟩) 1 16 Tryz.underlying71 hi da dd dl rfl (by decide) _ _ _ rfl (C.alloc _) (A _ 0) 1 1 [S n] rfl rfl ?c1 ?c2 ?c3 ?c4 ?c5 ?_)
    case c1=>exact qr w2 #[S n] 9
    case c2=>intro u k;simp at k;subst k;rfl
    case c3=>unfold maxLen;omega
    case c4=>omega
    case c5=>have:=z.size;simp;omega
    intro v3 w3 X P _;have G:=I (Kr ac Z z C P);have ap:=I X;clear C X P z ac;go_wp2;go_roundw
    ·exact⟨h+1,b++[⟨false,0,n⟩],r2,by omega,by go_num,by rw[Um],by simp[i.o],fun c j=>(aX.1 j).elim (H.o c) (fun a=>by simp only[bD,bH,dm]at a;subst a;exact⟨rfl,rfl,Hx.o⟩),by rw[show QX (b++[⟨false,0,n⟩])=QX b++[S n] by simp[QX,Jk,KF]];exact ap.o,G.o.1,G.o.2,Gl y.o i.o V (fun d a=>a.1) (fun c q j a=>by
     obtain⟨K,e2⟩:=Hu.o c.text q j.2.2 a;refine⟨?_,e2⟩;obtain⟨cn,ci,ct⟩:=c;obtain⟨o1,o2,o3⟩:=j;simp only at o1 o2 K;subst o1 o2 K;rfl) (fun d a=>a.2)⟩
    ·simp[intOf];omega
  ·have ce:h=f:=(by omega);subst ce;have bi:=I t;have bX:=I u;clear r t u;go_wp2;go_ret;refine⟨je (jU (qb e _) w.o) x.o,.inr ⟨b,l,_,⟨i.o,H.o⟩,rfl,?_,bX.o,Ny y.o i.o (fun d a=>a.1)⟩⟩;rw[i.o];exact jQ bi.o w.o.size
theorem Tryz.bt:(Tryz.prog.info? 4).map (fun a=>(a.zero,a.size,a.bytes))=some (some (.bool false),1,1):=by kernel_rfl
theorem WJ(n:Nat)(c:n<4294967296):bits .and .u64 (n:Int) 4294967295=(n:Int):=by
 have a:=u64_and_nat n 4294967295 (by omega) (by decide);have b:n &&& 4294967295=n:=by
  rw[show 4294967295=2^32-1 by decide,fx];omega
 rw[b]at a;exact a
theorem BK(n:Nat)(a:W)(d:n<=60) :
  C' 273 #[.int .u64 1,.int .u64 (n:Int)] a fun b c=>b=.returned (.tuple #[.int .u64 0,.int .u64 (n:Int)])/\c=a:=by
 have e:=WJ n (by omega);have f:bits .and .u64 1 4294967295=1:=WJ 1 (by omega);have g:(n:Int)/4294967296=0:=by omega
 have h:bits .and .u64 0 4294967295=0:=WJ 0 (by omega);go_enter Tryz.func273,Tryz.ntmps273;go_wp2;go_ret2;exact⟨rfl,rfl⟩
theorem FJ(e:w.ownsRow n m 1 (R k i i) i C):w.heap[k]?=some (.cells C.toArray m (0,0)):=by
 rcases e.2 with⟨a,_⟩|⟨b,g,h,a,_,j,_,_,c,l⟩
 ·cases a
 ·simp only[cx,aW,cG,de]at a;obtain⟨rfl,_,rfl⟩:=a;rw[j];have:h.toList=C:=by
   rw[<-l,aU];simp[c]
  rw[<-this]
theorem PF(b n a:Nat)(v c:Value)(d:n+a<=b):splice (List.replicate n v++List.replicate (b-n) c) n (List.replicate a v)=List.replicate (n+a) v++List.replicate (b-(n+a)) c:=by
 unfold splice;rw[dV (by simp),aU (by simp),bf,List.drop_append,fh (by simp),bf];rw[bW,List.drop_replicate,<-aD,et]
 congr 2;omega
def VB(a n:Nat)(v b:Value):List Value:=List.replicate n v++List.replicate (a-n) b
theorem KZ(a n b:Nat)(v c:Value)(d:n+b<=a):splice (VB a n v c) n (List.replicate b v)=VB a (n+b) v c:=PF a n b v c d
theorem KX(a n:Nat)(v b:Value)(c:n<=a):(VB a n v b).length=a:=by simp[VB];omega
theorem Aj(a:Nat)(v b:Value):VB a a v b=List.replicate a v:=by simp[VB]
variable{F:TypeId}
theorem Cu{g e n k:Nat}(f:w.heap[g]?=some (.cells (VB e n x y).toArray F (0,0)))(m:k<=n):∀j b,(List.replicate k x)[j]?=some b->w.cell? (((A g 0):Addr).add j)=some b:=by
 intro j b a;have h:((A g 0):Addr).add j=(A g j):=by unfold Addr.add;split<;>simp_all
 have i:j<k:=by
  rcases eA j k with d|d
  ·exact d
  ·rw[cN (by simp;omega)]at a;cases a
 rw[fT,aQ i]at a;rw[h,kC w g j _ F (0,0) f,<-a];simp only[VB,cP];rw[cR (by simp;omega),fT,aQ (by omega)]
theorem Vi{b v:Value}(h:w.ownsRow n m 1 (R k i i) i (madeCells b.cells (i*1)).toList)(g:b.cells=#[b]) :
  w.heap[k]?=some (.cells (VB i 0 v b).toArray m (0,0)):=by
 have d:=FJ h;rw[g,lr]at d;simpa[VB]using d
theorem Bi(n:Nat)(b:W)(c:n<=60) :
  C' 267 #[.int .u64 1,.int .u64 (n:Int)] b fun a d=>a=.returned (.tuple #[.int .u64 0,.int .u64 (n:Int)])/\d=b:=by
 go_enter Tryz.func267,Tryz.ntmps267;go_wp2_with fail;refine(BK n _ c).mono ?_;rintro a e ⟨rfl,rfl⟩;go_wp2;go_ret2;exact⟨rfl,rfl⟩
theorem jct(c:Int)(w bv a:Nat)(i:W)(hN:a<=60)(y:i.cell? (A w 0)=some (N c)) :
  C' 243 #[R w 1 bv,N a] i fun P H=>∃g,P=.returned (R g a a)/\H.heap[g]?=some (.cells (List.replicate a (N c)).toArray 3 (0,0))/\Below i.heap.size i H:=by
 obtain⟨i0,C,am,G,ap⟩:=ks Tryz.ay;have F:(Tryz.prog.info? 3).map (·.size)=some 1:=by rw[C];simp[G]
 have O:=I y;have bX:=aZ i _ y;have d0:IntKind.u64.wrap (a:Int)=(a:Int):=Qw (by omega) (by omega);have d1:IntKind.i64.wrap (a:Int)=(a:Int):=Ge (by omega) (by omega);clear y;go_enter Tryz.func243,Tryz.ntmps243;go_wp2_with fail;refine(Bi a _ hN).mono ?_;rintro P b ⟨rfl,rfl⟩;have cs:=O;by_cases B:a=0
 ·subst B;go_wp2_with(first
   | (at_make;refine kN _ rfl (.tmp 29) (.tmp 29) 82 rfl b.heap.size 3 i0 (N 0) 1 Tryz.underlying82 C am G .i64 .i64 _ _ 0 rfl rfl rfl rfl (by rw[ap];omega) (by unfold maxLen;omega) (aA _) ?_;intro K q o;have u:=Vi (v:=N c) q rfl;have m:Below b.heap.size b K:=(k8 _ _).grown o (aA _) (fun _ e=>by cases e);clear q o)
   | (refine wpList_copy_splice rfl (.tmp 31) (.tmp 32) 82 82 rfl 3 Tryz.underlying82 F _ _ _ _ _ _ rfl rfl b.heap.size 0 _ 3 u [] (by simp) (fun e=>by simp at e) (by simp) (fun _ e=>by cases e) b.heap.size b m (aA _) ?_;intro L t s))
  go_loopw [8] (fun r wr=>r=N 0/\wr=L) (fun _ _=>0)
  case atStart=>exact⟨rfl,rfl⟩
  case round =>
   obtain⟨rfl,rfl⟩:=hrel;go_wp2;go_ret;exact⟨b.heap.size,rfl,by simpa[splice,VB]using t.out,s⟩
 ·have V:1<=a:=by omega
  have Y:Nat.min 1 a=1:=d9 V;have da:=I B;clear B;go_wp2_with(first
   | (at_make;refine kN _ rfl (.tmp 29) (.tmp 29) 82 rfl b.heap.size 3 i0 (N 0) 1 Tryz.underlying82 C am G .i64 .i64 _ _ a rfl rfl rfl rfl (by rw[ap];omega) (by unfold maxLen;omega) (aA _) ?_;intro K q o;have u:=Vi (v:=N c) q rfl;have m:Below b.heap.size b K:=(k8 _ _).grown o (aA _) (fun _ e=>by cases e);clear q o)
   | (refine wpList_copy_splice rfl (.tmp 31) (.tmp 32) 82 82 rfl 3 Tryz.underlying82 F _ _ _ _ _ _ rfl rfl b.heap.size 0 _ 3 u (List.replicate 1 (N c)) ?c0 ?c1 ?c2 ?c3 b.heap.size b m (aA _) ?_))
  case c0=>rw[bf];exact Y.symm
  case c1 =>
   intro j v D;cases j with
   | zero =>
    simp at D;subst D;exact(m.cell (p:=A w 0) bX).trans O.o
   | succ j=>simp at D
  case c2=>rw[KX _ _ _ _ (by omega)];simp;omega
  case c3=>intro v hv;simp at hv;subst hv;rfl
  intro L t s;have M:J (L.heap[b.heap.size]?=some (.cells (VB a 1 (N c) (N 0)).toArray 3 (0,0))):=by
   have T:=KZ a 0 1 (N c) (N 0) (by omega);have f:=t.out;simp only[gE,dh]at f T;rw[T]at f;exact f
  clear u m t Y;go_wp2_with fail;go_loopw [8] (fun r wr=>∃n:Nat,1<=n/\n<=a/\r=N n/\J (wr.heap[b.heap.size]?=some (.cells (VB a n (N c) (N 0)).toArray 3 (0,0)))/\Below b.heap.size b wr) (fun r _=>a-(intOf r).toNat)
  case atStart=>exact⟨1,aA _,V,rfl,M,s⟩
  case round =>
   clear M s;obtain⟨n,ci,dW,rfl,x,U⟩:=hrel;by_cases ds:n<a
   ·have dl:(0:Int)<=(n:Int):=(by omega);have dr:(n:Int)<=(a:Int):=(by omega);have cd:(n:Int)<(a:Int):=(by omega);go_wp2_with fail;have dd:¬a=n:=(by omega);have ce:Nat.min n (a-n)<=n:=gS _ _;have dv:Nat.min n (a-n)<=a-n:=gL _ _;have E:n+Nat.min n (a-n)<=a:=(by omega);have dT:1<=Nat.min n (a-n):=Nat.le_min.2 ⟨ci,by omega⟩;have HC:=I (Cu (k:=Nat.min n (a-n)) x.o ce);generalize Z:Nat.min n (a-n)=h at *;have bi:=I Z;clear Z;refine k9 (S:=fun H=>True) (by kernel_rfl) trivial (fun z=>?_);refine tk 0 (N n) ?_;refine tk 1 (R b.heap.size a a) ?_;refine tk 2 (N n) ?_;refine tk 3 (.slice (some (A b.heap.size n)) (a-n) (a-n)) ?_;refine tk 4 (R b.heap.size a a) ?_;refine tk 5 (N n) ?_;refine tk 6 (R b.heap.size n a) ?_;simp only[jA,jB,jC,Act.put,jD,jE,jF];refine rd 7 (fun l d=>?_);refine step_copy_splice (w:=wr.drew) (by rfl) (.tmp 41) (.tmp 44) 82 82 (by rfl) 3 Tryz.underlying82 F _ _ _ _ _ _ (by rfl) (by rfl) b.heap.size n _ 3 x.o (List.replicate h (N c)) (by rw[bf];exact bi.o.symm) (fun _=>⟨rfl,_,rfl,HC.o⟩) (by rw[KX _ _ _ _ (by omega),bf];exact E) (fun d2 hu=>by rw[dk]at hu;rw[hu.2];rfl) b.heap.size b (show Below b.heap.size b wr.drew from below_drewN U 1) (aA _) ?_;intro w5 X b4;have be:J (w5.heap[b.heap.size]?=some (.cells (VB a (n+h) (N c) (N 0)).toArray 3 (0,0))):=by
     have f:=X.out;rw[KZ a n h _ _ E]at f;exact f
    rw[bf];clear X;(try go_wp2_with fail);refine d.out _ _ trivial (fun z=>?_);clear d l;(try simp only[jA,jB,jC,Act.put,jD,jE,jF]);refine rd 8 (fun l d=>?_);simp only[jA,jB,jC];go_simp;(try go_wp2_with fail);refine d.out _ _ trivial (fun z=>?_);clear d l;(try simp only[jA,jB,jC,Act.put,jD,jE,jF]);refine rd 9 (fun l d=>?_);simp only[jA,jB,jC];go_simp;(try go_wp2_with fail);refine d.out _ _ trivial (fun z=>?_);clear d l;(try simp only[jA,jB,jC,Act.put,jD,jE,jF]);refine kp (by kernel_rfl) ?_ _;have ac:IntKind.i64.wrap ((n:Int)+(h:Int))=((n+h:Nat):Int):=(by rw[kE];omega);rw[ac];clear ac;go_wp2_with fail;go_roundw
    ·exact⟨n+h,by omega,E,rfl,be,b4⟩
    ·simp[intOf];omega
   ·have co:n=a:=(by omega);subst co;have cd:decide ((n:Int)<(n:Int))=false:=(by simp);go_wp2;go_ret;exact⟨b.heap.size,rfl,by have:=x.o;rw[Aj]at this;exact this,U⟩
theorem Ed(c:Bool)(w bv a:Nat)(i:W)(hN:a<=60)(y:i.cell? (A w 0)=some (.bool c)) :
  C' 249 #[R w 1 bv,N a] i fun P H=>∃g,P=.returned (R g a a)/\H.heap[g]?=some (.cells (List.replicate a (.bool c)).toArray 4 (0,0))/\Below i.heap.size i H:=by
 obtain⟨i0,C,am,G,ap⟩:=ks Tryz.bt;have F:(Tryz.prog.info? 4).map (·.size)=some 1:=by rw[C];simp[G]
 have O:=I y;have bX:=aZ i _ y;have d0:IntKind.u64.wrap (a:Int)=(a:Int):=Qw (by omega) (by omega);have d1:IntKind.i64.wrap (a:Int)=(a:Int):=Ge (by omega) (by omega);clear y;go_enter Tryz.func249,Tryz.ntmps249;go_wp2_with fail;refine(Bi a _ hN).mono ?_;rintro P b ⟨rfl,rfl⟩;have cs:=O;by_cases B:a=0
 ·subst B;go_wp2_with(first
   | (at_make;refine kN _ rfl (.tmp 29) (.tmp 29) 282 rfl b.heap.size 4 i0 (.bool false) 1 Tryz.underlying282 C am G .i64 .i64 _ _ 0 rfl rfl rfl rfl (by rw[ap];omega) (by unfold maxLen;omega) (aA _) ?_;intro K q o;have u:=Vi (v:=.bool c) q rfl;have m:Below b.heap.size b K:=(k8 _ _).grown o (aA _) (fun _ e=>by cases e);clear q o)
   | (refine wpList_copy_splice rfl (.tmp 31) (.tmp 32) 282 282 rfl 4 Tryz.underlying282 F _ _ _ _ _ _ rfl rfl b.heap.size 0 _ 4 u [] (by simp) (fun e=>by simp at e) (by simp) (fun _ e=>by cases e) b.heap.size b m (aA _) ?_;intro L t s))
  go_loopw [8] (fun r wr=>r=N 0/\wr=L) (fun _ _=>0)
  case atStart=>exact⟨rfl,rfl⟩
  case round =>
   obtain⟨rfl,rfl⟩:=hrel;go_wp2;go_ret;exact⟨b.heap.size,rfl,by simpa[splice,VB]using t.out,s⟩
 ·have V:1<=a:=by omega
  have Y:Nat.min 1 a=1:=d9 V;have da:=I B;clear B;go_wp2_with(first
   | (at_make;refine kN _ rfl (.tmp 29) (.tmp 29) 282 rfl b.heap.size 4 i0 (.bool false) 1 Tryz.underlying282 C am G .i64 .i64 _ _ a rfl rfl rfl rfl (by rw[ap];omega) (by unfold maxLen;omega) (aA _) ?_;intro K q o;have u:=Vi (v:=.bool c) q rfl;have m:Below b.heap.size b K:=(k8 _ _).grown o (aA _) (fun _ e=>by cases e);clear q o)
   | (refine wpList_copy_splice rfl (.tmp 31) (.tmp 32) 282 282 rfl 4 Tryz.underlying282 F _ _ _ _ _ _ rfl rfl b.heap.size 0 _ 4 u (List.replicate 1 (.bool c)) ?c0 ?c1 ?c2 ?c3 b.heap.size b m (aA _) ?_))
  case c0=>rw[bf];exact Y.symm
  case c1 =>
   intro j v D;cases j with
   | zero =>
    simp at D;subst D;exact(m.cell (p:=A w 0) bX).trans O.o
   | succ j=>simp at D
  case c2=>rw[KX _ _ _ _ (by omega)];simp;omega
  case c3=>intro v hv;simp at hv;subst hv;rfl
  intro L t s;have M:J (L.heap[b.heap.size]?=some (.cells (VB a 1 (.bool c) (.bool false)).toArray 4 (0,0))):=by
   have T:=KZ a 0 1 (.bool c) (.bool false) (by omega);have f:=t.out;simp only[gE,dh]at f T;rw[T]at f;exact f
  clear u m t Y;go_wp2_with fail;go_loopw [8] (fun r wr=>∃n:Nat,1<=n/\n<=a/\r=N n/\J (wr.heap[b.heap.size]?=some (.cells (VB a n (.bool c) (.bool false)).toArray 4 (0,0)))/\Below b.heap.size b wr) (fun r _=>a-(intOf r).toNat)
  case atStart=>exact⟨1,aA _,V,rfl,M,s⟩
  case round =>
   clear M s;obtain⟨n,ci,dW,rfl,x,U⟩:=hrel;by_cases ds:n<a
   ·have dl:(0:Int)<=(n:Int):=(by omega);have dr:(n:Int)<=(a:Int):=(by omega);have cd:(n:Int)<(a:Int):=(by omega);go_wp2_with fail;have dd:¬a=n:=(by omega);have ce:Nat.min n (a-n)<=n:=gS _ _;have dv:Nat.min n (a-n)<=a-n:=gL _ _;have E:n+Nat.min n (a-n)<=a:=(by omega);have dT:1<=Nat.min n (a-n):=Nat.le_min.2 ⟨ci,by omega⟩;have HC:=I (Cu (k:=Nat.min n (a-n)) x.o ce);generalize Z:Nat.min n (a-n)=h at *;have bi:=I Z;clear Z;refine k9 (S:=fun H=>True) (by kernel_rfl) trivial (fun z=>?_);refine tk 0 (N n) ?_;refine tk 1 (R b.heap.size a a) ?_;refine tk 2 (N n) ?_;refine tk 3 (.slice (some (A b.heap.size n)) (a-n) (a-n)) ?_;refine tk 4 (R b.heap.size a a) ?_;refine tk 5 (N n) ?_;refine tk 6 (R b.heap.size n a) ?_;simp only[jA,jB,jC,Act.put,jD,jE,jF];refine rd 7 (fun l d=>?_);refine step_copy_splice (w:=wr.drew) (by rfl) (.tmp 41) (.tmp 44) 282 282 (by rfl) 4 Tryz.underlying282 F _ _ _ _ _ _ (by rfl) (by rfl) b.heap.size n _ 4 x.o (List.replicate h (.bool c)) (by rw[bf];exact bi.o.symm) (fun _=>⟨rfl,_,rfl,HC.o⟩) (by rw[KX _ _ _ _ (by omega),bf];exact E) (fun d2 hu=>by rw[dk]at hu;rw[hu.2];rfl) b.heap.size b (show Below b.heap.size b wr.drew from below_drewN U 1) (aA _) ?_;intro w5 X b4;have be:J (w5.heap[b.heap.size]?=some (.cells (VB a (n+h) (.bool c) (.bool false)).toArray 4 (0,0))):=by
     have f:=X.out;rw[KZ a n h _ _ E]at f;exact f
    rw[bf];clear X;(try go_wp2_with fail);refine d.out _ _ trivial (fun z=>?_);clear d l;(try simp only[jA,jB,jC,Act.put,jD,jE,jF]);refine rd 8 (fun l d=>?_);simp only[jA,jB,jC];go_simp;(try go_wp2_with fail);refine d.out _ _ trivial (fun z=>?_);clear d l;(try simp only[jA,jB,jC,Act.put,jD,jE,jF]);refine rd 9 (fun l d=>?_);simp only[jA,jB,jC];go_simp;(try go_wp2_with fail);refine d.out _ _ trivial (fun z=>?_);clear d l;(try simp only[jA,jB,jC,Act.put,jD,jE,jF]);refine kp (by kernel_rfl) ?_ _;have ac:IntKind.i64.wrap ((n:Int)+(h:Int))=((n+h:Nat):Int):=(by rw[kE];omega);rw[ac];clear ac;go_wp2_with fail;go_roundw
    ·exact⟨n+h,by omega,E,rfl,be,b4⟩
    ·simp[intOf];omega
   ·have co:n=a:=(by omega);subst co;have cd:decide ((n:Int)<(n:Int))=false:=(by simp);go_wp2;go_ret;exact⟨b.heap.size,rfl,by have:=x.o;rw[Aj]at this;exact this,U⟩
theorem RQ(n:Nat)(c:List Z9)(b a:Nat):∃d,jN n c (b+a)=jN n c b++d:=by
 induction a with
 | zero=>exact⟨[],by simp⟩
 | succ a f =>
  obtain⟨d,e⟩:=f;exact⟨d++xi n c (b+a),by rw[<-dq,jN,e,aD]⟩
def jba(c:List Z9->Prop)(rest:B8)(b:List Z9)(d:B8):Prop :=
 ∀a q,c a->rest=jN 2 a a.length++q->a.take b.length=b/\Ci a b.length/\rest=jN 2 a b.length++d
theorem CP(a:List Z9->Prop)(rest:B8):jba a rest [] rest:=fun c q _ b=>⟨rfl,.inl rfl,rfl⟩
def Di(b:Nat)(a:List Z9):Prop:=a.length=b/\∀c∈a,okI c
theorem Vk(w:jba (Di n) s D r)(e:D.length<n)(a:List Z9)(q:B8)(f:Di n a)(k:s=jN 2 a a.length++q) :
  ∃(d:Nat) (v:Int) (o:B8),0<d/\d<=n-D.length/\B9 v/\r=uB d++(zB v++o)/\a.take (D.length+d)=D++List.replicate d ⟨false,v,[]⟩/\Ci a (D.length+d)/\s=jN 2 a (D.length+d)++o:=by
 obtain⟨x,y,z⟩:=w a q f k;have g:D.length<a.length:=by rw[f.1];exact e
 generalize P:D.length=b at *;have H:=Ir a b g y;have T:=YX a b g;have C:=NF (a[b]).int (a.drop b);rw[aP]at C;have B:=Ti a b g;have L:=YY a b;generalize G:QC (a[b]).int (a.drop b)=d at *;have K:=H d (by omega) (aA _);obtain⟨p,i⟩:=RQ 2 a (b+d) (a.length-(b+d));rw[show b+d+(a.length-(b+d))=a.length by omega]at i;have F:=f.2 a[b] (aJ g);refine⟨d,(a[b]).int,p++q,by omega,by rw[<-f.1];omega,F.2.2,?_,?_,B,?_⟩
 ·have t:jN 2 a b++r=jN 2 a b++(uB d++(zB (a[b]).int++(p++q))):=by
   rw[<-z,k,i,K];simp only[aD]
  exact dY t
 ·have u:a.take (b+d)=a.take b++(a.drop b).take d:=by rw[fN]
  rw[u,x]
  congr 1;apply dS
  ·rw[aM,aP,bf];omega
  ·intro j O m;rw[bf]at m;rw[dL,bZ,cH];have l:=L j g (by rw[G];exact m);rw[qy a (b+j) (by omega)]at l;have E:=f.2 a[b+j] (aJ _);obtain⟨h,rest,_⟩:=E;generalize a[b+j]=c at *;obtain⟨cn,M,ct⟩:=c;simp only at h rest l;subst h rest l;rfl
 ·rw[k,i,aD]
theorem Gp(p:Nat)(b rest:B8)(n:Int)(a:Nat)(c:W)(d:n=(a:Int))(g:b.length<=maxLen)(e:a<=1000000)(f:qU c p b rest) :
  C' 242 #[(Q p 0),N n] c (RX (fun n:Nat=>n<=a) uB (fun n=>N n) p b rest c):=by
 subst d;exact UY p b rest a c g e f
theorem KK(f:qU v n s r)(p:n<w.heap.size)(g:w.grownBy v (some n))(e:v.ownsRow w.heap.size k i x m C)
  (d:v.grownBy u x.ownBlock):qU u n s r/\w.grownBy u (some n):=by
 have q:=zh f;have t:some n≠x.ownBlock:=by
  intro a;have:=(e.lt n a.symm).1;omega
 obtain⟨at_,j,b,l⟩:=f;exact⟨⟨at_,(d.block n q t).trans j,b,l⟩,Jt g d (fun c o=>(e.lt c o).1)⟩
theorem BA (g p count:Nat) (s rest:List UInt8) (w:World) (hs:s.length≤maxLen) (hc:count≤60) (hp:qU w p s rest) :
  C' 186 #[G6 g,.pointer (some ⟨p,0,none⟩),.int .i64 (count:Int)] w (ZN 3 Zs (Di count) (fun l=>jN 2 l l.length) p s rest w):=by
 obtain ⟨i0,hi,hz0,hz1,hz2⟩:=ks Tryz.ay
 have Hs:=I hs
 have Hp:=I hp
 have hplt:=zh hp
 clear hs hp
 go_enter Tryz.func186,Tryz.ntmps186
 go_wp2
 obtain ⟨hb0,hs0,hc0⟩:=Qr w #[.slice (some ⟨g,0,none⟩) 3 3,V4 187,V4 188,V4 189,V4 190,V4 191,V4 192] 215
 have hc1:_=some (V4 192):=hc0 6
 have Hc:=I hc1
 have Hp0:=I (xf Hp.o hb0 hplt)
 have Hb0:=I hb0
 have hs1:=Nat.lt_of_lt_of_eq (Nat.lt_succ_self w.heap.size) hs0.symm
 have hplt0:=Nat.lt_of_lt_of_le hplt hb0.size
 clear hc0 hc1 hb0 hs0
 generalize w.alloc _=w0 at *
 go_loopg [7] count (fun gk v wr=>∃ (acc:List Z9) (r:List UInt8),acc.length+gk=count∧(∀ c ∈ acc,okI c)∧wr.ownsRow w0.heap.size 3 1 v acc.length (Zs acc)∧qU wr p s r∧w0.grownBy wr (some p)∧jba (Di count) rest acc r)
 case atStart=>exact ⟨[],rest,Nat.zero_add _,(fun c h=>Qt h),kg _ _ _ _,Hp0.o,qb _ _,CP _ _⟩
 case round =>
  obtain ⟨acc,r,hal,hok,hown,hrd,hg,hleft⟩:=hrel
  have Hal:=I hal
  have Hok:=I hok
  have Hleft:=I hleft
  have Hg:=I hg
  have hln:=Ig hown wr
  have hln1:acc.length≤count:=by omega
  clear hok hleft hal
  by_cases hlt:acc.length < count
  ·have hi1:(acc.length:Int) < (count:Int):=by omega
   have hcf0:=(hg.cell_far ⟨w.heap.size,6,none⟩ hs1 (by intro h;simp at h;omega)).trans Hc.o
   have Hcf0:=I hcf0
   clear hg hcf0
   go_wp2_with fail
   refine (Gp p s r _ (count - acc.length) _ (by omega) Hs.o (by omega) hrd).mono ?_
   rintro e w2 ⟨hg2,⟨rfl,hno⟩|⟨n,r2,hn,rfl,hrd2,hu⟩⟩
   ·go_wp2
    refine ⟨rfl,je (jU (qb w _) Hb0.o) (je Hg.o hg2),.inl ⟨rfl,fun l2 q hl2 h=>?_⟩⟩
    obtain ⟨rr,v,m,k1,k2,k3,k4,_⟩:=Vk Hleft.o hlt l2 q hl2 h
    exact hno rr _ k2 k4
   ·have Hu:=I hu
    have hn1:n≤count - acc.length:=hn
    have hown2:=xI hown hplt0 hg2
    have hG2:=je Hg.o hg2
    have Hcf2:J (w2.cell? ⟨w.heap.size,6,none⟩=some (V4 192)):=(hg2.cell_far ⟨w.heap.size,6,none⟩ (Nat.lt_of_lt_of_le hs1 Hg.o.size) (by intro h;simp at h;omega)).trans Hcf0.o
    clear hown hrd hu hg2 hln
    by_cases hn0:0 < n
    ·have hn0i:(0:Int) < (n:Int):=by omega
     have hcf2:=Hcf2.o
     go_wp2_with fail
     refine (qx _).mono ?_
     rintro e w2' ⟨rfl,rfl⟩
     go_wp2_with fail
     refine (Vx p s r2 0 _ Hs.o ⟨by decide,by decide⟩ hrd2).mono ?_
     rintro e w3 ⟨hg3,⟨rfl,hno⟩|⟨x,r3,hx,rfl,hrd3,hu3⟩⟩
     ·go_wp2
      refine ⟨rfl,je (jU (qb w _) Hb0.o) (je hG2 hg3),.inl ⟨rfl,fun l2 q hl2 h=>?_⟩⟩
      obtain ⟨rr,v,m,k1,k2,k3,k4,_⟩:=Vk Hleft.o hlt l2 q hl2 h
      obtain ⟨e1,e2⟩:=Hu.o rr _ k2 k4
      exact hno v m k3 (by show _=zB (wrap64 (v - 0))++m;rw [RH v k3.1 k3.2];exact e2.symm)
     ·have Hu3:=I hu3
      have Hx:=I hx
      have hown3:=xI hown2 hplt0 hg3
      have hG3:=je hG2 hg3
      clear hown2 hrd2 hu3 hg3 hG2 hcf2 hx
      go_wp2_with fail
      refine (jct x w3.heap.size 1 n _ (by omega) (kF ..)).mono ?_
      rintro e w4 ⟨g4,rfl,hb4,hB4⟩
      have hB4':Below w3.heap.size w3 w4:=zl hB4
      have hown4:=ju hown3 hB4'
      have hrd4:=xf hrd3 hB4' (zh hrd3)
      have hG4:=jU hG3 hB4'
      have HN4:=I (World.news_of_block hb4)
      clear hB4 hB4' hown3 hrd3 hG3 hb4
      go_wp2_with (at_builtin;refine ko _ rfl (.tmp 29) (.tmp 33) 82 rfl w0.heap.size 3 i0 (.int .i64 0) 1 8 Tryz.underlying82 hi hz0 hz1 hz2 rfl (by decide) _ _ _ rfl hown4 ⟨g4,0,none⟩ n n (List.replicate n (.int .i64 x)) rfl ?c0 ?c1 ?c2 ?c3 ?c4 ?c5 ?_)
      case c0=>simp
      case c1=>intro j u hj;exact HN4.o j u (by simpa using hj)
      case c2=>intro u hu;rw [List.mem_replicate] at hu;rw [hu.2];rfl
      case c3=>unfold maxLen;omega
      case c4=>omega
      case c5=>have:=hG4.size;omega
      intro v5 w5 hown5 hgr5 _
      have HR:=I (KK hrd4 hplt0 hG4 hown4 hgr5)
      have HO5:=I hown5
      have HX:J (Zs (acc++List.replicate n ⟨false,x,[]⟩)=Zs acc++List.replicate n (.int .i64 x)):=by simp [J,Zs]
      have HLN:J ((acc++List.replicate n (⟨false,x,[]⟩:Z9)).length=acc.length+n):=by simp [J]
      clear hown4 hown5 hgr5 hG4 hrd4 HN4
      go_wp2
      go_roundg (count - acc.length - n)
      case measure=>have:=Hal.o;omega
      case rel =>
       refine ⟨acc++List.replicate n ⟨false,x,[]⟩,r3,?_,?_,?_,HR.o.1,HR.o.2,?_⟩
       ·rw [HLN.o];omega
       ·intro c hc
        rcases List.mem_append.1 hc with h|h
        ·exact Hok.o c h
        ·rw [List.mem_replicate] at h;rw [h.2];exact ⟨rfl,rfl,Hx.o⟩
       ·rw [HX.o,HLN.o];exact HO5.o
       ·intro l2 q hl2 h
        obtain ⟨rr,v,m,k1,k2,k3,k4,k5,k6,k7⟩:=Vk Hleft.o hlt l2 q hl2 h
        obtain ⟨e1,e2⟩:=Hu.o rr _ k2 k4
        obtain ⟨e3,e4⟩:=Hu3.o v m k3 (by show _=zB (wrap64 (v - 0))++m;rw [RH v k3.1 k3.2];exact e2.symm)
        subst e1 e3 e4
        rw [HLN.o]
        exact ⟨k5,k6,k7⟩
    ·have hn0i:decide ((0:Int) < (n:Int))=false:=by simp;omega
     go_wp2_with fail
     refine (xu _).mono ?_
     rintro e w2' ⟨rfl,rfl⟩
     go_wp2
     refine ⟨rfl,je (jU (qb w _) Hb0.o) hG2,.inl ⟨rfl,fun l2 q hl2 h=>?_⟩⟩
     obtain ⟨rr,v,m,k1,k2,k3,k4,_⟩:=Vk Hleft.o hlt l2 q hl2 h
     obtain ⟨e1,e2⟩:=Hu.o rr _ k2 k4
     omega
  ·have hke:acc.length=count:=by omega
   have hi1:decide ((acc.length:Int) < (count:Int))=false:=by simp;omega
   have Hke:=I hke
   have Hown:=I hown
   have Hrd:=I hrd
   clear hg hown hrd hke
   go_wp2
   go_ret
   refine ⟨je (jU (qb w _) Hb0.o) Hg.o,.inr ⟨acc,r,_,⟨Hke.o,Hok.o⟩,rfl,jQ Hown.o Hb0.o.size,Hrd.o,fun l2 q hl2 h=>?_⟩⟩
   obtain ⟨e1,e2,e3⟩:=Hleft.o l2 q hl2 h
   rw [Hke.o,← hl2.1,List.take_length] at e1
   subst e1
   refine ⟨rfl,?_⟩
   have e4:jN 2 l2 l2.length++q=jN 2 l2 l2.length++r:=h.symm.trans e3
   exact List.append_cancel_left e4
abbrev U6:List TypeId:=[231,5,40]
abbrev F4(d c b a:Value)(j:V6):V':=#[d,N j.J.group,N j.J.aa,N j.J.R,.bool j.J.told,S j.pre,N j.draw,c,b,a]
def U3(c:W)(b q:Nat)(g f:Value)(j:V6)(a:G8):Prop :=
 ∃e d,c.heap[q]?=some (.cells (F4 g f e d j) 231 (0,0))/\b<=q/\c.ownsRow b 5 1 e a.o.length (qW a.o)/\c.ownsRow b 40 4 d a.log.length (qg a.log)
theorem U3.j{B q:Nat}{e c:Value}{j:V6}{d:G8}(g:U3 w B q e c j d)(a:Below w.heap.size w v):U3 v B q e c j d:=by
 obtain⟨n,m,h,i,k,l⟩:=g;exact⟨n,m,jd a h,i,ju k a,ju l a⟩
variable{X:V6}
theorem U3.lt{g:G8}(c:U3 w n m x y X g):n<=m/\m<w.heap.size:=by
 obtain⟨k,i,d,e,_⟩:=c;exact⟨e,(aF.1 d).1⟩
theorem xg(c:w.heap[n]?=some (.cells (F4 x y z q X) 231 (0,0))) :
  (w.cell? (A n 0)=some x/\w.cell? (A n 1)=some (N X.J.group)/\w.cell? (A n 2)=some (N X.J.aa)/\w.cell? (A n 5)=some (S X.pre)/\w.cell? (A n 6)=some (N X.draw)/\w.cell? (A n 7)=some y/\w.cell? (A n 8)=some z/\w.cell? (A n 9)=some q)/\∀b,w.frozen? (A n b)=false:=by
 refine⟨⟨?_,?_,?_,?_,?_,?_,?_,?_⟩,fun b=>kh w n b _ _ c⟩
 all_goals rw[jb c];rfl
theorem Tryz.ak:(Tryz.prog.info? 40).map (fun a=>(a.zero,a.size,a.bytes))=some (some (.agg #[.string ⟨#[]⟩,.string ⟨#[]⟩,.string ⟨#[]⟩,.string ⟨#[]⟩]),4,64):=by kernel_rfl
theorem qd{o b2:List Value}(f:w.ownsRow n k g x p o)(l:w.ownsRow m i c y h b2)(b1:k≠i):x.ownBlock=none\/x.ownBlock≠y.ownBlock:=by
 rcases f.2 with⟨rfl,_⟩|⟨b,q,s,rfl,_,j,_⟩
 ·exact .inl rfl
 ·right;rcases l.2 with⟨rfl,_⟩|⟨u,r,t,rfl,_,d,_⟩
  ·simp[Value.ownBlock]
  ·simp only[Value.ownBlock,gV,aW];rintro rfl;rw[j]at d;cases d;exact b1 rfl
theorem NX{e:V'}(h:w.ownsRow n m k x i C)(b:w.heap[g]?=some (.cells e F (0,0)))(j:F≠m):x.ownBlock≠some g:=by
 rcases h.2 with⟨rfl,_⟩|⟨f,c,o,rfl,_,d,_⟩
 ·simp[Value.ownBlock]
 ·simp only[Value.ownBlock,gV,aW];rintro rfl;rw[d]at b;cases b;exact j rfl
theorem jt(h:w.ownsRow n m k x i C):∃b c,x=.slice b i c:=by
 rcases h.2 with⟨rfl,rfl⟩|⟨g,e,l,rfl,_⟩
 ·exact⟨none,0,rfl⟩
 ·exact⟨_,e,rfl⟩
theorem By{s r i h a:Value}{st:G8}{out2:B8}
  (x:w.heap[m]?=some (.cells (F4 s r i h X) 231 (0,0)))(b:n<=m)(g:w.ownsRow n 5 1 i st.o.length (qW st.o))(p:w.ownsRow n 40 4 h st.log.length (qg st.log))
  (u:n<=w.heap.size)(o:v.ownsRow n 5 1 a k (qW out2))(q:k=out2.length)(f:w.grownBy v i.ownBlock) :
  U3 (v.setCell (A m 8) a) n m s r X ⟨out2,st.log⟩/\V8 U6 n w (v.setCell (A m 8) a):=by
 subst q;have e:=jq f g x (by decide);have j:=p.kept f (qd p g (by decide));have y:=kj v m 8 _ 231 a e;have l:v.grownBy (v.setCell (A m 8) a) (some m):=⟨rfl,rfl,rfl,by simp,fun z _ c=>kA v (A m 8) z a (fun t=>c (by simp[t]))⟩;refine⟨⟨a,h,?_,b,o.kept l (.inr (NX o e (by decide))),j.kept l (.inr (NX j e (by decide)))⟩,?_⟩
 ·rw[y];rfl
 ·refine V8.set ?_ e b (by decide) a;exact(V8.refl _ _ _).grown f u (RF g (by decide))
theorem Wj{s r i h a:Value}{st:G8}{log2:List V5}
  (x:w.heap[m]?=some (.cells (F4 s r i h X) 231 (0,0)))(b:n<=m)(p:w.ownsRow n 5 1 i st.o.length (qW st.o))(g:w.ownsRow n 40 4 h st.log.length (qg st.log))
  (u:n<=w.heap.size)(o:v.ownsRow n 40 4 a k (qg log2))(q:k=log2.length)(f:w.grownBy v h.ownBlock) :
  U3 (v.setCell (A m 9) a) n m s r X ⟨st.o,log2⟩/\V8 U6 n w (v.setCell (A m 9) a):=by
 subst q;have e:=jq f g x (by decide);have j:=p.kept f (qd p g (by decide));have y:=kj v m 9 _ 231 a e;have l:v.grownBy (v.setCell (A m 9) a) (some m):=⟨rfl,rfl,rfl,by simp,fun z _ c=>kA v (A m 9) z a (fun t=>c (by simp[t]))⟩;refine⟨⟨i,a,?_,b,j.kept l (.inr (NX j e (by decide))),o.kept l (.inr (NX o e (by decide)))⟩,?_⟩
 ·rw[y];rfl
 ·refine V8.set ?_ e b (by decide) a;exact(V8.refl _ _ _).grown f u (RF g (by decide))
theorem Mc(b:List (B8))(a:Nat)(c:a<b.length):(b.take (a+1)).flatten=(b.take a).flatten++b[a]:=by
 rw[aH c,cT];simp
theorem YM(a:List (B8))(b:Nat):(a.take b).flatten.length<=a.flatten.length:=by
 have:a.flatten=(a.take b).flatten++(a.drop b).flatten:=by rw[<-cT,aY]
 rw[this,aB];omega
theorem KV(d q p n:Nat)(s r:Value)(j:V6)(c:G8)(a:List (B8))(f:W)(U:a.length=n)(bv:n<=1000)(hs:c.o.length+a.flatten.length<=100000000)
  (M:d<=f.heap.size)(z:U3 f d q s r j c)(C:f.heap[p]?=some (.cells (Jk a).toArray 9 (0,0))) :
  C' 138 #[(Q q 0),R p n n] f fun L E=>L=.returned (.tuple #[])/\U3 E d q s r j ⟨c.o++a.flatten,c.log⟩/\V8 U6 d f E:=by
 subst U;obtain⟨i0,P,X,Y,Z⟩:=ks Tryz.a4;have G:=I z;have H:=I C;clear z C;go_enter Tryz.func138,Tryz.ntmps138;go_wp2;go_loopw [8] (fun o wr=>∃b:Nat,b<=a.length/\o=N b/\U3 wr d q s r j ⟨c.o++(a.take b).flatten,c.log⟩/\V8 U6 d f wr) (fun o _=>a.length-(intOf o).toNat)
 case atStart=>exact⟨0,aG _,rfl,by simpa using G.o,V8.refl _ _ _⟩
 case round =>
  obtain⟨b,be,rfl,m,h⟩:=hrel;by_cases y:b<a.length
  ·have ap:(b:Int)<(a.length:Int):=(by omega);obtain⟨ov,lv,g,O,e,k⟩:=m;have B:=h.row H.o (by decide);have cp:wr.cell? (A p b)=some (S a[b]):=(by rw[jb B];simp[Jk,y]);obtain⟨⟨c0,c1,c2,c5,c6,c7,c8,c9⟩,cf⟩:=xg g;have K:=cf 8;have u:=I (Mc a b y);have x:=YM a (b+1);rw[u.o,aB]at x;have F:J (c.o++(a.take (b+1)).flatten=(c.o++(a.take b).flatten)++a[b]):=by show _=_;rw[u.o,aD]
   have bi:(c.o++(a.take b).flatten).length+(a[b]).length<=100000000:=(by rw[aB];omega);have w:=aI M h.size;have V:=jT a[b];simp only at e k;generalize c.o++(a.take b).flatten=D at *;generalize a[b]=part at *;clear B c0 c1 c2 c5 c6 c7 c9 cf x;go_wp2_with(at_builtin;refine Lib.wpList_append_own_string _ rfl (.tmp 16) (.tmp 17) 149 9 rfl d 5 i0 Tryz.underlying149 Tryz.underlying9 P X Y Z _ _ _ rfl e ⟨part.toArray⟩ rfl (by unfold maxLen;omega) (by omega) w ?_;intro v2 t l i _;obtain⟨a2,c2,rfl⟩:=jt l;have ac:t.frozen? (A q 8)=false:=kh t q 8 _ _ (jq i e g (by decide));have am:t.cell? (A q 8)=some ov:=(jb (jq i e g (by decide))).trans rfl);have v:=I (By (st:=⟨D,c.log⟩) (out2:=D++part) g O e k w (by rw[ZH];exact l) (by rw[aB,V]) i);clear g e k l i c8 K cp;go_wp2;go_roundw
   ·exact⟨b+1,by omega,by go_num,by rw[F.o];exact v.o.1,h.trans v.o.2⟩
   ·simp[intOf];omega
  ·have T:b=a.length:=(by omega);subst T;rw[aS]at m;go_wp2;go_end0
   exact⟨rfl,m,h⟩
end Go.Proofs.YthhpbhpfagoapaaGreat
