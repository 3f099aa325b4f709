import Derived.Test.YthhpbhpfagoapaaGreatGAE
import Derived.BigQuiet
import Derived.Lib.Strings
import Derived.Deep.DeepCutAuto
namespace Go.Proofs.YthhpbhpfagoapaaGreat
set_option linter.all false
set_option maxRecDepth 100000
set_option maxHeartbeats 16000000
open Go.RowKit
theorem AO(a b:B8):zj [⟨a.toArray⟩,⟨b.toArray⟩]=a++b:=by simp[zj]
theorem TJ(d c b a:B8):(Rn d c b a).length=2:=rfl
theorem FK(parts:List ByteArray)(b:V')(n:Nat)(a:W)(g:b=(parts.map Value.string).toArray)(h:parts.length=n)(i:n<=1000)(j:(zj parts).length<=1000000) :
  C' 194 #[R a.heap.size n n] (a.alloc (.cells b 9)) fun c d=>c=.returned (S (zj parts))/\Below (a.heap.size+1) (a.alloc (.cells b 9)) d:=by
 subst h;refine(MD parts a.heap.size parts.length _ i j (by simp) (VH a parts b g _)).mono ?_;rintro c d ⟨e,f⟩;exact⟨e,by simpa using f⟩
theorem OH(b a d plain:ByteArray)(g:W)(j:b.size<=1000)(k:a.size<=1000)(q:d.size<=5000)(l:plain.size<=5000) :
  C' 257 #[.string b,.string a,.string d,.string plain] g fun e t =>
   e=.returned (S (zg b.data.toList a.data.toList d.data.toList plain.data.toList))/\Below g.heap.size g t:=by
 have f:(1000:Nat)<=maxLen:=by decide
 have x:(5000:Nat)<=maxLen:=by decide
 go_enter Tryz.func257,Tryz.ntmps257;go_wp2_with fail;refine(Tn b a plain g (aI j f) (aI k f) l).mono ?_;rintro e y ⟨rfl,m⟩;have o:=zS b.data.toList a.data.toList plain.data.toList;have w:(zD b.data.toList a.data.toList plain.data.toList).length<=5000:=by rw[o];simpa using l
 clear o;have i:J (∀c,c=zD b.data.toList a.data.toList plain.data.toList->c++Rn b.data.toList a.data.toList d.data.toList c=zg b.data.toList a.data.toList d.data.toList plain.data.toList):=by
  intro c s;subst s;rfl
 have p:=I (i.o _ rfl);clear i;generalize zD b.data.toList a.data.toList plain.data.toList=h at *;go_wp2_with fail;refine(Df b a d ⟨h.toArray⟩ _ (aI j f) (aI k f) q (by rw[jT];omega)).mono ?_;rintro e u ⟨rfl,n⟩;go_wp2_with fail;refine(FK [⟨h.toArray⟩,⟨(Rn b.data.toList a.data.toList d.data.toList h).toArray⟩] _ 2 u rfl rfl (by decide) (by rw[AO,aB,TJ];omega)).mono ?_;rintro e z ⟨rfl,r⟩;rw[AO,p.o];go_wp2;go_ret;refine⟨rfl,?_⟩;have v:=m.size;have B:=n.size;exact((m.trans (n.mono v)).alloc (by omega) _).trans (r.mono (by omega))
theorem jee(d c a b:ByteArray):QR 1 ((⟨#[84]⟩++d++c++⟨(qh (a.size:Int)).toArray⟩++a++b:ByteArray).data.toList)=QR 1 (84::(d.data.toList++c.data.toList++qh (a.data.toList.length:Int)++a.data.toList++b.data.toList)):=by
 simp only[CM];simp
theorem YD(b a d plain:ByteArray)(g:W)(p:b.size<=1000)(q:a.size<=1000)(z:d.size<=5000)(i:plain.size<=5000) :
  C' 59 #[.string b,.string a,.string d,.string plain] g fun f w =>
   f=.returned (S (zg b.data.toList a.data.toList d.data.toList plain.data.toList))/\Below g.heap.size g w:=by
 go_enter Tryz.func59,Tryz.ntmps59;go_wp2_with fail;refine(YH b a plain g p q i).mono ?_;rintro f F ⟨rfl,j⟩;have l:=zS b.data.toList a.data.toList plain.data.toList;have B:(zD b.data.toList a.data.toList plain.data.toList).length<=5000:=by rw[l];simpa using i
 clear l;have h:J (∀c,c=zD b.data.toList a.data.toList plain.data.toList->c++Rn b.data.toList a.data.toList d.data.toList c=zg b.data.toList a.data.toList d.data.toList plain.data.toList):=by
  intro c s;subst s;rfl
 have m:=I (h.o _ rfl);clear h;generalize zD b.data.toList a.data.toList plain.data.toList=e at *;have D:(qh (d.size:Int)).length<=2:=cO (jx _);have o:=I (jee b a d ⟨e.toArray⟩);go_wp2_with fail;refine(Jg _ _ (by omega) (by omega)).mono ?_;rintro f x ⟨rfl,k⟩;go_wp2_with fail;refine(Ii _ x ?_).mono ?_
 ·simp only[lp,jT];unfold maxLen;simp;omega
 rintro f G ⟨rfl,rfl⟩;rw[o.o];have u:=XL (84::(b.data.toList++a.data.toList++qh (d.data.toList.length:Int)++d.data.toList++e)) 1 (by decide) (by decide);obtain⟨v,C⟩:=u;have n:J (qh (QR 1 (84::(b.data.toList++a.data.toList++qh (d.data.toList.length:Int)++d.data.toList++e)))=Rn b.data.toList a.data.toList d.data.toList e):=rfl;generalize QR 1 (84::(b.data.toList++a.data.toList++qh (d.data.toList.length:Int)++d.data.toList++e))=t at *;have E:(qh t).length<=2:=cO (jx _);go_wp2_with fail;refine(Jg t _ v (by omega)).mono ?_;rintro f H ⟨rfl,r⟩;go_wp2;go_ret;have y:=j.size;have K:=k.size;refine⟨?_,(j.trans (k.mono y)).trans (r.mono (by omega))⟩;rw[<-m.o,<-n.o];simp[lq]
theorem jfs(a:Int)(c:0<=a)(d:a<=255):bits .or .u8 a 128=a%128+128:=by
 obtain⟨b,rfl⟩:=cL c;have key:∀b:Fin 256,bits .or .u8 ((b.val:Nat):Int) 128=((b.val:Nat):Int)%128+128:=by decide
 exact key ⟨b,by omega⟩
theorem In(a:UInt8):qW [a]=[.int .u8 (a.toNat:Int)]:=rfl
variable{u v w:W}{q x y z:Value}{b l r s:B8}{K:Int}
theorem Pe{n k:Nat}{b:UInt8}(o:Obj)(e:k=n+1)(j:(b.toNat:Int)=K)(d:Below w.heap.size w v)(m:v.ownsRow w.heap.size 5 1 x n (qW s))
  (i:u.ownsRow w.heap.size 5 1 y (n+1) (qW s++[.int .u8 K]))(l:(v.alloc o).grownBy u x.ownBlock) :
  u.ownsRow w.heap.size 5 1 y k (qW (s++[b]))/\Below w.heap.size w u:=by
 subst e;rw[ZH,In,j];exact⟨i,(d.alloc d.size o).grown l (by have:=d.size;simp;omega) (fun k e=>(m.lt k e).1)⟩
theorem Iz(n:Nat)(d:W)(F:n<18446744073709551616) :
  C' 265 #[.int .u64 (n:Int)] d fun B L=>B=.returned (S (uB n))/\Below d.heap.size d L:=by
 obtain⟨x,o,s,u,w⟩:=ks Tryz.a4;have z:=I (jO n F);go_enter Tryz.func265,Tryz.ntmps265;go_wp2;go_loopw [0,3] (fun t v wr=>∃(a:Nat) (c:B8),a<=n/\t=.int .u64 (a:Int)/\wr.ownsRow d.heap.size 5 1 v c.length (qW c)/\c++uB a=uB n/\Below d.heap.size d wr)
  (fun t _ _=>Bf t)
 case atStart=>exact⟨n,[],aA _,rfl,kg _ _ _ _,rfl,k8 _ _⟩
 case round =>
  obtain⟨a,c,U,rfl,f,j,e⟩:=hrel;have l:=I j;have T:c.length<=10:=by
   have O:=z.o;have C:=bN List.length j;simp at C;omega
  clear j;by_cases D:127<a
  ·have E:(128:Int)<=(a:Int):=(by omega);have p:=jfs ((a:Int)%256) (by omega) (by omega);have q:(a:Int)%256%128+128=(a:Int)%128+128:=(by omega);rw[q]at p;clear q;go_wp2_with(at_builtin;refine ko _ rfl (.tmp 6) (.tmp 10) 149 rfl d.heap.size 5 x (.int .u8 0) 1 1 Tryz.underlying149 o s u w rfl (by decide) _ _ _ rfl (f.alloc _) (A _ 0) 1 1 [.int .u8 ((a:Int)%128+128)] rfl rfl ?c1 ?c2 ?c3 ?c4 ?c5 ?_)
   case c1=>exact qr wr #[.int .u8 ((a:Int)%128+128)] 5
   case c2=>intro H i;simp at i;subst i;rfl
   case c3=>unfold maxLen;omega
   case c4=>omega
   case c5=>have:=e.size;simp;omega
   intro K M h g _;have m:=I (Pe (k:=(c++[T4 ((a:Int)%128+128)]).length) (b:=T4 ((a:Int)%128+128)) _ (by simp) (zC _ (by omega) (by omega)) e f h g);clear f h g e p;go_wp2;go_roundw
   ·
    refine⟨a/128,c++[T4 ((a:Int)%128+128)],by omega,by go_num,m.o.1,?_,m.o.2⟩;rw[<-l.o,KJ D,aD];rfl
   ·simp[Bf];omega
  ·have E:(a:Int)<=127:=(by omega);go_wp2_with(at_builtin;refine ko _ rfl (.tmp 14) (.tmp 17) 149 rfl d.heap.size 5 x (.int .u8 0) 1 1 Tryz.underlying149 o s u w rfl (by decide) _ _ _ rfl (f.alloc _) (A _ 0) 1 1 [.int .u8 (a:Int)] rfl rfl ?c1 ?c2 ?c3 ?c4 ?c5 ?_)
   case c1=>exact qr wr #[.int .u8 (a:Int)] 5
   case c2=>intro H i;simp at i;subst i;rfl
   case c3=>unfold maxLen;omega
   case c4=>omega
   case c5=>have:=e.size;simp;omega
   intro K M h g _;obtain⟨r,G⟩:=Pe (k:=(c++[T4 (a:Int)]).length) (b:=T4 (a:Int)) _ (by simp) (zC _ (by omega) (by omega)) e f h g;have P:=VO r;have y:J (c++[T4 (a:Int)]=uB n):=by
    show c++[T4 (a:Int)]=uB n;rw[<-l.o,Qe (by omega)]
   clear f h g r e;go_wp2;go_ret;exact⟨qH y.o,G⟩
theorem EX(n:Int)(a:W)(c:0<=n)(f:n<18446744073709551616) :
  C' 265 #[.int .u64 n] a fun b e=>b=.returned (S (uB n.toNat))/\Below a.heap.size a e:=by
 obtain⟨d,rfl⟩:=cL c;rw[bY];exact Iz d a (by omega)
theorem JJ(n:Nat)(a:W)(e:n<=9223372036854775807) :
  C' 241 #[N n] a fun b d=>b=.returned (S (uB n))/\Below a.heap.size a d:=by
 have f:IntKind.u64.wrap (n:Int)=(n:Int):=Qw (by omega) (by omega);go_enter Tryz.func241,Tryz.ntmps241;go_wp2_with fail;refine(Iz n _ (by omega)).mono ?_;rintro b g ⟨rfl,c⟩;go_wp2;go_ret;exact⟨rfl,c⟩
theorem jca(a:Nat)(c:a<18446744073709551616):18446744073709551615 ^^^ a=18446744073709551615-a:=by
 have b:=bN BitVec.toNat (BitVec.allOnes_xor (x:=BitVec.ofNat 64 a));rw[BitVec.toNat_xor,BitVec.toNat_not,BitVec.toNat_allOnes,BitVec.toNat_ofNat,dR c]at b;exact b
theorem Bt(a:Int)(c:0<=a)(e:a<18446744073709551616):bits .xor .u64 IntKind.u64.max a=18446744073709551615-a:=by
 have d:IntKind.u64.max=18446744073709551615:=by decide
 obtain⟨b,rfl⟩:=cL c;rw[d,u64_xor _ _ (by decide) (by decide) (by omega) (by omega)];have:=jca b (by omega);show((18446744073709551615 ^^^ b:Nat):Int)=_;rw[this];omega
theorem GO(n:Int)(d:W)(j:-9223372036854775808<=n)(k:n<=9223372036854775807) :
  C' 244 #[N n] d fun b h=>b=.returned (S (zB n))/\Below d.heap.size d h:=by
 by_cases e:0<=n
 ·have a:J (zB n=uB (2*n.toNat)):=by simp[J,zB,zN,e]
  go_enter Tryz.func244,Tryz.ntmps244;go_wp2_with fail;refine(EX _ _ (by omega) (by omega)).mono ?_;rintro b i ⟨rfl,c⟩;go_wp2;go_ret;exact⟨qH (by rw[a.o];congr 1<;>omega),c⟩
 ·have a:J (zB n=uB (2*(-(n+1)).toNat+1)):=by simp[J,zB,zN,e]
  go_enter Tryz.func244,Tryz.ntmps244;have g:=Bt (IntKind.u64.wrap (IntKind.u64.wrap n*2)) (by rw[kJ];omega) (by rw[kJ];omega);have f:(18446744073709551615:Int)-IntKind.u64.wrap (IntKind.u64.wrap n*2)=-2*n-1:=by rw[kJ,kJ];omega
  rw[f]at g;clear f;go_wp2_with fail;refine(EX _ _ (by omega) (by omega)).mono ?_;rintro b i ⟨rfl,c⟩;go_wp2;go_ret;exact⟨qH (by rw[a.o];congr 1<;>omega),c⟩
theorem jay(v a:Nat):Vz v a=v/2^(8*a):=by
 induction a with
 | zero=>simp[Vz]
 | succ a b=>rw[Vz,b,Nat.div_div_eq_div_mul,show 8*(a+1)=8*a+8 by omega,Nat.pow_add]
variable{c g h i k m n p:Nat}
theorem OV{l:B8}(e:w.ownsRow m n 1 (R k i g) i (qW l))(h:l.length=i) :
  Sem.run Tryz.prog (convert 149 9 (R k i g)) w=.ok (S l) w:=by
 subst h;refine kS (P:=Tryz.prog) _ 149 9 5 (A k 0) g l Tryz.underlying149 Tryz.underlying5 Tryz.underlying9 ?_;intro j f;have:((A k 0):Addr).add j=(A k j):=by unfold Addr.add;split<;>simp_all
 rw[this,e.cellAt j (by omega)];simp[qW,f]
theorem Ts(j:k<8)(i:Below w.heap.size w v)
  (h:v.ownsRow w.heap.size n 1 (R w.heap.size 8 8) 8 (qW (VA m k)++List.replicate (8-k) (.int .u8 0))) :
  (v.setCell (A w.heap.size k) (.int .u8 ((m:Int)/2^(8*k)%256))).ownsRow w.heap.size n 1 (R w.heap.size 8 8) 8 (qW (VA m (k+1))++List.replicate (8-(k+1)) (.int .u8 0)) /\
  Below w.heap.size w (v.setCell (A w.heap.size k) (.int .u8 ((m:Int)/2^(8*k)%256))):=by
 have e:=(h.stored k (.int .u8 ((m:Int)/2^(8*k)%256))).1;rw[Bh _ _ _ 8 k (by simp[qW,ZV]) j]at e;refine⟨?_,i.setCell (aA _) _⟩;have f:qW (VA m (k+1))=qW (VA m k)++[.int .u8 ((m:Int)/2^(8*k)%256)]:=by
  have g:((Vz m k:Nat):Int)=(m:Int)/2^(8*k):=by rw[jay];simp
  rw[VA,ZH,In,zC _ (by omega) (by omega),g]
 rw[f];exact e
variable{C:List Value}
theorem St(h:w.ownsRow m n 1 (R k i i) i (C++List.replicate (i-g) (.int .u8 0)))(b:C.length=g)(a:g<i) :
  w.cell? (A k g)=some (.int .u8 0):=by
 obtain⟨d,j⟩:∃d,i-g=d+1:=⟨i-g-1,by omega⟩;rw[h.cellAt g (by omega),bM (by omega),b,j,fV,dt];rfl
theorem TU(a:W)(b t:Nat):(a.alloc (Obj.cells #[Value.int IntKind.u8 0,Value.int IntKind.u8 0,Value.int IntKind.u8 0,Value.int IntKind.u8 0,Value.int IntKind.u8 0,Value.int IntKind.u8 0,Value.int IntKind.u8 0,Value.int IntKind.u8 0] t)).ownsRow a.heap.size t 1 (R a.heap.size 8 8) 8 (qW (VA b 0)++List.replicate (8-0) (.int .u8 0)):=by
 refine⟨rfl,.inr ⟨a.heap.size,8,_,rfl,aA _,kH a _,aA _,by decide,rfl,rfl⟩⟩
theorem Fs(n:Int)(b:W)(q:-9223372036854775808<=n)(r:n<=9223372036854775807) :
  C' 189 #[N n] b fun k p=>k=.returned (S (bB n))/\Below b.heap.size b p:=by
 have o:=WL n;obtain⟨d,f⟩:=cL (show 0<=n%18446744073709551616 by omega);have x:d<18446744073709551616:=by omega
 have j:J (bB n=VA d 8):=by simp[J,bB,f]
 rw[f]at o;clear f;go_enter Tryz.func189,Tryz.ntmps189;go_wp2;go_loopw [5] (fun g wr=>∃a:Nat,a<=8/\g=N a/\wr.ownsRow b.heap.size 310 1 (R b.heap.size 8 8) 8 (qW (VA d a)++List.replicate (8-a) (.int .u8 0))/\Below b.heap.size b wr)
  (fun g _=>8-(intOf g).toNat)
 case atStart=>exact⟨0,by omega,rfl,TU b d _,(k8 _ _).alloc (aA _) _⟩
 case round =>
  obtain⟨a,w,rfl,c,e⟩:=hrel;have s:b.heap.size<wr.heap.size:=(c.lt _ rfl).2;by_cases i:a<8
  ·have t:=St c (by simp[qW,ZV]) i;have v:=c.frozenAt a;have h:=I (Ts i e c);clear c e;go_wp2;go_roundw
   ·exact⟨a+1,by omega,by go_num,h.o.1,h.o.2⟩
   ·simp[intOf];omega
  ·have m:a=8:=(by omega);subst m;have u:=OV (l:=VA d 8) (by simpa using c) (by simp[ZV]);go_wp2;go_ret;exact⟨qH j.o.symm,e⟩
def Jk(a:List (B8)):List Value:=a.map S
theorem AM(a:List (B8)):zj (a.map fun c=>(⟨c.toArray⟩:ByteArray))=a.flatten:=by
 induction a with
 | nil=>rfl
 | cons p a b=>simp only[zj,eo,cu,fJ]at b ⊢;rw[b]
theorem Uy(a:List (B8))(c d:Nat)(b:W)(i:a.length<=1000)(k:a.flatten.length<=1000000)(g:c<b.heap.size)
  (h:∀j (e:j<a.length),b.cell? (A c j)=some (S a[j])) :
  C' 194 #[R c a.length d] b fun f m=>f=.returned (S a.flatten)/\Below b.heap.size b m:=by
 have:=MD (a.map fun l=>(⟨l.toArray⟩:ByteArray)) c d b (by simpa using i) (by rw[AM];exact k) g (by intro j e;simpa using h j (by simpa using e));rw[AM]at this;simpa using this
theorem XZ(a:List (B8))(c:V')(n:Nat)(b:W)(i:c=(Jk a).toArray)(k:a.length=n)(l:n<=1000)(m:a.flatten.length<=1000000) :
  C' 194 #[R b.heap.size n n] (b.alloc (.cells c 9)) fun d e=>d=.returned (S a.flatten)/\Below b.heap.size b e:=by
 subst k;refine(Uy a b.heap.size a.length _ l m (by simp) ?_).mono ?_
 ·intro j f;rw[kF,i];simp[f,Jk]
 ·rintro d e ⟨g,h⟩;exact⟨g,((k8 _ _).alloc (aA _) _).trans (h.mono (by simp))⟩
theorem ZQ(a:List (B8))(e n:Nat)(v:Value)(b:W)(c:b.ownsRow e 9 1 v n (Jk a))(l:a≠[])(k:a.length<=1000)(m:a.flatten.length<=1000000) :
  C' 194 #[v] b fun h o=>h=.returned (S a.flatten)/\Below b.heap.size b o:=by
 have d:a.length=n:=by simpa[Jk]using c.1
 rcases c.2 with⟨rfl,rfl⟩|⟨g,f,p,rfl,_⟩
 ·exact absurd (aO d) l
 ·subst d;refine Uy a g f b k m (c.lt g rfl).2 ?_;intro j i;rw[c.cellAt j (by omega)];simp[Jk,i]
theorem Np(a:B8)(c:W)(h:a.length<=100000) :
  C' 204 #[S a] c fun b f=>b=.returned (S (xB a))/\Below c.heap.size c f:=by
 have j:=jT a;have i:=jO a.length (by omega);go_enter Tryz.func204,Tryz.ntmps204;go_wp2_with fail;refine(JJ _ _ (by omega)).mono ?_;rintro b g ⟨rfl,d⟩;go_wp2_with fail;refine(XZ [uB a.length,a] _ 2 g rfl rfl (by decide) (by simp;omega)).mono ?_;rintro b k ⟨rfl,e⟩;go_wp2;go_ret;exact⟨qH (by simp[xB]),d.trans (e.mono d.size)⟩
theorem RV(a v:Int)(b:W)(h:-9223372036854775808<=a)(i:a<=9223372036854775807)(j:-9223372036854775808<=v)(k:v<=9223372036854775807) :
  C' 191 #[N a,N v] b fun c g=>c=.returned (S (zB (wrap64 (v-a))))/\Below b.heap.size b g:=by
 obtain⟨e,f⟩:=Jn (v-a);go_enter Tryz.func191,Tryz.ntmps191;go_wp2_with fail;refine(GO _ _ e f).mono ?_;rintro c l ⟨rfl,d⟩;go_wp2;go_ret;exact⟨rfl,d⟩
def GX(body:B8):B8:=body.take (body.length-2)
def jcc(body:B8):B8:=body.drop (body.length-2)
def Uv(c b a body:B8):Bool:=jcc body==Rn c b a (GX body)
theorem CL(b a d c:B8):zg b a d (zD b a c)=c++Rn b a d c:=by
 unfold zg;rw[YI]
theorem Vt(c b d body:B8):(zg c b d (zD c b (GX body))==body)=Uv c b d body:=by
 rw[CL];have e:body=GX body++jcc body:=(aY _ _).symm;unfold Uv;rw[fY];simp only[ee];constructor
 ·intro a;have:=a.trans e;exact(dY this).symm
 ·intro a;rw[<-a];exact e.symm
theorem Tf(e d c body:ByteArray)(a:W)(g:body.size<2) :
  C' 180 #[.string e,.string d,.string c,.string body] a fun b f =>
   b=.returned (.tuple #[S [],.bool false])/\f=a:=by
 go_enter Tryz.func180,Tryz.ntmps180;go_wp2;go_ret2;exact⟨rfl,rfl⟩
theorem Th(a:ByteArray):a.toList=a.data.toList:=kW a
theorem EG(a:ByteArray):a.data.toList.length=a.size:=by simp
theorem Bq(body:ByteArray):(body.extract 0 (body.size-2)).data.toList=GX body.data.toList:=by
 simp[GX]
theorem Cj(body:ByteArray)(a:body.size<=5002):(body.extract 0 (body.size-2)).size<=5000:=by
 simp;omega
theorem jaj(c b a:B8)(body:ByteArray)(f:2<=body.size) :
  (!(body.extract ((body.size:Int)-2).toNat body.size).toList==Rn c b a (List.take (body.size-2) body.data.toList))=!Uv c b a body.data.toList:=by
 have d:((body.size:Int)-2).toNat=body.size-2:=by omega
 have e:(body.extract (body.size-2) body.size).toList=jcc body.data.toList:=by
  unfold jcc;rw[EG,Lib.extract_toList,aU (by rw[aP,EG];omega)]
 rw[d,e];rfl
theorem BC(b a c body:ByteArray)(f:W)(k:2<=body.size)(m:body.size<=5002)(g:b.size<=1000)(h:a.size<=1000)(l:c.size<=5000)
  (j:Uv b.data.toList a.data.toList c.data.toList body.data.toList=true) :
  C' 180 #[.string b,.string a,.string c,.string body] f fun e p =>
   e=.returned (.tuple #[S (zD b.data.toList a.data.toList (GX body.data.toList)),.bool true])/\Below f.heap.size f p:=by
 have d:(1000:Nat)<=maxLen:=by decide
 have q:(2:Int)<=(body.size:Int):=by omega
 have r:(body.size:Int)-2<=(body.size:Int):=by omega
 have s:(0:Int)<=(body.size:Int)-2:=by omega
 have o:=jaj b.data.toList a.data.toList c.data.toList body k;rw[j]at o;clear j;go_enter Tryz.func180,Tryz.ntmps180;go_wp2_with fail;go_region_with (go_at_call 239;refine(Df b a c _ _ (aI g d) (aI h d) l ?_).mono ?_;(simp;unfold maxLen;omega);rintro e t ⟨rfl,i⟩)
 all_goals
  go_wp2_with fail;refine(Tn b a _ _ (aI g d) (aI h d) (Cj body m)).mono ?_;rintro e u ⟨rfl,n⟩;rw[Bq];go_wp2;go_ret2;exact⟨rfl,(jg i).trans (n.mono i.size)⟩
theorem Op(c b a body:ByteArray)(d:W)(h:2<=body.size)(o:body.size<=5002)(i:c.size<=1000)(j:b.size<=1000)(k:a.size<=5000)
  (g:Uv c.data.toList b.data.toList a.data.toList body.data.toList=false) :
  C' 180 #[.string c,.string b,.string a,.string body] d fun e n =>
   e=.returned (.tuple #[S [],.bool false])/\Below d.heap.size d n:=by
 have f:(1000:Nat)<=maxLen:=by decide
 have p:(2:Int)<=(body.size:Int):=by omega
 have q:(body.size:Int)-2<=(body.size:Int):=by omega
 have r:(0:Int)<=(body.size:Int)-2:=by omega
 have m:=jaj c.data.toList b.data.toList a.data.toList body h;rw[g]at m;clear g;go_enter Tryz.func180,Tryz.ntmps180;go_wp2_with fail;go_region_with (go_at_call 239;refine(Df c b a _ _ (aI i f) (aI j f) k ?_).mono ?_;(simp;unfold maxLen;omega);rintro e s ⟨rfl,l⟩)
 all_goals
  go_wp2;go_ret2;exact⟨rfl,jg l⟩
theorem IW(e d c body:ByteArray)(a:W)(g:body.size<2) :
  C' 120 #[.string e,.string d,.string c,.string body] a fun b f =>
   b=.returned (.tuple #[S [],.bool false])/\f=a:=by
 go_enter Tryz.func120,Tryz.ntmps120;go_wp2;go_ret2;exact⟨rfl,rfl⟩
theorem jah(body:B8):(GX body).length=body.length-2:=by simp[GX]
theorem TQ(b a c body:ByteArray)(e:W)(t:2<=body.size)(o:body.size<=5002)(g:b.size<=1000)(h:a.size<=1000)(n:c.size<=5000) :
  C' 120 #[.string b,.string a,.string c,.string body] e fun d r =>
   d=.returned (.tuple #[S (zD b.data.toList a.data.toList (GX body.data.toList)),.bool (Uv b.data.toList a.data.toList c.data.toList body.data.toList)])/\Below e.heap.size e r:=by
 have u:(2:Int)<=(body.size:Int):=by omega
 have v:(body.size:Int)-2<=(body.size:Int):=by omega
 have w:(0:Int)<=(body.size:Int)-2:=by omega
 have l:=I (Vt b.data.toList a.data.toList c.data.toList body.data.toList);have q:(zD b.data.toList a.data.toList (GX body.data.toList)).length<=5000:=by rw[zS,jah,EG];omega
 go_enter Tryz.func120,Tryz.ntmps120;go_wp2_with fail;refine(YH b a _ _ g h (Cj body o)).mono ?_;rintro d x ⟨rfl,i⟩;rw[Bq];generalize j:zD b.data.toList a.data.toList (GX body.data.toList)=plain at *;have m:=I j;clear j;go_wp2_with fail;refine(YD b a c ⟨plain.toArray⟩ _ g h n (by rw[jT];exact q)).mono ?_;rintro d y ⟨rfl,p⟩;have f:(⟨plain.toArray⟩:ByteArray).data.toList=plain:=by simp
 rw[f];clear f;generalize k:zg b.data.toList a.data.toList c.data.toList plain=bd at *;have s:=I k;clear k;go_wp2;go_ret2;refine⟨?_,i.trans (p.mono i.size)⟩;show Ending.returned (.tuple #[S plain,.bool (bd==body.toList)])=_;rw[m.o,<-l.o,Th]
def Ja:Nat->Option (B8)->List (B8)×Option (B8)
 | 0,a=>([],a)
 | b+1,a=>((xR 12 a).1::(Ja b (xR 12 a).2).1,(Ja b (xR 12 a).2).2)
def xsB(a:List Z9):B8:=a.flatMap fun c=>xB c.text
theorem BX(b:List Z9):∀a,a<=b.length->JK b a=uB b.length++xsB (b.take a):=by
 intro a
 induction a with
 | zero=>intro _;simp[JK,xsB]
 | succ a c =>
  intro d;rw[JK,c (by omega),qy b a (by omega),aH (by omega)];simp only[xsB,cE,cu,fo,aT,aD]
theorem Tv(a:List Z9)(b:B8)(d:∀c∈a,c.text.length<=12):Ja a.length (some (xsB a++b))=(a.map (·.text),some b):=by
 induction a with
 | nil=>rfl
 | cons c a g =>
  have e:xsB (c::a)++b=xB c.text++(xsB a++b):=by simp[xsB]
  rw[e];simp only[bC,Ja];rw[Bd 12 c.text (xsB a++b) (d c (by simp)) (by omega)];simp only;rw[g (fun h f=>d h (by simp[f]))];rfl
theorem jeb(v:List Z9)(e:B8)(n:∀c∈v,AS c)(p:v.length<=60):zG 1 3 ((qA v).map (·.text)) v.length (v.length+1) [] qY (some (JV 3 v 0 v.length++e))=(v,some e):=by
 have:=UA 1 3 3 ((qA v).map (·.text)) v e (fun a b rest=>by
  have i:=n v[a] (aJ b);have m:xi 3 v a=uB (qj (qA v) (v[a]).text):=by show uB (qj (qA v) (zP v a).text)=_;rw[qy v a b]
  obtain⟨d,h⟩:=Zx (qA v) (v[a]).text (UJ v a b);have j:=Jw v v.length;have o:(qA v).length<=v.length:=j;have l:(qA v).map (·.text)≠[]:=by
   intro f;have:=bN List.length f;simp at this;rw[this]at d;simp at d
  have k:((qA v).map (·.text)).length=(qA v).length:=by simp
  unfold xx;rw[aL (by omega),aL (by omega),aL (by omega),aL (by omega),aQ ⟨rfl,rfl,l⟩,m,k,QT _ _ rest (by omega) (by omega)];have g:((qA v).map (·.text)).getD (qj (qA v) (v[a]).text) []=(v[a]).text:=by
   simp only[List.getD,dB,aR d,eB,eO];exact h
  rw[g];exact fP (EY i).symm rfl) v.length 0 (by omega)
 simpa[qm]using this
theorem Wo(d:Nat)(v:List Z9):∀(q a b:Nat),q<=b->(∀j,j<q->xi d v (a+j)=[])->JV d v a b=JV d v (a+q) (b-q):=by
 intro q
 induction q with
 | zero=>intro a b _ _;rfl
 | succ q g =>
  intro a b i e;obtain⟨c,rfl⟩:∃c,b=c+1:=⟨b-1,by omega⟩;have f:=e 0 (by omega);simp only[dD]at f;simp only[JV];rw[f,bW,g (a+1) c (by omega) (fun j h=>by have:=e (j+1) (by omega);rwa [show a+(j+1)=a+1+j by omega]at this)]
  congr 1<;>omega
theorem jdx(v:List Z9)(p:B8)(y:∀c∈v,Wq c)(O:v.length<=60) :
  ∀(d a g:Nat) (last:Z9),a+d=v.length->d<g->(d=0\/a=0\/(zP v a).int≠(qm v a).int)->zG 0 2 [] v.length g (v.take a) last (some (JV 2 v a d++p))=(v,some p):=by
 intro d
 induction d using Nat.strongRecOn with
 | _ d K =>
  intro a g last M L E;obtain⟨r,rfl⟩:∃r,g=r+1:=⟨g-1,by omega⟩;have k:(v.take a).length=a:=by rw[aM];omega
  by_cases w:d=0
  ·subst w;rw[zG,aL (by rw[k];omega),JV,bW,aU (by omega)]
  ·have o:a<v.length:=(by omega);have m:=y v[a] (aJ o);have D:=NF (v[a]).int (v.drop (a+1));rw[aP]at D;have n:∀j,j<QC (v[a]).int (v.drop (a+1))->∃b:a+1+j<v.length,v[a+1+j]=v[a]:=by
    intro j i;obtain⟨l,e⟩:=YW (v[a]).int (v.drop (a+1)) j i;rw[aP]at l;refine⟨by omega,?_⟩;rw[bZ]at e;rw[Nb (y v[a+1+j] (aJ _)),Nb m,e]
   have B:∀b:a+1+QC (v[a]).int (v.drop (a+1))<v.length,(v[a+1+QC (v[a]).int (v.drop (a+1))]).int≠(v[a]).int:=by
    intro b;have:=Nc (v[a]).int (v.drop (a+1)) (by rw[aP];omega);rw[bZ]at this;exact this
   have F:xi 2 v a=uB (QC (v[a]).int (v.drop (a+1))+1)++zB (v[a]).int:=by
    simp only[xi,qy v a o];rw[aQ];rcases E with b|b|b
    ·exact absurd b w
    ·exact .inl b
    ·rw[qy v a o]at b;exact .inr b
   generalize QC (v[a]).int (v.drop (a+1))=q at *;have x:JV 2 v (a+1) (d-1)=JV 2 v (a+1+q) (d-1-q):=Wo 2 v q (a+1) (d-1) (by omega) (fun j i=>by
    obtain⟨l,e⟩:=n j i;simp only[xi,qy v (a+1+j) l,qm];rw[aL (by omega:¬(a+1+j=0)),qy v (a+1+j-1) (by omega)];have s:v[a+1+j-1]=v[a]:=by
     cases j with
     | zero=>rfl
     | succ j =>
      obtain⟨t,h⟩:=n j (by omega);rw[<-h]
      congr 1
    rw[s,e];rw[aL (fun b=>b.elim (fun b=>by omega) (fun b=>b rfl))])
   obtain⟨f,rfl⟩:∃f,d=f+1:=⟨d-1,by omega⟩;simp only[fG]at x;rw[zG,aQ (by rw[k];exact⟨o,rfl⟩),k];simp only[JV,F,x,aD];have G:xx 0 2 [] v.length a last (some (uB (q+1)++(zB (v[a]).int++(JV 2 v (a+1+q) (f-q)++p))))=(v[a],q+1,some (JV 2 v (a+1+q) (f-q)++p)):=by
    unfold xx;rw[aL (by omega),aL (by omega),aQ ⟨rfl,rfl⟩,QT _ _ _ (by omega) (by omega),jdh _ _ m.2.2.1 m.2.2.2];simp only[Sc];rw[aL (by omega)];exact fP (Nb m).symm rfl
   rw[G];have z:v.take a++List.replicate (q+1) v[a]=v.take (a+1+q):=by
    apply dS
    ·simp only[aB,aM,bf];omega
    ·intro j l e;rw[dL];by_cases i:j<a
     ·rw[dC (by rw[k];exact i),dL]
     ·rw[dA (by rw[k];omega),cH];by_cases C:j=a
      ·subst C;rfl
      ·obtain⟨t,h⟩:=n (j-a-1) (by rw[aM]at e;omega);rw[<-h]
       congr 1;omega
   simp only[z];refine K (f-q) (by omega) (a+1+q) r v[a] (by omega) (by omega) ?_;by_cases H:f-q=0
   ·exact .inl H
   ·right;right;have u:a+1+q<v.length:=(by omega);rw[qy v (a+1+q) u];unfold qm;rw[aL (by omega),qy v (a+1+q-1) (by omega)];have s:v[a+1+q-1]=v[a]:=by
     cases q with
     | zero=>rfl
     | succ q =>
      obtain⟨t,h⟩:=n q (by omega);rw[<-h]
      congr 1
    rw[s];exact B u
def zV(kind:Int)(n:Nat)(b:Option (B8)):List Z9×Option (B8) :=
 match qC 1 b with
 | (c::_,some a) =>
  if kind=1/\c.toNat=3 then zG kind 3 (Ja (qa 60 (some a)).1 (qa 60 (some a)).2).1 n (n+1) [] qY (Ja (qa 60 (some a)).1 (qa 60 (some a)).2).2
  else zG kind c.toNat [] n (n+1) [] qY (some a)
 | _=>([],none)
theorem ZT(kind:Int)(n:Nat)(c:UInt8)(a:B8):zV kind n (some (c::a)) =
  if kind=1/\c.toNat=3 then zG kind 3 (Ja (qa 60 (some a)).1 (qa 60 (some a)).2).1 n (n+1) [] qY (Ja (qa 60 (some a)).1 (qa 60 (some a)).2).2
  else zG kind c.toNat [] n (n+1) [] qY (some a):=by
 simp only[zV,Ip]
theorem Sg(kind:Int)(v:List Z9)(a:B8)(j:Nat)(f:j<3)(m:kind=0\/kind=1)(e:v.length<=60)(h:kind=0->∀c∈v,Wq c)(i:kind=1->∀c∈v,AS c) :
  zV kind v.length (some (JP (XY kind j) v++a))=(v,some a):=by
 rcases m with rfl|rfl
 ·have b:=h rfl;have n:XY 0 j=j:=rfl;rw[n];have g:((j:Int)%5)=(j:Int):=by omega
  show zV 0 v.length (some (T4 ((j:Int)%5)::(qT j v++a)))=_;rw[ZT,g,Xl j (by omega),aL (by omega)];have d:qT j v=JV j v 0 v.length:=by unfold qT;rw[aL (by omega),bW,Gq]
  rw[d]
  match j,f with
  | 0,_=>exact jec v a b
  | 1,_=>exact jep v a b
  | 2,_ =>
   have:=jdx v a b e v.length 0 (v.length+1) qY (by omega) (by omega) (.inr (.inl rfl));simpa using this
 ·have b:=i rfl
  match j,f with
  | 0,_ =>
   show zV 1 v.length (some (T4 0::(qT 5 v++a)))=_;rw[ZT,show(T4 0).toNat=0 from rfl,aL (by omega)];have d:qT 5 v=JV 5 v 0 v.length:=(by unfold qT;rw[aL (by omega),bW,Gq]);rw[d];exact jez v a b
  | 1,_ =>
   show zV 1 v.length (some (T4 3::(qT 3 v++a)))=_;rw[ZT,show(T4 3).toNat=3 from rfl,aQ ⟨rfl,rfl⟩];have l:(qA v).length<=60:=aI (Jw v v.length) e;have d:qT 3 v++a=uB (qA v).length++(xsB (qA v)++(JV 3 v 0 v.length++a)):=by
    unfold qT;rw[aQ rfl,BX (qA v) (qA v).length (aA _),aS,Gq];simp only[aD]
   rw[d,QT 60 _ _ l (by omega)];simp only;rw[Tv (qA v) _ (fun c k=>(b c (XG v v.length (aA _) c k)).2.2)];exact jeb v a b e
  | 2,_ =>
   show zV 1 v.length (some (T4 4::(qT 4 v++a)))=_;rw[ZT,show(T4 4).toNat=4 from rfl,aL (by omega)];have d:qT 4 v=JV 4 v 0 v.length:=(by unfold qT;rw[aL (by omega),bW,Gq]);rw[d];exact jdy v a b
theorem LR(kind:Int)(v:List Z9):∃j,j<3/\jV kind v 3=JP (XY kind j) v:=by
 have c:jV kind v 1=JP (XY kind 0) v:=by simp[jV]
 have d:jV kind v 2=JP (XY kind 1) v\/jV kind v 2=JP (XY kind 0) v:=by
  show(if 1=0\/_ then _ else _)=_\/(if 1=0\/_ then _ else _)=_;split
  ·exact .inl rfl
  ·exact .inr c
 have e:jV kind v 3=JP (XY kind 2) v\/jV kind v 3=jV kind v 2:=by
  show(if 2=0\/_ then _ else _)=_\/(if 2=0\/_ then _ else _)=_;split
  ·exact .inl rfl
  ·exact .inr rfl
 rcases e with a|a
 ·exact⟨2,by omega,a⟩
 ·rcases d with b|b
  ·exact⟨1,by omega,by rw[a,b]⟩
  ·exact⟨0,by omega,by rw[a,b]⟩
def Qo(n:Nat):Nat->List Bool->Bool->Option (B8)->List Bool×Option (B8)
 | 0,a,_,b=>(a,b)
 | d+1,a,c,b=>if a.length<n/\b.isSome=true then Qo n d (a++List.replicate (qa (n-a.length) b).1 c) (!c) (qa (n-a.length) b).2 else(a,b)
theorem Wt(a:Bool)(b:List Z9):(b.take (rowB a b)).map (·.null)=List.replicate (rowB a b) a:=by
 apply dS
 ·simp only[cJ,aM,bf];have:=Vc a b;omega
 ·intro e f c;simp only[bf]at c;obtain⟨g,d⟩:=Ei a b e c;simp only[ey,dL,cH];exact d
theorem Fc(a:Bool)(b:List Z9)(d:rowB a b=0)(g:b≠[]):rowB (!a) b≠0:=by
 cases b with
 | nil=>exact absurd rfl g
 | cons c b =>
  simp only[rowB]at d ⊢;have h:¬c.null=a:=by intro e;simp[e]at d
  have f:c.null=!a:=by cases i:c.null<;>cases a<;>simp_all
  simp[f]
theorem Wa(n:Nat)(m:n<=60)(h:B8):∀(d:Nat) (a:List Z9) (b:Bool) (pre:List Bool),pre.length+a.length=n->2*a.length+(if rowB b a=0 then 1 else 0)<d ->
  Qo n d pre b (some (xw b a++h))=(pre++a.map (·.null),some h):=by
 intro d
 induction d with
 | zero=>intro a b pre _ l;omega
 | succ d k =>
  intro a b pre j g;by_cases f:a=[]
  ·subst f;simp only[bJ,dD]at j;rw[Qo,aL (by omega)];simp[xw]
  ·have o:0<a.length:=(by cases a with|nil=>exact absurd rfl f|cons c a=>simp);have p:=Vc b a;rw[Qo,aQ ⟨by omega,rfl⟩,ZK b a f,aD,QT _ _ _ (by omega) (by omega)];simp only;have i:pre++a.map (·.null)=(pre++List.replicate (rowB b a) b)++(a.drop (rowB b a)).map (·.null):=by
    rw[aD,<-Wt b a,<-eb,aY]
   rw[i];refine k (a.drop (rowB b a)) (!b) _ ?_ ?_
   ·simp only[aB,bf,aP];omega
   ·rw[aP];by_cases e:rowB b a=0
    ·rw[e,List.drop_zero,aL (Fc b a e f)];rw[aQ e]at g;omega
    ·rw[aL e]at g;split<;>omega
def qF:List Bool->List Z9->List Z9
 | [],_=>[]
 | true::a,v=>⟨true,0,[]⟩::qF a v
 | false::a,c::v=>c::qF a v
 | false::a,[]=>⟨false,0,[]⟩::qF a []
theorem Rt(a:List Z9)(e:∀c∈a,c.null=true->c=⟨true,0,[]⟩):qF (a.map (·.null)) (jk a)=a:=by
 induction a with
 | nil=>rfl
 | cons c a i =>
  have f:=i (fun j h=>e j (by simp[h]));cases b:c.null with
  | true =>
   have g:=e c (by simp) b;have d:jk (c::a)=jk a:=(by simp[jk,b]);simp only[eo,b,d,qF];rw[f,<-g]
  | false =>
   have d:jk (c::a)=c::jk a:=(by simp[jk,b]);simp only[eo,b,d,qF];rw[f]
def qe(b:List Bool):Nat:=(b.filter fun a=>!a).length
theorem Kl(a:List Z9):qe (a.map (·.null))=(jk a).length:=by
 unfold qe jk;rw[List.filter_map,cJ];rfl
def Kd(kind:Int)(a:B8):Option (List Z9) :=
 if(Qo (qa 60 (some a)).1 200 [] false (qa 60 (some a)).2).2=none\/(Qo (qa 60 (some a)).1 200 [] false (qa 60 (some a)).2).1.length≠(qa 60 (some a)).1 then none
 else if qe (Qo (qa 60 (some a)).1 200 [] false (qa 60 (some a)).2).1=0 then some (qF (Qo (qa 60 (some a)).1 200 [] false (qa 60 (some a)).2).1 [])
 else if(zV kind (qe (Qo (qa 60 (some a)).1 200 [] false (qa 60 (some a)).2).1) (Qo (qa 60 (some a)).1 200 [] false (qa 60 (some a)).2).2).2=none \/
   (zV kind (qe (Qo (qa 60 (some a)).1 200 [] false (qa 60 (some a)).2).1) (Qo (qa 60 (some a)).1 200 [] false (qa 60 (some a)).2).2).1.length≠qe (Qo (qa 60 (some a)).1 200 [] false (qa 60 (some a)).2).1 then none
 else some (qF (Qo (qa 60 (some a)).1 200 [] false (qa 60 (some a)).2).1 (zV kind (qe (Qo (qa 60 (some a)).1 200 [] false (qa 60 (some a)).2).1) (Qo (qa 60 (some a)).1 200 [] false (qa 60 (some a)).2).2).1)
variable{f:Z9}
theorem jax(a:qV 0 f=true)(b:f.null=false)(d:-9223372036854775808<=f.int/\f.int<=9223372036854775807):Wq f:=by
 unfold qV at a;rw[b]at a;simp at a;exact⟨b,a,d.1,d.2⟩
theorem Ff(a:qV 1 f=true)(b:f.null=false):AS f:=by
 unfold qV at a;rw[b]at a;simp at a;exact⟨b,a.1,a.2⟩
theorem Fa(a:qV K f=true)(b:f.null=true):f=⟨true,0,[]⟩:=by
 unfold qV at a;rw[aQ b]at a;obtain⟨n,kind,t⟩:=f;simp at a b;obtain⟨d,e⟩:=a;subst d e b;rfl
theorem Sd(kind:Int)(a:List Z9)(rest:B8)(i:qi kind a=true)(u:∀c∈a,-9223372036854775808<=c.int/\c.int<=9223372036854775807):Kd kind (xy kind a++rest)=some a:=by
 unfold qi at i;simp only[aK,dp,aN,cY]at i;obtain⟨⟨r,n⟩,g⟩:=i;have s:∀c∈a,c.null=true->c=⟨true,0,[]⟩:=fun c b d=>Fa (g c b) d;have h:=Rt a s;have e:∀c∈jk a,c∈a/\c.null=false:=fun c b=>by
  have:=dn.1 b;exact⟨this.1,by simpa using this.2⟩
 have v:(jk a).length<=a.length:=du _ _;have m:∀rest:B8,qa 60 (some (JC a++rest))=(a.length,some (xw false a++rest)):=by
  intro rest;unfold JC;rw[aD];exact QT 60 a.length _ n (by omega)
 have o:∀rest:B8,Qo a.length 200 [] false (some (xw false a++rest))=(a.map (·.null),some rest):=by
  intro rest;have:=Wa a.length n rest 200 a false [] (by simp) (by split<;>omega);simpa using this
 by_cases f:jk a=[]
 ·have k:xy kind a=JC a:=by unfold xy;rw[aQ f]
  unfold Kd;rw[k,m rest];simp only;rw[o rest];simp only;rw[aL (by simp),Kl,f,aQ (show([]:List Z9).length=0 from rfl)];rw[f]at h;rw[h]
 ·have k:xy kind a=JC a++jV kind (jk a) 3:=by unfold xy;rw[aL f]
  obtain⟨j,q,p⟩:=LR kind (jk a);have l:=Sg kind (jk a) rest j q r (by omega) (fun d c b=>by subst d;exact jax (g c (e c b).1) (e c b).2 (u c (e c b).1)) (fun d c b=>by subst d;exact Ff (g c (e c b).1) (e c b).2);rw[<-p]at l;have t:(jk a).length≠0:=fun d=>f (aO d);unfold Kd;rw[k,aD,m];simp only;rw[o];simp only;rw[aL (by simp),Kl,aL t,l];simp only;rw[aL (by simp),h]
def Xi(c:Z9):Prop:=-9223372036854775808<=c.int/\c.int<=9223372036854775807
theorem Wz(a:Nat)(b:a<18446744073709551616):-9223372036854775808<=F9 a/\F9 a<=9223372036854775807:=by
 unfold F9;split<;>omega
theorem CF(kind:Int)(b:Nat)(words:List (B8))(n len:Nat)(last:Z9)(a:Option (B8)):Xi (xx kind b words n len last a).1:=by
 unfold xx;split
 ·exact Jn (GH (qC 8 a).1:Int)
 split
 ·exact Jn (last.int+F9 (uR a).1)
 split
 ·exact Wz _ (Bl _)
 split
 ·exact⟨(by decide:(-9223372036854775808:Int)<=0),(by decide:(0:Int)<=9223372036854775807)⟩
 split
 ·exact⟨(by decide:(-9223372036854775808:Int)<=0),(by decide:(0:Int)<=9223372036854775807)⟩
 split
 ·exact⟨(by decide:(-9223372036854775808:Int)<=0),(by decide:(0:Int)<=9223372036854775807)⟩
 ·exact⟨(by decide:(-9223372036854775808:Int)<=0),(by decide:(0:Int)<=9223372036854775807)⟩
theorem NC(kind:Int)(g:Nat)(words:List (B8))(n:Nat):∀(b:Nat) (e:List Z9) (last:Z9) (f:Option (B8)),(∀c∈e,Xi c)->∀c∈(zG kind g words n b e last f).1,Xi c:=by
 intro b
 induction b with
 | zero=>intro e last f d;exact d
 | succ b h =>
  intro e last f d;rw[zG];split
  ·refine h _ _ _ (fun c a=>?_);rcases aX.1 a with a|a
   ·exact d c a
   ·rw[(dk.1 a).2];exact CF _ _ _ _ _ _ _
  ·exact d
theorem DT(kind:Int)(n:Nat)(a:Option (B8)):∀c∈(zV kind n a).1,Xi c:=by
 unfold zV;split
 ·split
  ·exact NC _ _ _ _ _ _ _ _ (by simp)
  ·exact NC _ _ _ _ _ _ _ _ (by simp)
 ·simp
theorem YC:∀(d:List Bool) (v:List Z9),(∀c∈v,Xi c)->∀c∈qF d v,Xi c:=by
 intro d
 induction d with
 | nil=>intro v b c a;simp[qF]at a
 | cons f d e =>
  intro v b c a;have g:Xi ⟨true,0,[]⟩:=⟨by decide,by decide⟩;have h:Xi ⟨false,0,[]⟩:=⟨by decide,by decide⟩;cases f with
  | true =>
   simp only[qF,bD]at a;rcases a with rfl|a
   ·exact g
   ·exact e v b c a
  | false =>
   cases v with
   | nil =>
    simp only[qF,bD]at a;rcases a with rfl|a
    ·exact h
    ·exact e [] b c a
   | cons k v =>
    simp only[qF,bD]at a;rcases a with rfl|a
    ·exact b c (by simp)
    ·exact e v (fun j i=>b j (by simp[i])) c a
variable{D:List Z9}
theorem DE(a:Kd K s=some D):∀c∈D,Xi c:=by
 unfold Kd at a;split at a
 ·cases a
 ·split at a
  ·cases a;exact YC _ _ (by simp)
  ·split at a
   ·cases a
   ·cases a;exact YC _ _ (DT _ _ _)
def xO(kind:Int)(b:B8):Option (List Z9) :=
 match Kd kind b with
 | none=>none
 | some a=>if qi kind a=true/\xy kind a=b then some a else none
theorem Uj(a:xO K s=some D):qi K D=true/\xy K D=s/\∀c∈D,Xi c:=by
 unfold xO at a;split at a
 ·cases a
 ·rename_i g f;split at a
  ·rename_i d;cases a;exact⟨d.1,d.2,DE f⟩
  ·cases a
theorem VM(kind:Int)(a:List Z9)(b:qi kind a=true)(d:∀c∈a,Xi c):xO kind (xy kind a)=some a:=by
 have:=Sd kind a [] b d;rw[aT]at this;unfold xO;rw[this];exact aQ ⟨b,rfl⟩
def qo(d:W)(p:Nat)(a:B8)(c:Option (B8)):Prop :=
 ∃(at_:Nat) (b:Bool),d.heap[p]?=some (.cells #[S a,N at_,.bool b] 243 (0,0))/\at_<=a.length/\c=(if b=true then none else some (a.drop at_))
variable{d:Option Nat}
theorem je(a:w.grownBy v d)(b:v.grownBy u d):w.grownBy u d :=
 ⟨b.os.trans a.os,b.tape.trans a.tape,b.output.trans a.output,aI a.size b.size,fun h f g=>(b.block h (aC f a.size) g).trans (a.block h f g)⟩
variable{F:TypeId}
theorem zi(b:w.heap[n]?=some (.cells #[x,y,z] F (0,0))) :
  (w.cell? (A n 0)=some x/\w.cell? (A n 1)=some y/\w.cell? (A n 2)=some z)/\(∀j,w.frozen? (A n j)=false):=by
 refine⟨⟨?_,?_,?_⟩,fun j=>kh w n j _ F b⟩
 ·rw[kC w n 0 _ F (0,0) b];rfl
 ·rw[kC w n 1 _ F (0,0) b];rfl
 ·rw[kC w n 2 _ F (0,0) b];rfl
theorem Kk{w:W}{a b g v:Value}(d:w.heap[n]?=some (.cells #[a,b,g] F (0,0))):(w.setCell (A n 2) v).heap[n]?=some (.cells #[a,b,v] F (0,0))/\w.grownBy (w.setCell (A n 2) v) (some n):=by
 refine⟨?_,⟨rfl,rfl,rfl,by simp,fun f _ e=>kA w (A n 2) f v (fun c=>e (by simp[c]))⟩⟩;rw[kj w n 2 _ F v d];rfl
theorem LA{w:W}{a g b v:Value}(d:w.heap[n]?=some (.cells #[a,g,b] F (0,0))):(w.setCell (A n 1) v).heap[n]?=some (.cells #[a,v,b] F (0,0))/\w.grownBy (w.setCell (A n 1) v) (some n):=by
 refine⟨?_,⟨rfl,rfl,rfl,by simp,fun f _ e=>kA w (A n 1) f v (fun c=>e (by simp[c]))⟩⟩;rw[kj w n 1 _ F v d];rfl
theorem Qq(a:w.grownBy v d)(n:Nat):w.grownBy (v.drewN n) d:=⟨a.os,a.tape,a.output,a.size,a.block⟩
theorem Dx(c:v.heap[n]?=some (.cells #[S s,N m,x] 243 (0,0)))(d:m<=s.length)(nq:Nat) :
  qo ((v.drewN nq).setCell (A n 2) (.bool true)) n s none :=
 ⟨m,true,(Kk (w:=v.drewN nq) c).1,d,rfl⟩
theorem Ra(c:v.heap[n]?=some (.cells #[x,y,z] F (0,0)))(nq:Nat):v.grownBy ((v.drewN nq).setCell (A n 2) q) (some n):=by
 have a:=(Kk (w:=v.drewN nq) (v:=q) c).2;exact⟨a.os,a.tape,a.output,a.size,a.block⟩
theorem jeh(e:u.heap[n]?=some (.cells #[S s,x,.bool false] 243 (0,0)))(f:m+k<=s.length)(d g:Nat) :
  qo (((u.drewN d).setCell (A n 1) (N ((m:Int)+(k:Int)))).drewN g) n s (some ((s.drop m).drop ((k:Int)).toNat)):=by
 refine⟨m+k,false,?_,f,by simp[cZ]⟩;have:=(LA (w:=u.drewN d) (v:=N ((m:Int)+(k:Int))) e).1;simpa using this
theorem jaz(d:v.heap[n]?=some (.cells #[x,y,z] F (0,0)))(c e:Nat):v.grownBy (((v.drewN c).setCell (A n 1) q).drewN e) (some n):=by
 have a:=(LA (w:=v.drewN c) (v:=q) d).2;exact⟨a.os,a.tape,a.output,a.size,a.block⟩
theorem jdd{a:ByteArray}(c:a.data.toList=s):Ending.returned (.string a)=.returned (S s):=by
 subst c;obtain⟨⟨t⟩⟩:=a;rfl
theorem XX(p:Nat)(a:B8)(i:Option (B8))(n:Int)(j:W)(t:a.length<=maxLen)(x:-9223372036854775808<=n)(y:n<=9223372036854775807)(s:qo j p a i) :
  C' 149 #[(Q p 0),N n] j fun o l=>o=.returned (S (qC n i).1)/\qo l p a (qC n i).2/\j.grownBy l (some p):=by
 obtain⟨at_,m,h,f,e⟩:=s;obtain⟨⟨c0,c1,c2⟩,cf⟩:=zi h;have v:=cf 1;have w:=cf 2;have b:=I h;unfold maxLen at t;clear h cf;cases m with
 | true =>
  simp only[db]at e;subst e;go_enter Tryz.func149,Tryz.ntmps149;go_wp2_with fail;go_quiet(fail);go_wp2;go_ret;exact⟨rfl,Dx b.o f nq,Ra b.o nq⟩
 | false =>
  simp only[cD,dz]at e;subst e;have k:(a.drop at_).length=a.length-at_:=aP;by_cases g:n<0
  ·have d:J (qC n (some (a.drop at_))=([],none)):=(by simp[J,qC,g]);go_enter Tryz.func149,Tryz.ntmps149;go_wp2_with fail;go_quiet(fail);go_wp2;go_ret;rw[d.o];exact⟨rfl,Dx b.o f nq,Ra b.o nq⟩
  ·have z:decide (n<0)=false:=(by simp;omega);have q:(0:Int)<=n:=(by omega);by_cases r:(a.length:Int)-(at_:Int)<n
   ·have d:J (qC n (some (a.drop at_))=([],none)):=by
     exact Zi (.inr (by rw[k];omega))
    clear g;go_enter Tryz.func149,Tryz.ntmps149;go_wp2_with fail;go_quiet(fail);go_wp2;go_ret;rw[d.o];exact⟨rfl,Dx b.o f nq,Ra b.o nq⟩
   ·have d:J (qC n (some (a.drop at_))=((a.drop at_).take n.toNat,some ((a.drop at_).drop n.toNat))):=by
     exact Qc (by omega) (by rw[k];omega)
    obtain⟨c,rfl⟩:=cL q;have B:decide ((a.length:Int)-(at_:Int)<(c:Int))=false:=(by simp;omega);have C:(c:Int)<=(a.length:Int)-(at_:Int):=(by omega);clear g r;go_enter Tryz.func149,Tryz.ntmps149;go_wp2_with fail;go_quiet(fail);go_wp2_with fail;have b1:(at_:Int)<=(at_:Int)+(c:Int):=(by omega);have b2:(at_:Int)+(c:Int)<=(a.length:Int):=(by omega);have b3:(0:Int)<=(at_:Int):=(by omega);have u:(at_:Int)+(c:Int)-(c:Int)=(at_:Int):=(by omega);have b5:((at_:Int)+(c:Int)).toNat=at_+c:=(by omega);go_quiet(fail);go_wp2_with fail;go_ret;rw[d.o];refine⟨jdd ?_,jeh b.o (by omega) _ _,jaz b.o _ _⟩;rw[Lib.extract_data,Nf];simp
def Xw:Option (B8)->Bool
 | none=>true
 | some _=>false
variable{M:Option (B8)}
theorem VU(d:qo w n s M):w.cell? (A n 2)=some (.bool (Xw M)):=by
 obtain⟨at_,c,e,_,rfl⟩:=d;rw[(zi e).1.2.2];cases c<;>rfl
theorem WS(c:UInt8):IntKind.u64.wrap (((⟨#[c]⟩:ByteArray)[0]'(by simp[ByteArray.size])).toNat:Int)=(c.toNat:Int):=by
 have:=c.toNat_lt;show IntKind.u64.wrap (c.toNat:Int)=_;rw[kJ];omega
theorem Oh(n a c:Nat):IntKind.u64.wrap ((n:Int)+IntKind.u64.wrap ((a:Int)*((c:Int)%128)))=(((n+a*(c%128))%18446744073709551616:Nat):Int):=by
 have b:(a:Int)*((c:Int)%128)=((a*(c%128):Nat):Int):=by simp
 rw[b,kJ,kJ];omega
theorem jfe(a:Nat):IntKind.u64.wrap ((a:Int)*128)=((a*128%18446744073709551616:Nat):Int):=by
 rw[kJ];omega
theorem jbc(p:Nat)(h:B8)(d:Option (B8))(o:W)(V:h.length<=maxLen)(G:qo o p h d) :
  C' 236 #[(Q p 0)] o fun C L=>C=.returned (.int .u64 ((uP 10 0 1 d).1:Int))/\qo L p h (uP 10 0 1 d).2/\o.grownBy L (some p):=by
 have M:=I G;clear G;go_enter Tryz.func236,Tryz.ntmps236;go_wp2;go_loopw [3,4,5] (fun t c y wr=>∃(a n b:Nat) (i:Option (B8)),a<=10/\y=N a/\t=.int .u64 (n:Int)/\c=.int .u64 (b:Int)/\n<18446744073709551616/\b<18446744073709551616/\uP (10-a) n b i=uP 10 0 1 d/\qo wr p h i/\o.grownBy wr (some p))
  (fun _ _ y _=>10-(intOf y).toNat)
 case atStart=>exact⟨0,0,1,d,aG _,rfl,rfl,rfl,by omega,by omega,rfl,M.o,kY _ _⟩
 case round =>
  obtain⟨a,n,b,i,hk,rfl,rfl,rfl,u,w,K,H,E⟩:=hrel;have j:=I K;have B:=I H;have z:=I E;clear K H E;by_cases ap:a<10
  ·go_wp2_with fail;refine(XX p h i 1 _ V (by decide) (by decide) B.o).mono ?_;rintro C w1 ⟨rfl,x,F⟩;have r:=I (je z.o F);have s:=VU x;have g:=I x;clear F x;rcases Ar i with f|⟨c,m,rfl,f⟩
   ·rw[f]at s g ⊢;have e:J (uP 10 0 1 d=(0,none)):=by
     have:=j.o;rw[show 10-a=(9-a)+1 by omega]at this;simp only[uP,f]at this;exact this.symm
    clear f;go_wp2;go_ret;rw[e.o];exact⟨rfl,g.o,r.o⟩
   ·rw[f]at s g ⊢;have e:J (uP 10 0 1 d=if c.toNat<128 then((n+b*(c.toNat%128))%18446744073709551616,some m)else uP (9-a) ((n+b*(c.toNat%128))%18446744073709551616) (b*128%18446744073709551616) (some m)):=by
     have:=j.o;rw[show 10-a=(9-a)+1 by omega]at this;simp only[uP,f]at this;exact this.symm
    have ac:=c.toNat_lt;have X:=I u;have Y:=I w;clear f u w;simp only[Xw]at s;have am:=WS c;by_cases k:c.toNat<128
    ·have q:J (uP 10 0 1 d=((n+b*(c.toNat%128))%18446744073709551616,some m)):=by have:=e.o;rw[aQ k]at this;exact this
     have T:(c.toNat:Int)<128:=(by omega);clear e k;go_wp2;go_ret;rw[q.o];exact⟨qX (Oh n b c.toNat),g.o,r.o⟩
    ·have q:J (uP 10 0 1 d=uP (9-a) ((n+b*(c.toNat%128))%18446744073709551616) (b*128%18446744073709551616) (some m)):=by have:=e.o;rw[aL k]at this;exact this
     have T:(128:Int)<=(c.toNat:Int):=(by omega);clear e k;go_wp2;go_roundw
     ·exact⟨a+1,_,_,_,by omega,by go_num,by rw[Oh],by rw[jfe],fU _ (by decide),fU _ (by decide),by rw[q.o,show 10-(a+1)=9-a by omega],g.o,r.o⟩
     ·simp[intOf];omega
  ·have U:a=10:=(by omega);subst U;have e:J (uP 10 0 1 d=(0,none)):=by have:=j.o;rw[show 10-10=0 from rfl]at this;rw[<-this];rfl
   obtain⟨at_,Z,l,P,_⟩:=B.o;have f2:=(zi l).2 2;have c2:=(zi l).1.2.2;have O:=I l;clear l j u w;go_wp2;go_ret;rw[e.o];have D:=Kk (v:=.bool true) O.o;exact⟨rfl,⟨at_,true,D.1,P,rfl⟩,je z.o D.2⟩
theorem QU(p:Nat)(g:B8)(a:Option (B8))(d:Int)(k:W)(D:g.length<=maxLen)(z:0<=d)(L:d<=1000000000000)(s:qo k p g a) :
  C' 172 #[(Q p 0),N d] k fun m u=>m=.returned (N ((qa d.toNat a).1:Int))/\qo u p g (qa d.toNat a).2/\k.grownBy u (some p):=by
 have w:=I s;clear s;obtain⟨b,rfl⟩:=cL z;rw[bY];have t:=Bl a;go_enter Tryz.func172,Tryz.ntmps172;go_wp2_with fail;refine(jbc p g a _ D w.o).mono ?_;rintro m M ⟨rfl,j,r⟩;have c:J (qa b a=if b<(uR a).1 then(0,none)else uR a):=rfl;have o:uP 10 0 1 a=uR a:=rfl;rw[o]at j ⊢;have i:=I j;have l:=I r;have y:=I t;clear o j r t;generalize E:uR a=G at *;obtain⟨n,F⟩:=G;simp only at i c y ⊢;clear E;by_cases e:b<n
 ·have h:J (qa b a=(0,none)):=by have:=c.o;rw[aQ e]at this;exact this
  obtain⟨at_,H,f,B,_⟩:=i.o;have K:=(zi f).2 2;have c2:=(zi f).1.2.2;have x:=I f;have C:(b:Int)<(n:Int):=by omega
  clear f c e;go_wp2;go_ret;rw[h.o];have q:=Kk (v:=.bool true) x.o;exact⟨rfl,⟨at_,true,q.1,B,rfl⟩,je l.o q.2⟩
 ·have h:J (qa b a=(n,F)):=by have:=c.o;rw[aL e]at this;exact this
  have C:(n:Int)<=(b:Int):=by omega
  clear c e;go_wp2;go_ret;rw[h.o];exact⟨rfl,i.o,l.o⟩
theorem Mi(p:Nat)(c:B8)(b:Option (B8))(a:Int)(e:W)(g:c.length<=maxLen)(m:0<=a)(n:a<=1000000000000)(f:qo e p c b) :
  C' 222 #[(Q p 0),N a] e fun d i=>d=.returned (S (xR a.toNat b).1)/\qo i p c (xR a.toNat b).2/\e.grownBy i (some p):=by
 have k:=I f;clear f;have t:=zI a.toNat b;go_enter Tryz.func222,Tryz.ntmps222;go_wp2_with fail;refine(QU p c b a _ g m n k.o).mono ?_;rintro d u ⟨rfl,h,o⟩;have j:J (xR a.toNat b=qC ((qa a.toNat b).1:Int) (qa a.toNat b).2):=rfl;have l:=I h;clear h;generalize qa a.toNat b=s at *;go_wp2_with fail;refine(XX p c s.2 _ _ g (by omega) (by omega) l.o).mono ?_;rintro d v ⟨rfl,r,q⟩;go_wp2;go_ret;rw[j.o];exact⟨rfl,r,je o q⟩
theorem jem(n:Nat)(a:n<18446744073709551616):wrap64 (IntKind.u64.wrap ((n:Int)/2))=(n:Int)/2:=by
 rw[kJ];unfold wrap64;omega
theorem jgb(n:Nat)(a:n<18446744073709551616):wrap64 (wrap64 (-wrap64 (IntKind.u64.wrap ((n:Int)/2)))-1)=-((n:Int)/2)-1:=by
 rw[kJ];unfold wrap64;omega
theorem Ge(a:0<=K)(b:K<=9223372036854775807):IntKind.i64.wrap K=K:=kD K ⟨by omega,by omega⟩
theorem OA(p:Nat)(d:B8)(a:Option (B8))(h:W)(w:d.length<=maxLen)(r:qo h p d a) :
  C' 238 #[(Q p 0)] h fun m s=>m=.returned (N (F9 (uR a).1))/\qo s p d (uR a).2/\h.grownBy s (some p):=by
 have t:=I r;clear r;have c:=Bl a;go_enter Tryz.func238,Tryz.ntmps238;go_wp2_with fail;refine(jbc p d a _ w t.o).mono ?_;rintro m y ⟨rfl,g,q⟩;have o:uP 10 0 1 a=uR a:=rfl;rw[o]at g ⊢;have k:=I g;have j:J (∀n,n=(uR a).1->F9 n=F9 (uR a).1):=by intro n u;rw[u]
 clear o g;have x:∃n,n=(uR a).1:=⟨_,rfl⟩;obtain⟨n,f⟩:=x;rw[<-f]at c ⊢;have i:=I f;clear f;have l:=I c;by_cases b:n%2=0
 ·have v:((n:Int)%2==0)=true:=by simp;omega
  have e:J (F9 n=(n:Int)/2):=by simp[J,F9,b]
  clear b c;go_wp2;go_ret;exact⟨qX (by rw[<-j.o n i.o,e.o];exact jem n l.o),k.o,q⟩
 ·have v:((n:Int)%2==0)=false:=by simp;omega
  have e:J (F9 n=-((n:Int)/2)-1):=by simp[J,F9,b]
  clear b c;go_wp2;go_ret;exact⟨qX (by rw[<-j.o n i.o,e.o];exact jgb n l.o),k.o,q⟩
theorem jft(n c:Nat)(a:n<18446744073709551616)(b:c<256):IntKind.u64.wrap (IntKind.u64.wrap (256*(n:Int))+IntKind.u64.wrap (c:Int))=(((256*n+c)%18446744073709551616:Nat):Int):=by
 rw[kJ,kJ,kJ];omega
theorem jfb(p:Nat)(d:B8)(b:Option (B8))(f:W)(x:d.length<=maxLen)(k:qo f p d b) :
  C' 237 #[(Q p 0)] f fun g m=>g=.returned (N (bR b).1)/\qo m p d (bR b).2/\f.grownBy m (some p):=by
 have u:=I k;clear k;go_enter Tryz.func237,Tryz.ntmps237;go_wp2_with fail;refine(XX p d b 8 _ x (by decide) (by decide) u.o).mono ?_;rintro g D ⟨rfl,l,i⟩;have o:J (bR b=(wrap64 (GH (qC 8 b).1:Int),(qC 8 b).2)):=rfl;have v:=I l;have r:=I i;have B:=SR b;clear l i;generalize (qC 8 b).1=t at *;go_wp2_with fail;go_loop [4,5] (fun n e=>∃c:Nat,c<=t.length/\e=N ((c:Int)-1)/\n=.int .u64 (GH (t.drop c):Int)) (fun _ e=>((intOf e)+1).toNat)
 case atStart=>exact⟨t.length,aA _,rfl,by simp[GH]⟩
 case round =>
  obtain⟨c,z,rfl,rfl⟩:=hrel;by_cases j:c=0
  ·subst j;go_wp2;go_ret;rw[o.o];exact⟨rfl,v.o,r.o⟩
  ·obtain⟨a,rfl⟩:∃a,c=a+1:=⟨c-1,by omega⟩;have w:a<t.length:=(by omega);have q:=I (jaq t a w);have s:=I (jcm (t.drop (a+1)));generalize GH (t.drop (a+1))=y at *;have h:((a+1:Nat):Int)-1=(a:Int):=(by omega);rw[h];have C:(a:Int)<(t.length:Int):=(by omega);clear h j;go_wp2;go_round
   ·exact⟨a,by omega,rfl,by rw[q.o];exact bN (Value.int IntKind.u64) (jft y (t[a]).toNat s.o (t[a]).toNat_lt)⟩
   ·simp[intOf]
theorem xI(c:w.ownsRow n k i x g C)(j:m<n)(b:w.grownBy v (some m)):v.ownsRow n k i x g C:=by
 refine c.kept b ?_;cases h:x.ownBlock with
 | none=>exact .inl rfl
 | some f =>
  right;have:=(c.lt f h).1;simp only[gV,aW];omega
theorem Jx(e:qo w n s M)(g:n<w.heap.size)(o:Obj):qo (w.alloc o) n s M:=by
 obtain⟨at_,d,h,f,i⟩:=e;exact⟨at_,d,by rw[lh w o n g];exact h,f,i⟩
theorem GM(e:qo w n s M){q:Addr}(g:n≠q.block)(v:Value):qo (w.setCell q v) n s M:=by
 obtain⟨at_,d,h,f,i⟩:=e;exact⟨at_,d,by rw[Below.heap_setCell w q v n g];exact h,f,i⟩
theorem zW(b:w.grownBy v d)(o:Obj):w.grownBy (v.alloc o) d:=je b (kR v o d)
theorem AY(a:w.grownBy v d){q:Addr}(f:w.heap.size<=q.block)(wr:Value):w.grownBy (v.setCell q wr) d :=
 ⟨a.os,a.tape,a.output,by have:=a.size;simp;omega,fun c b e=>by rw[Below.heap_setCell v q wr c (by omega)];exact a.block c b e⟩
def T6(a:W)(g:Nat)(c:Z9):Prop:=a.heap[g]?=some (.cells #[.bool c.null,N c.int,S c.text] 58 (0,0))
theorem T6.kept(d:T6 w m f)(e:w.grownBy v (some n))(g:m<w.heap.size)(h:m≠n):T6 v m f:=by
 unfold T6;rw[e.block m g (by simp[h])];exact d
theorem QW(b:qo w n s M):w.cell? (A n 2)=some (.bool (Xw M))/\w.frozen? (A n 2)=false:=by
 refine⟨VU b,?_⟩;obtain⟨at_,f,d,_,_⟩:=b;exact(zi d).2 2
structure B5 (w wr:W) (p g14:Nat) (s:B8) (st:Option (B8)) (lv:Value) (l:List Z9) (last:Z9):Prop where
 row:wr.ownsRow (g14+1) 58 3 lv l.length (jL l)
 spot:qo wr p s st
 grown:w.grownBy wr (some p)
 a9:T6 wr g14 last
 ok:∀c∈l,D9 c
 dg:D9 last
 b8:last.text.length<=12*l.length
theorem Ou(kind:Int)(e:Nat)(words:List (B8))(n len:Nat)(last:Z9)(a:Option (B8))(i:∀l∈words,l.length<=12)(s:last.text.length<=1000) :
  D9 (xx kind e words n len last a).1/\(xx kind e words n len last a).1.text.length<=last.text.length+12:=by
 have f:∀b,(xR 12 b).1.length<=12:=by
  intro b;unfold xR;have m:=zI 12 b;cases o:(qa 12 b).2 with
  | none=>simp[qC]
  | some k =>
   by_cases h:((qa 12 b).1:Int)<0\/(k.length:Int)<((qa 12 b).1:Int)
   ·rw[Zi h];simp
   ·rw[Qc (by omega) (by omega)];simp only[aM,bY];omega
 have j:∀c:Nat,c<18446744073709551616->-9223372036854775808<=F9 c/\F9 c<=9223372036854775807:=by
  intro c r;unfold F9;split<;>omega
 have t:(2000:Nat)<=maxLen:=by decide
 unfold xx;split
 ·have:=Jn (GH (qC 8 a).1:Int);exact⟨⟨this.1,this.2,aG _⟩,aG _⟩
 split
 ·have:=Jn (last.int+F9 (uR a).1);exact⟨⟨this.1,this.2,aG _⟩,aG _⟩
 split
 ·have:=j _ (Bl (qa (n-len) a).2);exact⟨⟨this.1,this.2,aG _⟩,aG _⟩
 split
 ·have:=f a;exact⟨⟨by simp,by simp,by simp only;omega⟩,by simp only;omega⟩
 split
 ·have p:(words.getD (qa (words.length-1) a).1 []).length<=12:=by
   by_cases d:(qa (words.length-1) a).1<words.length
   ·simp only[List.getD,aR d,eO];exact i _ (aJ d)
   ·simp[List.getD,cN (gM d)]
  exact⟨⟨by simp,by simp,by simp only;omega⟩,by simp only;omega⟩
 split
 ·have q:=f (qa last.text.length a).2;have g:(last.text.take (qa last.text.length a).1++(xR 12 (qa last.text.length a).2).1).length<=last.text.length+12:=by
   rw[aB,aM];omega
  exact⟨⟨by simp,by simp,by simp only;omega⟩,g⟩
 ·exact⟨⟨by simp,by simp,by simp only[bJ];omega⟩,by simp⟩
def Zl(a:List (B8)):List Value:=a.map S
theorem Tryz.bd:(Tryz.prog.info? 9).map (fun a=>(a.zero,a.size,a.bytes))=some (some (.string ⟨#[]⟩),1,16):=by kernel_rfl
theorem Xs(h:qo w n s M)(k:n<w.heap.size)(j:w.grownBy v d)(l:∀b,d=some b->n<b):qo v n s M:=by
 obtain⟨at_,f,m,i,c⟩:=h;refine⟨at_,f,?_,i,c⟩;rw[j.block n k (fun g=>absurd (l n g.symm) (by omega))];exact m
theorem Jt{p q:Option Nat}(a:w.grownBy v p)(b:v.grownBy u q)(j:∀f,q=some f->w.heap.size<=f):w.grownBy u p:=by
 refine⟨b.os.trans a.os,b.tape.trans a.tape,b.output.trans a.output,aI a.size b.size,fun c e i=>?_⟩;rw[b.block c (aC e a.size) (fun h=>absurd (j c h.symm) (by omega))];exact a.block c e i
variable{e:List (B8)}
theorem Fu{o:Obj}(f:n<w.heap.size)
  (m:v.ownsRow w.heap.size 9 1 x e.length (Zl e))(c:u.ownsRow w.heap.size 9 1 y (e.length+1) (Zl e++[S r]))(h:(v.alloc o).grownBy u x.ownBlock)
  (q:qo v n s M)(i:w.grownBy v (some n)) :
  u.ownsRow w.heap.size 9 1 y (e++[r]).length (Zl (e++[r]))/\qo u n s M/\w.grownBy u (some n):=by
 have k:=i.size;have g:∀b,x.ownBlock=some b->w.heap.size<=b:=fun b d=>(m.lt b d).1;refine⟨?_,?_,Jt (zW i o) h g⟩
 ·rw[aB,Zl,eb];exact c
 ·exact Xs (Jx q (by omega) o) (by simp;omega) h (fun b d=>by have:=g b d;omega)
theorem jat(a:Nat)(b:Option (B8)):(xR a b).1.length<=a:=by
 unfold xR;have e:=zI a b;cases f:(qa a b).2 with
 | none=>simp[qC]
 | some d =>
  by_cases c:((qa a b).1:Int)<0\/(d.length:Int)<((qa a b).1:Int)
  ·rw[Zi c];simp
  ·rw[Qc (by omega) (by omega)];simp only[aM,bY];omega
theorem MY{b c:Option (B8)}(f:m<n)(d:e++(Ja (n-m) b).1=(Ja n c).1)(a:(Ja (n-m) b).2=(Ja n c).2) :
  (e++[(xR 12 b).1])++(Ja (n-(m+1)) (xR 12 b).2).1=(Ja n c).1/\(Ja (n-(m+1)) (xR 12 b).2).2=(Ja n c).2:=by
 rw[show n-m=(n-(m+1))+1 by omega]at d a;simp only[Ja]at d a;exact⟨by rw[aD];exact d,a⟩
theorem TF{p n:Nat}(e:p<w.heap.size)(f:qo v p s M)(b:w.grownBy v (some p)) :
  B5 w (v.alloc (Obj.cells #[Value.bool false,N 0,S []] 58)) p v.heap.size s M (.slice none 0 0) [] qY where
 row:=kg _ _ _ _
 spot:=Jx f (aC e b.size) _
 grown:=zW b _
 a9:=by
  unfold T6;rw[World.alloc];simp[qY,S]
 ok:=by simp
 dg:=⟨by simp[qY],by simp[qY],by simp[qY]⟩
 b8:=by simp[qY]
theorem Cx(kind:Int)(c:Nat)(words:List (B8))(n gk:Nat)(a:List Z9)(last:Z9)(b:Option (B8))(d:¬(a.length<n/\b.isSome=true)):zG kind c words n gk a last b=(a,b):=by
 cases gk with
 | zero=>rfl
 | succ e=>rw[zG,aL d]
structure zag (w wr wa:W) (p g14 g15:Nat) (s:B8) (st:Option (B8)) (wv:Value) (last:Z9) (words:List (B8)):Prop where
 words:wa.ownsRow w.heap.size 9 1 wv words.length (Zl words)
 spot:qo wa p s st
 a9:T6 wa g14 last
 newAt:T6 wa g15 qY
 grown:wr.grownBy wa (some p)
 size:wa.heap.size=g15+1
theorem Wr(i:k=v.heap.size)(j:n<v.heap.size)(h:m<v.heap.size)
  (d:B5 w v n m s M x D f)(g:v.ownsRow w.heap.size 9 1 y e.length (Zl e)) :
  zag w v (v.alloc (Obj.cells #[Value.bool false,N 0,S []] 58)) n m k s M y f e:=by
 subst i;refine⟨g.alloc _,Jx d.spot j _,?_,?_,kR _ _ _,by simp⟩
 ·unfold T6;rw[lh v _ m h];exact d.a9
 ·unfold T6;rw[World.alloc];simp[qY,S]
structure G5 (w wc:W) (p g14 g15:Nat) (s:B8) (st:Option (B8)) (lv wv:Value) (l:List Z9) (last v:Z9) (words:List (B8)):Prop where
 row:wc.ownsRow (g14+1) 58 3 lv l.length (jL l)
 words:wc.ownsRow w.heap.size 9 1 wv words.length (Zl words)
 spot:qo wc p s st
 grown:w.grownBy wc (some p)
 last:T6 wc g14 last
 new:T6 wc g15 v
 lt:g15<wc.heap.size
 apart:lv.ownBlock≠some g15
theorem Cc(a:T6 w n f):n<w.heap.size:=by
 unfold T6 at a;exact(aF.1 a).1
theorem Wk{words j:Option (B8)}{last i:Z9}(f:k=v.heap.size)(b:n<k)(wc:m<k)(t:n<m)(o:n<w.heap.size)
  (c:B5 w v n m s words x D last)(r:v.ownsRow w.heap.size 9 1 y e.length (Zl e))(g:T6 u k i)(q:qo u n s j)(d:v.grownBy u (some n)) :
  G5 w u n m k s j x y D last i e:=by
 subst f;exact⟨xI c.row (by omega) d,xI r o d,q,je c.grown d,c.a9.kept d wc (by omega),g,Cc g,fun l=>absurd (c.row.lt _ l).2 (by omega)⟩
theorem Pp(kind:Int)(b:Nat)(words:List (B8))(n len:Nat)(last:Z9)(a:Option (B8))(d:len<n) :
  (xx kind b words n len last a).2.1<=n-len/\((xx kind b words n len last a).2.2.isSome=true->1<=(xx kind b words n len last a).2.1):=by
 unfold xx;split
 ·exact⟨by show 1<=_;omega,fun _=>aA 1⟩
 split
 ·exact⟨by show 1<=_;omega,fun _=>aA 1⟩
 split
 ·refine⟨zI _ _,?_⟩;show(if(qa (n-len) a).1=0 then none else(uR (qa (n-len) a).2).2).isSome=true->1<=(qa (n-len) a).1;split
  ·intro c;simp at c
  ·intro _;omega
 split
 ·exact⟨by show 1<=_;omega,fun _=>aA 1⟩
 split
 ·exact⟨by show 1<=_;omega,fun _=>aA 1⟩
 split
 ·exact⟨by show 1<=_;omega,fun _=>aA 1⟩
 ·exact⟨by show 1<=_;omega,fun _=>aA 1⟩
theorem NT{d:V'}{b:Nat×Nat}(f:w.ownsRow n m k x i C)(c:w.heap[g]?=some (.cells d F b))(h:m≠F):x.ownBlock≠some g:=by
 rcases f.2 with⟨rfl,_⟩|⟨q,o,p,rfl,_,a,_⟩
 ·simp[Value.ownBlock]
 ·simp only[Value.ownBlock,gV,aW];intro j;subst j;rw[c]at a;simp at a;exact h a.2.1.symm
theorem ME{o b:List Value}(f:w.ownsRow n k g x p o)(l:w.ownsRow m i c y h b)(d:k≠i) :
  x.ownBlock=none\/x.ownBlock≠y.ownBlock:=by
 rcases l.2 with⟨rfl,_⟩|⟨s,q,r,rfl,_,j,_⟩
 ·cases t:x.ownBlock with
  | none=>exact .inl rfl
  | some u=>right;simp[Value.ownBlock]
 ·exact .inr (NT f j d)
theorem jQ{b b' c d n:Nat}(a:w.ownsRow b c d x n C)(j:b'<=b):w.ownsRow b' c d x n C:=by
 refine⟨a.1,?_⟩;rcases a.2 with a|⟨g,h,i,rfl,k,rest⟩
 ·exact .inl a
 ·exact .inr ⟨g,h,i,rfl,aI j k,rest⟩
theorem jfo{o i h a b c:Value}(k:w.heap[n]?=some (.cells #[o,i,h] F (0,0))) :
  (((w.setCell (A n 0) a).setCell (A n 1) b).setCell (A n 2) c).heap[n]?=some (.cells #[a,b,c] F (0,0))/\w.grownBy (((w.setCell (A n 0) a).setCell (A n 1) b).setCell (A n 2) c) (some n):=by
 have l:(w.setCell (A n 0) a).heap[n]?=some (.cells #[a,i,h] F (0,0)):=by rw[kj w n 0 _ F a k];rfl
 have m:((w.setCell (A n 0) a).setCell (A n 1) b).heap[n]?=some (.cells #[a,b,h] F (0,0)):=by rw[kj _ n 1 _ F b l];rfl
 refine⟨by rw[kj _ n 2 _ F c m];rfl,⟨rfl,rfl,rfl,by simp,fun e _ g=>?_⟩⟩;have f:e≠n:=fun j=>g (by rw[j]);rw[kA _ (A n 2) e c f,kA _ (A n 1) e b f,kA _ (A n 0) e a f]
theorem FO{h:Bool}(q:m<k)(j:n<m)(wc:w.heap.size<=m)
  (d:G5 w v n m k s M x y D f ⟨h,K,r⟩ e) :
  G5 w (((v.setCell (A m 0) (.bool h)).setCell (A m 1) (N K)).setCell (A m 2) (.string ⟨r.toArray⟩)) n m k s M x y (D++List.replicate 0 ⟨h,K,r⟩) ⟨h,K,r⟩ ⟨h,K,r⟩ e:=by
 obtain⟨t,last⟩:=jfo (a:=.bool h) (b:=N K) (c:=.string ⟨r.toArray⟩) d.last;have g:=d.lt;refine⟨?_,?_,?_,?_,t,?_,aC g last.size,d.apart⟩
 ·rw[gB,aT];exact xI d.row (by omega) last
 ·exact d.words.kept last (.inr (NT d.words d.last (by decide)))
 ·exact Xs d.spot (by omega) last (fun u o=>by simp at o;omega)
 ·exact Jt d.grown last (fun u o=>by simp at o;omega)
 ·unfold T6;rw[last.block k g (by simp;omega)];exact d.new
theorem RZ(a:List Z9)(c:Z9):jL (a++[c])=jL a++[.bool c.null,N c.int,S c.text]:=by
 rw[Jp];simp[jL]
theorem VD{α:Type}(b:List α)(a:Nat)(v:α):b++List.replicate (a+1) v=(b++List.replicate a v)++[v]:=by
 rw[en,aD]
theorem Li{o:Obj}(b:m<k)(B:n<m)(C:w.heap.size<=m)
  (a:G5 w v n m k s M x z (D++List.replicate i f) f f e)
  (p:u.ownsRow (m+1) 58 3 y ((D++List.replicate i f).length+1) (jL (D++List.replicate i f)++[.bool f.null,N f.int,S f.text]))
  (c:(v.alloc o).grownBy u x.ownBlock)(t:y.ownBlock=x.ownBlock\/y.ownBlock=some (v.heap.size+1)) :
  G5 w u n m k s M y z (D++List.replicate (i+1) f) f f e:=by
 have words:=a.lt;have r:∀j,x.ownBlock=some j->m+1<=j:=fun j d=>(a.row.lt j d).1;have l:=c.size;rw[VD];generalize D++List.replicate i f=q at *;refine⟨?_,?_,?_,?_,?_,?_,?_,?_⟩
 ·rw[RZ,aB];exact p
 ·exact(a.words.alloc o).kept c (ME a.words a.row (by decide))
 ·exact Xs (Jx a.spot (by omega) o) (by simp;omega) c (fun j d=>by have:=r j d;omega)
 ·exact Jt (zW a.grown o) c (fun j d=>by have:=r j d;omega)
 ·unfold T6;rw[c.block m (by simp;omega) (fun g=>by have:=r m g.symm;omega),lh v o m (by omega)];exact a.last
 ·unfold T6;rw[c.block k (by simp;omega) (fun g=>a.apart g.symm),lh v o k words];exact a.new
 ·simp at l;omega
 ·rcases t with t|t
  ·rw[t];exact a.apart
  ·rw[t];simp;omega
theorem Pu{last r:Z9}(u:i<=60)(t:D.length<=i)(o:last.text.length<=12*D.length)(q:∀c∈D,D9 c)
  (d:G5 w v n m k s M x y (D++List.replicate g r) r r e)(words:g<=i-D.length)(f:1<=g\/r.text.length<=12*D.length)(h:D9 r)(j:r.text.length<=last.text.length+12) :
  B5 w v n m s M x (D++List.replicate g r) r:=by
 refine⟨d.row,d.spot,d.grown,d.last,?_,h,?_⟩
 ·intro c b;rcases aX.1 b with b|b
  ·exact q c b
  ·rw[(dk.1 b).2];exact h
 ·rw[aB,bf];rcases f with f|f<;>omega
theorem SB(kind:Int)(a:Nat)(words:List (B8))(n len:Nat)(last:Z9)(b:Option (B8)):1<=(xx kind a words n len last b).2.1\/(xx kind a words n len last b).1.text.length=0:=by
 unfold xx;split
 ·exact .inl (aA 1)
 split
 ·exact .inl (aA 1)
 split
 ·exact .inr rfl
 split
 ·exact .inl (aA 1)
 split
 ·exact .inl (aA 1)
 split
 ·exact .inl (aA 1)
 ·exact .inl (aA 1)
theorem RB{x i:Int}{c:Bool}(j:m=w.heap.size)(k:n<m)(f:T6 v m ⟨c,i,r⟩)(h:qo v n s M)(g:w.grownBy v (some n)) :
  T6 (v.setCell (A m 1) (N x)) m ⟨c,x,r⟩/\qo (v.setCell (A m 1) (N x)) n s M/\w.grownBy (v.setCell (A m 1) (N x)) (some n):=by
 refine⟨(LA f).1,GM h (by show n≠m;omega) _,AY g (by show _<=m;omega) _⟩
theorem GV{b t:B8}{c:Bool}(j:x=S b)(k:m=w.heap.size)(l:n<m)(g:T6 v m ⟨c,K,t⟩)(i:qo v n s M)(h:w.grownBy v (some n)) :
  T6 (v.setCell (A m 2) x) m ⟨c,K,b⟩/\qo (v.setCell (A m 2) x) n s M/\w.grownBy (v.setCell (A m 2) x) (some n):=by
 subst j;refine⟨(Kk g).1,GM i (by show n≠m;omega) _,AY h (by show _<=m;omega) _⟩
theorem Kq(a:Bool)(i:Xw M=true->a=true)(r:n<m)(g:T6 u m f)(q:qo u n s M)(b:w.grownBy u (some n)) :
  T6 (u.setCell (A n 2) (.bool a)) m f/\qo (u.setCell (A n 2) (.bool a)) n s (if a=true then none else M)/\w.grownBy (u.setCell (A n 2) (.bool a)) (some n):=by
 obtain⟨at_,j,o,l,h⟩:=q;obtain⟨k,c⟩:=Kk (v:=.bool a) o;refine⟨?_,⟨at_,a,k,l,?_⟩,je b c⟩
 ·unfold T6;rw[c.block m (Cc g) (by simp;omega)];exact g
 ·cases a with
  | true=>rfl
  | false =>
   cases j with
   | true=>subst h;exact absurd (i rfl) (by decide)
   | false=>subst h;rfl
theorem jS(a:(w.drew).grownBy v d):w.grownBy v d:=⟨a.os,a.tape,a.output,a.size,a.block⟩
theorem OI(c:w.ownsRow n 9 1 x e.length (Zl e))(h:0<e.length) :
  ∃g a,x=R g e.length a/\True:=by
 rcases c.2 with⟨_,f⟩|⟨g,a,words,rfl,_⟩
 ·omega
 ·exact⟨g,a,rfl,trivial⟩
theorem PZ(g:w.ownsRow n 9 1 (R m e.length k) e.length (Zl e))(a:Nat)(f:a<e.length) :
  w.cell? (A m a)=some (S e[a]):=by
 rw[g.cellAt a (by omega)];simp[Zl,f]
theorem An(d:qo w n s M):qo w.drew n s M:=d
theorem jao(t b:B8)(a:Nat):Value.string ((⟨t.toArray⟩:ByteArray).extract 0 a++⟨b.toArray⟩)=S (t.take a++b):=by
 have c:(⟨t.toArray⟩:ByteArray).extract 0 a=⟨(t.take a).toArray⟩:=by
  apply ByteArray.ext;apply Array.ext';rw[Lib.extract_data,Nf];simp
 rw[c];exact bN Value.string (xh _ _)
structure W8 where
 name:B8
 kind:Int
 key:Int
 cells:List Z9
structure W9 where
 number:Int
 ab:B8
structure L8 where
 group:Int
 aa:Int
 R:Int
 told:Bool
structure V6 where
 table:List W8
 J:L8
 pre:B8
 draw:Int
structure V5 where
 ab:B8
 I:B8
 extra:B8
 body:B8
def zA(a:B8):Bool:=a.all (fun b=>decide (97<=b.toNat)&&decide (b.toNat<=122))&&(decide (1<=a.length)&&decide (a.length<=8))
def JW(c:W8):Bool:=zA c.name&&((decide (0<=c.kind)&&decide (c.kind<=1))&&(decide (0<=c.key)&&decide (c.key<=9)))
def zx(t:List W8)(a:B8):Bool:=t.any fun c=>c.name==a
def JZ(t:List W8):Nat->Bool
 | 0=>true
 | a+1=>JZ t a&&(match t[a]? with|some c=>JW c && !zx (t.take a) c.name|none=>true)
def jW(t:List W8):Bool:=JZ t t.length&&(decide (1<=t.length)&&decide (t.length<=6))
def qv:List W8->Nat
 | []=>0
 | c::_=>c.cells.length
def xk(t:List W8):Bool:=jW t&&t.all fun c=>qi c.kind c.cells&&decide (c.cells.length=qv t)
def qK(p:L8):Bool:=(decide (1<=p.group)&&decide (p.group<=60))&&((decide (1<=p.aa)&&decide (p.aa<=60))&&(decide (1<=p.R)&&decide (p.R<=9)))
def jG(b:List W9)(n:Int):Bool:=b.any fun a=>decide (a.number=n)
def Kc(a:W9):Bool:=(decide (1<=a.number)&&decide (a.number<=9))&&decide (a.ab.length=8)
def Ka(b:List W9):Nat->Bool
 | 0=>true
 | a+1=>Ka b a&&(match b[a]? with|some c=>Kc c && !jG (b.take a) c.number|none=>true)
def xD(a:List W9):Bool:=Ka a a.length
def Ya(b:List W9)(n:Int):Option (B8):=(b.find? fun a=>decide (a.number=n)).map (·.ab)
def jh(a:List W9)(n:Int):B8:=(Ya a n).getD []
def XU(j:V6)(a:List W9):Bool:=!jG a j.J.R||j.table.any fun c=>decide (0<c.key) && !jG a c.key
def xp(j:V6)(a:List W9):Int :=
 if xk j.table=false then 5
 else if(qK j.J&&(decide (j.pre.length<=20)&&(decide (0<=j.draw)&&decide (j.draw<=65535))))=false then 7
 else if xD a=false then 1
 else if XU j a=true then 8 else 0
def jz(pre:B8)(sort:UInt8)(g c p:Nat):B8:=xB pre++[sort]++qh (g:Int)++qh (c:Int)++qh (p:Int)
def jv(n size i:Nat):Nat:=min size (n-i*size)
def qc(n size:Nat):Nat:=(n+size-1)/size
structure V1 where
 sort:UInt8
 g:Nat
 c:Nat
 p:Nat
 start:Nat
 many:Nat
def jr(P g c start n:Nat)(a:Nat):List V1:=(List.range a).map fun p=>⟨80,g,c,p,start+p*P,jv n P p⟩
def jl(b a P g c:Nat):List V1:=jr P g c (g*a) (jv b a g) (qc (jv b a g) P)++[⟨77,g,c,0,g*a,jv b a g⟩]
def jp(d b P g a:Nat):List V1:=(List.range a).flatMap fun c=>jl d b P g c
def jM(c a b P n:Nat):List V1:=(List.range n).flatMap fun g=>jp c b P g a
def jR(b c a P:Nat):List V1:=jM b c a P (qc b a)
def JF(b:List Z9):Int->Int:=fun d=>b.foldl (fun a c=>if c.int<a then c.int else a) d
def Xx(b:List Z9):Int->Int:=fun d=>b.foldl (fun a c=>if a<c.int then c.int else a) d
def xe:List Z9->Int
 | []=>0
 | c::_=>c.int
def JD(kind:Int)(a:List Z9):B8 :=
 uB (a.length-(jk a).length)++if kind=0/\jk a≠[]then[1]++zB (JF (jk a) (xe (jk a)))++zB (Xx (jk a) (xe (jk a)))else[0]
def ji(t:List W8)(c:Nat):W8:=t.getD c ⟨[],0,0,[]⟩
def xQ(t:List W8)(a:V1):B8 :=
 if a.sort=77 then JD (ji t a.c).kind (((ji t a.c).cells.drop a.start).take a.many)else xy (ji t a.c).kind (((ji t a.c).cells.drop a.start).take a.many)
structure G8 where
 o:B8
 log:List V5
def Qh(plain:B8)(a:G8):G8:=⟨a.o++(qh (plain.length:Int)++plain),a.log⟩
def xn(draw:Int)(n:Nat):B8:=qh draw++qh (n:Int)
def JG(draw:Int)(b extra plain:B8)(a:G8):G8 :=
 ⟨a.o++(qh ((zg b (xn draw a.log.length) extra plain).length:Int)++(xn draw a.log.length++zg b (xn draw a.log.length) extra plain)),
  a.log++[⟨b,xn draw a.log.length,extra,zg b (xn draw a.log.length) extra plain⟩]⟩
def ZX(j:V6)(b:List W9)(key:Int)(sort:UInt8)(g c p:Nat)(plain:B8)(a:G8):G8 :=
 if key=0 then Qh plain a else JG j.draw (jh b key) (jz j.pre sort g c p) plain a
def Qv(j:V6)(b:List W9)(c:G8)(a:V1):G8:=ZX j b (ji j.table a.c).key a.sort a.g a.c a.p (xQ j.table a) c
def qk(j:V6)(b:List W9)(c:G8)(a:List V1):G8:=a.foldl (Qv j b) c
def qS(a:Bool):List V1->Bool
 | []=>a
 | c::b=>qS (decide (c.sort=77)) b
def qB(j:V6)(c:List W9):G8->Bool->List V1->List Nat
 | a,b,[]=>[]
 | a,b,d::e=>(if b=true then[a.o.length]else[])++qB j c (Qv j c a d) (decide (d.sort=77)) e
def jZ(c:W8):B8:=xB c.name++uB c.kind.toNat++uB c.key.toNat
def qG(rows:Nat)(p:L8)(t:List W8)(places:List Nat):B8 :=
 uB rows++uB p.group.toNat++uB p.aa.toNat++uB p.R.toNat++uB t.length++t.flatMap jZ++places.flatMap uB
def Jy(p:L8):B8:=[67,70]++[if p.told=true then 79 else 69]++[T4 p.R]
def xF(j:V6):List V1:=jR (qv j.table) j.table.length j.J.group.toNat j.J.aa.toNat
def zY(j:V6)(a:List W9):G8:=qk j a ⟨Jy j.J,[]⟩ (xF j)
def zQ(j:V6)(a:List W9):List Nat:=qB j a ⟨Jy j.J,[]⟩ true (xF j)
def Xy(j:V6)(a:List W9):B8:=qG (qv j.table) j.J j.table (zQ j a)
def Jr(j:V6)(b:List W9)(a:B8)(c:G8):G8 :=
 if j.J.told=true then JG j.draw (jh b j.J.R) (jz j.pre 83 0 0 0++a) [] (Qh a c)
 else JG j.draw (jh b j.J.R) (jz j.pre 70 0 0 0) a c
def Ga(j:V6)(a:List W9):B8 :=
 (Jr j a (Xy j a) (zY j a)).o++(qh (((Jr j a (Xy j a) (zY j a)).o.length-(zY j a).o.length:Nat):Int)++[67,70])
def Xu(j:V6)(a:List W9):List V5:=(Jr j a (Xy j a) (zY j a)).log
theorem JI(b c:List V1):∀a,qS a (b++c)=qS (qS a b) c:=by
 induction b with
 | nil=>intro a;rfl
 | cons e b d=>intro a;simp only[bF,qS];exact d _
theorem Zn(j:V6)(a:List W9)(d:G8)(b c:List V1):qk j a d (b++c)=qk j a (qk j a d b) c:=by
 unfold qk;rw[eE]
theorem Jz(j:V6)(c:List W9)(l d:List V1):∀b a,qB j c b a (l++d)=qB j c b a l++qB j c (qk j c b l) (qS a l) d:=by
 induction l with
 | nil=>intro b a;rfl
 | cons f l e =>
  intro b a;simp only[bF,qB,qS,aD];rw[e];rfl
theorem DW(j:V6)(h:List W9)(a:List V1)(d:∀b∈a,b.sort=80):∀c,qB j h c false a=[]:=by
 induction a with
 | nil=>intro c;rfl
 | cons b a g =>
  intro c;have e:=d b (cC ..);simp only[qB,e];exact g (fun i f=>d i (bA _ f)) _
theorem VT(a:List V1)(d:∀b∈a,b.sort=80):a≠[]->∀c,qS c a=false:=by
 induction a with
 | nil=>intro f;exact absurd rfl f
 | cons b a i =>
  intro _ c;have g:=d b (cC ..);simp only[qS,g];by_cases e:a=[]
  ·subst e;rfl
  ·exact i (fun j h=>d j (bA _ h)) e _
theorem KA(P g c start n d:Nat):∀b∈jr P g c start n d,b.sort=80:=by
 intro b a;simp only[jr,cM]at a;obtain⟨p,_,rfl⟩:=a;rfl
theorem NE(j:V6)(k:List W9)(l:G8)(b a P g c:Nat):qB j k l true (jl b a P g c)=[l.o.length]:=by
 unfold jl;have i:=KA P g c (g*a) (jv b a g) (qc (jv b a g) P);generalize jr P g c (g*a) (jv b a g) (qc (jv b a g) P)=m at *;cases m with
 | nil=>simp[qB]
 | cons r d =>
  have p:=i r (cC ..);have h:∀e∈d,e.sort=80:=fun e q=>i e (bA _ q);simp only[bF,qB,p,db];rw[Jz];have n:(decide ((80:UInt8)=77))=false:=by decide
  rw[n,DW j k d h];have o:qS false d=false:=by
   by_cases f:d=[]
   ·subst f;rfl
   ·exact VT d h f _
  rw[o];simp[qB]
theorem Ik(d:Bool)(b a P g c:Nat):qS d (jl b a P g c)=true:=by
 unfold jl;rw[JI];rfl
theorem Zf(c b P g a:Nat):qS true (jp c b P g a)=true:=by
 unfold jp
 induction a with
 | zero=>rfl
 | succ a d=>rw[cI,cE,JI,d];simp only[cu,fo,aT];exact Ik _ _ _ _ _ _
theorem Ui(c a b P n:Nat):qS true (jM c a b P n)=true:=by
 unfold jM
 induction n with
 | zero=>rfl
 | succ n d=>rw[cI,cE,JI,d];simp only[cu,fo,aT];exact Zf _ _ _ _ _
theorem JA(c b P g a:Nat):jp c b P g (a+1)=jp c b P g a++jl c b P g a:=by
 unfold jp;rw[cI,cE];simp
theorem JU(c a b P n:Nat):jM c a b P (n+1)=jM c a b P n++jp c b P n a:=by
 unfold jM;rw[cI,cE];simp
theorem Xv(P g c start n a:Nat):jr P g c start n (a+1)=jr P g c start n a++[⟨80,g,c,a,start+a*P,jv n P a⟩]:=by
 unfold jr;rw[cI,eb];rfl
theorem JE{n size i:Nat}(b:1<=size):i<qc n size↔i*size<n:=by
 unfold qc;rw[Nat.lt_div_iff_mul_lt (by omega)];constructor<;>intro a<;>omega
theorem QP{n size:Nat}(a:1<=size):qc n size<=n:=by
 rcases eA n (qc n size)with h|h
 ·have b:=(JE (n:=n) (i:=n) a).1 h;have:n*1<=n*size:=cS (aA _) a;omega
 ·exact h
theorem Qz(n size a:Nat):jv n size a<=size/\jv n size a<=n:=by unfold jv;omega
theorem ZZ(n size a:Nat)(b:a*size<n):a*size+jv n size a=min (a*size+size) n:=by unfold jv;omega
theorem UL{n size i:Nat}(a:1<=size):0<jv n size i↔i*size<n:=by unfold jv;omega
theorem Wy(b a P g c:Nat)(d:1<=P)(h:a<=60):(jl b a P g c).length<=61:=by
 unfold jl jr;have e:=QP (n:=jv b a g) d;have f:=(Qz b a g).1;simp;omega
theorem Rc(c b P g a:Nat)(e:1<=P)(d:b<=60):(jp c b P g a).length<=61*a:=by
 induction a with
 | zero=>simp[jp]
 | succ a f=>have:=Wy c b P g a e d;rw[JA,aB];omega
theorem Gc(c a b P n:Nat)(e:1<=P)(d:b<=60)(f:a<=6):(jM c a b P n).length<=366*n:=by
 induction n with
 | zero=>simp[jM]
 | succ n g=>have:=Rc c b P n a e d;rw[JU,aB];omega
theorem Dk(kind:Int)(v:List Z9)(b:Nat):(jV kind v (b+1)).length<=(JP (XY kind 0) v).length:=by
 induction b with
 | zero=>simp[jV]
 | succ b c =>
  rw[jV];split
  ·rename_i a;rcases a with a|a
   ·omega
   ·omega
  ·exact c
theorem jar(kind:Int)(a:List Z9)(d:∀c∈a,qI c)(b:a.length<=60):(xy kind a).length<=3500:=by
 have i:=Ku a b;have h:(jk a).length<=60:=aI (du ..) b;have g:∀c∈jk a,qI c:=fun c f=>d c (dn.1 f).1;have j:(jV kind (jk a) 3).length<=_:=Dk kind (jk a) 2;have k:(JP (XY kind 0) (jk a)).length<=2401:=by
  have l:=xS (XY kind 0) (jk a) g h (jk a).length;have e:XY kind 0≠3:=by unfold XY;split<;>simp
  simp only[JP,qT,aL e,bC,bW];omega
 unfold xy;split
 ·omega
 ·rw[aB];omega
theorem Ug(b:List Z9)(d:∀c∈b,qI c):∀a:Int,(-9223372036854775808<=a/\a<=9223372036854775807)->-9223372036854775808<=JF b a/\JF b a<=9223372036854775807:=by
 induction b with
 | nil=>intro a e;exact e
 | cons c b g =>
  intro a e;obtain⟨c0,c1,_⟩:=d c (cC ..);refine g (fun h f=>d h (bA _ f)) _ ?_;dsimp only;split<;>omega
theorem Vd(b:List Z9)(d:∀c∈b,qI c):∀a:Int,(-9223372036854775808<=a/\a<=9223372036854775807)->-9223372036854775808<=Xx b a/\Xx b a<=9223372036854775807:=by
 induction b with
 | nil=>intro a e;exact e
 | cons c b g =>
  intro a e;obtain⟨c0,c1,_⟩:=d c (cC ..);refine g (fun h f=>d h (bA _ f)) _ ?_;dsimp only;split<;>omega
theorem QY(a:List Z9)(b:∀c∈a,qI c):-9223372036854775808<=xe a/\xe a<=9223372036854775807:=by
 cases a with
 | nil=>simp[xe]
 | cons c a=>obtain⟨c0,c1,_⟩:=b c (cC ..);exact⟨c0,c1⟩
theorem Ok(kind:Int)(a:List Z9)(e:∀c∈a,qI c)(j:a.length<=60):(JD kind a).length<=40:=by
 have b:∀c∈jk a,qI c:=fun c f=>e c (dn.1 f).1;have g:=jO (a.length-(jk a).length) (by omega);have d:=QY _ b;obtain⟨a0,a1⟩:=Ug _ b _ d;obtain⟨b0,b1⟩:=Vd _ b _ d;have h:=Uu _ a0 a1;have i:=Uu _ b0 b1;unfold JD;rw[aB];split
 ·simp only[aB,bC,bJ];omega
 ·simp only[bC,bJ];omega
theorem zL(pre:B8)(sort:UInt8)(g c p:Nat)(a:pre.length<=20):(jz pre sort g c p).length<=40:=by
 have:=jO pre.length (by omega);simp only[jz,xB,aB,jx,bC,bJ];omega
structure E6 (t:List W8) (s:V1):Prop where
 sort:s.sort=80\/s.sort=77
 bg:s.c<t.length
 rows:s.start+s.many<=qv t
 ao:s.g<60/\s.c<60/\s.p<60/\s.start<60/\s.many<=60
variable{B:List W8}
theorem Bm(r:n=qv B)(s:n<=60)(e:1<=m)(f:1<=k)(q:m<=60)(h:g<B.length)(p:B.length<=6)(a:i*m<n)(j:c*k<jv n m i) :
  E6 B ⟨80,i,g,c,i*m+c*k,jv (jv n m i) k c⟩:=by
 have b:i*1<=i*m:=cS (aA _) e;have l:c*1<=c*k:=cS (aA _) f;have P:=ZZ n m i a;have t:=ZZ (jv n m i) k c j;have o:=Qz n m i;refine⟨.inl rfl,h,?_,?_,?_,?_,?_,?_⟩<;>simp only<;>omega
theorem jcz(g:n=qv B)(t:n<=60)(d:1<=m)(l:m<=60)(e:i<B.length)(b:B.length<=6)(f:k*m<n) :
  E6 B ⟨77,k,i,0,k*m,jv n m k⟩:=by
 have h:k*1<=k*m:=cS (aA _) d;have c:=ZZ n m k f;have j:=Qz n m k;refine⟨.inr rfl,e,?_,?_,?_,?_,?_,?_⟩<;>simp only<;>omega
theorem OL(j:n=qv B)(P:n<=60)(f:1<=m)(c:1<=k)(h:m<=60)(b:g<B.length)(e:B.length<=6)(l:i*m<n) :
  ∀t∈jl n m k i g,E6 B t:=by
 intro t a;rcases aX.1 a with a|a
 ·simp only[jr,cM,cF]at a;obtain⟨p,o,rfl⟩:=a;exact Bm j P f c h b e l ((JE c).1 o)
 ·simp only[bD,bH,dm]at a;subst a;exact jcz j P f h b e l
theorem Cd{t:List W8}(P:n=qv t)(b:n<=60)(f:1<=m)(j:1<=k)(i:m<=60)(h:t.length<=6) :
  ∀e∈jR n t.length m k,E6 t e:=by
 intro e a;simp only[jR,jM,jp,cU,cF]at a;obtain⟨g,d,c,l,a⟩:=a;exact OL P b f j i l h ((JE f).1 d) e a
theorem Rf(a:xk B=true):(1<=B.length/\B.length<=6)/\∀c∈B,qi c.kind c.cells=true/\c.cells.length=qv B:=by
 simp only[xk,jW,aK,aN,cY]at a;exact⟨a.1.2,a.2⟩
theorem QE(b:JZ B n=true)(g:n<=B.length):∀a (d:a<n),JW (B[a]'(by omega))=true/\zx (B.take a) (B[a]'(by omega)).name=false:=by
 induction n with
 | zero=>intro a d;omega
 | succ n f =>
  intro a d;simp only[JZ,aK]at b;rcases eA a n with e|e
  ·exact f b.1 (by omega) a e
  ·have:a=n:=by omega
   subst this;have c:=b.2;rw[aR (by omega)]at c;simpa using c
theorem QA{c:W8}(a:JW c=true):zA c.name=true/\(c.kind=0\/c.kind=1)/\0<=c.key/\c.key<=9:=by
 simp only[JW,aK,aN]at a;exact⟨a.1,by omega,a.2.2.1,a.2.2.2⟩
theorem UM(b:zA s=true):1<=s.length/\s.length<=8:=by
 simp only[zA,aK,aN]at b;exact b.2
structure L9 (t:List W8):Prop where
 ok:xk t=true
 fits:∀c∈t,∀x∈c.cells,-9223372036854775808<=x.int/\x.int<=9223372036854775807
theorem L9.ao(a:L9 B):1<=B.length/\B.length<=6:=(Rf a.ok).1
theorem L9.head(b:L9 B)(c:Nat)(d:c<B.length):zA (B[c]).name=true/\((B[c]).kind=0\/(B[c]).kind=1)/\0<=(B[c]).key/\(B[c]).key<=9:=by
 have a:=b.ok;simp only[xk,jW,aK]at a;exact QA (QE a.1.1 (aA _) c d).1
theorem L9.cells(e:L9 B)(c:Nat)(f:c<B.length):(B[c]).cells.length=qv B/\(B[c]).cells.length<=60/\∀a∈(B[c]).cells,qI a:=by
 obtain⟨b,h⟩:=(Rf e.ok).2 B[c] (aJ f);have g:=e.fits B[c] (aJ f);simp only[qi,aK,dp,aN,cY]at b;refine⟨h,b.1.2,fun a d=>⟨(g a d).1,(g a d).2,?_⟩⟩;have:=b.2 a d;unfold qV at this;split at this
 ·simp at this;rw[this.2];simp
 ·split at this
  ·simp at this;rw[this];simp
  ·simp at this;exact this.2
theorem L9.rows{t:List W8}(a:L9 t):qv t<=60:=by
 obtain⟨b,_⟩:=a.ao;have c:=a.cells 0 (by omega);omega
theorem xP(a:n<B.length):ji B n=B[n]:=by simp[ji,a]
theorem UE(e:L9 B){s:V1}(c:s.c<B.length)(h:s.many<=60):(xQ B s).length<=3500:=by
 obtain⟨_,_,f⟩:=e.cells s.c c;have d:∀a∈((ji B s.c).cells.drop s.start).take s.many,qI a:=by
  rw[xP c];exact fun a g=>f a (dw (bP g))
 have b:(((ji B s.c).cells.drop s.start).take s.many).length<=60:=by rw[aM];omega
 unfold xQ;split
 ·have:=Ok (ji B s.c).kind _ d b;omega
 ·exact jar _ _ d b
theorem Ij(plain:B8)(a:G8):(Qh plain a).o.length=a.o.length+plain.length+2:=by
 simp only[Qh,aB,jx];omega
theorem UI(a:Int)(n:Nat):(xn a n).length=4:=rfl
theorem Ky(b:Int)(d c p:B8)(a:G8):(JG b d c p a).o.length=a.o.length+p.length+8/\(JG b d c p a).log.length=a.log.length+1:=by
 refine⟨?_,by simp[JG]⟩;simp only[JG,aB,jx,UI,zT];omega
theorem Br(j:V6)(b:List W9)(key:Int)(sort:UInt8)(g c p:Nat)(plain:B8)(a:G8) :
  (ZX j b key sort g c p plain a).o.length<=a.o.length+plain.length+8/\(ZX j b key sort g c p plain a).log.length<=a.log.length+1:=by
 unfold ZX;split
 ·rw[Ij];simp only[Qh];omega
 ·have:=Ky j.draw (jh b key) (jz j.pre sort g c p) plain a;omega
variable{X:V6}
theorem VC{r:List W9}(g:L9 X.table)(c:List V1):∀b:G8,(∀a∈c,a.c<X.table.length/\a.many<=60) ->
  (qk X r b c).o.length<=b.o.length+3508*c.length/\(qk X r b c).log.length<=b.log.length+c.length:=by
 induction c with
 | nil=>intro b _;simp[qk]
 | cons a c k =>
  intro b d;obtain⟨a0,a1⟩:=d a (cC ..);have m:=UE g a0 a1;have h:=Br X r (ji X.table a.c).key a.sort a.g a.c a.p (xQ X.table a) b;have n:=k (Qv X r b a) (fun l i=>d l (bA _ i));have e:qk X r b (a::c)=qk X r (Qv X r b a) c:=rfl;rw[e];simp only[bC];have f:Qv X r b a=ZX X r (ji X.table a.c).key a.sort a.g a.c a.p (xQ X.table a) b:=rfl;rw[<-f]at h;omega
theorem Zr(j:V6)(e:List W9)(f:G8)(c b P g a:Nat):(qB j e f true (jp c b P g a)).length=a:=by
 induction a with
 | zero=>rfl
 | succ a d=>rw[JA,Jz,aB,d,Zf,NE];rfl
theorem QL(j:V6)(e:List W9)(f:G8)(c a b P n:Nat):(qB j e f true (jM c a b P n)).length=n*a:=by
 induction n with
 | zero=>simp[jM,qB]
 | succ n d=>rw[JU,Jz,aB,d,Ui,Zr,dj]
theorem WD{r:List W9}(h:L9 X.table)(d:List V1):∀(c:G8) (e:Bool),(∀a∈d,a.c<X.table.length/\a.many<=60) ->
  ∀p∈qB X r c e d,p<=c.o.length+3508*d.length:=by
 induction d with
 | nil=>intro c e _ p b;simp[qB]at b
 | cons a d l =>
  intro c e f p b;simp only[qB,aX]at b;rcases b with b|b
  ·split at b
   ·simp only[bD,bH,dm]at b;simp only[bC];omega
   ·simp at b
  ·obtain⟨a0,a1⟩:=f a (cC ..);have n:=UE h a0 a1;have i:=Br X r (ji X.table a.c).key a.sort a.g a.c a.p (xQ X.table a) c;have g:Qv X r c a=ZX X r (ji X.table a.c).key a.sort a.g a.c a.p (xQ X.table a) c:=rfl;rw[<-g]at i;have:=l _ _ (fun m k=>f m (bA _ k)) p b;simp only[bC];omega
theorem KQ{α:Type}(c:α->B8)(e:Nat)(a:List α)(d:∀b∈a,(c b).length<=e):(a.flatMap c).length<=e*a.length:=by
 induction a with
 | nil=>simp
 | cons f a h =>
  have i:=d f (cC ..);have j:=h (fun b g=>d b (bA _ g));rw[cu,aB,bC,Nat.mul_succ];omega
theorem Yh{c:W8}(e:c.name.length<=8)(f:c.kind=0\/c.kind=1)(g:0<=c.key/\c.key<=9):(jZ c).length<=38:=by
 have a:=jO c.name.length (by omega);have b:=jO c.kind.toNat (by omega);have d:=jO c.key.toNat (by omega);simp only[jZ,xB,aB];omega
theorem SS(b:L9 B){p:L8}(j:qK p=true)(places:List Nat)(u:places.length<=360)(h:∀a∈places,a<18446744073709551616):(qG (qv B) p B places).length<=3900:=by
 have o:=b.rows;obtain⟨_,s⟩:=b.ao;have d:∀c∈B,(jZ c).length<=38:=by
  intro c d;obtain⟨l,i,rfl⟩:=cA.1 d;obtain⟨e,f,g⟩:=b.head l i;exact Yh (UM e).2 f g
 have q:=KQ jZ 38 B d;have r:=KQ uB 10 places (fun a k=>jO a (h a k));simp only[qK,aK,aN]at j;have e:=jO (qv B) (by omega);have f:=jO p.group.toNat (by omega);have g:=jO p.aa.toNat (by omega);have m:=jO p.R.toNat (by omega);have n:=jO B.length (by omega);simp only[qG,aB];omega
structure P6 (j:V6) (r:List W9):Prop where
 table:L9 j.table
 J:qK j.J=true
 pre:j.pre.length<=20
 draw:0<=j.draw/\j.draw<=65535
 ring:xD r=true
 has:XU j r=false
variable{E:List W9}
theorem P6.a3(a:P6 X E):(1<=X.J.group.toNat/\X.J.group.toNat<=60)/\(1<=X.J.aa.toNat/\X.J.aa.toNat<=60)/\1<=X.J.R/\X.J.R<=9:=by
 have b:=a.J;simp only[qK,aK,aN]at b;exact⟨⟨by omega,by omega⟩,⟨by omega,by omega⟩,by omega,by omega⟩
theorem P6.a1{r:List W9}(a:P6 X r):∀e∈xF X,E6 X.table e:=by
 obtain⟨⟨b,d⟩,⟨c,f⟩,_⟩:=a.a3;exact Cd rfl a.table.rows b c d a.table.ao.2
theorem P6.bn(a:P6 X E):(xF X).length<=21960:=by
 obtain⟨⟨b,d⟩,⟨c,f⟩,_⟩:=a.a3;have g:=Gc (qv X.table) X.table.length X.J.group.toNat X.J.aa.toNat (qc (qv X.table) X.J.group.toNat) c d a.table.ao.2;have h:=QP (n:=qv X.table) b;have i:=a.table.rows;unfold xF jR;omega
theorem P6.R{j:V6}(a:P6 j E):(zQ j E).length<=360/\(∀d∈zQ j E,d<=80000000)/\(Xy j E).length<=3900:=by
 obtain⟨⟨k,p⟩,⟨c,q⟩,_⟩:=a.a3;have r:=QL j E ⟨Jy j.J,[]⟩ (qv j.table) j.table.length j.J.group.toNat j.J.aa.toNat (qc (qv j.table) j.J.group.toNat);have s:=QP (n:=qv j.table) k;have t:=a.table.rows;have l:=a.table.ao.2;have u:qc (qv j.table) j.J.group.toNat*j.table.length<=60*6:=cS (by omega) l;have g:(zQ j E).length<=360:=by
  unfold zQ xF jR;omega
 have m:=WD (r:=E) a.table (xF j) ⟨Jy j.J,[]⟩ true (fun i h=>⟨(a.a1 i h).bg,(a.a1 i h).ao.2.2.2.2⟩);have v:=a.bn;have o:(Jy j.J).length=4:=rfl;have f:∀d∈zQ j E,d<=80000000:=by
  intro d e;have:=m d e;simp only[o]at this;omega
 exact⟨g,f,SS a.table a.J _ g (fun d e=>by have:=f d e;omega)⟩
theorem P6.body(b:P6 X E)(n:Nat):(qk X E ⟨Jy X.J,[]⟩ ((xF X).take n)).o.length<=80000000/\(qk X E ⟨Jy X.J,[]⟩ ((xF X).take n)).log.length<=21960:=by
 have e:=VC (r:=E) b.table ((xF X).take n) ⟨Jy X.J,[]⟩ (fun d c=>⟨(b.a1 d (bP c)).bg,(b.a1 d (bP c)).ao.2.2.2.2⟩);have g:=b.bn;have f:(Jy X.J).length=4:=rfl;have h:((xF X).take n).length<=(xF X).length:=by rw[aM];omega
 simp only[f,bJ]at e;omega
def MP(c:W8):Prop:=c.name.length<=maxLen/\(-9223372036854775808<=c.kind/\c.kind<=9223372036854775807)/\(-9223372036854775808<=c.key/\c.key<=9223372036854775807)
def Bj(c:W9):Prop:=c.ab.length<=maxLen/\(-9223372036854775808<=c.number/\c.number<=9223372036854775807)
def G9(c:W)(v:Value)(a:List Z9):Prop:=∃ca b,v=.slice ca a.length b/\a.length<=b/\T3 c ca a/\a.length*32<=140737488351232
abbrev zat(c:W8)(v:Value):Value:=.agg #[S c.name,N c.kind,N c.key,v]
abbrev zao(c:W9):Value:=.agg #[N c.number,S c.ab]
structure P3 (w:W) (a:O') (t:List W8):Prop where
 ok:∀c∈t,MP c
 at_:t≠[]->∃b off,a=some (A b off)/\b<w.heap.size/\∀j (h:j<t.length),
  w.cell? (A b (off+j*4))=some (S (t[j]).name)/\w.cell? (A b (off+j*4+1))=some (N (t[j]).kind)/\w.cell? (A b (off+j*4+2))=some (N (t[j]).key) /\
   ∃v,w.cell? (A b (off+j*4+3))=some v/\G9 w v (t[j]).cells
structure U2 (w:W) (a:O') (r:List W9):Prop where
 ok:∀c∈r,Bj c
 at_:r≠[]->∃b off,a=some (A b off)/\b<w.heap.size/\∀j (h:j<r.length),
  w.cell? (A b (off+j*2))=some (N (r[j]).number)/\w.cell? (A b (off+j*2+1))=some (S (r[j]).ab)
theorem G9.j{a:Value}{l:List Z9}(d:G9 w a l)(e:Below w.heap.size w v):G9 v a l:=by
 obtain⟨ca,c,i,f,g,h⟩:=d;exact⟨ca,c,i,f,g.j e,h⟩
variable{a:O'}
theorem P3.j{d g:W}{t:List W8}(f:P3 d a t)(e:Below d.heap.size d g):P3 g a t:=by
 refine⟨f.ok,fun r=>?_⟩;obtain⟨b,s,n,c,o⟩:=f.at_ r;refine⟨b,s,n,aC c e.size,fun j q=>?_⟩;obtain⟨h,i,k,v,l,m⟩:=o j q;exact⟨(e.cell (p:=A b _) c).trans h,(e.cell (p:=A b _) c).trans i,(e.cell (p:=A b _) c).trans k,v,(e.cell (p:=A b _) c).trans l,m.j e⟩
theorem U2.j{d g:W}{r:List W9}(f:U2 d a r)(b:Below d.heap.size d g):U2 g a r:=by
 refine⟨f.ok,fun n=>?_⟩;obtain⟨e,o,k,c,l⟩:=f.at_ n;refine⟨e,o,k,aC c b.size,fun j m=>?_⟩;obtain⟨h,i⟩:=l j m;exact⟨(b.cell (p:=A e _) c).trans h,(b.cell (p:=A e _) c).trans i⟩
def qg(b:List V5):List Value:=b.flatMap fun a=>[S a.ab,S a.I,S a.extra,S a.body]
theorem ZG(a:List V5):(qg a).length=a.length*4:=Qn _ 4 (fun _=>rfl) a
theorem XM(b:List V5)(a:V5):qg (b++[a])=qg b++[S a.ab,S a.I,S a.extra,S a.body]:=by simp[qg]
theorem WC(a:List V5)(j:Nat)(b:j<a.length):(qg a)[j*4]?=some (S (a[j]).ab)/\(qg a)[j*4+1]?=some (S (a[j]).I)/\(qg a)[j*4+2]?=some (S (a[j]).extra)/\(qg a)[j*4+3]?=some (S (a[j]).body) :=
 ⟨Jl _ 4 (fun _=>rfl) a j 0 b (by decide),Jl _ 4 (fun _=>rfl) a j 1 b (by decide),Jl _ 4 (fun _=>rfl) a j 2 b (by decide),Jl _ 4 (fun _=>rfl) a j 3 b (by decide)⟩
theorem Va(l:List V5):∀v∈qg l,v.oneCell'=true:=by
 intro v b;simp only[qg,cU]at b;obtain⟨c,_,a⟩:=b;simp at a;rcases a with rfl|rfl|rfl|rfl<;>rfl
def IB(n size a:Nat):List Value:=[N ((a*size:Nat):Int),N ((min (a*size+size) n:Nat):Int)]
def Xb(n size a:Nat):List Value:=(List.range a).flatMap (IB n size)
theorem AC(n size a:Nat):Xb n size (a+1)=Xb n size a++IB n size a:=by
 unfold Xb;rw[cI,cE];simp
theorem Tryz.cm:(Tryz.prog.info? 290).map (fun a=>(a.zero,a.size,a.bytes))=some (some (.agg #[N 0,N 0]),2,16):=by kernel_rfl
theorem Gn(n size:Nat)(d:W)(V:n<=1000)(u:1<=size)(X:size<=1000) :
  C' 215 #[N n,N size] d fun E D=>∃v,E=.returned v/\D.ownsRow d.heap.size 290 2 v (qc n size) (Xb n size (qc n size))/\Below d.heap.size d D:=by
 obtain⟨C,w,y,z,B⟩:=ks Tryz.cm;go_enter Tryz.func215,Tryz.ntmps215;go_wp2;go_loopw [5,6] (fun v l wr=>∃a:Nat,a<=qc n size/\l=N ((a*size:Nat):Int)/\wr.ownsRow d.heap.size 290 2 v a (Xb n size a)/\Below d.heap.size d wr) (fun _ l _=>n+size-(intOf l).toNat)
 case atStart=>exact⟨0,aG _,by simp,kg _ _ _ _,k8 _ _⟩
 case round =>
  obtain⟨a,G,rfl,e,c⟩:=hrel;have M:=QP (n:=n) u;have x:=JE (n:=n) (i:=a) u;have P:=gq size G;have s:J ((a+1)*size=a*size+size):=dj _ _;have t:=I x;have f:J (IB n size a=[N ((a*size:Nat):Int),N ((min (a*size+size) n:Nat):Int)]):=rfl;clear x;generalize a*size=b at *;by_cases H:b<n
  ·have T:(b:Int)<(n:Int):=(by omega);have O:=t.o.2 H;by_cases U:b+size<=n
   ·have K:¬(n:Int)<(b:Int)+(size:Int):=(by omega);have g:min (b+size) n=b+size:=(by omega);rw[g]at f;simp only[Int.natCast_add]at f;clear g;have i:=e.alloc (Obj.cells #[N ((b:Nat):Int),N ((b:Int)+(size:Int))] 290);go_wp2_with(at_builtin;refine ko _ rfl (.tmp 13) (.tmp 21) 287 rfl d.heap.size 290 C (.agg #[N 0,N 0]) 2 16 Tryz.underlying287 w y z B rfl (by decide) _ _ _ rfl i (A _ 0) 1 1 [N ((b:Nat):Int),N ((b:Int)+(size:Int))] rfl rfl (qr wr #[N ((b:Nat):Int),N ((b:Int)+(size:Int))] 290) (by intro L k;simp at k;rcases k with rfl|rfl<;>rfl) (by unfold maxLen;omega) (by omega) (by have:=c.size;simp;omega) ?_);intro q r j h _;have o:J (r.ownsRow d.heap.size 290 2 q (a+1) (Xb n size (a+1))):=by
     rw[AC,f.o];exact j
    have m:=I ((c.alloc c.size _).grown h (by have:=c.size;simp;omega) (fun a p=>(e.lt a p).1));clear e i j h c;go_wp2;go_roundw
    ·exact⟨a+1,by omega,by rw[s.o];go_num,o.o,m.o⟩
    ·simp[intOf];omega
   ·have K:(n:Int)<(b:Int)+(size:Int):=(by omega);have g:min (b+size) n=n:=(by omega);rw[g]at f;clear g;have i:=e.alloc (Obj.cells #[N ((b:Nat):Int),N ((n:Nat):Int)] 290);go_wp2_with(at_builtin;refine ko _ rfl (.tmp 13) (.tmp 21) 287 rfl d.heap.size 290 C (.agg #[N 0,N 0]) 2 16 Tryz.underlying287 w y z B rfl (by decide) _ _ _ rfl i (A _ 0) 1 1 [N ((b:Nat):Int),N ((n:Nat):Int)] rfl rfl (qr wr #[N ((b:Nat):Int),N ((n:Nat):Int)] 290) (by intro L k;simp at k;rcases k with rfl|rfl<;>rfl) (by unfold maxLen;omega) (by omega) (by have:=c.size;simp;omega) ?_);intro q r j h _;have o:J (r.ownsRow d.heap.size 290 2 q (a+1) (Xb n size (a+1))):=by
     rw[AC,f.o];exact j
    have m:=I ((c.alloc c.size _).grown h (by have:=c.size;simp;omega) (fun a p=>(e.lt a p).1));clear e i j h c;go_wp2;go_roundw
    ·exact⟨a+1,by omega,by rw[s.o];go_num,o.o,m.o⟩
    ·simp[intOf];omega
  ·have F:a=qc n size:=by
    have:=t.o;omega
   subst F;go_wp2;go_ret;exact⟨_,rfl,e,c⟩
structure U0 where
 told:Bool
 R:Nat
 parts:B8
 footer:B8
 I:B8
 body:B8
def qP(a:U0):B8:=(if a.told=true then qh (a.footer.length:Int)++a.footer else[])++(qh (a.body.length:Int)++(a.I++a.body))
def xN(a:U0):B8:=([67,70]++[if a.told=true then 79 else 69]++[T4 (a.R:Int)])++(a.parts++(qP a++(qh ((qP a).length:Int)++[67,70])))
structure L6 (f:U0):Prop where
 I:f.I.length=4
 body:2<=f.body.length
 R:1<=f.R/\f.R<=9
 short:(xN f).length<=65000
 none_:f.told=false->f.footer=[]
theorem QH(h:n<=65535)(i:m<=65535)(c:qh (n:Int)=qh (m:Int)):n=m:=by
 unfold qh at c;simp only[bT,de]at c;obtain⟨f,g⟩:=c;have d:=bN UInt8.toNat f;have e:=bN UInt8.toNat g;simp only[dG]at d e;omega
theorem L6.lens{a:U0}(b:L6 a):(qP a).length<=64992/\a.body.length<=64992/\a.footer.length<=64992:=by
 have f:=b.short;have e:(xN a).length=4+(a.parts.length+((qP a).length+4)):=by
  simp only[xN,aB,bC,bJ,jx]
 have c:(qP a).length=(if a.told=true then 2+a.footer.length else 0)+(2+(a.I.length+a.body.length)):=by
  unfold qP;rw[aB];split<;>simp only[aB,jx,bJ]
 refine⟨by omega,by omega,?_⟩;cases d:a.told with
 | true=>rw[d]at c;simp only[db]at c;omega
 | false=>rw[b.none_ d];simp
theorem UG(e:s++r=l++b)(g:r.length=b.length):s=l/\r=b:=by
 have f:=bN List.length e;rw[aB,aB]at f;exact bO e (by omega)
theorem MO{a g:U0}(e:L6 a)(f:L6 g)(m:xN a=xN g):a=g:=by
 obtain⟨G,H,K⟩:=e.lens;obtain⟨L,M,O⟩:=f.lens;unfold xN at m;obtain⟨n,r⟩:=bO m (by simp);have j:a.told=g.told:=by
  cases l:a.told<;>cases h:g.told<;>simp_all
 have C:a.R=g.R:=by
  simp only[j,bF,bW,bT,de,eu]at n;have k:=bN UInt8.toNat n;have b1:=zC (a.R:Int) (by omega) (by have:=e.R;omega);have b2:=zC (g.R:Int) (by omega) (by have:=f.R;omega);omega
 have s:(a.parts++qP a)++(qh ((qP a).length:Int)++[67,70])=(g.parts++qP g)++(qh ((qP g).length:Int)++[67,70]):=by
  rw[aD,aD];exact r
 obtain⟨t,u⟩:=UG s (by simp[jx]);obtain⟨v,_⟩:=bO u (by rw[jx,jx]);have y:=QH (by omega) (by omega) v;obtain⟨B,d⟩:=UG t y;have key:a.footer=g.footer/\a.I=g.I/\a.body=g.body:=by
  unfold qP at d;rw[<-j]at d;have o:∀{b c:U0},L6 b->L6 c->b.body.length<=65535->c.body.length<=65535->qh (b.body.length:Int)++(b.I++b.body)=qh (c.body.length:Int)++(c.I++c.body)->b.I=c.I/\b.body=c.body:=by
   intro b c w x _ _ k;obtain⟨_,h⟩:=bO k (by rw[jx,jx]);exact bO h (by rw[w.I,x.I])
  cases i:a.told with
  | false =>
   rw[i]at d;simp only[cD,dz,bW]at d;obtain⟨b,c⟩:=o e f (by omega) (by omega) d;exact⟨by rw[e.none_ i,f.none_ (j▸i)],b,c⟩
  | true =>
   rw[i]at d;simp only[db,aD]at d;obtain⟨l,h⟩:=bO d (by rw[jx,jx]);have z:=QH (by omega) (by omega) l;obtain⟨p,q⟩:=bO h z;obtain⟨b,c⟩:=o e f (by omega) (by omega) q;exact⟨p,b,c⟩
 obtain⟨D,E,F⟩:=key;cases a;cases g;simp_all
theorem zz:∀(n b:Nat) (d q:B8),uB n++d=uB b++q->n=b/\d=q:=by
 intro n
 induction n using Nat.strongRecOn with
 | _ n j =>
  intro b d q a;by_cases h:n<=127
  ·by_cases g:b<=127
   ·rw[Qe h,Qe g]at a;simp only[bF,bW,bT]at a;obtain⟨e,f⟩:=a;have c:=bN UInt8.toNat e;rw[Xl n (by omega),Xl b (by omega)]at c;exact⟨c,f⟩
   ·exfalso;rw[Qe h,KJ (n:=b) (by omega)]at a;simp only[bF,bW,bT]at a;have c:=bN UInt8.toNat a.1;have b1:=zC (n:Int) (by omega) (by omega);have b2:=zC ((b:Int)%128+128) (by omega) (by omega);omega
  ·by_cases g:b<=127
   ·exfalso;rw[Qe g,KJ (n:=n) (by omega)]at a;simp only[bF,bW,bT]at a;have c:=bN UInt8.toNat a.1;have b1:=zC (b:Int) (by omega) (by omega);have b2:=zC ((n:Int)%128+128) (by omega) (by omega);omega
   ·rw[KJ (n:=n) (by omega),KJ (n:=b) (by omega)]at a;simp only[bF,bT]at a;obtain⟨e,f⟩:=a;have c:=bN UInt8.toNat e;have b1:=zC ((n:Int)%128+128) (by omega) (by omega);have b2:=zC ((b:Int)%128+128) (by omega) (by omega);obtain⟨k,i⟩:=j (n/128) (by omega) (b/128) d q f;exact⟨by omega,i⟩
theorem NO(a:xB s++l=xB r++b):s=r/\l=b:=by
 unfold xB at a;rw[aD,aD]at a;obtain⟨d,e⟩:=zz _ _ _ _ a;exact bO e d
theorem Mr:∀(b a:List Nat),b.length=a.length->b.flatMap uB=a.flatMap uB->b=a:=by
 intro b
 induction b with
 | nil=>intro a c _;cases a with
  | nil=>rfl
  | cons j h=>simp at c
 | cons j h g =>
  intro a c d;cases a with
  | nil=>simp at c
  | cons k i =>
   rw[cu,cu]at d;obtain⟨e,f⟩:=zz _ _ _ _ d;rw[e,g i (by simpa using c) f]
def ZW(c:W8):B8×Nat×Nat:=(c.name,c.kind.toNat,c.key.toNat)
theorem VE:∀(b a:List W8) (d q:B8),b.length=a.length->b.flatMap jZ++d=a.flatMap jZ++q->b.map ZW=a.map ZW/\d=q:=by
 intro b
 induction b with
 | nil=>intro a d q e c;cases a with
  | nil=>exact⟨rfl,c⟩
  | cons r o=>simp at e
 | cons r o n =>
  intro a d q e c;cases a with
  | nil=>simp at e
  | cons s p =>
   rw[cu,cu]at c;simp only[jZ,aD]at c;obtain⟨f,g⟩:=NO c;obtain⟨h,i⟩:=zz _ _ _ _ g;obtain⟨j,k⟩:=zz _ _ _ _ i;obtain⟨l,m⟩:=n p d q (by simpa using e) k;refine⟨?_,m⟩;simp only[eo,l,ZW,f,h,j]
theorem Up{p b:L8}{t c:List W8}{f g:List Nat}(d:f.length=qc n p.group.toNat*t.length)(o:g.length=qc m b.group.toNat*c.length)
  (a:qG n p t f=qG m b c g):n=m/\p.group.toNat=b.group.toNat/\p.aa.toNat=b.aa.toNat/\p.R.toNat=b.R.toNat/\t.map ZW=c.map ZW/\f=g:=by
 unfold qG at a;simp only[aD]at a;obtain⟨h,a⟩:=zz _ _ _ _ a;obtain⟨i,a⟩:=zz _ _ _ _ a;obtain⟨k,a⟩:=zz _ _ _ _ a;obtain⟨l,a⟩:=zz _ _ _ _ a;obtain⟨j,a⟩:=zz _ _ _ _ a;obtain⟨e,a⟩:=VE t c _ _ j a;exact⟨h,i,k,l,e,Mr _ _ (by rw[d,o,h,i,j]) a⟩
structure W6 where
 plain:B8
 I:B8
 body:B8
def qR(key:Int)(a:W6):B8:=if key=0 then qh (a.plain.length:Int)++a.plain else qh (a.body.length:Int)++(a.I++a.body)
def zJ(key:Int)(a:W6):Prop:=(key=0/\a.I=[]/\a.body=[]/\a.plain.length<=65535)\/(key≠0/\a.plain=[]/\a.I.length=4/\2<=a.body.length/\a.body.length<=65535)
def jw(t:List W8):List V1->List W6->B8
 | d::a,c::b=>qR (ji t d.c).key c++jw t a b
 | _,_=>[]
def jK(t:List W8):Nat->Bool->List V1->List W6->List Nat
 | n,d,a::b,e::c=>(if d=true then[n]else[])++jK t (n+(qR (ji t a.c).key e).length) (decide (a.sort=77)) b c
 | _,_,_,_=>[]
def V2(t:List W8):List V1->List W6->Prop
 | [],[]=>True
 | d::a,c::b=>zJ (ji t d.c).key c/\V2 t a b
 | _,_=>False
theorem V2.nil:V2 B [] []:=trivial
variable{L:List V1}{H:List W6}
theorem V2.cons{d:V1}{c:W6}(e:zJ (ji B d.c).key c)(f:V2 B L H):V2 B (d::L) (c::H):=dy e f
theorem V2.ind{t:List W8}{d:(b:List V1)->(c:List W6)->V2 t b c->Prop}(nil:d [] [] .nil)
  (cons:∀{g:V1} {b:List V1} {f:W6} {c:List W6} (h:zJ (ji t g.c).key f) (e:V2 t b c),d b c e->d (g::b) (f::c) (.cons h e)):∀{b:List V1} {c:List W6} (a:V2 t b c),d b c a
 | [],[],_=>nil
 | _::_,_::_,a=>cons a.1 a.2 (V2.ind nil cons a.2)
 | [],_::_,a=>absurd a id
 | _::_,[],a=>absurd a id
theorem Ze{c d:W6}(o:zJ K c)(j:zJ K d)(b:qR K c++s=qR K d++r):c=d/\s=r:=by
 unfold qR at b;rcases o with⟨a,a1,a2,a3⟩|⟨a,a1,a2,a3,a4⟩
 ·rcases j with⟨_,b1,b2,b3⟩|⟨h,_⟩
  ·rw[aQ a,aQ a,aD,aD]at b;obtain⟨e,f⟩:=bO b (by rw[jx,jx]);have i:=QH a3 b3 e;obtain⟨m,g⟩:=bO f i;refine⟨?_,g⟩;cases c;cases d;simp_all
  ·exact absurd a h
 ·rcases j with⟨h,_⟩|⟨_,b1,b2,b3,l⟩
  ·exact absurd h a
  ·rw[aL a,aL a,aD,aD,aD,aD]at b;obtain⟨e,f⟩:=bO b (by rw[jx,jx]);have i:=QH a4 l e;obtain⟨m,g⟩:=bO f (by rw[a2,b2]);obtain⟨p,n⟩:=bO g i;refine⟨?_,n⟩;cases c;cases d;simp_all
theorem CU{t:List W8}{a:List V1}{c b:List W6}(h:V2 t a c)(e:V2 t a b)(d:jw t a c=jw t a b):c=b:=by
 induction h using V2.ind generalizing b with
 | nil=>cases e using V2.ind;rfl
 | cons j _ l =>
  cases e using V2.ind with
  | cons k i =>
   simp only[jw]at d;obtain⟨f,g⟩:=Ze j k d;rw[f,l i g]
structure V7 where
 rows:Nat
 J:L8
 U:List W8
 ae:List W6
def qp(a:V7):List V1:=jR a.rows a.U.length a.J.group.toNat a.J.aa.toNat
structure U8 (foot:Nat) (parts footer:B8) (X9:V7):Prop where
 rows:X9.rows<=60
 J:qK X9.J=true
 told:X9.J.told=false
 R:X9.J.R=(foot:Int)
 aq:jW X9.U=true
 bare:∀c∈X9.U,c.cells=[]
 ae:V2 X9.U (qp X9) X9.ae
 parts:parts=jw X9.U (qp X9) X9.ae
 footer:footer=qG X9.rows X9.J X9.U (jK X9.U 4 true (qp X9) X9.ae)
theorem xj{t:List W8}{a:List V1}{b:List W6}(c:V2 t a b):b.length=a.length:=by
 induction c using V2.ind with
 | nil=>rfl
 | cons _ _ d=>simp[d]
theorem KD(j:V6)(f:List W9):∀(b:List V1) (a:List W6) (n:Nat) (c:Bool) (e:G8),a.length=b.length->(jK B n c b a).length=(qB j f e c b).length:=by
 intro b
 induction b with
 | nil=>intro a n c e d;cases a with
  | nil=>rfl
  | cons h a=>simp at d
 | cons i b g =>
  intro a n c e d;cases a with
  | nil=>simp at d
  | cons h a =>
   simp only[jK,qB,aB];rw[g a _ _ (Qv j f e i) (by simpa using d)];cases c<;>rfl
variable{Z:V7}
theorem Xj(c:U8 n s r Z):(jK Z.U 4 true (qp Z) Z.ae).length=qc Z.rows Z.J.group.toNat*Z.U.length:=by
 rw[KD ⟨[],⟨0,0,0,false⟩,[],0⟩ [] _ _ _ _ ⟨[],[]⟩ (xj c.ae)];exact QL _ _ _ _ _ _ _ _
theorem Bp{p q:L8}(a:qK p=true)(b:qK q=true)(i:p.told=q.told)(f:p.group.toNat=q.group.toNat)(g:p.aa.toNat=q.aa.toNat)(h:p.R.toNat=q.R.toNat):p=q:=by
 simp only[qK,aK,aN]at a b;have c:p.group=q.group:=by omega
 have d:p.aa=q.aa:=by omega
 have e:p.R=q.R:=by omega
 cases p;cases q;simp_all
theorem LU{b d:List W8}(m:jW b=true)(n:jW d=true)(ca:∀c∈b,c.cells=[])(cb:∀c∈d,c.cells=[])(j:b.map ZW=d.map ZW):b=d:=by
 have o:b.length=d.length:=by have:=bN List.length j;simpa using this
 have parts:∀{t:List W8},jW t=true->∀a (k:a<t.length),0<=(t[a]).kind/\0<=(t[a]).key:=by
  intro t l a k;simp only[jW,aK]at l;obtain⟨_,f,e,_⟩:=QA (QE l.1 (aA _) a k).1;exact⟨by omega,e⟩
 apply dS o;intro a f e;have i:ZW b[a]=ZW d[a]:=by
  have:(b.map ZW)[a]'(by simpa using f)=(d.map ZW)[a]'(by simpa using e):=by simp only[j]
  simpa using this
 obtain⟨p1,v⟩:=parts m a f;obtain⟨w,x⟩:=parts n a e;have c1:=ca b[a] (aJ f);have c2:=cb d[a] (aJ e);generalize b[a]=g at *;generalize d[a]=h at *;simp only[ZW,cX]at i;obtain⟨p,q,r⟩:=i;have s:g.kind=h.kind:=by omega
 have u:g.key=h.key:=by omega
 cases g;cases h;simp_all
theorem DD{d c:V7}(a:U8 n s r d)(b:U8 n s r c):d=c:=by
 have o:=a.footer.symm.trans b.footer;obtain⟨j,k,l,m,parts,q⟩:=Up (Xj a) (Xj b) o;have p:=Bp a.J b.J (a.told.trans b.told.symm) k l m;have e:=LU a.aq b.aq a.bare b.bare parts;have g:=a.parts.symm.trans b.parts;have h:qp d=qp c:=by unfold qp;rw[j,p,e]
 rw[h,e]at g;have i:=a.ae;rw[h,e]at i;have footer:=CU i b.ae g;cases d;cases c;simp_all
def XT:B8->Nat
 | a::b::_=>a.toNat+256*b.toNat
 | _=>0
def zp(a:Option (B8)):Nat×Option (B8):=(XT (qC 2 a).1,(qC 2 a).2)
def qO(a:Option (B8)):(B8×B8)×Option (B8) :=
 (((qC 4 (zp a).2).1,(qC ((zp a).1:Int) (qC 4 (zp a).2).2).1),if(zp a).1<2 then none else(qC ((zp a).1:Int) (qC 4 (zp a).2).2).2)
theorem UF(n:Int):qC n none=([],none):=rfl
theorem Ef(b:B8):XT b<=65535:=by
 match b with
 | []=>simp[XT]
 | [a]=>simp[XT]
 | a::c::_=>have:=a.toNat_lt;have:=c.toNat_lt;simp only[XT];omega
theorem AN(a b:UInt8):qh ((a.toNat+256*b.toNat:Nat):Int)=[a,b]:=by
 have c:=a.toNat_lt;have d:=b.toNat_lt;unfold qh;simp only[bT,de];constructor
 ·apply dZ.1;simp only[dG];omega
 ·apply dZ.1;simp only[dG];omega
theorem AR(n:Nat)(b:n<=65535)(a:B8):XT (qh (n:Int)++a)=n:=by
 unfold qh;simp only[bF,bW,XT,dG];omega
theorem KM{n:Nat}{l:B8}{t r:B8}(a:qC (n:Int) (some l)=(t,some r)):l=t++r/\t.length=n:=by
 by_cases b:n<=l.length
 ·rw[Qc (by omega) (by omega)]at a;simp only[cX,aW,bY]at a;obtain⟨rfl,rfl⟩:=a;exact⟨(aY ..).symm,by rw[aM];omega⟩
 ·rw[Zi (.inr (by omega))]at a;simp at a
theorem Rp{l r:B8}{n:Nat}(a:zp (some l)=(n,some r)):l=qh (n:Int)++r/\n<=65535:=by
 unfold zp at a;simp only[cX]at a;obtain⟨b,e⟩:=a;have f:qC ((2:Nat):Int) (some l)=((qC 2 (some l)).1,some r):=by
  show qC 2 (some l)=_;rw[<-e]
 obtain⟨g,h⟩:=KM f;generalize (qC 2 (some l)).1=t at *
 match t,h with
 | [c,d],_ =>
  simp only[XT]at b;subst b;rw[AN];exact⟨g,by have:=c.toNat_lt;have:=d.toNat_lt;omega⟩
theorem RJ(n:Nat)(c:n<=65535)(a:B8):zp (some (qh (n:Int)++a))=(n,some a):=by
 unfold zp;have:=ZF (qh (n:Int)) a;rw[jx]at this;rw[show qC 2 (some (qh (n:Int)++a))=(qh (n:Int),some a)from this];have b:=AR n c [];rw[aT]at b;simp[b]
theorem NP:qO none=(([],[]),none):=rfl
theorem Vo{l r:B8}{x:B8×B8}(c:qO (some l)=(x,some r)):l=qh (x.2.length:Int)++(x.1++x.2)++r/\x.1.length=4/\2<=x.2.length/\x.2.length<=65535:=by
 unfold qO at c;simp only[cX]at c;obtain⟨d,a⟩:=c;split at a
 ·cases a
 ·rename_i p;cases e:(zp (some l)).2 with
  | none=>rw[e]at a;simp[UF]at a
  | some b =>
   obtain⟨h,i⟩:=Rp (l:=l) (r:=b) (n:=(zp (some l)).1) (by rw[<-e]);rw[e]at d a;cases f:(qC 4 (some b)).2 with
   | none=>rw[f]at a;simp[UF]at a
   | some g =>
    obtain⟨j,k⟩:=KM (n:=4) (l:=b) (t:=(qC 4 (some b)).1) (r:=g) (by show qC 4 (some b)=_;rw[<-f]);rw[f]at d a;obtain⟨m,o⟩:=KM (n:=(zp (some l)).1) (l:=g) (t:=(qC ((zp (some l)).1:Int) (some g)).1) (r:=r) (by rw[<-a]);subst d;simp only;rw[o];refine⟨?_,k,by omega,i⟩;rw[aD,aD,<-m,<-j];exact h
theorem Vb{x:B8×B8}(c:x.1.length=4)(e:2<=x.2.length)(d:x.2.length<=65535)(a:B8):qO (some (qh (x.2.length:Int)++(x.1++x.2)++a))=(x,some a):=by
 unfold qO;rw[aD,aD,RJ _ d];have b:qC 4 (some (x.1++(x.2++a)))=(x.1,some (x.2++a)):=by
  have:=ZF x.1 (x.2++a);rw[c]at this;exact this
 simp only[b,ZF];rw[aL (by omega)]
def JO(file:B8):Option U0 :=
 if 65000<file.length\/file.length<8\/file.take 2≠[67,70]\/file.drop (file.length-2)≠[67,70]\/(file.getD 2 0≠69/\file.getD 2 0≠79)\/(file.getD 3 0).toNat<1\/9<(file.getD 3 0).toNat then none
 else if file.length<8+XT (file.drop (file.length-4))then none
 else
  let b:=file.length-4-XT (file.drop (file.length-4))
  let part:=(file.drop b).take (file.length-4-b)
  let told:=decide (file.getD 2 0=79)
  let c:=if told=true then qC ((zp (some part)).1:Int) (zp (some part)).2 else([],some part)
  let a:=qO c.2
  if a.2=some []then some ⟨told,(file.getD 3 0).toNat,(file.drop 4).take (b-4),c.1,a.1.1,a.1.2⟩else none
theorem jag{file:B8}{a b:Nat}(l:4<=a)(m:a<=b)(n:b+4=file.length)(c:file.take 2=[67,70])(k:file.drop (file.length-2)=[67,70]) :
  file=([67,70]++[file.getD 2 0]++[file.getD 3 0])++((file.drop 4).take (a-4)++((file.drop a).take (b-a)++((file.drop b).take 2++[67,70]))):=by
 have g:(file.drop b).drop 2=[67,70]:=by rw[cZ,<-k];congr 1;omega
 have h:file.drop b=(file.drop b).take 2++[67,70]:=by rw[<-g,aY]
 have i:file.drop a=(file.drop a).take (b-a)++file.drop b:=by
  conv=>lhs;rw[<-aY (b-a) (file.drop a)]
  rw[cZ]
  congr 2;omega
 have j:file.drop 4=(file.drop 4).take (a-4)++file.drop a:=by
  conv=>lhs;rw[<-aY (a-4) (file.drop 4)]
  rw[cZ]
  congr 2;omega
 rw[<-h,<-i,<-j]
 match file,c with
 | d::e::f::p::o,c =>
  simp only[dN,fE,bT,de]at c;obtain⟨rfl,rfl⟩:=c;simp
 | [],c=>simp at c
 | [d],c=>simp at c
 | [d,e],_=>exfalso;have:([d,e]:B8).length=2:=rfl;omega
 | [d,e,f],_=>exfalso;have:([d,e,f]:B8).length=3:=rfl;omega
theorem TS(file:B8)(o:Option U0)(T:∀c,L6 c->xN c=file->o=some c)(ap:(∀c,L6 c->xN c≠file)->o=none):JO file=o:=by
 cases d:JO file with
 | some c =>
  unfold JO at d;split at d
  ·cases d
  rename_i U;split at d
  ·cases d
  rename_i hl;simp only[not_or,Decidable.not_and_iff_or_not,dX,gV]at U;obtain⟨c1,c2,c3,c4,c5,c6,c7⟩:=U;have hn:=Ef (file.drop (file.length-4));have hcut:=jag (file:=file) (a:=file.length-4-XT (file.drop (file.length-4))) (b:=file.length-4) (by omega) (by omega) (by omega) c3 c4;simp only at d;have bi:(file.drop (file.length-4)).take 2=qh ((XT (file.drop (file.length-4)):Nat):Int):=by
   have H:(file.drop (file.length-4)).length=4:=by rw[aP];omega
   match F:file.drop (file.length-4),H with
   | [e,y,z,u],_=>simp only[dN,fE,XT];rw[AN]
  rw[bi]at hcut;generalize E:XT (file.drop (file.length-4))=q at *;generalize P:file.length-4-q=k at *;have am:file.length-4-k=q:=by omega
  rw[am]at d hcut;have b4:((file.drop k).take q).length=q:=by rw[aM,aP];omega
  generalize hP:(file.drop k).take q=part at *;by_cases g:(qO (if decide (file.getD 2 0=79)=true then qC ((zp (some part)).1:Int) (zp (some part)).2 else([],some part)).2).2=some []
  ·rw[aQ g]at d;simp only[aW]at d;subst d
   symm;have key:∀(told:Bool) (footer:B8) (e:B8×B8),told=decide (file.getD 2 0=79)->(told=false->footer=[])->part=(if told=true then qh (footer.length:Int)++footer else[])++(qh (e.2.length:Int)++(e.1++e.2))->e.1.length=4->2<=e.2.length ->
     L6 ⟨told,(file.getD 3 0).toNat,(file.drop 4).take (k-4),footer,e.1,e.2⟩/\xN ⟨told,(file.getD 3 0).toNat,(file.drop 4).take (k-4),footer,e.1,e.2⟩=file:=by
    intro told footer e j bv K ci co;have V:xN ⟨told,(file.getD 3 0).toNat,(file.drop 4).take (k-4),footer,e.1,e.2⟩=file:=by
     refine Eq.trans ?_ hcut.symm;unfold xN qP;simp only;rw[<-K];have Y:(if told=true then(79:UInt8)else 69)=file.getD 2 0:=by
      rw[j];by_cases m:file.getD 2 0=79
      ·rw[m];rfl
      ·rw[bS m];have:file.getD 2 0=69:=by
        rcases c5 with f|f
        ·exact f
        ·exact absurd f m
       rw[this];rfl
     have Z:T4 (((file.getD 3 0).toNat:Nat):Int)=file.getD 3 0:=by
      apply dZ.1;rw[Xl _ (by omega)]
     rw[Y,Z,b4]
    exact⟨⟨ci,co,⟨by simp only;omega,by simp only;omega⟩,by rw[V];omega,bv⟩,V⟩
   by_cases m:file.getD 2 0=79
   ·have j:decide (file.getD 2 0=79)=true:=dK m;rw[j]at g ⊢;simp only[db]at g ⊢;cases L:(zp (some part)).2 with
    | none=>rw[L,UF,NP]at g;simp at g
    | some p =>
     obtain⟨B,h4⟩:=Rp (l:=part) (r:=p) (n:=(zp (some part)).1) (by rw[<-L]);rw[L]at g;generalize da:(zp (some part)).1=z at *;cases x:(qC (z:Int) (some p)).2 with
     | none=>rw[x,NP]at g;simp at g
     | some w =>
      obtain⟨h5,h6⟩:=KM (n:=z) (l:=p) (t:=(qC (z:Int) (some p)).1) (r:=w) (by rw[<-x]);rw[x]at g;(try rw[x]);generalize (qC (z:Int) (some p)).1=X at *;obtain⟨u,C,D,ac⟩:=Vo (l:=w) (r:=[]) (x:=(qO (some w)).1) (by rw[<-g]);obtain⟨M,O⟩:=key true X (qO (some w)).1 j.symm (fun f=>by cases f) (by
       rw[aQ rfl,h6,B,h5];rw[aT]at u;rw[<-u,aD]
       ) C D
      exact T _ M O
   ·have j:decide (file.getD 2 0=79)=false:=bS m;rw[j]at g ⊢;simp only[cD,dz]at g ⊢;obtain⟨u,C,D,ac⟩:=Vo (l:=part) (r:=[]) (x:=(qO (some part)).1) (by rw[<-g]);obtain⟨M,O⟩:=key false [] (qO (some part)).1 j.symm (fun _=>rfl) (by
     rw[aL (by decide),bW];rw[aT]at u;exact u) C D
    exact T _ M O
  ·rw[aL g]at d;cases d
 | none =>
  symm;apply ap;intro c i h;obtain⟨p,w,l3⟩:=i.lens;have H:file.length=4+(c.parts.length+((qP c).length+4)):=by
   rw[<-h];simp only[xN,aB,bC,bJ,jx]
  have cd:=i.short;rw[h]at cd;have F:file.drop (file.length-4)=qh ((qP c).length:Int)++[67,70]:=by
   rw[H,show 4+(c.parts.length+((qP c).length+4))-4=4+(c.parts.length+(qP c).length) by omega,<-h];unfold xN;rw[<-cZ,dx (by simp),<-aD,dx (by simp)]
  have E:XT (file.drop (file.length-4))=(qP c).length:=by rw[F];exact AR _ (by omega) _
  have P:file.length-4-(qP c).length=4+c.parts.length:=by omega
  have K:(file.drop (4+c.parts.length)).take (file.length-4-(4+c.parts.length))=qP c:=by
   rw[show file.length-4-(4+c.parts.length)=(qP c).length by omega,<-h];unfold xN;rw[<-cZ,dx (by simp),dx rfl,fB rfl]
  have bX:(file.drop 4).take (4+c.parts.length-4)=c.parts:=by
   rw[<-h];unfold xN;rw[dx (by simp),fB (by omega)]
  have s:file.getD 2 0=if c.told=true then 79 else 69:=by rw[<-h];simp[xN]
  have B:(file.getD 3 0).toNat=c.R:=by
   have:file.getD 3 0=T4 (c.R:Int):=by rw[<-h];simp[xN]
   rw[this];exact Xl _ (by have:=i.R;omega)
  have ce:file.take 2=[67,70]:=by rw[<-h];simp[xN]
  have be:file.drop (file.length-2)=[67,70]:=by
   rw[show file.length-2=(file.length-4)+2 by omega,<-cZ,F];rfl
  have cs:=i.R;unfold JO at d;rw[aL,aL]at d
  ·simp only[E,P,K,bX]at d;cases y:c.told with
   | true =>
    rw[y,aQ rfl]at s;simp only[s,decide_true,db]at d;have G:qP c=qh (c.footer.length:Int)++(c.footer++(qh (c.body.length:Int)++(c.I++c.body))):=by
     unfold qP;rw[y,aQ rfl,aD]
    have v:=Vb (x:=(c.I,c.body)) i.I i.body (by simp only;omega) [];simp only[aT]at v;rw[G,RJ _ (by omega),ZF,v]at d;simp at d
   | false =>
    rw[y,aL (by decide)]at s;simp only[s,show decide ((69:UInt8)=79)=false from by decide,cD,dz]at d;have G:qP c=qh (c.body.length:Int)++(c.I++c.body):=by
     unfold qP;rw[y,aL (by decide),bW]
    have v:=Vb (x:=(c.I,c.body)) i.I i.body (by simp only;omega) [];simp only[aT]at v;rw[G,v]at d;simp at d
  ·rw[E];omega
  ·rw[B,ce,be,s];rintro(f|f|f|f|f|f|f)
   ·omega
   ·omega
   ·exact f rfl
   ·exact f rfl
   ·revert f;cases c.told<;>decide
   ·omega
   ·omega
def zK(a:Option (B8)):Nat->List W8×Option (B8)
 | 0=>([],a)
 | b+1=>((zK a b).1++[⟨(xR 8 (zK a b).2).1,((qa 1 (xR 8 (zK a b).2).2).1:Nat),((qa 9 (qa 1 (xR 8 (zK a b).2).2).2).1:Nat),[]⟩],(qa 9 (qa 1 (xR 8 (zK a b).2).2).2).2)
theorem BQ(c:Option (B8))(a:Nat):(zK c a).1.length=a:=by
 induction a with
 | zero=>rfl
 | succ a b=>simp[zK,b]
theorem GS(e:Option (B8))(b:Nat):∀c∈(zK e b).1,c.cells=[]:=by
 induction b with
 | zero=>intro c a;simp[zK]at a
 | succ b d =>
  intro c a;simp only[zK,aX,cQ]at a;rcases a with a|rfl
  ·exact d c a
  ·rfl
theorem Of(n:Nat)(a:Option (B8)):(qC (n:Int) a).1.length<=n:=by
 cases a with
 | none=>simp[UF]
 | some b =>
  by_cases c:n<=b.length
  ·rw[Qc (by omega) (by omega)];simp only[bY,aM];omega
  ·rw[Zi (.inr (by omega))];simp
theorem jfh(a:Nat)(b:Option (B8)):(xR a b).1.length<=a:=by
 unfold xR;exact aI (Of ..) (zI ..)
theorem YE(d:Option (B8))(b:Nat):∀c∈(zK d b).1,c.name.length<=8/\(c.kind=0\/c.kind=1)/\0<=c.key/\c.key<=9:=by
 induction b with
 | zero=>intro c a;simp[zK]at a
 | succ b e =>
  intro c a;simp only[zK,aX,cQ]at a;rcases a with a|rfl
  ·exact e c a
  ·have f:=zI 1 (xR 8 (zK d b).2).2;have g:=zI 9 (qa 1 (xR 8 (zK d b).2).2).2;exact⟨jfh ..,by simp only;omega,by simp only;omega,by simp only;omega⟩
theorem Sb(d:B8)(e:∀c∈B,c.name.length<=8/\(c.kind=0\/c.kind=1)/\0<=c.key/\c.key<=9/\c.cells=[]):∀a,a<=B.length->zK (some (B.flatMap jZ++d)) a=(B.take a,some ((B.drop a).flatMap jZ++d)):=by
 intro a
 induction a with
 | zero=>intro _;simp[zK]
 | succ a h =>
  intro l;have b:a<B.length:=by omega
  obtain⟨f,i,j,k,g⟩:=e B[a] (aJ b);simp only[zK,h (by omega)];rw[bK b,cu];simp only[jZ,aD];rw[Bd 8 _ _ f (by decide)];simp only;rw[QT 1 _ _ (by omega) (by decide)];simp only;rw[QT 9 _ _ (by omega) (by decide)];simp only;rw[aH b]
  congr 3;generalize B[a]=c at *;cases c;simp only[W8.mk.injEq,eu]at *;refine⟨by omega,by omega,g.symm⟩
def VW(key:Int)(a:Option (B8)):W6×Option (B8) :=
 if key=0 then(⟨(qC ((zp a).1:Int) (zp a).2).1,[],[]⟩,(qC ((zp a).1:Int) (zp a).2).2)
 else(⟨[],(qO a).1.1,(qO a).1.2⟩,(qO a).2)
theorem Az(key:Int):VW key none=(⟨[],[],[]⟩,none):=by
 unfold VW;split<;>rfl
theorem Fo{key:Int}{l r:B8}{m:W6}(a:VW key (some l)=(m,some r)):zJ key m/\l=qR key m++r:=by
 unfold VW at a;unfold zJ qR;by_cases c:key=0
 ·rw[aQ c]at a;rw[aQ c];simp only[cX]at a;obtain⟨d,b⟩:=a;cases e:(zp (some l)).2 with
  | none=>rw[e]at b;simp[UF]at b
  | some f =>
   obtain⟨i,j⟩:=Rp (l:=l) (r:=f) (n:=(zp (some l)).1) (by rw[<-e]);rw[e]at d b;obtain⟨k,g⟩:=KM (n:=(zp (some l)).1) (l:=f) (t:=(qC ((zp (some l)).1:Int) (some f)).1) (r:=r) (by rw[<-b]);subst d;refine⟨.inl ⟨c,rfl,rfl,by simp only[g];exact j⟩,?_⟩;simp only[g];rw[aD,<-k];exact i
 ·rw[aL c]at a;rw[aL c];simp only[cX]at a;obtain⟨d,b⟩:=a;obtain⟨o,p,q,h⟩:=Vo (l:=l) (r:=r) (x:=(qO (some l)).1) (by rw[<-b]);subst d;exact⟨.inr ⟨c,rfl,p,q,h⟩,o⟩
theorem We{a:W6}(f:zJ K a)(e:B8):VW K (some (qR K a++e))=(a,some e):=by
 unfold VW qR;rcases f with⟨b,g,d,c⟩|⟨b,g,d,c,h⟩
 ·rw[aQ b,aQ b,aD,RJ _ c,ZF];cases a;simp_all
 ·rw[aL b,aL b,Vb (x:=(a.I,a.body)) d c h];cases a;simp_all
def GB(t:List W8)(q:List W6×Option (B8))(a:V1):List W6×Option (B8):=(q.1++[(VW (ji t a.c).key q.2).1],(VW (ji t a.c).key q.2).2)
def xl(t:List W8)(b:Option (B8))(a:List V1):List W6×Option (B8):=a.foldl (GB t) ([],b)
theorem Sx(t:List W8)(c:Option (B8))(a:List V1)(b:V1):xl t c (a++[b])=GB t (xl t c a) b:=by simp[xl]
theorem Sf(t:List W8):∀(a:List V1) (b:List W6),(a.foldl (GB t) (b,none)).2=none:=by
 intro a
 induction a with
 | nil=>intro b;rfl
 | cons d a c=>intro b;simp only[fC,GB,Az];exact c _
theorem FT(t:List W8):∀(a:List V1) (q:List W6×Option (B8)),(a.foldl (GB t) q).1.length=q.1.length+a.length:=by
 intro a
 induction a with
 | nil=>intro q;rfl
 | cons c a b=>intro q;simp only[fC,b,GB,aB,bC,bJ];omega
theorem AQ(t:List W8)(b:Option (B8))(a:List V1):(xl t b a).1.length=a.length:=by
 unfold xl;rw[FT];simp
theorem IF(t:List W8):∀(c:List V1) (d:List W6) (b f:B8) (g:List W6),c.foldl (GB t) (d,some b)=(g,some f)->∃e,g=d++e/\V2 t c e/\b=jw t c e++f:=by
 intro c
 induction c with
 | nil=>intro d b f g a;simp only[List.foldl_nil,cX,aW]at a;exact⟨[],by rw[<-a.1];simp,.nil,by rw[a.2];rfl⟩
 | cons h c p =>
  intro d b f g a;simp only[fC,GB]at a;cases i:(VW (ji t h.c).key (some b)).2 with
  | none =>
   rw[i]at a;have:=Sf t c (d++[(VW (ji t h.c).key (some b)).1]);rw[a]at this;cases this
  | some q =>
   rw[i]at a;obtain⟨j,k⟩:=Fo (key:=(ji t h.c).key) (l:=b) (r:=q) (m:=(VW (ji t h.c).key (some b)).1) (by rw[<-i]);obtain⟨e,l,n,o⟩:=p _ _ _ _ a;exact⟨_::e,by rw[l,aD];rfl,.cons j n,by
    simp only[jw,aD];rw[<-o];exact k⟩
theorem PT{t:List W8}{c:List V1}{d:List W6}(e:V2 t c d):∀(a:List W6) (b:B8),c.foldl (GB t) (a,some (jw t c d++b))=(a++d,some b):=by
 induction e using V2.ind with
 | nil=>intro a b;simp[jw]
 | cons f _ g =>
  intro a b;simp only[fC,GB,jw,aD];rw[We f];simp only;rw[g];simp
def Jq(footer:B8):L8 :=
 ⟨((qa 60 (qa 60 (some footer)).2).1:Nat),((qa 60 (qa 60 (qa 60 (some footer)).2).2).1:Nat),((qa 9 (qa 60 (qa 60 (qa 60 (some footer)).2).2).2).1:Nat),false⟩
def xo(footer:B8):Nat:=(qa 60 (some footer)).1
def zO(footer:B8):List W8×Option (B8) :=
 zK (qa 6 (qa 9 (qa 60 (qa 60 (qa 60 (some footer)).2).2).2).2).2 (qa 6 (qa 9 (qa 60 (qa 60 (qa 60 (some footer)).2).2).2).2).1
def UQ(a:Nat)(footer:B8):Bool:=(!(zO footer).2.isNone&&(qK (Jq footer)&&(jW (zO footer).1&&decide ((Jq footer).R=(a:Int)))))
def UT(footer:B8):List V1:=jR (xo footer) (zO footer).1.length (Jq footer).group.toNat (Jq footer).aa.toNat
def VV(parts footer:B8):List W6×Option (B8):=xl (zO footer).1 (some parts) (UT footer)
def Nh(a:Nat)(parts footer:B8):Option V7 :=
 if UQ a footer=true then
  if(VV parts footer).2=some []/\qG (xo footer) (Jq footer) (zO footer).1 (jK (zO footer).1 4 true (UT footer) (VV parts footer).1)=footer then some ⟨xo footer,Jq footer,(zO footer).1,(VV parts footer).1⟩else none
 else none
theorem Be(h:Nat)(parts footer:B8)(o:Option V7)(K:∀a,U8 h parts footer a->o=some a)(G:(∀a,¬U8 h parts footer a)->o=none):Nh h parts footer=o:=by
 cases d:Nh h parts footer with
 | some a =>
  symm;apply K;unfold Nh at d;split at d
  ·rename_i e;split at d
   ·rename_i T;cases d;obtain⟨E,u⟩:=T;simp only[UQ,aK,aN]at e;obtain⟨_,m,l,g⟩:=e;obtain⟨M1,n,D,q⟩:=IF (zO footer).1 (UT footer) [] parts [] (VV parts footer).1 (by
     show VV parts footer=_;rw[<-E])
    simp only[bW]at n;rw[n]at u ⊢;rw[aT]at q;have H:xo footer<=60:=zI _ _;have F:∀c∈(zO footer).1,c.cells=[]:=GS _ _;have L:(Jq footer).told=false:=rfl;unfold UT at *;generalize xo footer=X8 at *;generalize (zO footer).1=C at *;generalize Jq footer=p at *;exact⟨H,m,L,g,l,F,D,q,u.symm⟩
   ·cases d
  ·cases d
 | none =>
  symm;apply G;intro a b;have g:=b.footer;have m:=b.J;have U:=b.J;simp only[qK,aK,aN]at U;have M:∀c∈a.U,c.name.length<=8/\(c.kind=0\/c.kind=1)/\0<=c.key/\c.key<=9/\c.cells=[]:=by
   intro c l;obtain⟨Y,v,rfl⟩:=cA.1 l;have e:=b.aq;simp only[jW,aK]at e;obtain⟨z,B,c,C⟩:=QA (QE e.1 (aA _) Y v).1;exact⟨(UM z).2,B,c,C,b.bare _ (aJ v)⟩
  have P:a.U.length<=6:=by
   have e:=b.aq;simp only[jW,aK,aN]at e;exact e.2.2
  have O:a.J.R=(h:Int):=b.R;unfold qG at g;simp only[aD]at g;have V:=b.rows;generalize ac:(jK a.U 4 true (qp a) a.ae).flatMap uB=f at g;have j:=QT 60 a.rows (uB a.J.group.toNat++(uB a.J.aa.toNat++(uB a.J.R.toNat++(uB a.U.length++(a.U.flatMap jZ++f))))) V (by decide);have w:=QT 60 a.J.group.toNat (uB a.J.aa.toNat++(uB a.J.R.toNat++(uB a.U.length++(a.U.flatMap jZ++f)))) (by omega) (by decide);have x:=QT 60 a.J.aa.toNat (uB a.J.R.toNat++(uB a.U.length++(a.U.flatMap jZ++f))) (by omega) (by decide);have y:=QT 9 a.J.R.toNat (uB a.U.length++(a.U.flatMap jZ++f)) (by omega) (by decide);have Z:=QT 6 a.U.length (a.U.flatMap jZ++f) P (by decide);rw[<-g]at j;have s:xo footer=a.rows:=by unfold xo;rw[j]
  have k:Jq footer=a.J:=by
   unfold Jq;rw[j];simp only;rw[w];simp only;rw[x];simp only;rw[y];have X:=b.told;generalize a.J=p at *;cases p;simp only[L8.mk.injEq]at *;exact⟨by omega,by omega,by omega,X.symm⟩
  have i:zO footer=(a.U,some f):=by
   unfold zO;rw[j];simp only;rw[w];simp only;rw[x];simp only;rw[y];simp only;rw[Z];simp only;rw[Sb f M _ (aA _)];simp
  have t:UT footer=qp a:=by unfold UT qp;rw[s,i,k]
  have r:VV parts footer=(a.ae,some []):=by
   unfold VV;rw[i,t,b.parts];have:=PT b.ae [] [];simpa[xl]using this
  unfold Nh at d;rw[aQ,aQ]at d
  ·cases d
  ·refine⟨by rw[r],?_⟩;rw[r,s,k,i,t];exact b.footer.symm
  ·simp only[UQ,i,k,m,b.aq,O,Option.isNone_some,eJ,ep,decide_true]
def xL(file:B8):Option U0:=JO file
theorem Cb(file:B8):JO file=xL file:=rfl
theorem YF{a:U0}(b:L6 a):xL (xN a)=some a :=
 TS _ _ (fun g d c=>bN some (MO b d c.symm)) (fun e=>absurd rfl (e a b))
theorem Xg(b:∀a,L6 a->xN a≠s):xL s=none :=
 TS _ _ (fun a c d=>absurd d (b a c)) (fun _=>rfl)
theorem Uz{d:U0}(b:xL s=some d):L6 d/\xN d=s:=by
 by_cases e:∃g,L6 g/\xN g=s
 ·obtain⟨g,c,a⟩:=e;rw[<-a,YF c]at b;cases b;exact⟨c,a⟩
 ·rw[Xg (fun g c a=>e ⟨g,c,a⟩)]at b;cases b
def zH(a:Nat)(parts footer:B8):Option V7:=Nh a parts footer
theorem LX(a:Nat)(parts footer:B8):Nh a parts footer=zH a parts footer:=rfl
theorem NY(c:U8 n s r Z):zH n s r=some Z :=
 Be _ _ _ _ (fun f d=>bN some (DD c d)) (fun e=>absurd c (e Z))
theorem Km(c:∀a,¬U8 n s r a):zH n s r=none :=
 Be _ _ _ _ (fun a d=>absurd d (c a)) (fun _=>rfl)
theorem Zz(b:zH n s r=some Z):U8 n s r Z:=by
 by_cases f:∃a,U8 n s r a
 ·obtain⟨a,c⟩:=f;rw[NY c]at b;cases b;exact c
 ·rw[Km (fun a c=>f ⟨a,c⟩)]at b;cases b
def qE(b a c body:B8):Option (B8) :=
 if body.length<=5002/\2<=body.length/\zg b a c (zD b a (body.take (body.length-2)))=body then some (zD b a (body.take (body.length-2)))else none
structure U1 where
 name:B8
 kind:Int
 key:Int
 state:Int
 cells:List Z9
def zo(pre:B8)(c:List W9)(key:Int)(a:V1)(b:W6):Option (B8) :=
 if key=0 then some b.plain else qE (jh c key) b.I (jz pre a.sort a.g a.c a.p) b.body
def QI(pre:B8)(d:List W9)(kind key:Int)(cells:List Z9)(a:V1)(c:W6):Option (List Z9) :=
 match zo pre d key a c with
 | none=>none
 | some plain =>
  if a.sort=77 then(if plain=JD kind (cells.drop a.start)then some cells else none)
  else match xO kind plain with
   | none=>none
   | some b=>if b.length=a.many then some (cells++b)else none
def jP(pre:B8)(a:List W9)(kind key:Int)(c:Nat):Option (List Z9)->List V1->List W6->Option (List Z9)
 | none,_,_=>none
 | some cells,b::d,f::e=>jP pre a kind key c (if b.c=c then QI pre a kind key cells b f else some cells) d e
 | some cells,_,_=>some cells
def qq(pre:B8)(b:List W9)(a:V7)(c:Nat):U1 :=
 if 0<(ji a.U c).key/\jG b (ji a.U c).key=false then⟨(ji a.U c).name,(ji a.U c).kind,(ji a.U c).key,1,[]⟩
 else match jP pre b (ji a.U c).kind (ji a.U c).key c (some []) (qp a) a.ae with
  | none=>⟨(ji a.U c).name,(ji a.U c).kind,(ji a.U c).key,2,[]⟩
  | some cells=>⟨(ji a.U c).name,(ji a.U c).kind,(ji a.U c).key,0,cells⟩
def ZY(pre:B8)(b:List W9)(a:V7):List U1:=(List.range a.U.length).map (qq pre b a)
def qJ(file pre:B8)(b:List W9)(d:Bool):Int×Option V7 :=
 if 20<pre.length then(7,none)
 else if xD b=false then(1,none)
 else match xL file with
  | none=>(9,none)
  | some a =>
   if a.told=true then
    match zH a.R a.parts a.footer with
    | none=>(9,none)
    | some c =>
     if d=true then(0,some c)
     else if jG b (a.R:Int)=false then(8,none)
     else if qE (jh b (a.R:Int)) a.I (jz pre 83 0 0 0++a.footer) a.body=some []then(0,some c)else(4,none)
   else if jG b (a.R:Int)=false then(8,none)
   else match qE (jh b (a.R:Int)) a.I (jz pre 70 0 0 0) a.body with
    | none=>(4,none)
    | some footer =>
     match zH a.R a.parts footer with
     | none=>(9,none)
     | some c=>(0,some c)
theorem Qi:∀(b:List V1) (a:List W6) (c:List V1) (d:List W6),a.length=b.length->jw B (b++c) (a++d)=jw B b a++jw B c d:=by
 intro b
 induction b with
 | nil=>intro a c d e;rw[aO e];simp[jw]
 | cons h b f =>
  intro a c d e;cases a with
  | nil=>simp at e
  | cons g a =>
   simp only[bF,jw,aD];rw[f a c d (by simpa using e)]
theorem V2.append{t:List W8}{a:List V1}{c:List W6}{b:List V1}{d:List W6}(e:V2 t a c)(f:V2 t b d):V2 t (a++b) (c++d):=by
 induction e using V2.ind with
 | nil=>exact f
 | cons g _ h=>exact .cons g h
theorem Il{t:List W8}{b:List V1}:∀{c:List V1} {a:List W6},V2 t (b++c) a->∃d e,a=d++e/\V2 t b d/\V2 t c e:=by
 induction b with
 | nil=>intro c a f;exact⟨[],a,rfl,.nil,f⟩
 | cons m b l =>
  intro c a f;cases f using V2.ind with
  | cons k g =>
   obtain⟨d,e,h,i,j⟩:=l g;exact⟨_::d,e,by rw[h];rfl,.cons k i,j⟩
theorem QV:∀(b:List V1) (a:List W6) (c:List V1) (d:List W6) (n:Nat) (e:Bool),a.length=b.length->jK B n e (b++c) (a++d)=jK B n e b a++jK B (n+(jw B b a).length) (qS e b) c d:=by
 intro b
 induction b with
 | nil=>intro a c d n e f;rw[aO f];simp[jK,jw,qS]
 | cons i b g =>
  intro a c d n e f;cases a with
  | nil=>simp at f
  | cons h a =>
   simp only[bF,jw,jK,aD,qS,aB];rw[g a c d _ _ (by simpa using f),dq]
def xU(b:Nat->Nat->List W6)(g a:Nat):List W6:=(List.range a).flatMap fun c=>b g c
def xH(b:Nat->Nat->List W6)(a n:Nat):List W6:=(List.range n).flatMap fun g=>xU b g a
theorem Qg(b:Nat->Nat->List W6)(g a:Nat):xU b g (a+1)=xU b g a++b g a:=by simp[xU,cI]
theorem XS(X7:Nat->Nat->List W6)(a n:Nat):xH X7 a (n+1)=xH X7 a n++xU X7 n a:=by simp[xH,cI]
theorem Kh{t:List W8}{d:Nat->Nat->List W6}{e b P g:Nat}:∀{a:Nat},(∀c,c<a->V2 t (jl e b P g c) (d g c))->V2 t (jp e b P g a) (xU d g a):=by
 intro a
 induction a with
 | zero=>intro _;exact .nil
 | succ a h=>intro f;rw[Qg,JA];exact(h (fun c i=>f c (by omega))).append (f a (by omega))
theorem Rz{t:List W8}{X7:Nat->Nat->List W6}{d a b P:Nat}:∀{n:Nat},(∀g,g<n->∀c,c<a->V2 t (jl d b P g c) (X7 g c))->V2 t (jM d a b P n) (xH X7 a n):=by
 intro n
 induction n with
 | zero=>intro _;exact .nil
 | succ n f=>intro e;rw[XS,JU];exact(f (fun g h=>e g (by omega))).append (Kh (e n (by omega)))
theorem RI:∀(b:List V1) (a:List W6) (n:Nat),(∀c∈b,c.sort=80)->jK B n false b a=[]:=by
 intro b
 induction b with
 | nil=>intro a n _;cases a<;>rfl
 | cons c b g =>
  intro a n d;cases a with
  | nil=>rfl
  | cons i a =>
   have e:=d c (by simp);simp only[jK,e];rw[show decide ((80:UInt8)=77)=false from by decide,g a _ (fun h f=>d h (bA _ f))];rfl
theorem RG(b:H.length=(jl n m k i g).length):jK B c true (jl n m k i g) H=[c]:=by
 cases f:jr k i g (i*m) (jv n m i) (qc (jv n m i) k)with
 | nil =>
  unfold jl at b ⊢;rw[f]at b ⊢;obtain⟨l,rfl⟩:=List.length_eq_one_iff.1 b;rfl
 | cons d j =>
  have h:=KA k i g (i*m) (jv n m i) (qc (jv n m i) k);rw[f]at h;unfold jl at b ⊢;rw[f]at b ⊢;obtain⟨e,l,rfl⟩:∃e l,H=e++[l]:=by
   have o:H≠[]:=(by intro p;rw[p]at b;simp at b);exact⟨H.dropLast,H.getLast o,(ed o).symm⟩
  have P:e.length=(d::j).length:=by simp at b ⊢;omega
  rw[QV _ _ _ _ _ _ P];cases e with
  | nil=>simp at P
  | cons u e =>
   have q:qS true (d::j)=false:=VT _ h (by simp) true;simp only[jK];rw[q,show decide (d.sort=77)=false from by rw[h d (by simp)];decide,RI j e _ (fun s r=>h s (bA _ r))];rfl
theorem xG(pre:B8)(d:List W9)(kind key:Int)(c:Nat)(a:List V1)(b:List W6):jP pre d kind key c none a b=none:=by cases a<;>cases b<;>rfl
theorem xY(pre:B8)(h:List W9)(kind key:Int)(c:Nat):∀(b:List V1) (a:List W6) (e:List V1) (f:List W6) (d:Option (List Z9)),a.length=b.length ->
  jP pre h kind key c d (b++e) (a++f)=jP pre h kind key c (jP pre h kind key c d b a) e f:=by
 intro b
 induction b with
 | nil=>intro a e f d g;rw[aO g];cases d<;>simp[jP,xG]
 | cons k b i =>
  intro a e f d g;cases a with
  | nil=>simp at g
  | cons j a =>
   cases d with
   | none=>simp[xG]
   | some cells =>
    simp only[bF,jP];exact i a e f _ (by simpa using g)
theorem Ue(pre:B8)(i:List W9)(kind key:Int)(c:Nat):∀(d:List V1) (a:List W6) (b:Option (List Z9)),(∀e∈d,e.c≠c)->jP pre i kind key c b d a=b:=by
 intro d
 induction d with
 | nil=>intro a b _;cases b<;>cases a<;>rfl
 | cons e d h =>
  intro a b f;cases b with
  | none=>exact xG ..
  | some cells =>
   cases a with
   | nil=>rfl
   | cons k a =>
    simp only[jP];rw[aL (f e (by simp))];exact h a _ (fun j g=>f j (bA _ g))
theorem XQ:∀b∈jl n m k i g,b.c=g:=by
 intro b a;simp only[jl,jr,aX,cM,cF,cQ]at a;rcases a with⟨p,_,rfl⟩|rfl<;>rfl
theorem DX{t:List W8}{f:Nat->Nat->List W6}{h e P g:Nat}(pre:B8)(m:List W9)(kind key:Int)(c:Nat)(d:Option (List Z9)):∀{a:Nat},(∀b,b<a->V2 t (jl h e P g b) (f g b)) ->
  jP pre m kind key c d (jp h e P g a) (xU f g a)=if c<a then jP pre m kind key c d (jl h e P g c) (f g c)else d:=by
 intro a
 induction a with
 | zero=>intro _;simp[jp,xU];cases d<;>rfl
 | succ a p =>
  intro k;rw[Qg,JA,xY _ _ _ _ _ _ _ _ _ _ (xj (Kh (fun b o=>k b (by omega)))),p (fun b o=>k b (by omega))];by_cases l:c<a
  ·rw[aQ l,aQ (by omega),Ue];intro j i;rw[XQ j i];omega
  ·rw[aL l];by_cases n:c=a
   ·subst n;rw[aQ (by omega)]
   ·rw[aL (by omega),Ue];intro j i;rw[XQ j i];omega
theorem Ru{t:List W8}{d:Nat->Nat->List W6}{e a b P:Nat}(pre:B8)(f:List W9)(kind key:Int){c:Nat}(k:c<a)(j:Option (List Z9)){n:Nat}(i:∀g,g<n+1->∀h,h<a->V2 t (jl e b P g h) (d g h)) :
  jP pre f kind key c j (jM e a b P (n+1)) (xH d a (n+1))=jP pre f kind key c (jP pre f kind key c j (jM e a b P n) (xH d a n)) (jl e b P n c) (d n c):=by
 rw[XS,JU,xY _ _ _ _ _ _ _ _ _ _ (xj (Rz (fun g l=>i g (by omega)))),DX pre f kind key c _ (i n (by omega)),aQ k]
theorem KP(pre:B8)(c:List W9)(kind key:Int)(a:V1)(b:W6)(cells:List Z9):jP pre c kind key a.c (some cells) [a] [b]=QI pre c kind key cells a b:=by
 simp only[jP,db];cases QI pre c kind key cells a b<;>rfl
theorem Me(pre:B8)(j:List W9)(kind key:Int)(c:Nat)(cells:List Z9):∀(d:List V1) (a:List W6) (g:List Z9),(∀b∈d,b.sort=80)->jP pre j kind key c (some (cells++g)) d a=(jP pre j kind key c (some g) d a).map (cells++·):=by
 intro d
 induction d with
 | nil=>intro a g _;cases a<;>rfl
 | cons b d l =>
  intro a g h;cases a with
  | nil=>rfl
  | cons o a =>
   simp only[jP];by_cases e:b.c=c
   ·rw[aQ e,aQ e];have m:¬b.sort=77:=(by rw[h b (by simp)];decide);unfold QI;simp only[aL m];cases zo pre j key b o with
    | none=>simp[xG]
    | some plain =>
     dsimp only;cases p:xO kind plain with
     | none=>simp[xG]
     | some n =>
      dsimp only;by_cases f:n.length=b.many
      ·rw[aQ f,aQ f,aD];exact l a _ (fun k i=>h k (bA _ i))
      ·rw[aL f,aL f];simp[xG]
   ·rw[aL e,aL e];exact l a _ (fun k i=>h k (bA _ i))
def qZ(b a P g c:Nat):List V1:=jr P g c (g*a) (jv b a g) (qc (jv b a g) P)
def Zu(b a g c:Nat):V1:=⟨77,g,c,0,g*a,jv b a g⟩
theorem Gx(b a P g c:Nat):jl b a P g c=qZ b a P g c++[Zu b a g c]:=rfl
theorem Nl(pre:B8)(d:List W9)(kind key:Int)(cells:List Z9)(j:cells.length=i*m)(e:List W6)(f:W6)(P:e.length=(qZ n m k i g).length) :
  jP pre d kind key g (some cells) (jl n m k i g) (e++[f])=(jP pre d kind key g (some []) (qZ n m k i g) e).bind fun part=>if zo pre d key (Zu n m i g) f=some (JD kind part)then some (cells++part)else none:=by
 rw[Gx,xY _ _ _ _ _ _ _ _ _ _ P];have h:=Me pre d kind key g cells (qZ n m k i g) e [] (KA _ _ _ _ _ _);rw[aT]at h;rw[h];cases jP pre d kind key g (some []) (qZ n m k i g) e with
 | none=>simp[xG]
 | some part =>
  simp only[eB,ew];have:=KP pre d kind key (Zu n m i g) f (cells++part);rw[show(Zu n m i g).c=g from rfl]at this;rw[this];unfold QI;have b:(cells++part).drop (Zu n m i g).start=part:=by
   show(cells++part).drop (i*m)=part;rw[<-j,fF]
  rw[b];cases zo pre d key (Zu n m i g) f with
  | none=>simp
  | some plain=>simp only[aW,aQ (show(Zu n m i g).sort=77 from rfl)]
theorem Re(pre:B8)(j:List W9)(kind key:Int):∀(b:Nat) (d:List W6) (part:List Z9),d.length=b->b*n<=g+n->jP pre j kind key k (some []) (jr n m k i g b) d=some part->part.length=min (b*n) g:=by
 intro b
 induction b with
 | zero=>intro d part f _ a;rw[aO f]at a;simp[jr,jP]at a;subst a;simp
 | succ b s =>
  intro d part f p a;obtain⟨e,start,rfl⟩:∃e start,d=e++[start]:=by
   have l:d≠[]:=(by intro o;rw[o]at f;simp at f);exact⟨d.dropLast,d.getLast l,(ed l).symm⟩
  have c:e.length=b:=by simp at f;omega
  rw[Xv,xY _ _ _ _ _ _ _ _ _ _ (by rw[c];simp[jr])]at a;rw[dj]at p ⊢;cases h:jP pre j kind key k (some []) (jr n m k i g b) e with
  | none=>rw[h,xG]at a;cases a
  | some P =>
   rw[h]at a;have r:=s e P c (by omega) h;have:=KP pre j kind key ⟨80,m,k,b,i+b*n,jv g n b⟩ start P;simp only at this;rw[this]at a;unfold QI at a;simp only[show ¬((80:UInt8)=77)from by decide,dz]at a;split at a
   ·cases a
   ·split at a
    ·cases a
    ·split at a
     ·rename_i q;cases a;rw[aB,r,q];unfold jv;omega
     ·cases a
theorem NA{n size:Nat}(a:1<=size):n<=qc n size*size/\qc n size*size<=n+size:=by
 have c:=(JE (n:=n) (i:=qc n size) a);have d:¬qc n size*size<n:=fun b=>by have:=c.2 b;omega
 refine⟨by omega,?_⟩;rcases dH (qc n size)with h0|h0
 ·rw[h0];omega
 ·have e:=(JE (n:=n) (i:=qc n size-1) a).1 (by omega);have f:(qc n size-1)*size+size=qc n size*size:=by rw[<-dj];congr 1;omega
  omega
theorem Vu(pre:B8)(a:List W9)(kind key:Int){X8 G P g c:Nat}(e:1<=P){mp:List W6}{part:List Z9}(h:mp.length=(qZ X8 G P g c).length)(b:jP pre a kind key c (some []) (qZ X8 G P g c) mp=some part):part.length=jv X8 G g:=by
 have f:mp.length=qc (jv X8 G g) P:=by rw[h];simp[qZ,jr]
 have d:=NA (n:=jv X8 G g) e;have:=Re pre a kind key _ mp part f d.2 b;omega
theorem IS{t:List W8}{d:Nat->Nat->List W6}{e f b P:Nat}(pre:B8)(i:List W9)(kind key:Int){c:Nat}(q:c<f)(v:1<=P):∀{n:Nat} {cells:List Z9},(∀g,g<n->∀o,o<f->V2 t (jl e b P g o) (d g o))->n*b<=e+b ->
  jP pre i kind key c (some []) (jM e f b P n) (xH d f n)=some cells->cells.length=min (n*b) e:=by
 intro n
 induction n with
 | zero=>intro cells _ _ h;simp[jM,jP]at h;subst h;simp
 | succ n z =>
  intro cells h x a;rw[Ru pre i kind key q _ h]at a;rw[dj]at x ⊢;cases m:jP pre i kind key c (some []) (jM e f b P n) (xH d f n)with
  | none=>rw[m,xG]at a;cases a
  | some B =>
   rw[m]at a;have w:=z (fun g C=>h g (by omega)) (by omega) m;have k:=xj (h n (by omega) c q);obtain⟨j,p,r⟩:∃j p,d n c=j++[p]:=by
    have u:d n c≠[]:=(by intro a;rw[a]at k;simp[jl]at k);exact⟨(d n c).dropLast,(d n c).getLast u,(ed u).symm⟩
   have s:j.length=(qZ e b P n c).length:=(by rw[r,Gx]at k;simpa using k);rw[r,Nl pre i kind key B (by omega) j p s]at a;cases l:jP pre i kind key c (some []) (qZ e b P n c) j with
   | none=>rw[l]at a;simp at a
   | some part =>
    rw[l]at a;have y:=Vu pre i kind key v s l;simp only[ew]at a;split at a
    ·cases a;rw[aB,w,y];unfold jv;omega
    ·cases a
theorem Wf(b a c p:B8):(zg b a c p).take ((zg b a c p).length-2)=zD b a p:=by
 rw[zT];unfold zg;rw[show p.length+2-2=(zD b a p).length by rw[zS];omega,List.take_left]
theorem EO(b a c p:B8)(e:p.length<=5000):qE b a c (zg b a c p)=some p:=by
 have d:zD b a ((zg b a c p).take ((zg b a c p).length-2))=p:=by rw[Wf,YI]
 unfold qE;rw[d,aQ ⟨by rw[zT];omega,by rw[zT];omega,rfl⟩]
theorem KR{f e c b p:B8}(a:qE f e c b=some p):b=zg f e c p/\b.length<=5002:=by
 unfold qE at a;split at a
 ·rename_i d;cases a;exact⟨d.2.2.symm,d.1⟩
 ·cases a
def LK(c:W8):W8:=⟨c.name,c.kind,c.key,[]⟩
def Zg(t:List W8):List W8:=t.map LK
theorem jbu(t:List W8)(c:Nat):ji (Zg t) c=LK (ji t c):=by
 unfold ji Zg;rw[ei,ei,dB];cases t[c]?<;>rfl
theorem Wi(t:List W8)(a:B8):zx (Zg t) a=zx t a:=by
 unfold zx Zg;rw[List.any_map];rfl
theorem DB(t:List W8):∀n,JZ (Zg t) n=JZ t n:=by
 intro n
 induction n with
 | zero=>rfl
 | succ n d =>
  simp only[JZ,d];have a:(Zg t)[n]?=(t[n]?).map LK:=by unfold Zg;rw[dB]
  rw[a];cases e:t[n]? with
  | none=>rfl
  | some c =>
   have b:(Zg t).take n=Zg (t.take n):=(by unfold Zg;rw[List.map_take]);simp only[eB,b,Wi];rfl
theorem Lg(t:List W8):jW (Zg t)=jW t:=by
 unfold jW;rw[show(Zg t).length=t.length by simp[Zg],DB]
theorem P6.ai(b:P6 X E):∀a∈xF X,(xQ X.table a).length<=5000:=by
 intro a d;have c:=b.a1 a d;have:=UE b.table c.bg c.ao.2.2.2.2;omega
def T0(t:List W8)(pre:B8)(b:List W9)(c:Nat):List V1->List W6->Prop
 | [],[]=>True
 | a::d,f::e=>(a.c=c->zo pre b (ji t c).key a f=some (xQ t a))/\T0 t pre b c d e
 | _,_=>False
theorem T0.nil:T0 B s E n [] []:=trivial
theorem T0.cons{a:V1}{f:W6}(g:a.c=n->zo s E (ji B n).key a f=some (xQ B a))(h:T0 B s E n L H):T0 B s E n (a::L) (f::H):=dy g h
theorem T0.ind{t:List W8}{pre:B8}{f:List W9}{c:Nat}{e:(b:List V1)->(d:List W6)->T0 t pre f c b d->Prop}(nil:e [] [] .nil)
  (cons:∀{g:V1} {b:List V1} {i:W6} {d:List W6} (j:g.c=c->zo pre f (ji t c).key g i=some (xQ t g)) (h:T0 t pre f c b d),e b d h->e (g::b) (i::d) (.cons j h)):∀{b:List V1} {d:List W6} (a:T0 t pre f c b d),e b d a
 | [],[],_=>nil
 | _::_,_::_,a=>cons a.1 a.2 (T0.ind nil cons a.2)
 | [],_::_,a=>absurd a id
 | _::_,[],a=>absurd a id
theorem T0.cut{t:List W8}{pre:B8}{h:List W9}{c:Nat}{a:List V1}:∀{e:List V1} {b:List W6},T0 t pre h c (a++e) b->∃d f,b=d++f/\d.length=a.length/\T0 t pre h c a d/\T0 t pre h c e f:=by
 induction a with
 | nil=>intro e b g;exact⟨[],b,rfl,rfl,.nil,g⟩
 | cons p a o =>
  intro e b g;cases g using T0.ind with
  | cons n i =>
   obtain⟨d,f,j,k,l,m⟩:=o i;exact⟨_::d,f,by rw[j];rfl,by simp[k],.cons n l,m⟩
theorem SG{α:Type}(b:List α)(a n:Nat):b.take a++(b.drop a).take n=b.take (a+n):=(fN).symm
theorem Fy{pre:B8}{r:List W9}{s:V1}{m:W6}(e:L9 B)(b:s.c<B.length)(g:s.sort=80)(o:s.start+s.many<=qv B)(f:zo pre r (ji B s.c).key s m=some (xQ B s)) :
  QI pre r (ji B s.c).kind (ji B s.c).key ((ji B s.c).cells.take s.start) s m=some ((ji B s.c).cells.take (s.start+s.many)):=by
 obtain⟨l,n,h⟩:=e.cells s.c b;have i:qi (B[s.c]).kind (((B[s.c]).cells.drop s.start).take s.many)=true:=by
  have:=(Rf e.ok).2 B[s.c] (aJ b);have c:=this.1;simp only[qi,aK,dp,aN,cY]at c ⊢;refine⟨⟨c.1.1,by rw[aM];omega⟩,fun a d=>c.2 a (dw (bP d))⟩
 have k:∀a∈((B[s.c]).cells.drop s.start).take s.many,Xi a:=fun a d=>by
  have:=h a (dw (bP d));exact⟨this.1,this.2.1⟩
 rw[xP b]at f ⊢;unfold QI;rw[f];have j:xQ B s=xy (B[s.c]).kind (((B[s.c]).cells.drop s.start).take s.many):=by
  unfold xQ;rw[aL (by rw[g];decide),xP b]
 simp only[j,aL (show ¬s.sort=77 from by rw[g];decide),VM _ _ i k];rw[aQ (by rw[aM,aP];omega),SG]
theorem Fb{pre:B8}{r:List W9}{s:V1}{m:W6}(d:s.c<B.length)(a:s.sort=77)(b:zo pre r (ji B s.c).key s m=some (xQ B s)) :
  QI pre r (ji B s.c).kind (ji B s.c).key ((ji B s.c).cells.take (s.start+s.many)) s m=some ((ji B s.c).cells.take (s.start+s.many)):=by
 unfold QI;rw[b];have c:xQ B s=JD (ji B s.c).kind (((ji B s.c).cells.drop s.start).take s.many):=by
  unfold xQ;rw[aQ a]
 simp only[c,aQ a];rw[aQ];rw[List.drop_take,fS]
theorem Mx{t:List W8}{pre:B8}{e:List W9}{d a P g c:Nat}(v:L9 t)(C:d=qv t)(B:g*a<d)(u:c<t.length)(r:1<=P):∀(b:Nat) (f:List W6),b<=qc (jv d a g) P->T0 t pre e c (jr P g c (g*a) (jv d a g) b) f ->
  jP pre e (ji t c).kind (ji t c).key c (some ((ji t c).cells.take (g*a))) (jr P g c (g*a) (jv d a g) b) f=some ((ji t c).cells.take (g*a+min (b*P) (jv d a g))):=by
 intro b
 induction b with
 | zero=>intro f _ h;cases h using T0.ind;simp[jP]
 | succ b y =>
  intro f D h;rw[Xv]at h ⊢;obtain⟨l,z,rfl,w,o,p⟩:=h.cut;rw[xY _ _ _ _ _ _ _ _ _ _ w,y l (by omega) o];have E:=(JE (n:=jv d a g) (i:=b) r).1 (by omega);have G:=jv d a g;have F:g*a+jv d a g<=d:=by unfold jv;omega
  cases p using T0.ind with
  | cons x q =>
   cases q using T0.ind;rename_i j _ih;have m:min (b*P) (jv d a g)=b*P:=(by omega);rw[m];have:=Fy (m:=j) (pre:=pre) (r:=e) (s:=⟨80,g,c,b,g*a+b*P,jv (jv d a g) P b⟩) v u rfl (by simp only[jv]at *;omega) (x rfl);simp only at this;have k:=KP pre e (ji t c).kind (ji t c).key ⟨80,g,c,b,g*a+b*P,jv (jv d a g) P b⟩ j ((ji t c).cells.take (g*a+b*P));simp only at k;rw[k,this,dj]
   congr 2;have:jv (jv d a g) P b=min P (jv d a g-b*P):=rfl;omega
theorem Mt{t:List W8}{pre:B8}{d:List W9}{b a P g c:Nat}(v:L9 t)(u:b=qv t)(r:g*a<b)(k:c<t.length)(j:1<=P){f:List W6}(i:T0 t pre d c (jl b a P g c) f) :
  jP pre d (ji t c).kind (ji t c).key c (some ((ji t c).cells.take (g*a))) (jl b a P g c) f=some ((ji t c).cells.take (g*a+jv b a g)):=by
 unfold jl at i ⊢;obtain⟨m,x,rfl,w,o,p⟩:=i.cut;rw[xY _ _ _ _ _ _ _ _ _ _ w,Mx v u r k j _ m (aA _) o];have l:=NA (n:=jv b a g) j;rw[show min (qc (jv b a g) P*P) (jv b a g)=jv b a g by omega];cases p using T0.ind with
 | cons l q =>
  cases q using T0.ind;rename_i e _ih;have:=Fb (m:=e) (pre:=pre) (r:=d) (s:=⟨77,g,c,0,g*a,jv b a g⟩) k rfl (l rfl);have h:=KP pre d (ji t c).kind (ji t c).key ⟨77,g,c,0,g*a,jv b a g⟩ e ((ji t c).cells.take (g*a+jv b a g));simp only at h this;rw[h,this]
theorem Mm{t:List W8}{pre:B8}{k:List W9}{d b P g c:Nat}(u:L9 t)(q:d=qv t)(o:g*b<d)(r:c<t.length)(p:1<=P):∀(a:Nat) (e:List W6),T0 t pre k c (jp d b P g a) e ->
  jP pre k (ji t c).kind (ji t c).key c (some ((ji t c).cells.take (g*b))) (jp d b P g a) e=some ((ji t c).cells.take (if c<a then g*b+jv d b g else g*b)):=by
 intro a
 induction a with
 | zero=>intro e f;cases f using T0.ind;simp[jp,jP]
 | succ a w =>
  intro e f;rw[JA]at f ⊢;obtain⟨l,x,rfl,v,m,n⟩:=f.cut;rw[xY _ _ _ _ _ _ _ _ _ _ v,w l m];by_cases j:c<a
  ·rw[aQ j,aQ (by omega),Ue];intro i h;rw[XQ i h];omega
  ·rw[aL j];by_cases s:c=a
   ·subst s;rw[aQ (by omega),Mt u q o r p n]
   ·rw[aL (by omega),Ue];intro i h;rw[XQ i h];omega
theorem Wu{t:List W8}{pre:B8}{r:List W9}{b a P c:Nat}(q:L9 t)(p:b=qv t)(m:1<=a)(f:c<t.length)(o:1<=P):∀(n:Nat) (d:List W6),n<=qc b a->T0 t pre r c (jM b t.length a P n) d ->
  jP pre r (ji t c).kind (ji t c).key c (some []) (jM b t.length a P n) d=some ((ji t c).cells.take (min (n*a) b)):=by
 intro n
 induction n with
 | zero=>intro d _ e;cases e using T0.ind;simp[jM,jP]
 | succ n v =>
  intro d w e;rw[JU]at e ⊢;obtain⟨g,h,rfl,s,k,l⟩:=e.cut;have u:=(JE (n:=b) (i:=n) m).1 (by omega);rw[xY _ _ _ _ _ _ _ _ _ _ s,v g (by omega) k];have j:min (n*a) b=n*a:=by omega
  rw[j,Mm q p u f o _ h l,aQ f,dj]
  congr 2;unfold jv;omega
def xm(pre:B8)(d:List W9)(key:Int)(c:Nat):List V1->List W6->List V5
 | a::e,b::f=>(if a.c=c then[⟨jh d key,b.I,jz pre a.sort a.g a.c a.p,b.body⟩]else[])++xm pre d key c e f
 | _,_=>[]
def xT(pre:B8)(b:List W9)(a:U0):V5 :=
 ⟨jh b (a.R:Int),a.I,if a.told=true then jz pre 83 0 0 0++a.footer else jz pre 70 0 0 0,a.body⟩
def xM(a:U1):Bool:=decide (a.key≠0)&&decide (a.state=0)
def Xe(pre:B8)(b:List W9)(d:U0)(a:V7):List V5 :=
 xT pre b d::(List.range a.U.length).flatMap fun c=>if xM (qq pre b a c)=true then xm pre b (ji a.U c).key c (qp a) a.ae else[]
def Lb(a:U1)(c:W8):Prop:=(a.name=c.name/\a.kind=c.kind/\a.key=c.key)/\(xM a=true->a.cells=c.cells)
def Tu(b:List U1)(t:List W8):Prop:=b.length=t.length/\∀a,a<t.length->Lb (b.getD a ⟨[],0,0,0,[]⟩) (ji t a)
theorem QG{f h:UInt8}{q q':B8}(e:n<=65535)(o:m<=65535)(u:k<=65535)(t:i<=65535)(p:g<=65535)(v:c<=65535)
  (a:jz s f n m k++q=jz r h i g c++q'):s=r/\f=h/\n=i/\m=g/\k=c/\q=q':=by
 unfold jz at a;simp only[aD]at a;obtain⟨b,a⟩:=NO a;simp only[bF,bW,bT]at a;obtain⟨pre,a⟩:=a;obtain⟨j,a⟩:=bO a (by rw[jx,jx]);obtain⟨d,a⟩:=bO a (by rw[jx,jx]);obtain⟨l,a⟩:=bO a (by rw[jx,jx]);exact⟨b,pre,QH e t j,QH o p d,QH u v l,a⟩
theorem Zy{e f:UInt8}(l:n<=65535)(j:m<=65535)(pre:k<=65535)(b:i<=65535)(d:g<=65535)(o:c<=65535)
  (a:jz s e n m k=jz r f i g c):s=r/\e=f/\n=i/\m=g/\k=c:=by
 have:=QG (q:=[]) (q':=[]) l j pre b d o (by rw[a]);exact⟨this.1,this.2.1,this.2.2.1,this.2.2.2.1,this.2.2.2.2.1⟩
def CT(j:V6)(b:List W9)(c:V5):Prop:=∃a∈xF j,(ji j.table a.c).key≠0/\∃n,c=⟨jh b (ji j.table a.c).key,xn j.draw n,jz j.pre a.sort a.g a.c a.p,zg (jh b (ji j.table a.c).key) (xn j.draw n) (jz j.pre a.sort a.g a.c a.p) (xQ j.table a)⟩
theorem MI(j:V6)(f:List W9):∀(d:List V1) (e:G8) (c:V5),c∈(qk j f e d).log->c∈e.log\/∃b∈d,(ji j.table b.c).key≠0/\∃n,c=⟨jh f (ji j.table b.c).key,xn j.draw n,jz j.pre b.sort b.g b.c b.p,zg (jh f (ji j.table b.c).key) (xn j.draw n) (jz j.pre b.sort b.g b.c b.p) (xQ j.table b)⟩:=by
 intro d
 induction d with
 | nil=>intro e c a;exact .inl a
 | cons b d i =>
  intro e c a;rcases i (Qv j f e b) c a with a|⟨k,h,a⟩
  ·unfold Qv ZX at a;by_cases g:(ji j.table b.c).key=0
   ·rw[aQ g]at a;exact .inl a
   ·rw[aL g]at a;simp only[JG,aX,cQ]at a;rcases a with a|a
    ·exact .inl a
    ·exact .inr ⟨b,by simp,g,_,a⟩
  ·exact .inr ⟨k,bA _ h,a⟩
theorem Ry{c:V5}(a:c∈Xu X E):CT X E c \/
  (X.J.told=false/\∃n,c=⟨jh E X.J.R,xn X.draw n,jz X.pre 70 0 0 0,zg (jh E X.J.R) (xn X.draw n) (jz X.pre 70 0 0 0) (Xy X E)⟩) \/
  (X.J.told=true/\∃n,c=⟨jh E X.J.R,xn X.draw n,jz X.pre 83 0 0 0++Xy X E,zg (jh E X.J.R) (xn X.draw n) (jz X.pre 83 0 0 0++Xy X E) []⟩):=by
 unfold Xu Jr at a;have d:∀c∈(zY X E).log,CT X E c:=by
  intro c f;rcases MI X E _ _ c f with a|a
  ·simp at a
  ·exact a
 cases e:X.J.told with
 | true =>
  rw[e,aQ rfl]at a;simp only[JG,Qh,aX,cQ]at a;rcases a with a|a
  ·exact .inl (d c a)
  ·exact .inr (.inr ⟨rfl,_,a⟩)
 | false =>
  rw[e,aL (by decide)]at a;simp only[JG,aX,cQ]at a;rcases a with a|a
  ·exact .inl (d c a)
  ·exact .inr (.inl ⟨rfl,_,a⟩)
theorem P6.a0(b:P6 X E):∀a∈xF X,a.g<=65535/\a.c<=65535/\a.p<=65535:=by
 intro a c;have:=(b.a1 a c).ao;omega
theorem XH:∀a∈jR n m k i,a.sort=80\/a.sort=77:=by
 intro a b;simp only[jR,jM,jp,cU,cF,jl,aX,jr,cM,cQ]at b;obtain⟨g,_,c,_,⟨p,_,rfl⟩|rfl⟩:=b
 ·exact .inl rfl
 ·exact .inr rfl
theorem FH{a b:V1}(j:a∈jR n m k i)(P:b∈jR n m k i)(l:a.sort=b.sort)(d:a.g=b.g)(e:a.c=b.c)(h:a.p=b.p):a=b:=by
 simp only[jR,jM,jp,cU,cF,jl,aX,jr,cM,cQ]at j P;obtain⟨g,_,c,_,⟨p,_,rfl⟩|rfl⟩:=j<;>obtain⟨o,_,f,_,⟨q,_,rfl⟩|rfl⟩:=P
 ·simp only at d e h;subst d e h;rfl
 ·simp at l
 ·simp at l
 ·simp only at d e;subst d e;rfl
theorem PR{a:U0}{footer:B8}(q:P6 X E)(y:xT s E a∈Xu X E)
  (C:a.told=true->footer=a.footer)(w:a.told=false->qE (jh E (a.R:Int)) a.I (jz s 70 0 0 0) a.body=some footer):X.pre=s/\footer=Xy X E:=by
 have B:=q.a0;rcases Ry y with⟨f,j,_,n,e⟩|⟨x,n,e⟩|⟨x,n,e⟩
 ·exfalso;obtain⟨k,l,c⟩:=B f j;have t:=XH f j;simp only[xT,V5.mk.injEq]at e;have i:=e.2.2.1;cases d:a.told with
  | true =>
   rw[d,aQ rfl,<-aT (jz X.pre f.sort f.g f.c f.p)]at i;have:=(QG (by decide) (by decide) (by decide) k l c i).2.1;rcases t with g|g<;>rw[g]at this<;>revert this<;>decide
  | false =>
   rw[d,aL (by decide)]at i;have:=(Zy (by decide) (by decide) (by decide) k l c i).2.1;rcases t with g|g<;>rw[g]at this<;>revert this<;>decide
 ·simp only[xT,V5.mk.injEq]at e;obtain⟨m,o,b,p⟩:=e;cases d:a.told with
  | true =>
   exfalso;rw[d,aQ rfl,<-aT (jz X.pre 70 0 0 0)]at b;have:=(QG (by decide) (by decide) (by decide) (by decide) (by decide) (by decide) b).2.1
   revert this;decide
  | false =>
   rw[d,aL (by decide)]at b;have z:=(Zy (by decide) (by decide) (by decide) (by decide) (by decide) (by decide) b).1;have r:=w d;have D:=q.R.2.2;rw[b,o,m,p,EO _ _ _ _ (by omega)]at r;cases r;exact⟨z.symm,rfl⟩
 ·simp only[xT,V5.mk.injEq]at e;obtain⟨m,o,b,p⟩:=e;cases d:a.told with
  | true =>
   rw[d,aQ rfl]at b;obtain⟨u,_,_,_,_,v⟩:=QG (by decide) (by decide) (by decide) (by decide) (by decide) (by decide) b;exact⟨u.symm,(C d).trans v⟩
  | false =>
   exfalso;rw[d,aL (by decide),<-aT (jz s 70 0 0 0)]at b;have:=(QG (by decide) (by decide) (by decide) (by decide) (by decide) (by decide) b).2.1
   revert this;decide
theorem Wg{a:V1}{k:W6}{key:Int}(m:P6 X E)(f:a∈xF X)(j:key≠0)
  (F:(⟨jh E key,k.I,jz X.pre a.sort a.g a.c a.p,k.body⟩:V5)∈Xu X E)(e:zo X.pre E key a k=some s):s=xQ X.table a:=by
 have q:=m.a0;obtain⟨h,i,c⟩:=q a f;have p:=XH a f;unfold zo at e;rw[aL j]at e;rcases Ry F with⟨G,o,_,n,b⟩|⟨D,n,b⟩|⟨D,n,b⟩
 ·simp only[V5.mk.injEq]at b;obtain⟨y,z,B,C⟩:=b;obtain⟨r,g,t⟩:=q G o;obtain⟨_,u,v,w,x⟩:=Zy h i c r g t B;have:=FH f o u v w x;subst this;rw[y,z,C,EO _ _ _ _ (m.ai a f)]at e;cases e;rfl
 ·exfalso;simp only[V5.mk.injEq]at b;have:=(Zy h i c (by decide) (by decide) (by decide) b.2.2.1).2.1;rcases p with d|d<;>rw[d]at this<;>revert this<;>decide
 ·exfalso;simp only[V5.mk.injEq]at b;have l:=b.2.2.1;rw[<-aT (jz X.pre a.sort a.g a.c a.p)]at l;have:=(QG h i c (by decide) (by decide) (by decide) l).2.1;rcases p with d|d<;>rw[d]at this<;>revert this<;>decide
theorem jbo{a:V1}(t:P6 X E)(u:a.sort=80\/a.sort=77)(p:a.g<=65535/\a.c<=65535/\a.p<=65535)(o:(⟨r,l,jz s a.sort a.g a.c a.p,b⟩:V5)∈Xu X E):X.pre=s:=by
 obtain⟨d,e,c⟩:=p;rcases Ry o with⟨j,q,_,n,g⟩|⟨m,n,g⟩|⟨m,n,g⟩
 ·simp only[V5.mk.injEq]at g;obtain⟨h,i,k⟩:=t.a0 j q;exact(Zy d e c h i k g.2.2.1).1.symm
 ·simp only[V5.mk.injEq]at g;exact(Zy d e c (by decide) (by decide) (by decide) g.2.2.1).1.symm
 ·simp only[V5.mk.injEq]at g;have f:=g.2.2.1;rw[<-aT (jz s a.sort a.g a.c a.p)]at f;exact(QG d e c (by decide) (by decide) (by decide) f).1.symm
theorem Gy{kind key:Int}:∀(g:List V1) (d:List W6) (i:List Z9) (l:List Z9),jP s E kind key n (some i) g d=some l->∀(e:Nat) (b:V1) (f:W6),g[e]?=some b->d[e]?=some f->b.c=n->∃plain,zo s E key b f=some plain:=by
 intro g
 induction g with
 | nil=>intro d i l _ e b f a;simp at a
 | cons b g p =>
  intro d i l a e r q j h m;cases d with
  | nil=>simp at h
  | cons f d =>
   simp only[jP]at a;cases e with
   | zero =>
    simp at j h;subst j h;rw[aQ m]at a;unfold QI at a;cases o:zo s E key b f with
    | none=>rw[o]at a;simp[xG]at a
    | some plain=>exact⟨plain,rfl⟩
   | succ e =>
    simp at j h;cases k:(if b.c=n then QI s E kind key i b f else some i)with
    | none=>rw[k,xG]at a;cases a
    | some c=>rw[k]at a;exact p d c l a e r q j h m
theorem Pf{pre:B8}{r:List W9}{key:Int}:∀(e:List V1) (b:List W6) (d:Nat) (a:V1) (g:W6),e[d]?=some a->b[d]?=some g->a.c=n->(⟨jh r key,g.I,jz pre a.sort a.g a.c a.p,g.body⟩:V5)∈xm pre r key n e b:=by
 intro e
 induction e with
 | nil=>intro b d a g j;simp at j
 | cons a e k =>
  intro b d m l h f i;cases b with
  | nil=>simp at f
  | cons g b =>
   cases d with
   | zero =>
    simp at h f;subst h f;simp[xm,i]
   | succ d =>
    simp at h f;simp only[xm,aX];exact .inr (k b d m l h f i)
theorem BY:∀(b:List V1) (a:List W6),a.length=b.length->(∀(f:Nat) (d:V1) (g:W6),b[f]?=some d->a[f]?=some g->d.c=n->zo s E (ji B n).key d g=some (xQ B d))->T0 B s E n b a:=by
 intro b
 induction b with
 | nil=>intro a e _;rw[aO e];exact .nil
 | cons d b l =>
  intro a e h;cases a with
  | nil=>simp at e
  | cons g a =>
   exact .cons (h 0 d g rfl rfl) (l a (by simpa using e) (fun f c m k j=>h (f+1) c m (by simpa using k) (by simpa using j)))
theorem GT(a:qJ s r E false=(0,some Z)) :
  r.length<=20/\xD E=true/\∃b footer,xL s=some b/\jG E (b.R:Int)=true/\zH b.R b.parts footer=some Z/\(b.told=true->footer=b.footer/\qE (jh E (b.R:Int)) b.I (jz r 83 0 0 0++b.footer) b.body=some []) /\
   (b.told=false->qE (jh E (b.R:Int)) b.I (jz r 70 0 0 0) b.body=some footer):=by
 unfold qJ at a;split at a
 ·simp at a
 split at a
 ·simp at a
 rename_i m l;refine⟨by omega,by simpa using l,?_⟩;split at a
 ·simp at a
 rename_i b j;split at a
 ·rename_i h;split at a
  ·simp at a
  rename_i k e;rw[aL (by decide)]at a;split at a
  ·simp at a
  split at a
  ·rename_i f g;simp only[cX,aW,eu]at a;subst a;exact⟨b,b.footer,j,by simpa using f,e,fun _=>⟨rfl,g⟩,fun d=>by rw[h]at d;cases d⟩
  ·simp at a
 ·rename_i h;split at a
  ·simp at a
  rename_i f;split at a
  ·simp at a
  rename_i footer g;split at a
  ·simp at a
  rename_i k e;simp only[cX,aW,eu]at a;subst a;exact⟨b,footer,j,by simpa using f,e,fun d=>absurd d h,fun _=>g⟩
theorem IQ(m:P6 X E)(d:U8 n s (Xy X E) Z):Z.rows=qv X.table/\qp Z=xF X/\Z.U=Zg X.table:=by
 have o:(zQ X E).length=qc (qv X.table) X.J.group.toNat*X.table.length:=QL ..;obtain⟨f,g,h,p,i,q⟩:=Up (Xj d) o (d.footer.symm);have l:=Lg X.table;have j:jW X.table=true:=by
  have:=m.table.ok;simp only[xk,aK]at this;exact this.1
 have b:Z.U=Zg X.table:=by
  refine LU d.aq (by rw[l];exact j) d.bare ?_ ?_
  ·intro c b;simp only[Zg,cM]at b;obtain⟨r,_,rfl⟩:=b;rfl
  ·rw[i];unfold Zg;rw[List.map_map];rfl
 refine⟨f,?_,b⟩;unfold qp xF;rw[f,g,h,b];simp[Zg]
variable{V:List V6}
theorem Cm{o:U0}(C:∀j∈V,P6 j E)(hd:∀j∈V,∀d∈V,j.pre=d.pre->j=d)(hr:qJ s r E false=(0,some Z))(hf:xL s=some o)
  (z:∀k∈Xe r E o Z,∃j∈V,k∈Xu j E):∃j∈V,j.pre=r/\Tu (ZY r E Z) j.table:=by
 obtain⟨cs,da,f',footer,B,hn,a,U,b⟩:=GT hr;rw[hf]at B;cases B;obtain⟨j,g,am⟩:=z (xT r E o) (by simp[Xe]);have e:=C j g;obtain⟨K,ac⟩:=PR (footer:=footer) e am (fun ht=>(U ht).1) b;subst ac;have H:=Zz a;obtain⟨e1,m,y⟩:=IQ e H;obtain⟨⟨x,ci⟩,⟨T,co⟩,_⟩:=e.a3;refine⟨j,g,K,?_⟩;subst K;have bi:Z.U.length=j.table.length:=by rw[y];simp[Zg]
 refine⟨by simp[ZY,bi],fun c q=>?_⟩;have ap:(ZY j.pre E Z).getD c ⟨[],0,0,0,[]⟩=qq j.pre E Z c:=by
  unfold ZY;rw[ei,dB,eT (by omega)];rfl
 rw[ap];have l:ji Z.U c=LK (ji j.table c):=by rw[y,jbu]
 have D:(qq j.pre E Z c).name=(ji j.table c).name/\(qq j.pre E Z c).kind=(ji j.table c).kind/\(qq j.pre E Z c).key=(ji j.table c).key:=by
  unfold qq;split
  ·rw[l];exact⟨rfl,rfl,rfl⟩
  ·split<;>(rw[l];exact⟨rfl,rfl,rfl⟩)
 refine⟨D,fun u=>?_⟩
 ·skip
  have be:(ji j.table c).key≠0:=by
   have:=u;simp only[xM,aK,aN]at this;rw[<-D.2.2];exact this.1
  have f:(qq j.pre E Z c).state=0:=by
   have:=u;simp only[xM,aK,aN]at this;exact this.2
  have M:∀k∈xm j.pre E (ji Z.U c).key c (qp Z) Z.ae,∃d∈V,k∈Xu d E:=by
   intro k hx;refine z k ?_;unfold Xe;refine bA _ (cU.2 ⟨c,cF.2 (by omega),?_⟩);rw[u,aQ rfl];exact hx
  unfold qq at f ⊢;by_cases F:0<(ji Z.U c).key/\jG E (ji Z.U c).key=false
  ·rw[aQ F]at f;simp at f
  ·rw[aL F]at f ⊢;cases h:jP j.pre E (ji Z.U c).kind (ji Z.U c).key c (some []) (qp Z) Z.ae with
   | none=>rw[h]at f;simp at f
   | some cells =>
    simp only;have bX:=xj H.ae;have cd:T0 j.table j.pre E c (xF j) Z.ae:=by
     refine BY _ _ (by rw[<-m];exact bX) (fun O i P v G L=>?_);rw[m]at h M;obtain⟨plain,t⟩:=Gy _ _ _ _ h O i P v G L;have bv:=M _ (Pf (r:=E) (pre:=j.pre) (key:=(ji Z.U c).key) _ _ O i P v G L);have w:i∈xF j:=dJ v;obtain⟨d,pre,file⟩:=bv;have b4:=jbo (C d pre) (XH i w) (e.a0 i w) file;have:=hd d pre j g b4;subst this;rw[l]at t file;have ce:=Wg (key:=(ji d.table c).key) e w be file t;rw[<-ce];exact t
    have X:=Wu (pre:=j.pre) (r:=E) e.table rfl x q T _ _ (aA _) cd;rw[m,l]at h;have p:jP j.pre E (ji j.table c).kind (ji j.table c).key c (some []) (xF j) Z.ae=some cells:=h;unfold xF jR at p;rw[X]at p;cases p;obtain⟨Y,_⟩:=e.table.cells c q;have h6:=NA (n:=qv j.table) x;rw[show min (qc (qv j.table) j.J.group.toNat*j.J.group.toNat) (qv j.table)=qv j.table by omega,xP q,<-Y,aS]
theorem Cz:∀(a:List Nat),(∀b∈a,b<18446744073709551616)->(a.flatMap uB).length<=10*a.length:=by
 intro a
 induction a with
 | nil=>intro _;simp
 | cons b a e =>
  intro c;have g:=jO b (c b (by simp));have h:=e (fun f d=>c f (bA _ d));rw[cu,aB,bC];omega
theorem Xm(k:∀parts∈jK Z.U 4 true (qp Z) Z.ae,parts<18446744073709551616)(b:U8 n s r Z):r.length<=4200:=by
 have l:=b.J;simp only[qK,aK,aN]at l;have e:=b.aq;simp only[jW,aK,aN]at e;have t:=b.rows;have d:∀c∈Z.U,(jZ c).length<=38:=by
  intro c d;obtain⟨m,j,rfl⟩:=cA.1 d;obtain⟨f,g,c,h⟩:=QA (QE e.1 (aA _) m j).1;exact Yh (UM f).2 g ⟨c,h⟩
 have o:=KQ jZ 38 Z.U d;have p:=Cz _ k;have q:=Xj b;have a:qc Z.rows Z.J.group.toNat<=Z.rows:=QP (by omega);have footer:qc Z.rows Z.J.group.toNat*Z.U.length<=60*6:=cS (by omega) e.2.2;have u1:=jO Z.rows (by omega);have u2:=jO Z.J.group.toNat (by omega);have u3:=jO Z.J.aa.toNat (by omega);have u4:=jO Z.J.R.toNat (by omega);have u5:=jO Z.U.length (by omega);rw[b.footer];unfold qG;simp only[aB];omega
theorem Pr(f e c body:ByteArray)(a:W)(h:5002<body.size)(d:body.size<=maxLen) :
  C' 180 #[.string f,.string e,.string c,.string body] a fun b g =>
   b=.returned (.tuple #[S [],.bool false])/\g=a:=by
 unfold maxLen at d;have i:¬(body.size:Int)<2:=by omega
 have j:(5002:Int)<(body.size:Int):=by omega
 go_enter Tryz.func180,Tryz.ntmps180;go_wp2;go_ret2;exact⟨rfl,rfl⟩
def RU:Option (B8)->Value
 | some p=>.tuple #[S p,.bool true]
 | none=>.tuple #[S [],.bool false]
theorem Fk(e:2<=b.length)(f:b.length<=5002)(d:Uv s r l b=true):qE s r l b=some (zD s r (GX b)):=by
 have:=Vt s r l b;rw[d,ee]at this;unfold qE;rw[aQ ⟨f,e,this⟩];rfl
theorem OJ(d:Uv s r l b=false):qE s r l b=none:=by
 have:=Vt s r l b;rw[d]at this;unfold qE;rw[aL];rintro⟨_,_,e⟩;have f:(zg s r l (zD s r (GX b))==b)=true:=by rw[ee];exact e
 rw[f]at this;cases this
theorem EF(c b a body:B8)(e:W)(l:c.length<=1000)(m:b.length<=1000)(n:a.length<=5000)(q:body.length<=maxLen) :
  C' 180 #[S c,S b,S a,S body] e fun f g=>f=.returned (RU (qE c b a body))/\Below e.heap.size e g:=by
 have d:=jT body;have j:∀k:B8,(⟨k.toArray⟩:ByteArray).data.toList=k:=fun k=>by simp
 by_cases p:body.length<2
 ·refine(Tf ⟨c.toArray⟩ ⟨b.toArray⟩ ⟨a.toArray⟩ ⟨body.toArray⟩ e (by rw[d];exact p)).mono ?_;rintro f g ⟨rfl,rfl⟩;have:qE c b a body=none:=by unfold qE;rw[aL (by omega)]
  exact⟨by rw[this];rfl,k8 _ _⟩
 by_cases o:5002<body.length
 ·refine(Pr ⟨c.toArray⟩ ⟨b.toArray⟩ ⟨a.toArray⟩ ⟨body.toArray⟩ e (by rw[d];exact o) (by rw[d];exact q)).mono ?_;rintro f g ⟨rfl,rfl⟩;have:qE c b a body=none:=by unfold qE;rw[aL (by omega)]
  exact⟨by rw[this];rfl,k8 _ _⟩
 cases h:Uv c b a body with
 | true =>
  refine(BC ⟨c.toArray⟩ ⟨b.toArray⟩ ⟨a.toArray⟩ ⟨body.toArray⟩ e (by rw[d];omega) (by rw[d];omega) (by rw[jT];exact l) (by rw[jT];exact m) (by rw[jT];exact n) (by simp only[j];exact h)).mono ?_;rintro f g ⟨rfl,i⟩;refine⟨?_,i⟩;rw[Fk (by omega) (by omega) h];simp only[j,RU]
 | false =>
  refine(Op ⟨c.toArray⟩ ⟨b.toArray⟩ ⟨a.toArray⟩ ⟨body.toArray⟩ e (by rw[d];omega) (by rw[d];omega) (by rw[jT];exact l) (by rw[jT];exact m) (by rw[jT];exact n) (by simp only[j];exact h)).mono ?_;rintro f g ⟨rfl,i⟩;refine⟨?_,i⟩;rw[OJ h];rfl
def zE(c:Nat):List V1->Nat
 | []=>0
 | a::b=>(if a.c=c/\a.sort=80 then a.many else 0)+zE c b
theorem zr(c:Nat):∀(a b:List V1),zE c (a++b)=zE c a+zE c b:=by
 intro a
 induction a with
 | nil=>intro b;simp[zE]
 | cons e a d=>intro b;simp only[bF,zE,d];omega
theorem CE(c b:Nat)(a:List V1):zE c (a.take b)<=zE c a:=by
 have:=zr c (a.take b) (a.drop b);rw[aY]at this;omega
theorem Do(c P g start n:Nat):∀a,a*P<=n+P->zE c (jr P g c start n a)=min (a*P) n:=by
 intro a
 induction a with
 | zero=>intro _;simp[jr,zE]
 | succ a d =>
  intro b;rw[dj]at b ⊢;rw[Xv,zr,d (by omega)];simp only[zE,and_self,db];unfold jv;omega
theorem DM(c:Nat):∀(a:List V1),(∀b∈a,b.c≠c)->zE c a=0:=by
 intro a
 induction a with
 | nil=>intro _;rfl
 | cons b a g =>
  intro d;have e:=d b (cC ..);simp only[zE,e,gW,dz,g (fun h f=>d h (bA _ f))]
theorem Nk(b a P g c:Nat)(e:1<=P):zE c (jl b a P g c)=jv b a g:=by
 have d:=NA (n:=jv b a g) e;unfold jl;rw[zr,Do _ _ _ _ _ _ d.2];simp only[zE,show ¬((77:UInt8)=80)from by decide,and_false,dz];omega
theorem Dc(d b P g c:Nat)(i:1<=P):∀a,zE c (jp d b P g a)=if c<a then jv d b g else 0:=by
 intro a
 induction a with
 | zero=>simp[jp,zE]
 | succ a k =>
  have e:jp d b P g (a+1)=jp d b P g a++jl d b P g a:=by simp[jp,cI]
  rw[e,zr,k];by_cases f:c=a
  ·subst f;rw[Nk _ _ _ _ _ i,aL (by omega),aQ (by omega)];omega
  ·rw[DM c (jl d b P g a) (fun l j=>by rw[XQ l j];exact fun e=>f e.symm)];by_cases h:c<a
   ·rw[aQ h,aQ (by omega)];omega
   ·rw[aL h,aL (by omega)]
theorem Un(c a b P n:Nat):jM c a b P (n+1)=jM c a b P n++jp c b P n a:=by simp[jM,cI]
theorem Rr(b d a P c:Nat)(f:c<d)(e:1<=P):∀n,n*a<=b+a->zE c (jM b d a P n)=min (n*a) b:=by
 intro n
 induction n with
 | zero=>intro _;simp[jM,zE]
 | succ n h =>
  intro g;rw[dj]at g ⊢;rw[Un,zr,h (by omega),Dc _ _ _ _ _ e,aQ f];unfold jv;omega
theorem PO(a b d P c:Nat)(h:c<b)(g:1<=P)(f:1<=d):zE c (jR a b d P)=a:=by
 have e:=NA (n:=a) f;unfold jR;rw[Rr a b d P c h g _ e.2];omega
theorem Lp(e g a P c:Nat)(m:c<g)(l:1<=P)(k:1<=a):∀n,n<=qc e a->∀(f:Nat) (d:V1),(jM e g a P n)[f]?=some d->d.sort=77->d.start<=zE c ((jM e g a P n).take f):=by
 intro n
 induction n with
 | zero=>intro _ f d b;simp[jM]at b
 | succ n q =>
  intro s f d b j;have t:n*a<e:=(JE k).1 (by omega);rw[Un]at b ⊢;by_cases o:f<(jM e g a P n).length
  ·rw[cR o]at b;rw[dV (by omega)];exact q (by omega) f d b j
  ·rw[bM (by omega)]at b;have i:=dJ b;simp only[jp,cU,cF]at i;obtain⟨r,_,h⟩:=i;have u:d.start=n*a:=by
    simp only[jl,jr,aX,cM,cQ]at h;rcases h with⟨p,_,rfl⟩|rfl
    ·exact absurd (show(80:UInt8)=77 from j) (by decide)
    ·rfl
   rw[fj,aU (by omega),zr,Rr e g a P c m l n (by omega)];omega
theorem IA(pre:B8)(o:List W9)(kind key:Int)(c:Nat):∀(g:List V1) (e:List W6) (h i:List Z9),e.length=g.length->(∀f∈g,f.sort=77\/f.sort=80)->jP pre o kind key c (some h) g e=some i->i.length=h.length+zE c g:=by
 intro g
 induction g with
 | nil=>intro e h i k _ a;cases e<;>simp[jP]at a<;>simp[a,zE]
 | cons f g p =>
  intro e h i k m a;rcases e with _|⟨q,e⟩
  ·simp at k
  simp only[jP]at a;have d:=m f (cC ..);have n:=fun l=>p e l i (by simpa using k) (fun f d=>m f (bA _ d));simp only[zE];by_cases j:f.c=c
  ·rw[aQ j]at a;cases b:QI pre o kind key h f q with
   | none=>rw[b,xG]at a;cases a
   | some l =>
    rw[b]at a;have:=n l a;unfold QI at b;split at b
    ·cases b
    ·rcases d with d|d
     ·rw[aQ d]at b;split at b
      ·cases b;rw[aL (by rw[d];rintro⟨_,a⟩;exact absurd a (by decide))];omega
      ·cases b
     ·rw[aL (by rw[d];decide)]at b;split at b
      ·cases b
      ·split at b
       ·rename_i r;cases b;rw[aQ ⟨j,d⟩];rw[aB]at this;omega
       ·cases b
  ·rw[aL j]at a;have:=n h a;rw[aL (fun a=>j a.1)];omega
theorem Pa(pre:B8)(d:List W9)(kind key:Int)(c:Nat){b:V1}{h:W6}(j:L[n]?=some b)(i:H[n]?=some h)(e:jP pre d kind key c (some []) (L.take n) (H.take n)=some D) :
  jP pre d kind key c (some []) (L.take (n+1)) (H.take (n+1))=if b.c=c then QI pre d kind key D b h else some D:=by
 have l:n<L.length:=by rcases aV.1 j with⟨e,_⟩;exact e
 have m:n<H.length:=by rcases aV.1 i with⟨e,_⟩;exact e
 rw[eD,eD,j,i,xY _ _ _ _ _ _ _ _ _ _ (by simp;omega),e];show jP pre d kind key c (if b.c=c then QI pre d kind key D b h else some D) [] []=_;generalize (if b.c=c then QI pre d kind key D b h else some D)=k;cases k<;>rfl
theorem Ua(pre:B8)(e:List W9)(kind key:Int)(c:Nat)(g:H.length=L.length)(f:jP pre e kind key c (some []) (L.take n) (H.take n)=none):jP pre e kind key c (some []) L H=none:=by
 have:=xY pre e kind key c (L.take n) (H.take n) (L.drop n) (H.drop n) (some []) (by simp[g]);rw[aY,aY,f,xG]at this;exact this
theorem RT(pre:B8)(h:List W9)(kind key:Int){X8 C G P c:Nat}(g:c<C)(f:1<=P)(e:1<=G){M:List W6}(l:M.length=(jR X8 C G P).length){i:Nat}{cells:List Z9}(j:jP pre h kind key c (some []) ((jR X8 C G P).take i) (M.take i)=some cells) :
  cells.length<=X8/\∀a,(jR X8 C G P)[i]?=some a->a.sort=77->a.start<=cells.length:=by
 have d:=IA pre h kind key c _ _ _ _ (by simp[l]) (fun a b=>(XH a (bP b)).symm) j;have k:=CE c i (jR X8 C G P);rw[PO X8 C G P c g f e]at k;simp only[bJ,dh]at d;refine⟨by omega,fun a b m=>?_⟩;have:=Lp X8 C G P c g f e (qc X8 G) (aA _) i a b m;rw[d];exact this
theorem PH(t:List W8)(c:Option (B8)){d:V1}(e:L[n]?=some d):xl t c (L.take (n+1))=((xl t c (L.take n)).1++[(VW (ji t d.c).key (xl t c (L.take n)).2).1],(VW (ji t d.c).key (xl t c (L.take n)).2).2):=by
 rw[eD,e];show xl t c (L.take n++[d])=_;rw[Sx];rfl
theorem BW(e:xl B (some s) L=(H,some r)):V2 B L H/\s=jw B L H++r/\H.length=L.length:=by
 obtain⟨g,c,d,f⟩:=IF B L [] s r H e;rw[bW]at c;subst c;exact⟨d,f,xj d⟩
theorem YQ{f:V1}(d:L[n]?=some f)(g:H.length=n)(e:W6) :
  jK B 4 true (L.take (n+1)) (H++[e])=jK B 4 true (L.take n) H++(if qS true (L.take n)=true then[4+(jw B (L.take n) H).length]else[]):=by
 have h:n<L.length:=(aV.1 d).1;rw[eD,d];show jK B 4 true (L.take n++[f]) (H++[e])=_;rw[QV _ _ _ _ _ _ (by simp;omega)];simp[jK]
theorem Cr{L:List V1}:∀{k:Nat} {b:V1} (c:Bool),L[k]?=some b->qS c (L.take (k+1))=decide (b.sort=77):=by
 induction L with
 | nil=>intro k b c a;simp at a
 | cons e L d =>
  intro k b c a;rcases k with _|k
  ·simp at a;subst a;simp[qS]
  ·simp at a;simp only[dN,qS];exact d _ a
end Go.Proofs.YthhpbhpfagoapaaGreat
