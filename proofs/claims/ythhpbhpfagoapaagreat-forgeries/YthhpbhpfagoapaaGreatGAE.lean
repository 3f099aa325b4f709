import Derived.Test.YthhpbhpfagoapaaGreatGAB
import Derived.WalkSpells
import Derived.WalkLawsBesides
import Derived.Deep.RegionWith
namespace Go.Proofs.YthhpbhpfagoapaaGreat
set_option linter.all false
set_option maxRecDepth 100000
set_option maxHeartbeats 16000000
open Go.RowKit
def QR:Int->B8->Int
 | a,[]=>a
 | a,b::c=>QR ((a*263+(b.toNat:Int)+1)%65521) c
theorem VR(a c:B8):∀b:Int,QR b (a++c)=QR (QR b a) c:=by
 induction a with
 | nil=>intro b;rfl
 | cons e a d=>intro b;simp only[bF,QR];exact d _
theorem Am(c:Int)(b:B8)(a:UInt8):QR c (b++[a])=(QR c b*263+(a.toNat:Int)+1)%65521:=by
 rw[VR];rfl
theorem XL(b:B8):∀a:Int,0<=a->a<=65520->0<=QR a b/\QR a b<=65520:=by
 induction b with
 | nil=>intro a c d;exact⟨c,d⟩
 | cons f b e=>intro a c d;exact e _ (by omega) (by omega)
def qh(n:Int):B8:=[UInt8.ofNat (n%256).toNat,UInt8.ofNat (n/256).toNat]
theorem jx(n:Int):(qh n).length=2:=rfl
def Gt(c b:B8)(a:Nat):Int:=QR 1 (75::(c++b++qh a))
theorem Ew(c b:B8)(a:Nat):0<=Gt c b a/\Gt c b a<=65520:=XL _ 1 (by omega) (by omega)
def Ep(a:UInt8)(b:Int):Nat:=a.toNat ^^^ (b%256).toNat
theorem jbl(a:UInt8)(b:Int):Ep a b<256:=by
 unfold Ep;exact Nat.xor_lt_two_pow (n:=8) (by have:=a.toNat_lt;omega) (by omega)
theorem MF(a:UInt8)(b:Int):bits .xor .u8 (a.toNat:Int) (b%256)=(Ep a b:Int):=by
 have c:=a.toNat_lt;rw[u8_xor _ _ (by omega) (by omega) (by omega) (by omega)];simp[Ep]
def IL(a:UInt8)(b:Int):UInt8:=UInt8.ofNat (Ep a b)
theorem GG(a:UInt8)(b:Int):(IL a b).toNat=Ep a b:=by
 unfold IL;simp only[dG];exact dR (jbl a b)
theorem Fz(a:UInt8)(b:Int):IL (IL a b) b=a:=by
 have c:Ep (IL a b) b=a.toNat:=by
  unfold Ep;rw[GG];unfold Ep;rw[Nat.xor_assoc,Nat.xor_self,Nat.xor_zero]
 unfold IL at c ⊢;rw[c];exact UInt8.ofNat_toNat
theorem LI(b:B8)(a:Nat)(c:a<b.length):b.getD a 0=b[a]:=by simp[List.getD,c]
def Qu(d c text:B8)(b:Nat):B8:=(List.range b).map fun a=>IL (text.getD a 0) (Gt d c a)
theorem Uo(c b text:B8)(a:Nat):(Qu c b text a).length=a:=by simp[Qu]
theorem Yo(c b text:B8)(a:Nat):Qu c b text (a+1)=Qu c b text a++[IL (text.getD a 0) (Gt c b a)]:=by
 simp[Qu,cI]
def zD(b a text:B8):B8:=Qu b a text text.length
theorem zS(b a text:B8):(zD b a text).length=text.length:=Uo _ _ _ _
theorem YI(b a text:B8):zD b a (zD b a text)=text:=by
 apply dS
 ·simp[zS]
 ·intro c g d;have e:(zD b a (zD b a text))[c]=IL ((zD b a text).getD c 0) (Gt b a c):=by
   simp[zD,Qu]
  have f:(zD b a text).getD c 0=IL (text.getD c 0) (Gt b a c):=by
   have:c<(zD b a text).length:=by rw[zS];exact d
   rw[LI _ _ this];simp[zD,Qu]
  rw[e,f,Fz,LI _ _ d]
def Rn(d c a b:B8):B8:=qh (QR 1 (84::(d++c++qh (a.length:Int)++a++b)))
def zg(b a c plain:B8):B8:=zD b a plain++Rn b a c (zD b a plain)
theorem zT(c b a plain:B8):(zg c b a plain).length=plain.length+2:=by
 simp[zg,zS,Rn,qh]
theorem I{p:Prop}(a:p):J p:=a
abbrev S(a:List UInt8):Value:=.string ⟨a.toArray⟩
variable{l r s:B8}
theorem qH(c:s=r):Ending.returned (S s)=.returned (S r):=by rw[c]
theorem jad(n:Int):bits .and .i64 n 255=n%256:=by
 have a:(BitVec.ofInt 64 255).toNat=2^8-1:=by decide
 have key:(BitVec.ofInt 64 n &&& BitVec.ofInt 64 255).toNat=(n%((2^64:Nat):Int)).toNat%2^8:=by
  rw[BitVec.toNat_and,BitVec.toNat_ofInt,a,fx]
 show IntKind.i64.wrap ((BitVec.ofInt 64 n &&& BitVec.ofInt 64 255).toNat:Nat)=n%256;rw[key,kE];omega
theorem Tt(c:W)(a b:Int)(e:0<=a)(f:a<=255)(g:0<=b)(h:b<=255) :
  Sem.run Tryz.prog (convert 149 9 (R c.heap.size 2 2)) (c.alloc (.cells #[.int .u8 a,.int .u8 b] 5)) =
   .ok (S [UInt8.ofNat a.toNat,UInt8.ofNat b.toNat]) (c.alloc (.cells #[.int .u8 a,.int .u8 b] 5)):=by
 refine kS (P:=Tryz.prog) _ 149 9 5 (A c.heap.size 0) 2 [UInt8.ofNat a.toNat,UInt8.ofNat b.toNat] Tryz.underlying149 Tryz.underlying5 Tryz.underlying9 ?_;intro j d
 match j,d with
 | 0,_=>simp[Addr.add];omega
 | 1,_=>simp[Addr.add];omega
theorem XD(n:Int)(a:W)(d:0<=n)(e:n<=65535) :
  C' 220 #[N n] a fun b c=>b=.returned (S (qh n))/\Below a.heap.size a c:=by
 have f:=Tt a (n%256) (n/256) (by omega) (by omega) (by omega) (by omega);go_enter Tryz.func220,Tryz.ntmps220;go_wp2;go_ret;exact⟨rfl,(k8 _ _).alloc (aA _) _⟩
theorem Jg(n:Int)(a:W)(f:0<=n)(g:n<=65535) :
  C' 84 #[N n] a fun b c=>b=.returned (S (qh n))/\Below a.heap.size a c:=by
 have h:=Tt a (n%256) (n/256) (by omega) (by omega) (by omega) (by omega);have d:bits .and .i64 n 255=n%256:=jad n;have e:bits .and .i64 (n/256) 255=n/256:=by rw[jad];omega
 go_enter Tryz.func84,Tryz.ntmps84;go_wp2;go_ret;exact⟨rfl,(k8 _ _).alloc (aA _) _⟩
theorem Gh(b:ByteArray)(a:Nat)(c:a<b.size):b.data.toList.take (a+1)=b.data.toList.take a++[b[a]]:=by
 rw[aH (by simpa using c)];rfl
theorem qX{c:IntKind}{a b:Int}(d:a=b):Ending.returned (.int c a)=.returned (.int c b):=by rw[d]
theorem Ii(a:ByteArray)(e:W)(i:a.size<=maxLen) :
  C' 123 #[.string a] e fun g j=>g=.returned (N (QR 1 a.data.toList))/\j=e:=by
 unfold maxLen at i;go_enter Tryz.func123,Tryz.ntmps123;go_wp2;go_loop [3,4] (fun t d=>∃b:Nat,b<=a.size/\d=N b/\t=N (QR 1 (a.data.toList.take b))) (fun _ d=>a.size-(intOf d).toNat)
 case atStart=>exact⟨0,aG _,rfl,rfl⟩
 case round =>
  obtain⟨b,n,rfl,rfl⟩:=hrel;have h:=XL (a.data.toList.take b) 1 (by omega) (by omega);obtain⟨l,m⟩:=h;by_cases c:b<a.size
  ·have k:=(a[b]'c).toNat_lt;have f:J (QR 1 (a.data.toList.take (b+1))=(QR 1 (a.data.toList.take b)*263+((a[b]'c).toNat:Int)+1)%65521):=by
    rw[Gh a b c];exact Am _ _ _
   go_wp2;go_round
   ·exact⟨b+1,by omega,by go_num,by rw[f.o,gG]⟩
   ·simp[intOf];omega
  ·go_wp2;go_ret;exact⟨qX (by rw[aU (by simp;omega)]),rfl⟩
def zj(parts:List ByteArray):B8:=parts.flatMap (·.data.toList)
theorem GQ(parts:List ByteArray)(a:Nat)(b:a<parts.length):zj (parts.take (a+1))=zj (parts.take a)++parts[a].data.toList:=by
 unfold zj;rw[aH b];simp only[cE,cu,fo,aT]
theorem AH(c:Int)(parts:List ByteArray)(i o:Nat)(h:W)(q:0<=c)(r:c<=65520)(G:parts.length<=1000)
  (l:∀x∈parts,x.size<=maxLen)
  (k:∀j (y:j<parts.length),h.cell? (A i j)=some (.string parts[j])) :
  C' 264 #[N c,R i parts.length o] h fun p w=>p=.returned (N (QR c (zj parts)))/\w=h:=by
 go_enter Tryz.func264,Tryz.ntmps264;go_wp2;go_loop [0,10] (fun t d=>∃a:Nat,a<=parts.length/\d=N a/\t=N (QR c (zj (parts.take a)))) (fun _ d=>parts.length-(intOf d).toNat)
 case atStart=>exact⟨0,aG _,rfl,rfl⟩
 case round =>
  obtain⟨a,E,rfl,rfl⟩:=hrel;by_cases e:a<parts.length
  ·have B:=k a e;have v:(parts[a]'e).size<=maxLen:=l _ (aJ e);unfold maxLen at v;have m:J (QR c (zj (parts.take (a+1)))=QR (QR c (zj (parts.take a))) (parts[a]'e).data.toList):=by
    rw[GQ parts a e,VR];exact rfl
   obtain⟨s,u⟩:=XL (zj (parts.take a)) c q r;generalize QR c (zj (parts.take a))=f at *;generalize (parts[a]'e)=part at *;clear k l;go_wp2;go_loop [0,16] (fun t d=>∃b:Nat,b<=part.size/\d=N b/\t=N (QR f (part.data.toList.take b))) (fun _ d=>part.size-(intOf d).toNat)
   case atStart=>exact⟨0,aG _,rfl,rfl⟩
   case round =>
    obtain⟨b,F,rfl,rfl⟩:=hrel;obtain⟨C,D⟩:=XL (part.data.toList.take b) f s u;by_cases g:b<part.size
    ·have z:=(part[b]'g).toNat_lt;have n:J (QR f (part.data.toList.take (b+1))=(QR f (part.data.toList.take b)*263+((part[b]'g).toNat:Int)+1)%65521):=by
      rw[Gh part b g];exact Am _ _ _
     go_wp2;go_round
     ·exact⟨b+1,by omega,by go_num,by rw[n.o]⟩
     ·simp[intOf];omega
    ·go_wp2;go_round
     ·exact⟨a+1,by omega,by go_num,by rw[m.o,aU (by simp;omega)]⟩
     ·simp[intOf];omega
  ·go_wp2;go_ret;exact⟨qX (by rw[aU (by omega)]),rfl⟩
theorem jdb(parts:List ByteArray)(b c:Nat)(a:W)(k:parts.length<=1000)
  (f:∀l∈parts,l.size<=maxLen)
  (e:∀j (m:j<parts.length),a.cell? (A b j)=some (.string parts[j])) :
  C' 263 #[R b parts.length c] a fun d g=>d=.returned (N (QR 1 (zj parts)))/\g=a:=by
 have h:=I e;have i:=I f;clear e f;go_enter Tryz.func263,Tryz.ntmps263;go_wp2_with fail;refine(AH 1 parts b c a (by decide) (by decide) k i.o h.o).mono ?_;rintro d g ⟨rfl,rfl⟩;go_wp2;go_ret;exact⟨rfl,rfl⟩
theorem VH(c:W)(parts:List ByteArray)(a:V')(d:a=(parts.map Value.string).toArray)(t:TypeId) :
  ∀j (b:j<parts.length),(c.alloc (.cells a t)).cell? (A c.heap.size j)=some (.string parts[j]):=by
 intro j b;rw[kF,d];simp[b]
theorem LP(parts:List ByteArray)(b:V')(n:Nat)(a:W)(g:b=(parts.map Value.string).toArray)(h:parts.length=n)(i:n<=1000)(j:∀k∈parts,k.size<=maxLen) :
  C' 263 #[R a.heap.size n n] (a.alloc (.cells b 9)) fun c d=>c=.returned (N (QR 1 (zj parts)))/\a.alloc (.cells b 9)=d:=by
 subst h;refine(jdb parts a.heap.size parts.length _ i j (VH a parts b g _)).mono ?_;rintro c d ⟨e,f⟩;exact⟨e,f.symm⟩
theorem Fh(a:Int)(parts:List ByteArray)(c:V')(n:Nat)(b:W)(g:0<=a)(d:a<=65520)(i:c=(parts.map Value.string).toArray)(j:parts.length=n)(k:n<=1000)(l:∀m∈parts,m.size<=maxLen) :
  C' 264 #[N a,R b.heap.size n n] (b.alloc (.cells c 9)) fun e f=>e=.returned (N (QR a (zj parts)))/\b.alloc (.cells c 9)=f:=by
 subst j;refine(AH a parts b.heap.size parts.length _ g d k l (VH b parts c i _)).mono ?_;rintro e f ⟨d,h⟩;exact⟨d,h.symm⟩
theorem jT(a:B8):(⟨a.toArray⟩:ByteArray).size=a.length:=by simp[ByteArray.size]
theorem Bv(e d b a:ByteArray)(c:B8):zj [⟨#[84]⟩,e,d,⟨c.toArray⟩,b,a]=84::(e.data.toList++d.data.toList++c++b.data.toList++a.data.toList):=by
 simp[zj]
theorem Df(d c a b:ByteArray)(f:W)(j:d.size<=maxLen)(k:c.size<=maxLen)(r:a.size<=5000)(l:b.size<=maxLen) :
  C' 239 #[.string d,.string c,.string a,.string b] f fun e o =>
   e=.returned (S (Rn d.data.toList c.data.toList a.data.toList b.data.toList))/\Below f.heap.size f o:=by
 go_enter Tryz.func239,Tryz.ntmps239;go_wp2_with fail;refine(XD _ _ (by omega) (by omega)).mono ?_;rintro e p ⟨rfl,g⟩;go_wp2_with fail;refine(LP [⟨#[84]⟩,d,c,⟨(qh (a.size:Int)).toArray⟩,a,b] _ 6 p rfl rfl (by decide) ?_).mono ?_
 ·intro u h;simp only[bD,bH,dm]at h;rcases h with rfl|rfl|rfl|rfl|rfl|rfl
  ·decide
  ·exact j
  ·exact k
  ·rw[jT,jx];decide
  ·unfold maxLen;omega
  ·exact l
 rintro e q ⟨rfl,rfl⟩;go_wp2_with fail;rw[Bv];have s:=XL (84::(d.data.toList++c.data.toList++qh (a.size:Int)++a.data.toList++b.data.toList)) 1 (by decide) (by decide);have i:J (qh (QR 1 (84::(d.data.toList++c.data.toList++qh (a.size:Int)++a.data.toList++b.data.toList)))=Rn d.data.toList c.data.toList a.data.toList b.data.toList):=by
  unfold Rn;simp[J]
 generalize QR 1 (84::(d.data.toList++c.data.toList++qh (a.size:Int)++a.data.toList++b.data.toList))=t at *;refine(XD t _ (by omega) (by omega)).mono ?_;rintro e q ⟨rfl,m⟩;go_wp2;go_ret;refine⟨qH i.o,?_⟩;have n:=g.size;exact(g.alloc n _).trans (m.mono (by simp;omega))
theorem Tryz.a4:(Tryz.prog.info? 5).map (fun a=>(a.zero,a.size,a.bytes))=some (some (.int .u8 0),1,1):=by kernel_rfl
def qW(b:B8):List Value:=b.map fun a=>.int .u8 (a.toNat:Int)
theorem Bh(b:List Value)(d v:Value)(n a:Nat)(e:b.length=a)(h:a<n):(b++List.replicate (n-a) d).set a v=(b++[v])++List.replicate (n-(a+1)) d:=by
 obtain⟨c,f⟩:∃c,n-a=c+1:=⟨n-a-1,by omega⟩;have g:n-(a+1)=c:=by omega
 rw[f,g,bI _ _ (by omega),dt,e];simp
variable{t u v w:W}{i k m n:Nat}
theorem Fi(h:w.ownsRow n 5 1 (R m k k) k (qW (Qu s r l i)++List.replicate (k-i) (.int .u8 0)))(g:i<k) :
  (w.setCell (A m i) (.int .u8 (Ep (l.getD i 0) (Gt s r i):Int))).ownsRow n 5 1 (R m k k) k (qW (Qu s r l (i+1))++List.replicate (k-(i+1)) (.int .u8 0)):=by
 have f:=(h.stored i (.int .u8 (Ep (l.getD i 0) (Gt s r i):Int))).1;rw[Bh _ _ _ k i (by simp[qW,Uo]) g]at f;rw[Yo];simpa[qW,GG]using f
variable{C:List Value}
theorem Wx(f:w.ownsRow n 5 1 (R m k k) k (C++List.replicate (k-i) (.int .u8 0)))(h:C.length=i)(j:i<k) :
  w.cell? (A m i)=some (.int .u8 0):=by
 obtain⟨d,g⟩:∃d,k-i=d+1:=⟨k-i-1,by omega⟩;rw[f.cellAt i (by omega),bM (by omega),h,g,fV,dt];rfl
theorem Rj(a:Below w.heap.size w v):w.grownBy v none:=⟨a.os,a.tape,a.output,a.size,fun e d _=>a.block e d⟩
theorem jg(a:Below n w.drew v):Below n w v:=⟨a.os,a.tape,a.output,a.size,a.block⟩
theorem Pj(e:UInt8)(o:Obj)(d:l.getD k 0=e)
  (i:v.ownsRow w.heap.size 5 1 (R n m m) m (qW (Qu s r l k)++List.replicate (m-k) (.int .u8 0)))(p:k<m)
  (j:Below w.heap.size w v)(f:n<v.heap.size)(h:Below v.heap.size v u) :
  ((u.setCell (A n k) (.int .u8 (bits .xor .u8 (e.toNat:Int) (Gt s r k%256)))).alloc o).ownsRow w.heap.size 5 1 (R n m m) m (qW (Qu s r l (k+1))++List.replicate (m-(k+1)) (.int .u8 0)) /\
  Below w.heap.size w ((u.setCell (A n k) (.int .u8 (bits .xor .u8 (e.toNat:Int) (Gt s r k%256)))).alloc o) /\
  n<((u.setCell (A n k) (.int .u8 (bits .xor .u8 (e.toNat:Int) (Gt s r k%256)))).alloc o).heap.size:=by
 subst d;rw[MF];have b:=i.kept (Rj h) (.inr (by simp[Value.ownBlock]));have g:=(i.lt n rfl).1;have c:=h.size;have q:=j.size;refine⟨(Fi b p).alloc _,?_,?_⟩
 ·exact((j.trans (h.mono q)).setCell g _).alloc (by simp;omega) _
 ·simp;omega
theorem CY{l:B8}(d:w.ownsRow n 5 1 (R m k i) k (qW l))(f:l.length=k) :
  Sem.run Tryz.prog (convert 149 9 (R m k i)) w=.ok (S l) w:=by
 subst f;refine kS (P:=Tryz.prog) _ 149 9 5 (A m 0) i l Tryz.underlying149 Tryz.underlying5 Tryz.underlying9 ?_;intro j e;have:((A m 0):Addr).add j=(A m j):=by unfold Addr.add;split<;>simp_all
 rw[this,d.cellAt j (by omega)];simp[qW,e]
theorem AG(b:ByteArray)(a:Nat)(c:a<b.size):b.data.toList.getD a 0=b[a]:=by
 have d:a<b.data.toList.length:=by simpa using c
 simp only[List.getD,aR d,eO];simp;rfl
theorem Bz(a:B8):zj [⟨a.toArray⟩]=a:=by simp[zj]
theorem BF(b a:ByteArray):zj [⟨#[75]⟩,b,a]=75::(b.data.toList++a.data.toList):=by
 simp[zj]
theorem Tn(d c text:ByteArray)(b:W)(L:d.size<=maxLen)(M:c.size<=maxLen)(h3:text.size<=5000) :
  C' 240 #[.string d,.string c,.string text] b fun k w' =>
   k=.returned (S (zD d.data.toList c.data.toList text.data.toList))/\Below b.heap.size b w':=by
 obtain⟨i0,O,X,Y,Z⟩:=ks Tryz.a4;go_enter Tryz.func240,Tryz.ntmps240;go_wp2_with fail;refine(LP [⟨#[75]⟩,d,c] _ 3 b rfl rfl (by decide) ?_).mono ?_
 ·intro x j;simp only[bD,bH,dm]at j;rcases j with rfl|rfl|rfl
  ·decide
  ·exact L
  ·exact M
 rintro k w2 ⟨rfl,rfl⟩;rw[BF];have T:=XL (75::(d.data.toList++c.data.toList)) 1 (by decide) (by decide);obtain⟨U,V⟩:=T;have E:J (∀f:Nat,QR (QR 1 (75::(d.data.toList++c.data.toList))) (qh f)=Gt d.data.toList c.data.toList f):=by
  intro f;rw[<-VR];rfl
 generalize QR 1 (75::(d.data.toList++c.data.toList))=t at *;go_wp2_with(at_make;refine kN _ rfl (.tmp 15) (.tmp 15) 149 rfl b.heap.size 5 i0 (.int .u8 0) 1 Tryz.underlying149 O X Y .i64 .i64 _ _ text.size rfl rfl rfl rfl (by rw[Z];omega) (by unfold maxLen;omega) (by simp) ?_;intro D e z);have q:(b.alloc (Obj.cells #[Value.string ⟨#[75]⟩,Value.string d,Value.string c] 9)).heap.size=b.heap.size+1:=by simp
 rw[q]at e;have u:Below b.heap.size b D:=((k8 _ _).alloc (aA _) _).grown z (by rw[q];omega) (fun _ K=>by cases K);have v:b.heap.size+1<D.heap.size:=(e.lt _ rfl).2;have C:(madeCells (Value.int IntKind.u8 0).cells (text.size*1)).toList=qW (Qu d.data.toList c.data.toList text.data.toList 0)++List.replicate (text.size-0) (.int .u8 0):=by
  show(madeCells #[Value.int IntKind.u8 0] (text.size*1)).toList=_;rw[lr];simp[qW,Qu]
 rw[C]at e;clear C z q;generalize b.heap.size+1=g at *;go_loopw [19] (fun f wr=>∃a:Nat,a<=text.size/\f=N a/\wr.ownsRow b.heap.size 5 1 (R g text.size text.size) text.size (qW (Qu d.data.toList c.data.toList text.data.toList a)++List.replicate (text.size-a) (.int .u8 0))/\Below b.heap.size b wr/\g<wr.heap.size)
  (fun f _=>text.size-(intOf f).toNat)
 case atStart=>exact⟨0,aG _,rfl,e,u,v⟩
 case round =>
  clear e u v;obtain⟨a,hk,rfl,e,o,h⟩:=hrel;by_cases m:a<text.size
  ·have B:=E.o a;have w:=Wx e (by simp[qW,Uo]) m;have x:=e.frozenAt a;obtain⟨am,ap⟩:=Ew d.data.toList c.data.toList a;have y:=AG text a m;have F:=I y;clear y;go_wp2_with fail;go_region_with (first
    | (go_at_call 220;refine(XD _ _ (by omega) (by omega)).mono ?_;rintro k r ⟨rfl,i⟩;have f0:g<r.heap.size:=aC h i.size;have G:r.cell? (A g a)=some (.int .u8 0):=(i.cell (p:=A g a) h).trans w;have H:r.frozen? (A g a)=false:=(i.frozen (p:=A g a) h).trans x)
    | (go_at_call 264;refine(Fh t [⟨(qh (a:Int)).toArray⟩] _ 1 _ U V rfl rfl (by decide) (by intro x j;simp only[bD,bH,dm]at j;subst j;rw[jT,jx];decide)).mono ?_;rintro k w5 ⟨rfl,rfl⟩;rw[Bz,B]))
   all_goals
    have s:=Pj (text[a]'m) (Obj.cells #[Value.string ⟨(qh (a:Int)).toArray⟩] 9) F.o e m o h (jg i);clear w x f0 G H i B e o h;have n:=I s;clear s;go_wp2;go_roundw
    ·exact⟨a+1,by omega,by go_num,n.o.1,n.o.2.1,n.o.2.2⟩
    ·simp[intOf];omega
  ·have P:a=text.size:=(by omega);subst P;have ac:=CY (l:=zD d.data.toList c.data.toList text.data.toList) (by simpa[zD]using e) (by simp[zS]);go_wp2;go_ret;exact⟨rfl,o⟩
variable{x y:Value}
theorem VO{K0:W}{base n:Nat}(b:K0.ownsRow base 5 1 x n (qW s)) :
  Sem.run Tryz.prog (convert 149 9 x) K0=.ok (S s) K0:=by
 have c:s.length=n:=by simpa[qW]using b.1
 rcases b.2 with⟨rfl,rfl⟩|⟨g,d,e,rfl,_⟩
 ·have:s=[]:=aO c;subst this;exact run_convert_bytes_nil (P:=Tryz.prog) K0 149 5 Tryz.underlying149 Tryz.underlying5 0 0 9 Tryz.underlying9
 ·exact CY b c
theorem VJ(parts:List ByteArray)(a:Nat)(b:a<parts.length):(zj (parts.take (a+1))).length=(zj (parts.take a)).length+parts[a].size:=by
 rw[GQ parts a b,aB];simp
theorem Zd(parts:List ByteArray)(a:Nat):(zj (parts.take a)).length<=(zj parts).length:=by
 have:zj parts=zj (parts.take a)++zj (parts.drop a):=by
  unfold zj;rw[<-cE,aY]
 rw[this,aB];omega
theorem Cs(a:ByteArray):Lib.strCells a=qW a.data.toList:=rfl
theorem ZH(a b:B8):qW (a++b)=qW a++qW b:=by simp[qW]
theorem SD{b:ByteArray}(e:Below w.heap.size w v)(i:v.ownsRow w.heap.size 5 1 x n (qW s))
  (j:u.ownsRow w.heap.size 5 1 y (n+b.size) (qW s++Lib.strCells b))(g:v.grownBy u x.ownBlock) :
  u.ownsRow w.heap.size 5 1 y (n+b.size) (qW (s++b.data.toList))/\Below w.heap.size w u:=by
 rw[ZH,<-Cs];exact⟨j,e.grown g e.size (fun k h=>(i.lt k h).1)⟩
theorem MD(parts:List ByteArray)(f K:Nat)(b:W)(Z:parts.length<=1000)(hs:(zj parts).length<=1000000)(O:f<b.heap.size)
  (s:∀j (o:j<parts.length),b.cell? (A f j)=some (.string parts[j])) :
  C' 194 #[R f parts.length K] b fun L V=>L=.returned (S (zj parts))/\Below b.heap.size b V:=by
 obtain⟨E,y,B,C,D⟩:=ks Tryz.a4;have n:=I s;clear s;go_enter Tryz.func194,Tryz.ntmps194;go_wp2;go_loop [3,11] (fun t e=>∃a:Nat,a<=parts.length/\e=N a/\t=N ((zj (parts.take a)).length:Int)) (fun _ e=>parts.length-(intOf e).toNat)
 case atStart=>exact⟨0,aG _,rfl,rfl⟩
 case round =>
  obtain⟨a,P,rfl,rfl⟩:=hrel;by_cases c:a<parts.length
  ·have u:=n.o a c;have T:=Zd parts a;have l:=Zd parts (a+1);have h:=VJ parts a c;have i:=I h;have U:(parts[a]'c).size<=1000000:=(by omega);clear l h;generalize (zj (parts.take a)).length=m0 at *;generalize (parts[a]'c)=part at *;go_wp2;go_round
   ·exact⟨a+1,by omega,by go_num,by rw[i.o];go_num⟩
   ·simp[intOf];omega
  ·have k:a=parts.length:=(by omega);subst k;rw[aS];generalize r:(zj parts).length=H at *;have G:=I r;clear r;go_wp2_with(at_make;refine l7 _ rfl (.const (N 0)) (.tmp 20) 149 rfl b.heap.size 5 E (.int .u8 0) 1 Tryz.underlying149 y B C .i64 .i64 _ H rfl rfl rfl (by rw[D];omega) (by unfold maxLen;omega) (aA _) ?_;intro X d w);have q:Below b.heap.size b X:=(k8 _ _).grown w (aA _) (fun _ o=>by cases o);clear w;go_loopw [6,24] (fun v e wr=>∃a:Nat,a<=parts.length/\e=N a/\wr.ownsRow b.heap.size 5 1 v (zj (parts.take a)).length (qW (zj (parts.take a)))/\Below b.heap.size b wr)
    (fun _ e _=>parts.length-(intOf e).toNat)
   case atStart=>exact⟨0,aG _,rfl,d,q⟩
   case round =>
    clear d q;obtain⟨a,P,rfl,d,g⟩:=hrel;by_cases c:a<parts.length
    ·have u:wr.cell? (A f a)=some (.string (parts[a]'c)):=(g.cell (p:=A f a) O).trans (n.o a c);have T:=Zd parts a;have l:=Zd parts (a+1);have h:=VJ parts a c;have i:=I h;have F:=I (GQ parts a c);have M:=G.o;have U:(zj (parts.take a)).length+(parts[a]'c).size<=1000000:=(by omega);clear l h M;generalize zj (parts.take a)=l0 at *;generalize (parts[a]'c)=part at *;go_wp2_with(at_builtin;refine Lib.wpList_append_own_string _ rfl (.tmp 28) (.tmp 29) 149 9 rfl b.heap.size 5 E Tryz.underlying149 Tryz.underlying9 y B C D _ _ _ rfl d part rfl (by unfold maxLen;omega) (by omega) g.size ?_;intro v2 w2 z x _);have m:=I (SD g d z x);clear d z x g u;go_wp2;go_roundw
     ·exact⟨a+1,by omega,by go_num,by rw[i.o,F.o];exact m.o.1,m.o.2⟩
     ·simp[intOf];omega
    ·have k:a=parts.length:=(by omega);subst k;rw[aS]at d;have Y:=VO d;go_wp2;go_ret;exact⟨rfl,g⟩
def T4(a:Int):UInt8:=UInt8.ofNat a.toNat
theorem zC(a:Int)(b:0<=a)(c:a<=255):((T4 a).toNat:Int)=a:=by
 unfold T4;simp only[dG];omega
theorem Cy(a:UInt8):T4 (a.toNat:Int)=a:=by
 unfold T4;simp
def uB(n:Nat):B8:=if _h:n>127 then T4 ((n:Int)%128+128)::uB (n/128)else[T4 (n:Int)]
theorem Qe{n:Nat}(a:n<=127):uB n=[T4 (n:Int)]:=by
 rw[uB,dif_neg (by omega)]
theorem KJ{n:Nat}(a:127<n):uB n=T4 ((n:Int)%128+128)::uB (n/128):=by
 rw[uB,dif_pos a]
theorem jfc:∀(a n:Nat),n<128^(a+1)->(uB n).length<=a+1:=by
 intro a
 induction a with
 | zero=>intro n b;rw[Qe (by omega)];simp
 | succ a d =>
  intro n b;by_cases c:n<=127
  ·rw[Qe c];simp
  ·rw[KJ (by omega)];have:n/128<128^(a+1):=by
    rw[gf (by decide)];rw[eL]at b;exact b
   have:=d _ this;simp;omega
theorem jO(n:Nat)(a:n<18446744073709551616):(uB n).length<=10:=jfc 9 n (by omega)
theorem jex(n:Nat):1<=(uB n).length:=by
 by_cases a:n<=127
 ·rw[Qe a];simp
 ·rw[KJ (by omega)];simp
def zN(n:Int):Nat:=if 0<=n then 2*n.toNat else 2*(-(n+1)).toNat+1
def zB(n:Int):B8:=uB (zN n)
theorem TH(n:Int)(a:-9223372036854775808<=n)(b:n<=9223372036854775807):zN n<18446744073709551616:=by
 unfold zN;split<;>omega
def Vz(v:Nat):Nat->Nat
 | 0=>v
 | a+1=>Vz v a/256
theorem jck(v a:Nat)(b:v<18446744073709551616):Vz v a<18446744073709551616:=by
 induction a with
 | zero=>exact b
 | succ a c=>simp only[Vz];omega
def VA(v:Nat):Nat->B8
 | 0=>[]
 | a+1=>VA v a++[T4 ((Vz v a:Int)%256)]
theorem ZV(v a:Nat):(VA v a).length=a:=by
 induction a with
 | zero=>rfl
 | succ a b=>simp[VA,b]
def bB(n:Int):B8:=VA (n%18446744073709551616).toNat 8
theorem Ks(n:Int):(bB n).length=8:=ZV _ _
def xB(a:B8):B8:=uB a.length++a
def qC(n:Int):Option (B8)->B8×Option (B8)
 | none=>([],none)
 | some a=>if n<0\/(a.length:Int)<n then([],none)else(a.take n.toNat,some (a.drop n.toNat))
variable{K:Int}
theorem Zi(b:K<0\/(s.length:Int)<K):qC K (some s)=([],none):=by
 show(if K<0\/(s.length:Int)<K then([],none)else(s.take K.toNat,some (s.drop K.toNat)))=_;rw[aQ b]
theorem Qc(b:0<=K)(c:K<=(s.length:Int)):qC K (some s)=(s.take K.toNat,some (s.drop K.toNat)):=by
 show(if K<0\/(s.length:Int)<K then([],none)else(s.take K.toNat,some (s.drop K.toNat)))=_;rw[aL (by omega)]
def uP:Nat->Nat->Nat->Option (B8)->Nat×Option (B8)
 | 0,_,_,_=>(0,none)
 | d+1,n,a,e =>
  match qC 1 e with
  | (c::_,some b)=>if c.toNat<128 then((n+a*(c.toNat%128))%18446744073709551616,some b)else uP d ((n+a*(c.toNat%128))%18446744073709551616) (a*128%18446744073709551616) (some b)
  | _=>(0,none)
theorem Ar(b:Option (B8)):(qC 1 b=([],none))\/∃c a,b=some (c::a)/\qC 1 b=([c],some a):=by
 cases b with
 | none=>exact .inl rfl
 | some a =>
  cases a with
  | nil=>left;exact Zi (.inr (by simp))
  | cons c a=>right;exact⟨c,a,rfl,by rw[Qc (by omega) (by simp;omega)];rfl⟩
def uR(a:Option (B8)):Nat×Option (B8):=uP 10 0 1 a
theorem jfy:∀(a n b:Nat) (c:Option (B8)),(uP a n b c).1<18446744073709551616:=by
 intro a
 induction a with
 | zero=>intro n b c;exact fQ _
 | succ a d =>
  intro n b c;simp only[uP];split
  ·split
   ·exact fU _ (by decide)
   ·exact d _ _ _
  ·exact fQ _
theorem Bl(a:Option (B8)):(uR a).1<18446744073709551616:=jfy _ _ _ _
def qa(b:Nat)(a:Option (B8)):Nat×Option (B8):=if b<(uR a).1 then(0,none)else uR a
def xR(a:Nat)(b:Option (B8)):B8×Option (B8):=qC ((qa a b).1:Int) (qa a b).2
theorem zI(a:Nat)(b:Option (B8)):(qa a b).1<=a:=by
 unfold qa;split
 ·exact aG _
 ·omega
def F9(n:Nat):Int:=if n%2=0 then(n/2:Nat)else -((n/2:Nat):Int)-1
def GH:B8->Nat
 | []=>0
 | c::a=>(256*GH a+c.toNat)%18446744073709551616
theorem jaq(t:B8)(a:Nat)(b:a<t.length):GH (t.drop a)=(256*GH (t.drop (a+1))+(t[a]).toNat)%18446744073709551616:=by
 rw[bK b];rfl
theorem jcm(a:B8):GH a<18446744073709551616:=by
 cases a with
 | nil=>exact fQ _
 | cons c a=>exact fU _ (by decide)
def bR(a:Option (B8)):Int×Option (B8):=(wrap64 (GH (qC 8 a).1:Int),(qC 8 a).2)
theorem SR(a:Option (B8)):(qC 8 a).1.length<=8:=by
 cases a with
 | none=>simp[qC]
 | some c =>
  by_cases b:(c.length:Int)<8
  ·rw[Zi (.inr b)];simp
  ·rw[Qc (by omega) (by omega)];simp only[aM];omega
theorem Ip(c:UInt8)(a:B8):qC 1 (some (c::a))=([c],some a):=by
 rw[Qc (by omega) (by simp;omega)];rfl
theorem ZF(a b:B8):qC (a.length:Int) (some (a++b))=(a,some b):=by
 rw[Qc (by omega) (by simp;omega)];simp
theorem Xl(n:Nat)(a:n<=255):(T4 (n:Int)).toNat=n:=by
 have:=zC (n:Int) (by omega) (by omega);omega
theorem Mq(e b a:Nat)(c:UInt8)(d:B8):uP (e+1) b a (some (c::d)) =
  if c.toNat<128 then((b+a*(c.toNat%128))%18446744073709551616,some d)else uP e ((b+a*(c.toNat%128))%18446744073709551616) (a*128%18446744073709551616) (some d):=by
 simp only[uP,Ip]
theorem jff(d:B8):∀(c n b a:Nat),n<128^(c+1)->b+a*n<18446744073709551616->uP (c+1) b a (some (uB n++d))=(b+a*n,some d):=by
 intro c
 induction c with
 | zero =>
  intro n b a e f;have m:n<=127:=by omega
  rw[Qe m];show uP (0+1) b a (some (T4 (n:Int)::d))=_;rw[Mq,Xl n (by omega),aQ (by omega),dR (show n<128 by omega),dR f]
 | succ c p =>
  intro n b a e f;by_cases o:n<=127
  ·rw[Qe o];show uP (c+1+1) b a (some (T4 (n:Int)::d))=_;rw[Mq,Xl n (by omega),aQ (by omega),dR (show n<128 by omega),dR f]
  ·rw[KJ (by omega)];have l:(T4 ((n:Int)%128+128)).toNat=n%128+128:=by
    have:=Xl (n%128+128) (by omega);have h:(((n%128+128:Nat)):Int)=(n:Int)%128+128:=(by omega);rw[h]at this;exact this
   show uP (c+1+1) b a (some (T4 ((n:Int)%128+128)::(uB (n/128)++d)))=_;rw[Mq,l,aL (by omega)];have i:(n%128+128)%128=n%128:=(by omega);have j:a*n=a*(n%128)+a*128*(n/128):=by
    have k:=Nat.mod_add_div n 128;have g:a*(n%128+128*(n/128))=a*(n%128)+a*128*(n/128):=(by rw[gj,fM]);rw[k]at g;exact g
   have q:1<=n/128:=(by omega);have r:a*128<=a*128*(n/128):=Nat.le_mul_of_pos_right _ (by omega);rw[i,dR (show b+a*(n%128)<18446744073709551616 by omega),dR (show a*128<18446744073709551616 by omega)];rw[p (n/128) (b+a*(n%128)) (a*128) (by rw[gf (by decide)];rw[eL]at e;exact e) (by omega)];rw[j,dq]
theorem LV(n:Nat)(a:B8)(b:n<18446744073709551616):uR (some (uB n++a))=(n,some a):=by
 unfold uR;rw[jff a 9 n 0 1 (by omega) (by omega)];simp
theorem QT(a n:Nat)(b:B8)(c:n<=a)(d:a<18446744073709551616):qa a (some (uB n++b))=(n,some b):=by
 unfold qa;rw[LV n b (by omega),aL (by omega)]
theorem Bd(b:Nat)(a c:B8)(d:a.length<=b)(e:b<18446744073709551616):xR b (some (xB a++c))=(a,some c):=by
 unfold xR xB;rw[aD,QT b a.length (a++c) d e];exact ZF a c
theorem Sc(a:Int):F9 (zN a)=a:=by
 unfold zN;split
 ·unfold F9;rw[aQ (by omega)];omega
 ·unfold F9;rw[aL (by omega)];omega
theorem jdh(a:Int)(b:B8)(c:-9223372036854775808<=a)(d:a<=9223372036854775807):uR (some (zB a++b))=(zN a,some b):=LV _ b (TH a c d)
theorem OD(v:Nat)(d:v<18446744073709551616):GH (VA v 8)=v:=by
 have c:∀a,(T4 ((Vz v a:Int)%256)).toNat=Vz v a%256:=by
  intro a;have:=Xl (Vz v a%256) (by omega);have b:((Vz v a%256:Nat):Int)=(Vz v a:Int)%256:=by omega
  rw[b]at this;exact this
 simp only[VA,bW,bF,GH,c];simp only[Vz];omega
theorem jdm(a:Int)(b:B8)(e:-9223372036854775808<=a)(f:a<=9223372036854775807):bR (some (bB a++b))=(a,some b):=by
 unfold bR;have d:=Ks a;have c:qC 8 (some (bB a++b))=(bB a,some b):=by
  have:=ZF (bB a) b;rw[d]at this;exact this
 rw[c];unfold bB;rw[OD _ (by omega)];simp only[cX,de];unfold wrap64;omega
structure Z9 where
 null:Bool
 int:Int
 text:B8
def qV(kind:Int)(c:Z9):Bool :=
 if c.null=true then c.int==0&&c.text.isEmpty else if kind=0 then c.text.isEmpty else c.int==0&&decide (c.text.length<=12)
def qi(kind:Int)(a:List Z9):Bool:=(decide (kind=0)||decide (kind=1))&&decide (a.length<=60)&&a.all (qV kind)
def UH:Bool->Nat->List Z9->B8
 | _,n,[]=>uB n
 | a,n,c::b=>if c.null=a then UH a (n+1) b else uB n++UH (!a) 1 b
def rowB(a:Bool):List Z9->Nat
 | []=>0
 | c::b=>if c.null=a then rowB a b+1 else 0
theorem Vc(b:Bool)(a:List Z9):rowB b a<=a.length:=by
 induction a with
 | nil=>exact aA _
 | cons c a d=>simp only[rowB,bC];split<;>omega
theorem Ei(e:Bool)(d:List Z9):∀a,a<rowB e d->∃b:a<d.length,(d[a]).null=e:=by
 induction d with
 | nil=>intro a b;simp[rowB]at b
 | cons c d g =>
  intro a b;simp only[rowB]at b;split at b
  ·cases a with
   | zero=>exact⟨by simp,by assumption⟩
   | succ a =>
    obtain⟨h,f⟩:=g a (by omega);exact⟨by simp;omega,by simpa using f⟩
  ·omega
theorem ES(b:Bool)(a:List Z9):∀(d:rowB b a<a.length),(a[rowB b a]).null=!b:=by
 induction a with
 | nil=>intro d;simp[rowB]at d
 | cons c a h =>
  intro d;by_cases f:c.null=b
  ·have e:rowB b (c::a)=rowB b a+1:=(by simp[rowB,f]);have g:rowB b a<a.length:=(by rw[e]at d;simpa using d);have:=h g;simp only[e,dM];exact this
  ·have e:rowB b (c::a)=0:=(by simp[rowB,f]);simp only[e,bL];cases i:c.null<;>cases b<;>simp_all
def xw(b:Bool)(a:List Z9):B8:=if a=[]then[]else UH b 0 a
theorem Hd(a:Bool)(b:List Z9):∀n,UH a n b=uB (n+rowB a b)++xw (!a) (b.drop (rowB a b)):=by
 induction b with
 | nil=>intro n;simp[UH,rowB,xw]
 | cons c b f =>
  intro n;by_cases d:c.null=a
  ·simp only[UH,rowB,aQ d,List.drop_succ_cons];rw[f (n+1)]
   congr 2;omega
  ·simp only[UH,rowB,aL d,dD,List.drop_zero,xw];have e:c.null=!a:=(by cases g:c.null<;>cases a<;>simp_all);simp[e]
def JC(a:List Z9):B8:=uB a.length++xw false a
theorem ZK(b:Bool)(a:List Z9)(c:a≠[]):xw b a=uB (rowB b a)++xw (!b) (a.drop (rowB b a)):=by
 rw[xw,aL c,Hd b a 0,dh]
theorem Ku(a:List Z9)(h:a.length<=60):(JC a).length<=1000:=by
 have g:∀(a:List Z9) (b:Bool) (n:Nat),n+a.length<=60->(UH b n a).length<=10*(a.length+1):=by
  intro a
  induction a with
  | nil=>intro b n d;have:=jO n (by simp at d;omega);simp only[UH,bJ];omega
  | cons c a e =>
   intro b n d;simp only[bC]at d ⊢;simp only[UH];split
   ·have:=e b (n+1) (by omega);omega
   ·have f:=jO n (by omega);have i:=e (!b) 1 (by omega);rw[aB];omega
 unfold JC xw;have f:=jO a.length (by omega);rw[aB];split
 ·simp;omega
 ·have:=g a false 0 (by omega);omega
def jk(a:List Z9):List Z9:=a.filter fun c=>!c.null
def qj:List Z9->B8->Nat
 | [],_=>0
 | c::a,t=>if c.text=t then 0 else qj a t+1
theorem Rq(d:List Z9)(t:B8):∀a,a<qj d t->∀b:a<d.length,(d[a]).text≠t:=by
 induction d with
 | nil=>intro a b;simp[qj]at b
 | cons c d f =>
  intro a b e;simp only[qj]at b;split at b
  ·omega
  ·cases a with
   | zero=>simpa using ‹¬c.text=t›
   | succ a=>simpa using f a (by omega) (by simpa using e)
theorem Zx(a:List Z9)(t:B8)(f:∃c∈a,c.text=t):∃l:qj a t<a.length,(a[qj a t]).text=t:=by
 induction a with
 | nil=>obtain⟨c,b,_⟩:=f;cases b
 | cons c a j =>
  by_cases b:c.text=t
  ·have d:qj (c::a) t=0:=(by simp[qj,b]);exact⟨by rw[d];simp,by simp only[d,bL];exact b⟩
  ·have d:qj (c::a) t=qj a t+1:=(by simp[qj,b]);obtain⟨k,i⟩:=j (by
    obtain⟨h,e,g⟩:=f;rcases bD.1 e with rfl|e
    ·exact absurd g b
    ·exact⟨h,e,g⟩)
   exact⟨by rw[d];simp;omega,by simp only[d,dM];exact i⟩
theorem RL(b:List Z9)(a:Nat)(c:a<b.length):qj b (b[a]).text<=a:=by
 rcases eA a (qj b (b[a]).text)with h1|h1
 ·exact absurd rfl (Rq b _ a h1 c)
 ·exact h1
theorem Vj(a:List Z9)(t:B8):qj a t<=a.length:=by
 induction a with
 | nil=>exact aA _
 | cons c a b=>simp only[qj,bC];split<;>omega
def qY:Z9:=⟨false,0,[]⟩
def zP(b:List Z9)(a:Nat):Z9:=b.getD a qY
theorem qy(b:List Z9)(a:Nat)(c:a<b.length):zP b a=b[a]:=by simp[zP,List.getD,c]
def qz(b:List Z9):Nat->List Z9
 | 0=>[]
 | a+1=>qz b a++(if qj b (zP b a).text=a then[zP b a]else[])
def qA(a:List Z9):List Z9:=qz a a.length
theorem Jw(b:List Z9)(a:Nat):(qz b a).length<=a:=by
 induction a with
 | zero=>exact aA _
 | succ a c=>simp only[qz,aB];split<;>simp<;>omega
theorem XG(d:List Z9)(b:Nat)(f:b<=d.length):∀c∈qz d b,c∈d:=by
 induction b with
 | zero=>intro c a;simp[qz]at a
 | succ b e =>
  intro c a;simp only[qz,aX]at a;rcases a with a|a
  ·exact e (by omega) c a
  ·split at a
   ·simp at a;subst a;rw[qy d b (by omega)];exact aJ _
   ·simp at a
theorem ER(c:List Z9)(a:Nat)(f:a<c.length)(e:qj c (c[a]).text=a):∀b,a<b->b<=c.length->c[a]∈qz c b:=by
 intro b
 induction b with
 | zero=>intro d;omega
 | succ b h =>
  intro d i;simp only[qz,aX];by_cases g:a=b
  ·subst g
   right;rw[qy c a f,aQ e];simp
  ·left;exact h (by omega) (by omega)
theorem UJ(a:List Z9)(b:Nat)(g:b<a.length):∃c∈qA a,c.text=(a[b]).text:=by
 obtain⟨d,e⟩:=Zx a (a[b]).text ⟨a[b],aJ g,rfl⟩;have f:qj a (a[qj a (a[b]).text]).text=qj a (a[b]).text:=by rw[e]
 exact⟨_,ER a _ d f _ d (aA _),e⟩
def QC(v:Int):List Z9->Nat
 | []=>0
 | c::a=>if c.int=v then QC v a+1 else 0
theorem NF(v:Int)(a:List Z9):QC v a<=a.length:=by
 induction a with
 | nil=>exact aA _
 | cons c a b=>simp only[QC,bC];split<;>omega
theorem YW(v:Int)(d:List Z9):∀a,a<QC v d->∃b:a<d.length,(d[a]).int=v:=by
 induction d with
 | nil=>intro a b;simp[QC]at b
 | cons c d f =>
  intro a b;simp only[QC]at b;split at b
  ·cases a with
   | zero=>exact⟨by simp,by assumption⟩
   | succ a =>
    obtain⟨g,e⟩:=f a (by omega);exact⟨by simp;omega,by simpa using e⟩
  ·omega
theorem Nc(v:Int)(a:List Z9):∀(b:QC v a<a.length),(a[QC v a]).int≠v:=by
 induction a with
 | nil=>intro b;simp[QC]at b
 | cons c a g =>
  intro b;by_cases e:c.int=v
  ·have d:QC v (c::a)=QC v a+1:=(by simp[QC,e]);have f:QC v a<a.length:=(by rw[d]at b;simpa using b);have:=g f;simp only[d,dM];exact this
  ·have d:QC v (c::a)=0:=(by simp[QC,e]);simp only[d,bL];exact e
def jY:B8->B8->Nat
 | a::c,b::t=>if a=b then jY c t+1 else 0
 | _,_=>0
theorem Qy(a t:B8):jY a t<=a.length/\jY a t<=t.length:=by
 induction a generalizing t with
 | nil=>simp[jY]
 | cons c a b =>
  cases t with
  | nil=>simp[jY]
  | cons d t =>
   have:=b t;simp only[jY,bC];split<;>omega
theorem GY(c t:B8):∀a,a<jY c t->∀(d:a<c.length) (e:a<t.length),c[a]=t[a]:=by
 induction c generalizing t with
 | nil=>intro a b;simp[jY]at b
 | cons f c h =>
  cases t with
  | nil=>intro a b;simp[jY]at b
  | cons g t =>
   intro a b d e;simp only[jY]at b;split at b
   ·cases a with
    | zero=>simpa using ‹f=g›
    | succ a=>simpa using h t a (by omega) (by simpa using d) (by simpa using e)
   ·omega
theorem YA(a t:B8):∀(d:jY a t<a.length) (c:jY a t<t.length),a[jY a t]≠t[jY a t]:=by
 induction a generalizing t with
 | nil=>intro h;simp[jY]at h
 | cons e a k =>
  cases t with
  | nil=>intro d c;simp[jY]at c
  | cons f t =>
   intro d c;by_cases g:e=f
   ·have b:jY (e::a) (f::t)=jY a t+1:=(by simp[jY,g]);have i:jY a t<a.length:=(by rw[b]at d;simpa using d);have j:jY a t<t.length:=(by rw[b]at c;simpa using c);have:=k t i j;simp only[b,dM];exact this
   ·have b:jY (e::a) (f::t)=0:=(by simp[jY,g]);simp only[b,bL];exact g
def qm(b:List Z9)(a:Nat):Z9:=if a=0 then qY else zP b (a-1)
def xi(n:Nat)(b:List Z9)(a:Nat):B8 :=
 match n with
 | 0=>bB (zP b a).int
 | 1=>zB (RowKit.wrap64 ((zP b a).int-(qm b a).int))
 | 2=>if a=0\/(zP b a).int≠(qm b a).int then uB (QC (zP b a).int (b.drop (a+1))+1)++zB (zP b a).int else[]
 | 3=>uB (qj (qA b) (zP b a).text)
 | 4=>uB (jY (zP b a).text (qm b a).text)++xB ((zP b a).text.drop (jY (zP b a).text (qm b a).text))
 | _=>xB (zP b a).text
def jN(n:Nat)(b:List Z9):Nat->B8
 | 0=>[]
 | a+1=>jN n b a++xi n b a
def JK(a:List Z9):Nat->B8
 | 0=>uB a.length
 | b+1=>JK a b++xB (zP a b).text
def qT(n:Nat)(a:List Z9):B8:=(if n=3 then JK (qA a) (qA a).length else[])++jN n a a.length
def qI(c:Z9):Prop:=-9223372036854775808<=c.int/\c.int<=9223372036854775807/\c.text.length<=12
theorem WT:qI qY:=⟨by decide,by decide,by decide⟩
theorem Rd(a:List Z9)(e:∀c∈a,qI c)(b:Nat):qI (zP a b):=by
 by_cases d:b<a.length
 ·rw[qy a b d];exact e _ (aJ d)
 ·have:zP a b=qY:=by simp[zP,List.getD,show a.length<=b by omega]
  rw[this];exact WT
theorem QF(a:List Z9)(b:∀c∈a,qI c)(d:Nat):qI (qm a d):=by
 unfold qm;split
 ·exact WT
 ·exact Rd a b _
theorem Uu(n:Int)(a:-9223372036854775808<=n)(b:n<=9223372036854775807):(zB n).length<=10:=jO _ (TH n a b)
theorem GK(a:B8)(b:a.length<=12):(xB a).length<=22:=by
 have:=jO a.length (by omega);simp only[xB,aB];omega
theorem Jn(n:Int):-9223372036854775808<=RowKit.wrap64 n/\RowKit.wrap64 n<=9223372036854775807:=by
 unfold RowKit.wrap64;omega
theorem ZD(n:Nat)(a:List Z9)(e:∀c∈a,qI c)(j:a.length<=60)(b:Nat):(xi n a b).length<=40:=by
 obtain⟨a1,a2,a3⟩:=Rd a e b;obtain⟨b1,b2,b3⟩:=QF a e b;have h:=Jw a a.length;unfold xi;split
 ·rw[Ks];omega
 ·have:=Jn ((zP a b).int-(qm a b).int);have:=Uu _ this.1 this.2;omega
 ·split
  ·have d:=NF (zP a b).int (a.drop (b+1));rw[aP]at d;have f:=jO (QC (zP a b).int (a.drop (b+1))+1) (by omega);have g:=Uu _ a1 a2;rw[aB];omega
  ·simp
 ·have d:qj (qA a) (zP a b).text<=(qA a).length:=Vj _ _;have i:(qA a).length<=a.length:=h;have f:=jO (qj (qA a) (zP a b).text) (by omega);omega
 ·have d:=Qy (zP a b).text (qm a b).text;have f:=jO (jY (zP a b).text (qm a b).text) (by omega);have g:=GK ((zP a b).text.drop (jY (zP a b).text (qm a b).text)) (by rw[aP];omega);rw[aB];omega
 ·have:=GK _ a3;omega
theorem xS(n:Nat)(b:List Z9)(d:∀c∈b,qI c)(e:b.length<=60)(a:Nat):(jN n b a).length<=40*a:=by
 induction a with
 | zero=>simp[jN]
 | succ a f =>
  have:=ZD n b d e a;simp only[jN,aB];omega
theorem Gb(b:List Z9)(d:∀c∈b,qI c)(e:b.length<=60)(a:Nat):(JK b a).length<=10+22*a:=by
 induction a with
 | zero=>have:=jO b.length (by omega);simp only[JK];omega
 | succ a f =>
  have:=GK (zP b a).text (Rd b d a).2.2;simp only[JK,aB];omega
def XY(kind:Int)(a:Nat):Nat:=if kind=0 then a else if a=0 then 5 else a+2
def JP(n:Nat)(v:List Z9):B8:=T4 ((n:Int)%5)::qT n v
def jV(kind:Int)(v:List Z9):Nat->B8
 | 0=>[]
 | a+1=>if a=0\/(JP (XY kind a) v).length<(jV kind v a).length then JP (XY kind a) v else jV kind v a
def xy(kind:Int)(a:List Z9):B8:=if jk a=[]then JC a else JC a++jV kind (jk a) 3
theorem VZ(n:Nat)(v:List Z9)(a:∀c∈v,qI c)(b:v.length<=60):(qT n v).length<=5000:=by
 have g:=xS n v a b v.length;have e:∀c∈qA v,qI c:=fun c d=>a c (XG v v.length (aA _) c d);have f:(qA v).length<=60:=aI (Jw v v.length) b;have h:=Gb (qA v) e f (qA v).length;unfold qT;rw[aB];split<;>simp<;>omega
theorem Kv(kind:Int)(v:List Z9)(b:∀c∈v,qI c)(d:v.length<=60)(a:Nat):(jV kind v a).length<=5001:=by
 induction a with
 | zero=>simp[jV]
 | succ a e =>
  have:=VZ (XY kind a) v b d;simp only[jV];split
  ·simp only[JP,bC];omega
  ·exact e
def xx(kind:Int)(b:Nat)(words:List (B8))(n len:Nat)(last:Z9)(a:Option (B8)):Z9×Nat×Option (B8) :=
 if kind=0/\b=0 then(⟨false,(bR a).1,[]⟩,1,(bR a).2)
 else if kind=0/\b=1 then(⟨false,wrap64 (last.int+F9 (uR a).1),[]⟩,1,(uR a).2)
 else if kind=0/\b=2 then(⟨false,F9 (uR (qa (n-len) a).2).1,[]⟩,(qa (n-len) a).1,if(qa (n-len) a).1=0 then none else(uR (qa (n-len) a).2).2)
 else if kind=1/\b=0 then(⟨false,0,(xR 12 a).1⟩,1,(xR 12 a).2)
 else if kind=1/\b=3/\words≠[]then(⟨false,0,words.getD (qa (words.length-1) a).1 []⟩,1,(qa (words.length-1) a).2)
 else if kind=1/\b=4 then(⟨false,0,last.text.take (qa last.text.length a).1++(xR 12 (qa last.text.length a).2).1⟩,1,(xR 12 (qa last.text.length a).2).2)
 else(⟨false,0,[]⟩,1,none)
def zG(kind:Int)(c:Nat)(words:List (B8))(n:Nat):Nat->List Z9->Z9->Option (B8)->List Z9×Option (B8)
 | 0,a,_,b=>(a,b)
 | d+1,a,last,b =>
  if a.length<n/\b.isSome=true then
   zG kind c words n d (a++List.replicate (xx kind c words n a.length last b).2.1 (xx kind c words n a.length last b).1) (xx kind c words n a.length last b).1 (xx kind c words n a.length last b).2.2
  else(a,b)
def JV(b:Nat)(v:List Z9):Nat->Nat->B8
 | _,0=>[]
 | a,c+1=>xi b v a++JV b v (a+1) c
theorem Lm(c:Nat)(v:List Z9):∀(b a:Nat),jN c v (a+b)=jN c v a++JV c v a b:=by
 intro b
 induction b with
 | zero=>intro a;simp[JV]
 | succ b d =>
  intro a;rw[show a+(b+1)=(a+1)+b by omega,d (a+1)];simp[jN,JV]
theorem Gq(a:Nat)(v:List Z9):jN a v v.length=JV a v 0 v.length:=by
 have:=Lm a v v.length 0;simpa[jN]using this
theorem UA(kind:Int)(g f:Nat)(words:List (B8))(v:List Z9)(e:B8)
  (k:∀a (m:a<v.length) (rest:B8),xx kind g words v.length a (qm v a) (some (xi f v a++rest))=(v[a],1,some rest)) :
  ∀(b a:Nat),a+b=v.length->zG kind g words v.length (b+1) (v.take a) (qm v a) (some (JV f v a b++e))=(v,some e):=by
 intro b
 induction b with
 | zero =>
  intro a j;have c:(v.take a).length=v.length:=by rw[aM];omega
  simp only[zG,JV,bW];rw[aL (by rw[c];omega)];rw[aU (by omega)]
 | succ b l =>
  intro a j;have d:a<v.length:=by omega
  have c:(v.take a).length=a:=by rw[aM];omega
  rw[zG,aQ (by rw[c];exact⟨d,rfl⟩),c];simp only[JV,aD];rw[k a d (JV f v (a+1) b++e)];have h:v.take a++List.replicate 1 v[a]=v.take (a+1):=by rw[aH d];rfl
  have i:v[a]=qm v (a+1):=by
   unfold qm;rw[aL (by omega),fG,qy v a d]
  simp only[h];rw[i];exact l (a+1) (by omega)
def Wq(c:Z9):Prop:=c.null=false/\c.text=[]/\-9223372036854775808<=c.int/\c.int<=9223372036854775807
def AS(c:Z9):Prop:=c.null=false/\c.int=0/\c.text.length<=12
variable{f:Z9}
theorem Nb(d:Wq f):f=⟨false,f.int,[]⟩:=by
 obtain⟨n,e,t⟩:=f;obtain⟨a,b,_⟩:=d;simp at a b;subst a b;rfl
theorem EY(d:AS f):f=⟨false,0,f.text⟩:=by
 obtain⟨n,e,t⟩:=f;obtain⟨a,b,_⟩:=d;simp at a b;subst a b;rfl
theorem jec(v:List Z9)(d:B8)(g:∀c∈v,Wq c):zG 0 0 [] v.length (v.length+1) [] qY (some (JV 0 v 0 v.length++d))=(v,some d):=by
 have:=UA 0 0 0 [] v d (fun a e rest=>by
  have b:=g v[a] (aJ e);have f:xi 0 v a=bB (v[a]).int:=by show bB (zP v a).int=_;rw[qy v a e]
  unfold xx;rw[aQ ⟨rfl,rfl⟩,f,jdm _ rest b.2.2.1 b.2.2.2];exact fP (Nb b).symm rfl) v.length 0 (by omega)
 simpa[qm]using this
theorem Ft(b a:Int)(c:-9223372036854775808<=a)(d:a<=9223372036854775807):wrap64 (b+wrap64 (a-b))=a:=by
 unfold wrap64;omega
theorem jep(v:List Z9)(d:B8)(h:∀c∈v,Wq c):zG 0 1 [] v.length (v.length+1) [] qY (some (JV 1 v 0 v.length++d))=(v,some d):=by
 have:=UA 0 1 1 [] v d (fun a e rest=>by
  have b:=h v[a] (aJ e);have g:xi 1 v a=zB (wrap64 ((v[a]).int-(qm v a).int)):=by show zB (wrap64 ((zP v a).int-(qm v a).int))=_;rw[qy v a e]
  have f:=Jn ((v[a]).int-(qm v a).int);unfold xx;rw[aL (by omega),aQ ⟨rfl,rfl⟩,g,jdh _ rest f.1 f.2,Sc,Ft _ _ b.2.2.1 b.2.2.2];exact fP (Nb b).symm rfl) v.length 0 (by omega)
 simpa[qm]using this
theorem jez(v:List Z9)(b:B8)(g:∀c∈v,AS c):zG 1 0 [] v.length (v.length+1) [] qY (some (JV 5 v 0 v.length++b))=(v,some b):=by
 have:=UA 1 0 5 [] v b (fun a d rest=>by
  have e:=g v[a] (aJ d);have f:xi 5 v a=xB (v[a]).text:=by show xB (zP v a).text=_;rw[qy v a d]
  unfold xx;rw[aL (by omega),aL (by omega),aL (by omega),aQ ⟨rfl,rfl⟩,f,Bd 12 _ rest e.2.2 (by omega)];exact fP (EY e).symm rfl) v.length 0 (by omega)
 simpa[qm]using this
theorem MR(a t:B8):t.take (jY a t)++a.drop (jY a t)=a:=by
 have e:=Qy a t;have b:t.take (jY a t)=a.take (jY a t):=by
  apply dS
  ·rw[aM,aM];omega
  ·intro d c f;rw[aM]at c;simp only[dL];exact(GY a t d (by omega) (by omega) (by omega)).symm
 rw[b,aY]
theorem jdy(v:List Z9)(b:B8)(f:∀c∈v,AS c):zG 1 4 [] v.length (v.length+1) [] qY (some (JV 4 v 0 v.length++b))=(v,some b):=by
 have:=UA 1 4 4 [] v b (fun a d rest=>by
  have e:=f v[a] (aJ d);have i:(qm v a).text.length<=12:=by
   unfold qm;split
   ·decide
   ·rw[qy v (a-1) (by omega)];exact(f _ (aJ _)).2.2
  have h:xi 4 v a=uB (jY (v[a]).text (qm v a).text)++xB ((v[a]).text.drop (jY (v[a]).text (qm v a).text)):=by simp only[xi,qy v a d]
  have g:=Qy (v[a]).text (qm v a).text;unfold xx;rw[aL (by omega),aL (by omega),aL (by omega),aL (by omega),aL (by omega),aQ ⟨rfl,rfl⟩,h,aD,
   QT _ _ _ g.2 (by omega),Bd 12 _ rest (by rw[aP];have:=e.2.2;omega) (by omega),MR]
  exact fP (EY e).symm rfl) v.length 0 (by omega)
 simpa[qm]using this
theorem Nf(a:B8):(⟨a.toArray⟩:ByteArray).data.toList=a:=rfl
theorem UK(b:W)(a:Int)(c:0<=a)(d:a<=255) :
  Sem.run Tryz.prog (convert 149 9 (R b.heap.size 1 1)) (b.alloc (.cells #[.int .u8 a] 5)) =
   .ok (S [T4 a]) (b.alloc (.cells #[.int .u8 a] 5)):=by
 refine kS (P:=Tryz.prog) _ 149 9 5 (A b.heap.size 0) 1 [T4 a] Tryz.underlying149 Tryz.underlying5 Tryz.underlying9 ?_;intro j e
 match j,e with
 | 0,_=>simp[Addr.add,zC a c d]
theorem xh(a b:B8):(⟨a.toArray⟩++⟨b.toArray⟩:ByteArray)=⟨(a++b).toArray⟩:=lq a b
theorem DF(d:s++r=l):Ending.returned (.string (⟨s.toArray⟩++⟨r.toArray⟩))=.returned (S l):=by rw[xh,d]
theorem jap{a:ByteArray}(d:s++a.data.toList=r):Ending.returned (.string (⟨s.toArray⟩++a))=.returned (S r):=by
 obtain⟨⟨t⟩⟩:=a;exact DF d
def Bf:Value->Nat
 | .int _ q=>q.toNat
 | _=>0
theorem Bg(n:Nat)(c:W)(m:n<18446744073709551616) :
  C' 147 #[.int .u64 (n:Int)] c fun h p=>h=.returned (S (uB n))/\Below c.heap.size c p:=by
 have g:=I (jO n m);go_enter Tryz.func147,Tryz.ntmps147;go_wp2;go_loopw [0,3] (fun t o wr=>∃(a:Nat) (b:B8),a<=n/\t=.int .u64 (a:Int)/\o=S b/\b++uB a=uB n/\Below c.heap.size c wr)
  (fun t _ _=>Bf t)
 case atStart=>exact⟨n,[],aA _,rfl,rfl,rfl,k8 _ _⟩
 case round =>
  obtain⟨a,b,s,rfl,rfl,e,d⟩:=hrel;have f:=I e;have r:b.length<=10:=by
   have q:=g.o;have i:=bN List.length e;simp at i;omega
  clear e;by_cases j:127<a
  ·have l:=UK wr ((a:Int)%128+128) (by omega) (by omega);have k:(127:Int)<(a:Int):=(by omega);go_wp2;go_roundw
   ·
    refine⟨a/128,b++[T4 ((a:Int)%128+128)],by omega,by go_num,by rw[xh],?_,?_⟩
    ·rw[<-f.o,KJ j,aD];rfl
    ·exact d.alloc d.size _
   ·simp[Bf];omega
  ·have l:=UK wr (a:Int) (by omega) (by omega);have k:(a:Int)<=127:=(by omega);go_wp2;go_ret;refine⟨?_,d.alloc d.size _⟩;exact DF (by rw[<-f.o,Qe (by omega)])
theorem ED(n:Int)(a:W)(c:0<=n)(f:n<18446744073709551616) :
  C' 147 #[.int .u64 n] a fun b e=>b=.returned (S (uB n.toNat))/\Below a.heap.size a e:=by
 obtain⟨d,rfl⟩:=cL c;rw[bY];exact Bg d a (by omega)
theorem Qw(a:0<=K)(b:K<=9223372036854775807):IntKind.u64.wrap K=K:=by rw[kJ];omega
theorem LH(n:Int)(e:W)(f:-9223372036854775808<=n)(g:n<=9223372036854775807) :
  C' 177 #[N n] e fun b i=>b=.returned (S (zB n))/\Below e.heap.size e i:=by
 have l:=TH n f g;by_cases d:0<=n
 ·have a:J (zB n=uB (2*n.toNat)):=by simp[J,zB,zN,d]
  obtain⟨h,rfl⟩:=cL d;go_enter Tryz.func177,Tryz.ntmps177;go_wp2_with fail;refine(ED _ _ (by omega) (by omega)).mono ?_;rintro b j ⟨rfl,c⟩;go_wp2;go_ret;exact⟨qH (by rw[a.o];congr 1<;>omega),c⟩
 ·have a:J (zB n=uB (2*(-(n+1)).toNat+1)):=by simp[J,zB,zN,d]
  obtain⟨h,k⟩:=cL (show 0<=-(n+1) by omega);go_enter Tryz.func177,Tryz.ntmps177;go_wp2_with fail;refine(ED _ _ (by omega) (by omega)).mono ?_;rintro b j ⟨rfl,c⟩;go_wp2;go_ret;exact⟨qH (by rw[a.o];congr 1<;>omega),c⟩
theorem WL(n:Int):IntKind.u64.wrap n=n%18446744073709551616:=by rw[kJ]
theorem jfj(n:Int)(c:W)(q:-9223372036854775808<=n)(r:n<=9223372036854775807) :
  C' 176 #[N n] c fun h p=>h=.returned (S (bB n))/\Below c.heap.size c p:=by
 have l:=WL n;obtain⟨b,e⟩:=cL (show 0<=n%18446744073709551616 by omega);have k:b<18446744073709551616:=by omega
 have g:J (bB n=VA b 8):=by simp[J,bB,e]
 rw[e]at l;clear e;go_enter Tryz.func176,Tryz.ntmps176;go_wp2;go_loopw [3,4,5] (fun o m f wr=>∃(a:Nat),a<=8/\f=N a/\o=.int .u64 (Vz b a:Int)/\m=S (VA b a)/\Below c.heap.size c wr)
  (fun _ _ f _=>8-(intOf f).toNat)
 case atStart=>exact⟨0,aG _,rfl,rfl,rfl,k8 _ _⟩
 case round =>
  obtain⟨a,u,rfl,rfl,rfl,d⟩:=hrel;have j:=ZV b a;have v:(VA b a).length<=8:=by omega
  have w:Vz b a<18446744073709551616:=jck b a k;clear j;by_cases s:a<8
  ·have t:=UK wr ((Vz b a:Int)%256) (by omega) (by omega);go_wp2;go_roundw
   ·exact⟨a+1,by omega,by go_num,by simp[Vz],by rw[xh];rfl,d.alloc d.size _⟩
   ·simp[intOf];omega
  ·have i:a=8:=(by omega);subst i;go_wp2;go_ret;exact⟨qH g.o.symm,d⟩
theorem LY(a:ByteArray)(b:W)(g:a.size<=1000000) :
  C' 146 #[.string a] b fun c e=>c=.returned (S (xB a.data.toList))/\Below b.heap.size b e:=by
 have f:=jO a.size (by omega);go_enter Tryz.func146,Tryz.ntmps146;go_wp2_with fail;refine(Bg _ _ (by omega)).mono ?_;rintro c h ⟨rfl,d⟩;go_wp2;go_ret;exact⟨jap (by simp[xB]),d⟩
theorem jI{a b:Bool}(c:a=b):Ending.returned (.bool a)=.returned (.bool b):=by rw[c]
abbrev C6(c:Z9):Value:=.agg #[.bool c.null,N c.int,S c.text]
def D9(c:Z9):Prop:=-9223372036854775808<=c.int/\c.int<=9223372036854775807/\c.text.length<=maxLen
structure T3 (w:W) (a:O') (l:List Z9):Prop where
 ok:∀c∈l,D9 c
 at_:l≠[]->∃b off,a=some (A b off)/\b<w.heap.size/\∀j (h:j<l.length),
  w.cell? (A b (off+j*3))=some (.bool (l[j]).null)/\w.cell? (A b (off+j*3+1))=some (N (l[j]).int)/\w.cell? (A b (off+j*3+2))=some (S (l[j]).text)
variable{a:O'}
theorem T3.j{d g:W}{l:List Z9}(f:T3 d a l)(b:Below d.heap.size d g):T3 g a l:=by
 refine⟨f.ok,fun q=>?_⟩;obtain⟨e,r,m,c,n⟩:=f.at_ q;refine⟨e,r,m,aC c b.size,fun j o=>?_⟩;obtain⟨h,i,k⟩:=n j o;exact⟨(b.cell (p:=A e _) c).trans h,(b.cell (p:=A e _) c).trans i,(b.cell (p:=A e _) c).trans k⟩
theorem jai(kind:Int)(c:Z9)(g:W)(m:D9 c) :
  C' 113 #[N kind,C6 c] g fun j p=>j=.returned (.bool (qV kind c))/\Below g.heap.size g p:=by
 obtain⟨k,l,h⟩:=m;unfold maxLen at h;obtain⟨o,f,b⟩:=c;simp only at k l h;cases o with
 | true =>
  by_cases d:f=0
  ·subst d;have a:J (qV kind ⟨true,0,b⟩=b.isEmpty):=(by simp[J,qV]);go_enter Tryz.func113,Tryz.ntmps113;go_wp2;go_ret;exact⟨jI a.o.symm,(k8 _ _).alloc (aA _) _⟩
  ·have n:(f==0)=false:=(by simp[d]);have a:J (qV kind ⟨true,f,b⟩=false):=(by simp[J,qV,d]);go_enter Tryz.func113,Tryz.ntmps113;go_wp2;go_ret;exact⟨jI a.o.symm,(k8 _ _).alloc (aA _) _⟩
 | false =>
  by_cases e:kind=0
  ·subst e;have a:J (qV 0 ⟨false,f,b⟩=b.isEmpty):=(by simp[J,qV]);go_enter Tryz.func113,Tryz.ntmps113;go_wp2;go_ret;exact⟨jI a.o.symm,(k8 _ _).alloc (aA _) _⟩
  ·have q:(kind==0)=false:=(by simp[e]);by_cases d:f=0
   ·subst d;by_cases i:b.length<=12
    ·have a:J (qV kind ⟨false,0,b⟩=true):=(by simp[J,qV,e,i]);clear e;go_enter Tryz.func113,Tryz.ntmps113;go_wp2;go_ret;exact⟨jI (by rw[a.o];simp;omega),(k8 _ _).alloc (aA _) _⟩
    ·have a:J (qV kind ⟨false,0,b⟩=false):=(by simp[J,qV,e,i]);clear e;go_enter Tryz.func113,Tryz.ntmps113;go_wp2;go_ret;exact⟨jI (by rw[a.o];simp;omega),(k8 _ _).alloc (aA _) _⟩
   ·have n:(f==0)=false:=(by simp[d]);have a:J (qV kind ⟨false,f,b⟩=false):=(by simp[J,qV,d,e]);clear e d;go_enter Tryz.func113,Tryz.ntmps113;go_wp2;go_ret;exact⟨jI a.o.symm,(k8 _ _).alloc (aA _) _⟩
theorem OS(kind:Int)(k:O')(w:Nat)(a:List Z9)(e:W)(p:kind=0\/kind=1)(F:a.length<=60)(r:T3 e k a) :
  C' 51 #[N kind,.slice k a.length w] e fun l B=>l=.returned (.bool (a.all (qV kind)))/\Below e.heap.size e B:=by
 have j:=I r;clear r;have q:(kind != 0)=false\/(kind != 0)=true/\(kind != 1)=false:=by rcases p with rfl|rfl<;>simp
 have G:(a.length:Int)<=60:=by omega
 clear p;rcases q with z|⟨z,q⟩
 all_goals
  go_enter Tryz.func51,Tryz.ntmps51;go_wp2;go_loopw [5] (fun h wr=>∃b:Nat,b<=a.length/\h=N b/\(a.take b).all (qV kind)=true/\Below e.heap.size e wr) (fun h _=>a.length-(intOf h).toNat)
  case atStart=>exact⟨0,aG _,rfl,rfl,k8 _ _⟩
  case round =>
   obtain⟨b,E,rfl,m,c⟩:=hrel;have i:=I m;clear m;by_cases f:b<a.length
   ·obtain⟨C,H,rfl,D,o⟩:=(j.o.j c).at_ (aE (by omega));obtain⟨g1,x,y⟩:=o b f;clear o;have s:=j.o.ok a[b] (aJ f);have v:=I s;clear s;have u:J ((a.take (b+1)).all (qV kind)=qV kind a[b]):=by
     show(a.take (b+1)).all (qV kind)=qV kind a[b];rw[aH f,ek,i.o];simp
    have t:J (qV kind a[b]=false->a.all (qV kind)=false):=by
     intro d;rw[el];exact⟨a[b],aJ f,by simp[d]⟩
    go_wp2_with fail;refine(jai kind a[b] _ v.o).mono ?_;rintro l K ⟨rfl,n⟩;clear g1 x y;cases d:qV kind a[b]with
    | false =>
     have g:=I d;clear d;go_wp2;go_ret;exact⟨jI (t.o g.o).symm,c.trans (n.mono c.size)⟩
    | true =>
     have g:=I d;clear d;go_wp2;go_roundw
     ·exact⟨b+1,by omega,by go_num,by rw[u.o];exact g.o,c.trans (n.mono c.size)⟩
     ·simp[intOf];omega
   ·go_wp2;go_ret;exact⟨jI (by rw[<-i.o,aU (by omega)]),c⟩
theorem AD(kind:Int)(f:O')(k:Nat)(a:List Z9)(d:W)(o:a.length<=maxLen)(i:T3 d f a) :
  C' 51 #[N kind,.slice f a.length k] d fun g p=>g=.returned (.bool (qi kind a))/\Below d.heap.size d p:=by
 by_cases b:kind=0\/kind=1
 ·by_cases j:a.length<=60
  ·have g:qi kind a=a.all (qV kind):=by
    unfold qi;rcases b with rfl|rfl<;>simp[j]
   rw[g];exact OS kind f k a d b j i
  ·have e:J (qi kind a=false):=(by simp[J,qi,j]);have h:(kind != 0)=false\/(kind != 0)=true/\(kind != 1)=false:=(by rcases b with rfl|rfl<;>simp);have q:(60:Int)<(a.length:Int):=(by omega);unfold maxLen at o;clear b i;rcases h with l|⟨l,h⟩
   all_goals
    go_enter Tryz.func51,Tryz.ntmps51;go_wp2;go_ret;exact⟨jI e.o.symm,k8 _ _⟩
 ·have e:J (qi kind a=false):=by
   have m:¬kind=0:=fun c=>b (.inl c);have n:¬kind=1:=fun c=>b (.inr c);simp[J,qi,m,n]
  have l:(kind != 0)=true:=by rw[eI];exact fun c=>b (.inl c)
  have h:(kind != 1)=true:=by rw[eI];exact fun c=>b (.inr c)
  clear b i;go_enter Tryz.func51,Tryz.ntmps51;go_wp2;go_ret;exact⟨jI e.o.symm,k8 _ _⟩
def jL(a:List Z9):List Value:=a.flatMap fun c=>[.bool c.null,N c.int,S c.text]
theorem xX(a:List Z9):(jL a).length=a.length*3:=by
 induction a with
 | nil=>rfl
 | cons c a b=>simp only[jL,cu,aB,bC,bJ]at b ⊢;omega
theorem Jp(a b:List Z9):jL (a++b)=jL a++jL b:=by simp[jL]
theorem ZA(a:List Z9):∀(j:Nat) (b:j<a.length),(jL a)[j*3]?=some (.bool (a[j]).null)/\(jL a)[j*3+1]?=some (N (a[j]).int)/\(jL a)[j*3+2]?=some (S (a[j]).text):=by
 induction a with
 | nil=>intro j b;simp at b
 | cons c a i =>
  intro j b;cases j with
  | zero=>simp[jL]
  | succ j =>
   have h:j<a.length:=(by simpa using b);have d:jL (c::a)=[.bool c.null,N c.int,S c.text]++jL a:=(by simp[jL]);obtain⟨e,f,g⟩:=i j h;rw[d];refine⟨?_,?_,?_⟩
   ·rw[bM (by simp;omega)];simpa[show(j+1)*3-3=j*3 by omega]using e
   ·rw[bM (by simp;omega)];simpa[show(j+1)*3+1-3=j*3+1 by omega]using f
   ·rw[bM (by simp;omega)];simpa[show(j+1)*3+2-3=j*3+2 by omega]using g
variable{D:List Z9}
theorem QZ(b:w.ownsRow n 58 3 x m (jL D))(f:∀c∈D,D9 c) :
  ∃d e,x=.slice d D.length e/\m=D.length/\T3 w d D:=by
 have q:m=D.length:=by have:=b.1;rw[xX]at this;omega
 subst q;rcases b.2 with⟨rfl,k⟩|⟨g,e,s,rfl,_,t,_⟩
 ·have:D=[]:=aO k;subst this;exact⟨none,0,rfl,rfl,f,fun r=>absurd rfl r⟩
 ·refine⟨_,_,rfl,rfl,f,fun _=>⟨g,0,rfl,(b.lt g rfl).2,fun j p=>?_⟩⟩;obtain⟨l,a,o⟩:=ZA D j p;simp only[dh];exact⟨by rw[b.cellAt (j*3) (by omega)];exact l,by rw[b.cellAt (j*3+1) (by omega)];exact a,by rw[b.cellAt (j*3+2) (by omega)];exact o⟩
theorem Tryz.au:(Tryz.prog.info? 58).map (fun a=>(a.zero,a.size,a.bytes))=some (some (.agg #[.bool false,N 0,.string ⟨#[]⟩]),3,32):=by kernel_rfl
theorem qr(a:W)(c:V')(t:TypeId):∀(j:Nat) (b:Value),c.toList[j]?=some b->(a.alloc (.cells c t)).cell? (((A a.heap.size 0):Addr).add j)=some b:=by
 intro j b d;have:((A a.heap.size 0):Addr).add j=(A a.heap.size j):=by unfold Addr.add;split<;>simp_all
 rw[this,kF];simpa using d
theorem Aw{c:Z9}{o:Obj}(e:Below w.heap.size w v)(k:n=D.length)
  (i:v.ownsRow w.heap.size 58 3 x n (jL D))(j:u.ownsRow w.heap.size 58 3 y (n+1) (jL D++[.bool c.null,N c.int,S c.text]))(g:(v.alloc o).grownBy u x.ownBlock) :
  u.ownsRow w.heap.size 58 3 y (D++[c]).length (jL (D++[c]))/\Below w.heap.size w u:=by
 have l:=e.size;subst k;refine⟨?_,(e.alloc l o).grown g (by simp;omega) (fun m h=>(i.lt m h).1)⟩;rw[Jp,aB];exact j
theorem MZ(b:List Z9)(a:Nat)(c:a<b.length):jk (b.take (a+1))=jk (b.take a)++(if(b[a]).null=true then[]else[b[a]]):=by
 unfold jk;rw[aH c,dI]
 congr 1;cases d:(b[a]).null<;>simp[d]
theorem Pk(b:List Z9)(a:Nat):(jk (b.take a)).length<=a:=by
 have c:(jk (b.take a)).length<=(b.take a).length:=du _ _;have d:(b.take a).length<=a:=List.length_take_le _ _;omega
theorem Is(l:O')(x:Nat)(a:List Z9)(d:W)(O:a.length<=1000)(o:T3 d l a) :
  C' 114 #[.slice l a.length x] d fun y t=>∃v,y=.returned v/\t.ownsRow d.heap.size 58 3 v (jk a).length (jL (jk a))/\Below d.heap.size d t:=by
 obtain⟨H,C,E,F,G⟩:=ks Tryz.au;have w:=I o;clear o;go_enter Tryz.func114,Tryz.ntmps114;go_wp2;go_loopw [3,4] (fun v j wr=>∃b:Nat,b<=a.length/\j=N b/\wr.ownsRow d.heap.size 58 3 v (jk (a.take b)).length (jL (jk (a.take b)))/\Below d.heap.size d wr) (fun _ j _=>a.length-(intOf j).toNat)
 case atStart=>exact⟨0,aG _,rfl,kg _ _ _ _,k8 _ _⟩
 case round =>
  obtain⟨b,M,rfl,g,f⟩:=hrel;by_cases q:b<a.length
  ·obtain⟨K,T,rfl,L,m⟩:=(w.o.j f).at_ (aE (by omega));obtain⟨g1,z,B⟩:=m b q;clear m;have h:=I (MZ a b q);have P:=Pk a b;generalize jk (a.take b)=s at *;cases e:(a[b]).null with
   | true =>
    have i:J (jk (a.take (b+1))=s):=by have:=h.o;rw[e]at this;simpa[J]using this
    rw[e]at g1;clear h e;go_wp2;go_roundw
    ·exact⟨b+1,by omega,by go_num,by rw[i.o];exact g,f⟩
    ·simp[intOf];omega
   | false =>
    have i:J (jk (a.take (b+1))=s++[a[b]]):=by have:=h.o;rw[e]at this;simpa[J]using this
    have u:=I e;rw[e]at g1;clear h e;go_wp2_with(at_builtin;refine ko _ rfl (.tmp 17) (.tmp 22) 59 rfl d.heap.size 58 H (.agg #[.bool false,N 0,.string ⟨#[]⟩]) 3 32 Tryz.underlying59 C E F G rfl (by decide) _ _ _ rfl (g.alloc _) (A _ 0) 1 1 [.bool false,N (a[b]).int,S (a[b]).text] rfl rfl ?c1 ?c2 ?c3 ?c4 ?c5 ?_)
    case c1=>exact qr wr #[.bool false,N (a[b]).int,S (a[b]).text] 58
    case c2=>intro U r;simp at r;rcases r with rfl|rfl|rfl<;>rfl
    case c3=>unfold maxLen;omega
    case c4=>omega
    case c5=>have:=f.size;simp;omega
    intro V X p n _;have k:=I (Aw (c:=a[b]) f rfl g (by rw[u.o];exact p) n);clear p n f g g1 z B;go_wp2;go_roundw
    ·exact⟨b+1,by omega,by go_num,by rw[i.o];exact k.o.1,k.o.2⟩
    ·simp[intOf];omega
  ·have D:b=a.length:=(by omega);subst D;rw[aS]at g;go_wp2;go_ret;exact⟨_,rfl,g,f⟩
theorem jbs(m:O')(t a:Nat)(d:Bool)(b:List Z9)(j:W)(F:b.length<=1000)(D:a<=b.length)(r:T3 j m b) :
  C' 174 #[.slice m b.length t,N a,.bool d] j fun u C=>u=.returned (N (rowB d (b.drop a):Int))/\C=j:=by
 have l:=I r;clear r;have z:=Vc d (b.drop a);rw[aP]at z;go_enter Tryz.func174,Tryz.ntmps174;go_wp2;go_loop [7] (fun n=>∃c:Nat,c<=rowB d (b.drop a)/\n=N c) (fun n=>1000-(intOf n).toNat)
 case atStart=>exact⟨0,aG _,rfl⟩
 case round =>
  obtain⟨c,E,rfl⟩:=hrel;by_cases y:c<rowB d (b.drop a)
  ·obtain⟨v,e⟩:=Ei d (b.drop a) c y;rw[aP]at v;rw[bZ]at e;have x:a+c<b.length:=(by omega);obtain⟨bb,B,rfl,w,f⟩:=l.o.at_ (aE (by omega));obtain⟨g1,g,h⟩:=f (a+c) x;rw[e]at g1;clear f e g h;have q:(a:Int)+(c:Int)<(b.length:Int):=(by omega);go_wp2;go_round
   ·exact⟨c+1,by omega,by go_num⟩
   ·simp[intOf];omega
  ·have i:c=rowB d (b.drop a):=(by omega);have k:=I i;by_cases p:a+c<b.length
   ·have s:rowB d (b.drop a)<(b.drop a).length:=(by rw[aP];omega);have e:=ES d (b.drop a) s;have o:(b[a+c]'p).null=!d:=by
     rw[<-e,bZ]
     congr 2;omega
    obtain⟨bb,B,rfl,w,f⟩:=l.o.at_ (aE (by omega));obtain⟨g1,g,h⟩:=f (a+c) p;rw[o]at g1;clear f e o g h i s;have q:(a:Int)+(c:Int)<(b.length:Int):=(by omega);cases d
    all_goals
     simp only[eJ,fy]at g1;go_wp2;go_ret;exact⟨qX (by rw[<-k.o]),rfl⟩
   ·have q:(b.length:Int)<=(a:Int)+(c:Int):=(by omega);clear i;go_wp2;go_ret;exact⟨qX (by rw[<-k.o]),rfl⟩
theorem Dd(b:List Z9)(a:Nat)(d:Bool)(l:a<b.length) :
  2*(b.length-(a+rowB d (b.drop a)))+(if rowB (!d) (b.drop (a+rowB d (b.drop a)))=0 then 1 else 0)<2*(b.length-a)+(if rowB d (b.drop a)=0 then 1 else 0):=by
 by_cases e:rowB d (b.drop a)=0
 ·rw[e,dD,aQ rfl];have j:rowB (!d) (b.drop a)≠0:=by
   have i:b.drop a≠[]:=by intro f;have:=bN List.length f;simp at this;omega
   cases g:b.drop a with
   | nil=>exact absurd g i
   | cons c t =>
    rw[g]at e;simp only[rowB]at e ⊢;have m:¬c.null=d:=(by intro f;simp[f]at e);have h:c.null=!d:=(by cases n:c.null<;>cases d<;>simp_all);simp[h]
  rw[aL j];omega
 ·rw[aL e];have k:=Vc d (b.drop a);rw[aP]at k;split<;>omega
def Oo:Value->Bool
 | .bool a=>a
 | _=>false
theorem MC(j:O')(m:Nat)(a:List Z9)(e:W)(G:a.length<=60)(p:T3 e j a) :
  C' 115 #[.slice j a.length m] e fun d L=>d=.returned (S (JC a))/\Below e.heap.size e L:=by
 have w:=I p;clear p;have s:=I (Ku a G);go_enter Tryz.func115,Tryz.ntmps115;go_wp2_with fail;refine(ED _ _ (by omega) (by omega)).mono ?_;rintro d T ⟨rfl,C⟩;rw[bY];go_wp2_with fail;go_loopw [3,4,5] (fun K n h wr=>∃(b:Nat) (c:Bool) (f:B8),b<=a.length/\h=N b/\n=.bool c/\K=S f/\f++xw c (a.drop b)=JC a/\Below e.heap.size e wr)
  (fun _ n h _=>2*(a.length-(intOf h).toNat)+(if rowB (Oo n) (a.drop (intOf h).toNat)=0 then 1 else 0))
 case atStart=>exact⟨0,false,uB a.length,aG _,rfl,rfl,rfl,rfl,C⟩
 case round =>
  obtain⟨b,c,f,D,rfl,rfl,rfl,k,g⟩:=hrel;have l:=I k;have O:f.length<=1000:=by
   have M:=s.o;have y:=bN List.length k;rw[aB]at y;omega
  clear k;by_cases F:b<a.length
  ·have q:a.drop b≠[]:=by intro d;have:=bN List.length d;simp at this;omega
   have v:=I (ZK c (a.drop b) q);have t:=I (Dd a b c F);have H:=Vc c (a.drop b);rw[aP]at H;have P:=jO (rowB c (a.drop b)) (by omega);clear q;go_wp2_with fail;refine(jbs j m b c a _ (by omega) D (w.o.j g)).mono ?_;rintro d U ⟨rfl,rfl⟩;generalize r:rowB c (a.drop b)=i at *;have u:=I r;clear r;go_wp2_with fail;refine(ED _ _ (by omega) (by omega)).mono ?_;rintro d V ⟨rfl,o⟩;rw[bY];have B:=g.trans (o.mono g.size);clear o;go_wp2;go_roundw
   ·
    refine⟨b+i,!c,f++uB i,by omega,by go_num,rfl,by rw[xh],?_,B⟩;rw[<-l.o,v.o,aD,cZ]
   ·
    have z:=t.o;have x:((b:Int)+(i:Int)).toNat=b+i:=(by omega);simp only[intOf,Oo,x,bY,u.o];exact z
  ·have E:b=a.length:=(by omega);subst E;go_wp2;go_ret;exact⟨qH (by rw[<-l.o];simp[xw]),g⟩
theorem Da(i:O')(s:Nat)(a:List Z9)(t:B8)(h:W)(E:a.length<=1000)(e:T3 h i a)(m:∃c∈a,c.text=t) :
  C' 178 #[.slice i a.length s,S t] h fun u x=>u=.returned (N (qj a t:Int))/\x=h:=by
 have y:=I e;obtain⟨C,n⟩:=Zx a t m;have o:=I n;have p:=I (Rq a t);obtain⟨z,G,rfl,B,k⟩:=e.at_ (aE (by omega));have r:=I k;clear e n m k;go_enter Tryz.func178,Tryz.ntmps178;go_wp2;go_loop [5] (fun g=>∃b:Nat,b<=qj a t/\g=N b) (fun g=>1000-(intOf g).toNat)
 case atStart=>exact⟨0,aG _,rfl⟩
 case round =>
  obtain⟨b,D,rfl⟩:=hrel;have d:b<a.length:=by omega
  obtain⟨g1,j,v⟩:=r.o b d;by_cases w:b<qj a t
  ·have F:((a[b]'d).text==t)=false:=(by simpa using p.o b w d);generalize (a[b]'d).text=H at *;clear g1 j;go_wp2;go_round
   ·exact⟨b+1,by omega,by go_num⟩
   ·simp[intOf];omega
  ·have f:b=qj a t:=(by omega);have q:=I f;have l:(a[b]'d).text=t:=by have:=o.o;subst f;exact this
   rw[l]at v;clear g1 j l f;go_wp2;go_ret;exact⟨qX (by rw[<-q.o]),rfl⟩
theorem QM(o:O')(p:Nat)(a:List Z9)(d:W)(K:a.length<=1000)(w:T3 d o a) :
  C' 175 #[.slice o a.length p] d fun r z=>∃v,r=.returned v/\z.ownsRow d.heap.size 58 3 v (qA a).length (jL (qA a))/\Below d.heap.size d z:=by
 obtain⟨P,G,L,M,O⟩:=ks Tryz.au;have C:=I w;clear w;go_enter Tryz.func175,Tryz.ntmps175;go_wp2;go_loopw [3,4] (fun v l wr=>∃b:Nat,b<=a.length/\l=N b/\wr.ownsRow d.heap.size 58 3 v (qz a b).length (jL (qz a b))/\Below d.heap.size d wr) (fun _ l _=>a.length-(intOf l).toNat)
 case atStart=>exact⟨0,aG _,rfl,kg _ _ _ _,k8 _ _⟩
 case round =>
  obtain⟨b,Y,rfl,g,e⟩:=hrel;by_cases i:b<a.length
  ·have k:=C.o.j e;have B:=I k;obtain⟨T,ac,F,V,s⟩:=k.at_ (aE (by omega));subst F;obtain⟨g1,D,E⟩:=s b i;clear s k;have h:J (qz a (b+1)=qz a b++(if qj a (zP a b).text=b then[zP a b]else[])):=rfl;have m:=I (qy a b i);have Z:=Jw a b;generalize qz a b=q at *;have t:=RL a b i;go_wp2_with fail;refine(Da _ p a (a[b]).text _ K B.o ⟨a[b],aJ i,rfl⟩).mono ?_;rintro r wr ⟨rfl,rfl⟩;by_cases f:qj a (a[b]).text=b
   ·have j:J (qz a (b+1)=q++[a[b]]):=by have:=h.o;rw[m.o,aQ f]at this;exact this
    rw[f];clear h f t;go_wp2_with(at_builtin;refine ko _ rfl (.tmp 22) (.tmp 27) 59 rfl d.heap.size 58 P (.agg #[.bool false,N 0,.string ⟨#[]⟩]) 3 32 Tryz.underlying59 G L M O rfl (by decide) _ _ _ rfl (g.alloc _) (A _ 0) 1 1 [.bool (a[b]).null,N (a[b]).int,S (a[b]).text] rfl rfl ?c1 ?c2 ?c3 ?c4 ?c5 ?_)
    case c1=>exact qr wr #[.bool (a[b]).null,N (a[b]).int,S (a[b]).text] 58
    case c2=>intro u y;simp at y;rcases y with rfl|rfl|rfl<;>rfl
    case c3=>unfold maxLen;omega
    case c4=>omega
    case c5=>have:=e.size;simp;omega
    intro v2 w2 x u _;have n:=I (Aw (c:=a[b]) e rfl g x u);clear x u e g g1 D E;go_wp2;go_roundw
    ·exact⟨b+1,by omega,by go_num,by rw[j.o];exact n.o.1,n.o.2⟩
    ·simp[intOf];omega
   ·have j:J (qz a (b+1)=q):=by have:=h.o;rw[m.o,aL f]at this;simpa[J]using this
    have X:((qj a (a[b]).text:Int)==(b:Int))=false:=(by simp;omega);generalize qj a (a[b]).text=U at *;clear h f t;go_wp2;go_roundw
    ·exact⟨b+1,by omega,by go_num,by rw[j.o];exact g,e⟩
    ·simp[intOf];omega
  ·have H:b=a.length:=(by omega);subst H;go_wp2;go_ret;exact⟨_,rfl,g,e⟩
theorem CM(a b:ByteArray):(a++b).data.toList=a.data.toList++b.data.toList:=by simp
theorem jeu(c b:ByteArray)(a:Nat):QR 1 ((⟨#[75]⟩++c++b++⟨(qh (a:Int)).toArray⟩:ByteArray).data.toList)=Gt c.data.toList b.data.toList a:=by
 simp only[CM,Gt];simp
theorem PU(f:UInt8)(j:Value)(o:Obj)(m:l.getD n 0=f)(i:j=.int .u8 (bits .xor .u8 (f.toNat:Int) (Gt s r n%256)))
  (g:Below w.heap.size w v)(q:v.ownsRow w.heap.size 5 1 x n (qW (Qu s r l n)))(h:Below v.heap.size v u)
  (k:t.ownsRow w.heap.size 5 1 y (n+1) (qW (Qu s r l n)++[j]))(b:(u.alloc o).grownBy t x.ownBlock) :
  t.ownsRow w.heap.size 5 1 y (n+1) (qW (Qu s r l (n+1)))/\Below w.heap.size w t:=by
 subst m;rw[MF]at i;subst i;have d:=h.size;have c:=g.size;refine⟨?_,?_⟩
 ·rw[Yo];simpa[qW,GG]using k
 ·exact((g.trans (h.mono c)).alloc (by omega) _).grown b (by simp;omega) (fun n p=>(q.lt n p).1)
theorem YH(c b text:ByteArray)(d:W)(F:c.size<=1000)(G:b.size<=1000)(H:text.size<=5000) :
  C' 122 #[.string c,.string b,.string text] d fun h C =>
   h=.returned (S (zD c.data.toList b.data.toList text.data.toList))/\Below d.heap.size d C:=by
 obtain⟨B,t,x,y,z⟩:=ks Tryz.a4;go_enter Tryz.func122,Tryz.ntmps122;go_wp2;go_loopw [7,8] (fun v k wr=>∃a:Nat,a<=text.size/\k=N a/\wr.ownsRow d.heap.size 5 1 v a (qW (Qu c.data.toList b.data.toList text.data.toList a))/\Below d.heap.size d wr)
  (fun _ k _=>text.size-(intOf k).toNat)
 case atStart=>exact⟨0,aG _,rfl,kg _ _ _ _,k8 _ _⟩
 case round =>
  obtain⟨a,L,rfl,g,e⟩:=hrel;by_cases i:a<text.size
  ·obtain⟨M,O⟩:=Ew c.data.toList b.data.toList a;have s:=I (AG text a i);have r:=I (jeu c b a);have P:(qh (a:Int)).length<=2:=cO (jx _);go_wp2_with fail;refine(Jg _ _ (by omega) (by omega)).mono ?_;rintro h D ⟨rfl,f⟩;go_wp2_with fail;refine(Ii _ D ?_).mono ?_
   ·simp only[lp,jT];unfold maxLen;simp;omega
   rintro h E ⟨rfl,rfl⟩;rw[r.o];have n:=g.kept (Rj f) (fD _);go_wp2_with(at_builtin;refine ko _ rfl (.tmp 24) (.tmp 32) 149 rfl d.heap.size 5 B (.int .u8 0) 1 1 Tryz.underlying149 t x y z rfl (by decide) _ _ _ rfl (n.alloc _) (A E.heap.size 0) 1 1 [.int .u8 (bits .xor .u8 ((text[a]'i).toNat:Int) (Gt c.data.toList b.data.toList a%256))] rfl rfl ?c1 ?c2 ?c3 ?c4 ?c5 ?_)
   case c1=>intro j q u;exact cell_one_new _ _ _ j q u
   case c2=>intro q p;simp at p;subst p;rfl
   case c3=>unfold maxLen;omega
   case c4=>omega
   case c5=>have:=e.size;have:=f.size;simp;omega
   intro T U o m _;have l:=I (PU (text[a]'i) _ _ s.o rfl e g f o m);clear g o m e f n;go_wp2;go_roundw
   ·exact⟨a+1,by omega,by go_num,l.o.1,l.o.2⟩
   ·simp[intOf];omega
  ·have w:a=text.size:=(by omega);subst w;have K:=VO g;go_wp2;go_ret;exact⟨by simp[zD],e⟩
section
def OO(T:List TypeId)(o:Obj):Prop:=∃a t,o=.cells a t (0,0)/\t∈T
structure V8 (T:List TypeId) (B:Nat) (w w':W):Prop where
 os:w'.os=w.os
 tape:w'.tape=w.tape
 output:w'.output=w.output
 size:w.heap.size<=w'.heap.size
 block:∀k,k<B->w'.heap[k]?=w.heap[k]?
 other:∀(k:Nat) (o:Obj),w.heap[k]?=some o->¬OO T o->w'.heap[k]?=some o
variable {T:List TypeId} {B:Nat}
theorem V8.refl(T:List TypeId)(B:Nat)(a:W):V8 T B a a:=⟨rfl,rfl,rfl,aA _,fun _ _=>rfl,fun _ _ b _=>b⟩
theorem V8.trans(a:V8 T B w v)(b:V8 T B v u):V8 T B w u :=
 ⟨b.os.trans a.os,b.tape.trans a.tape,b.output.trans a.output,aI a.size b.size,fun d e=>(b.block d e).trans (a.block d e),fun d o e h=>b.other d o (a.other d o e h) h⟩
theorem V8.below(a:V8 T B w v):Below B w v:=⟨a.os,a.tape,a.output,a.size,a.block⟩
theorem Below.ag(a:Below w.heap.size w v)(f:B<=w.heap.size):V8 T B w v :=
 ⟨a.os,a.tape,a.output,a.size,fun d c=>a.block d (by omega),fun d o c _=>(a.block d (aF.1 c).1).trans c⟩
theorem V8.drew(a:V8 T B w v):V8 T B w v.drew:=⟨a.os,a.tape,a.output,a.size,a.block,a.other⟩
theorem V8.b3(a:V8 T B w.drew v):V8 T B w v:=⟨a.os,a.tape,a.output,a.size,a.block,a.other⟩
theorem V8.alloc(c:V8 T B w v)(d:B<=v.heap.size)(o:Obj):V8 T B w (v.alloc o) :=
 c.trans (Below.ag ((k8 _ _).alloc (aA _) _) d)
variable{d:Option Nat}
theorem V8.grown(j:V8 T B w v)(b:v.grownBy u d)(m:B<=v.heap.size)
  (i:∀a,d=some a->B<=a/\∃o,v.heap[a]?=some o/\OO T o):V8 T B w u:=by
 refine j.trans ⟨b.os,b.tape,b.output,b.size,fun a e=>b.block a (by omega) (fun f=>by have:=(i a f.symm).1;omega),fun a o e l=>?_⟩;rw[b.block a (aF.1 e).1 ?_]
 ·exact e
 ·intro f;obtain⟨_,n,h,k⟩:=i a f.symm;rw[e]at h;cases h;exact l k
variable{F:TypeId}
theorem RF(h:w.ownsRow n F m x k C)(j:F∈T) :
  ∀a,x.ownBlock=some a->n<=a/\∃o,w.heap[a]?=some o/\OO T o:=by
 intro a c;rcases h.2 with⟨rfl,_⟩|⟨g,size,f,rfl,i,b,_⟩
 ·simp[Value.ownBlock]at c
 ·simp[Value.ownBlock]at c;subst c;exact⟨i,_,b,f,F,rfl,j⟩
theorem V8.owns(o:V8 T B w v)(c:w.ownsRow n F m x k C)(l:¬F∈T):v.ownsRow n F m x k C:=by
 refine⟨c.1,?_⟩;rcases c.2 with p|⟨g,h,i,rfl,f,b,rest⟩
 ·exact .inl p
 ·refine .inr ⟨g,h,i,rfl,f,o.other g _ b ?_,rest⟩;rintro⟨r,t,j,q⟩;cases j;exact l q
theorem V8.row{b:V'}(i:V8 T B w v)(f:w.heap[n]?=some (.cells b F (0,0)))(h:¬F∈T):v.heap[n]?=some (.cells b F (0,0)):=by
 refine i.other n _ f ?_;rintro⟨k,t,e,j⟩;cases e;exact h j
theorem jb{a:V'}(d:w.heap[n]?=some (.cells a F (0,0))):w.cell? (A n m)=a[m]?:=kC w n m a F (0,0) d
theorem V8.set{g j:Nat}{f:V'}(i:V8 T B w v)(l:v.heap[g]?=some (.cells f F (0,0)))(n:B<=g)(k:F∈T)(a:Value):V8 T B w (v.setCell (A g j) a):=by
 refine i.trans ⟨rfl,rfl,rfl,by simp,fun d b=>kA v (A g j) d a (by simp;omega),fun d o b m=>?_⟩;rw[kA v (A g j) d a ?_]
 ·exact b
 ·intro h;simp only at h;subst h;rw[l]at b;cases b;exact m ⟨f,F,rfl,k⟩
theorem Jl{α:Type}(e:α->List Value)(c:Nat)(f:∀h,(e h).length=c)(b:List α):∀(j a:Nat) (d:j<b.length) (g:a<c),(b.flatMap e)[j*c+a]?=(e b[j])[a]?:=by
 induction b with
 | nil=>intro j a d;simp at d
 | cons h b k =>
  intro j a d g;rw[cu];cases j with
  | zero=>rw[cR (by rw[f];omega)];simp
  | succ j =>
   have i:j<b.length:=(by simpa using d);rw[bM (by rw[f,dj];omega),f];rw[show(j+1)*c+a-c=j*c+a by rw[dj];omega];exact k j a i g
theorem Qn{α:Type}(b:α->List Value)(c:Nat)(e:∀d,(b d).length=c)(a:List α):(a.flatMap b).length=a.length*c:=by
 induction a with
 | nil=>simp
 | cons d a f=>rw[cu,aB,e,f,bC,dj];omega
theorem jJ(a:W)(b:V')(t:TypeId):Below a.heap.size a (a.alloc (.cells b t))/\a.heap.size<(a.alloc (.cells b t)).heap.size/\(∀j,(a.alloc (.cells b t)).cell? (A a.heap.size j)=b[j]?)/\(a.alloc (.cells b t)).heap[a.heap.size]?=some (.cells b t (0,0)) :=
 ⟨(k8 _ _).alloc (aA _) _,by simp,fun j=>kF ..,kH a _⟩
theorem Qj(a:W):Below a.heap.size a a.drew:=jg (k8 _ _)
end
end Go.Proofs.YthhpbhpfagoapaaGreat
