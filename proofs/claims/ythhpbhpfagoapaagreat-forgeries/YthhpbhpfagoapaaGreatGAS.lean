import Derived.Test.YthhpbhpfagoapaaGreatGAM
import Derived.Test.YthhpbhpfagoapaaGreatGAP
namespace Go.Proofs.YthhpbhpfagoapaaGreat
set_option linter.all false
set_option maxRecDepth 100000
set_option maxHeartbeats 16000000
open Go.RowKit
def GL{α:Type}(b:α->Prop)(d:α->B8)(val:α->Value)(p:Nat)(g rest:B8)(h:W)(c:Ending)(f:W):Prop :=
 h.grownBy f (some p)/\((c=T8/\∀a q,b a->rest≠d a++q)\/∃a e,b a/\c=.returned (val a)/\qU f p g e/\rest=d a++e)
theorem JQ(p:Nat)(b rest:B8)(a:Nat)(d:W)(k:b.length<=maxLen)(z:a<=1000000)(h:qU d p b rest) :
  C' 242 #[(Q p 0),N a] d (GL (fun n:Nat=>n<=a) uB (fun n=>N n) p b rest d):=by
 have o:=I k;have l:=I h;clear k h;have B:IntKind.u64.wrap (a:Int)=(a:Int):=Qw (by omega) (by omega);go_enter Tryz.func242,Tryz.ntmps242;go_wp2_with fail;refine(El p b rest _ o.o l.o).mono ?_;rintro g D ⟨c,⟨rfl,w⟩|⟨n,x,v,i,rfl,j⟩⟩
 ·go_wp2;exact⟨rfl,c,.inl ⟨rfl,fun f q r=>w f q (by omega)⟩⟩
 ·have e:=I i;have m:=I j;clear i j;by_cases u:n<=a
  ·have t:(n:Int)<=(a:Int):=(by omega);have C:IntKind.i64.wrap (n:Int)=(n:Int):=Ge (by omega) (by omega);go_wp2_with fail;refine(qx _).mono ?_;rintro g y ⟨rfl,rfl⟩;go_wp2;go_ret;exact⟨c,.inr ⟨n,x,u,rfl,m.o,e.o⟩⟩
  ·have t:decide ((n:Int)<=(a:Int))=false:=(by simp;omega);go_wp2_with fail;refine(xu _).mono ?_;rintro g y ⟨rfl,rfl⟩;go_wp2;exact⟨rfl,c,.inl ⟨rfl,fun f q r s=>by
    have:=(Io v (by omega) (e.o.symm.trans s)).1;omega⟩⟩
theorem Ot(b a:Nat)(f:b<256)(g:a<256):bits .or .i64 (b:Int) ((a:Int)*256)=((b+256*a:Nat):Int):=by
 have c:(a:Int)*256=((256*a:Nat):Int):=by omega
 rw[c];have h:b ||| 256*a<2^16:=Nat.or_lt_two_pow (by omega) (by omega);show IntKind.i64.wrap ((BitVec.ofInt 64 (b:Int) ||| BitVec.ofInt 64 ((256*a:Nat):Int)).toNat:Int)=_;rw[BitVec.toNat_or,ofInt_u64 b (by omega),ofInt_u64 (256*a) (by omega),kD _ ⟨by omega,by omega⟩];have d:=eH (i:=8) (b:=b) (by omega) a;rw[gO];have e:256*a+b=256*a ||| b:=d;omega
theorem Ni(p:Nat)(e rest:B8)(j:W)(t:e.length<=maxLen)(q:qU j p e rest) :
  C' 223 #[(Q p 0)] j fun g u=>j.grownBy u (some p) /\
   ((rest.length<2/\g=T8)\/∃a b i,rest=a::b::i/\g=.returned (N ((a.toNat+256*b.toNat:Nat):Int))/\qU u p e i):=by
 have o:=I t;have v:=I q;clear t q;go_enter Tryz.func223,Tryz.ntmps223;go_wp2_with fail;refine(Kz p e rest j o.o v.o).mono ?_;rintro g C ⟨m,⟨c,rfl⟩|⟨a,B,c,rfl,r⟩⟩
 ·have f:=I c;clear c;go_wp2;exact⟨rfl,m,.inl ⟨by rw[f.o];decide,rfl⟩⟩
 ·have f:=I c;have w:=I r;have n:=I m;clear c r m;have y:=a.toNat_lt;have E:IntKind.i64.wrap (a.toNat:Int)=(a.toNat:Int):=kD _ ⟨by omega,by omega⟩;go_wp2_with fail;refine(Kz p e B C o.o w.o).mono ?_;rintro g G ⟨h,⟨d,rfl⟩|⟨b,i,d,rfl,s⟩⟩
  ·have l:=I d;have k:=I (je n.o h);clear d h;go_wp2;exact⟨rfl,k.o,.inl ⟨by rw[f.o,l.o];exact bG 1,rfl⟩⟩
  ·have l:=I d;have x:=I s;have k:=I (je n.o h);clear d h s;have z:=b.toNat_lt;have F:IntKind.i64.wrap (b.toNat:Int)=(b.toNat:Int):=kD _ ⟨by omega,by omega⟩;have D:=Ot a.toNat b.toNat y z;go_wp2;go_ret;exact⟨k.o,.inr ⟨a,b,i,by rw[f.o,l.o],qX (by omega),x.o⟩⟩
theorem Fg(p:Nat)(d rest:B8)(b:Nat)(g:W)(w:d.length<=maxLen)(O:b<=1000)(r:qU g p d rest) :
  C' 247 #[(Q p 0),N b] g (GL (fun t:B8=>t.length<=b) xB S p d rest g):=by
 have m:=I w;have y:=I r;clear w r;go_enter Tryz.func247,Tryz.ntmps247;go_wp2_with fail;refine(JQ p d rest b g m.o (by omega) y.o).mono ?_;rintro D H ⟨i,⟨rfl,G⟩|⟨n,c,P,rfl,u,s⟩⟩
 ·go_wp2;exact⟨rfl,i,.inl ⟨rfl,fun a q o e=>G a.length (a++q) o (by rw[e,xB,aD])⟩⟩
 ·have k:=I i;have l:=I s;have z:=I u;clear i s u;go_wp2_with fail;refine(QJ p d c n H m.o (by omega) z.o).mono ?_;rintro D T ⟨f,⟨M,rfl⟩|⟨L,rfl,v⟩⟩
  ·have h:=I (je k.o f);have x:J (∀a q,a.length<=b->rest≠xB a++q):=by
    intro a q o e;rw[l.o,xB,aD]at e;obtain⟨K,E⟩:=Io (by omega) (by omega) e;have:=bN List.length E;rw[aB]at this;omega
   clear f;go_wp2;exact⟨rfl,h.o,.inl ⟨rfl,x.o⟩⟩
  ·have h:=I (je k.o f);have B:=I v;have j:J ((c.take n).length<=b/\rest=xB (c.take n)++c.drop n):=by
    have F:(c.take n).length=n:=(by rw[aM];omega);refine⟨by omega,?_⟩;rw[l.o,xB,F,aD,aY]
   clear f v;generalize c.take n=C at *;go_wp2;go_ret;exact⟨h.o,.inr ⟨C,_,j.o.1,rfl,B.o,j.o.2⟩⟩
theorem Id(p:Nat)(a rest:B8)(d:W)(j:a.length<=maxLen)(i:qU d p a rest) :
  C' 227 #[(Q p 0)] d fun c b=>Below d.heap.size d b/\((rest≠[]/\c=T8)\/(rest=[]/\c=.returned (.tuple #[]))):=by
 obtain⟨at_,f,n,rfl⟩:=i;obtain⟨⟨c0,c1⟩,_⟩:=RD f;unfold maxLen at j;clear f;by_cases g:at_=a.length
 ·have h:((at_:Int)==(a.length:Int))=true:=by simp;omega
  have e:J (a.drop at_=[]):=by show _=_;rw[gx];omega
  clear g;go_enter Tryz.func227,Tryz.ntmps227;go_wp2_with fail;go_region_held3 (fun b=>b.cell? (A p 0)=some (S a)/\b.cell? (A p 1)=some (N at_)) (exact⟨c0,c1⟩)
   (first|(go_at_call 155;refine(qx _).mono ?_;rintro c b ⟨rfl,rfl⟩))
  go_wp2;go_end0
  exact⟨jg (k8 _ _),.inr ⟨e.o,rfl⟩⟩
 ·have h:((at_:Int)==(a.length:Int))=false:=by simp;omega
  have e:J (a.drop at_≠[]):=by show _≠_;rw[gV,gx];omega
  clear g;go_enter Tryz.func227,Tryz.ntmps227;go_wp2_with fail;refine k9 (S:=fun b=>b.cell? (A p 0)=some (S a)/\b.cell? (A p 1)=some (N at_)) (by kernel_rfl) ?_ (fun l=>?_)
  ·exact⟨c0,c1⟩
  refine tk 0 (Q p 0) ?_;refine tk 1 (Q p 0) ?_;refine tk 2 (Q p 1) ?_;refine tk 3 (N at_) ?_;refine tk 4 (Q p 0) ?_;refine tk 5 (Q p 0) ?_;refine tk 6 (Q p 0) ?_;refine tk 7 (S a) ?_;refine tk 8 (N a.length) ?_;refine tk 9 (.bool false) ?_;simp only[jA,jB,jC,Act.put,jD,jE,jF];refine rd 10 (fun k m=>?_);simp only[jA,jB,jC];go_simp;go_at_call 155
  refine(xu _).mono ?_;rintro c b ⟨rfl,rfl⟩;exact⟨rfl,jg (k8 _ _),.inl ⟨e.o,rfl⟩⟩
theorem jco(p:Nat)(a rest:B8)(b:W)(g:a.length<=maxLen)(f:qU b p a rest) :
  C' 270 #[(Q p 0)] b fun e h=>Below b.heap.size b h/\e=.returned (N ((a.length-rest.length:Nat):Int)):=by
 obtain⟨at_,c,i,rfl⟩:=f;obtain⟨⟨c0,c1⟩,_⟩:=RD c;unfold maxLen at g;have d:J (a.length-(a.drop at_).length=at_):=by show _=_;rw[aP];omega
 clear c;go_enter Tryz.func270,Tryz.ntmps270;go_wp2;go_ret;exact⟨k8 _ _,qX (by rw[d.o])⟩
theorem Uf{w:W}{B:Nat}{t:TypeId}:∀(d a c:List Value),∀(b:List Value),b.length=d.length->w.heap[B]?=some (.cells (a++(b++c)).toArray t (0,0)) ->
  (w.setCells B a.length d).heap[B]?=some (.cells (a++(d++c)).toArray t (0,0)):=by
 intro d
 induction d generalizing w with
 | nil=>intro a c b f e;rw[aO f]at e;simpa[World.setCells]using e
 | cons v d i =>
  intro a c b f e;cases b with
  | nil=>simp at f
  | cons o b =>
   rw[World.setCells];have h:(w.setCell (A B a.length) v).heap[B]?=some (.cells ((a++[v])++(b++c)).toArray t (0,0)):=by
    rw[kj w B a.length _ t v e];simp
   have g:=i (a++[v]) c b (by simpa using f) h;rw[aB,List.length_singleton]at g;rw[g];simp
variable{v w:W}{m n:Nat}{F:TypeId}
theorem Xk{d:V'}(b:List Value)(f:d.size=b.length)(e:v.heap[n]?=some (.cells d F (0,0))):(v.setCells n 0 b).heap[n]?=some (.cells b.toArray F (0,0)):=by
 have:=Uf (w:=v) (t:=F) (B:=n) b [] [] d.toList (by simpa using f) (by simpa using e);simpa using this
theorem zu(b:Nat):∀(c:List Value) (a:W) (o:Nat),a.grownBy (a.setCells b o c) (some b):=by
 intro c
 induction c with
 | nil=>intro a o;exact qb a _
 | cons v c f =>
  intro a o;rw[World.setCells];refine je ?_ (f (a.setCell (A b o) v) (o+1));exact⟨rfl,rfl,rfl,by simp,fun g _ e=>kA a (A b o) g v (fun d=>e (by simp[d]))⟩
theorem ZI(c:Nat):∀(a:List Value) (b:W) (o:Nat),(b.setCells c o a).heap.size=b.heap.size:=by
 intro a
 induction a with
 | nil=>intro b o;rfl
 | cons v a d=>intro b o;rw[World.setCells,d];simp
theorem QB(a:W)(b:V')(c:TypeId)(d:V')(e:TypeId):Below a.heap.size a ((a.alloc (.cells b c)).alloc (.cells d e))/\a.heap.size+1<((a.alloc (.cells b c)).alloc (.cells d e)).heap.size /\
  ((a.alloc (.cells b c)).alloc (.cells d e)).heap[a.heap.size]?=some (.cells b c (0,0))/\((a.alloc (.cells b c)).alloc (.cells d e)).heap[a.heap.size+1]?=some (.cells d e (0,0)):=by
 have f:(a.alloc (.cells b c)).heap.size=a.heap.size+1:=by simp
 refine⟨((k8 _ _).alloc (aA _) _).alloc (by simp) _,by simp,(((k8 (a.alloc (.cells b c)).heap.size _).alloc (aA _) (.cells d e)).block a.heap.size (by simp)).trans (kH a _),?_⟩;have:=kH (a.alloc (.cells b c)) (.cells d e);rw[f]at this;exact this
theorem KB(a b:UInt8):qh ((a.toNat+256*b.toNat:Nat):Int)=[a,b]:=by
 have c:=a.toNat_lt;have d:=b.toNat_lt;unfold qh;simp only[bT,de];constructor
 ·apply dZ.1;simp only[dG];omega
 ·apply dZ.1;simp only[dG];omega
abbrev NB:=B8×B8
def Xc(a:NB):Prop:=a.1.length=4/\2<=a.2.length/\a.2.length<=65535
def zn(a:NB):B8:=qh (a.2.length:Int)++(a.1++a.2)
abbrev D3(sort:B8)(g c a:Nat):Value:=.agg #[S sort,N g,N c,N a]
abbrev C5(sort:B8)(g c b:Nat)(a:NB):Value:=.agg #[S sort,N g,N c,N b,S a.1,S a.2]
variable{r s:B8}
theorem Mn{b c:UInt8}{a:NB}(i:Xc a)(d:b::c::s=zn a++r):a.2.length=b.toNat+256*c.toNat/\s=a.1++(a.2++r):=by
 unfold zn at d;rw[aD,aD]at d;have g:[b,c]++s=qh (a.2.length:Int)++(a.1++(a.2++r)):=d;obtain⟨f,h⟩:=bO g (by rw[jx];rfl);rw[<-KB b c]at f;have j:=b.toNat_lt;have k:=c.toNat_lt;exact⟨(QH (by omega) i.2.2 f).symm,h⟩
theorem Ce{a b:UInt8}(e:2<=a.toNat+256*b.toNat)(f:4<=s.length)(i:a.toNat+256*b.toNat<=(s.drop 4).length) :
  Xc (s.take 4,(s.drop 4).take (a.toNat+256*b.toNat))/\a::b::s=zn (s.take 4,(s.drop 4).take (a.toNat+256*b.toNat))++(s.drop 4).drop (a.toNat+256*b.toNat):=by
 have g:=a.toNat_lt;have h:=b.toNat_lt;have d:((s.drop 4).take (a.toNat+256*b.toNat)).length=a.toNat+256*b.toNat:=by rw[aM];omega
 refine⟨⟨by simp;omega,by simp only[d];omega,by simp only[d];omega⟩,?_⟩;unfold zn;simp only[d];rw[KB,aD,aD,aY,aY];rfl
theorem jm{o:Obj}(e:w.grownBy v (some n))(b:w.heap[m]?=some o)(f:m≠n):v.heap[m]?=some o :=
 (e.block m (aF.1 b).1 (by simpa using f)).trans b
theorem JL(e:qU w n s r)(i:w.grownBy v (some m))(j:n≠m):qU v n s r:=by
 obtain⟨at_,f,g,h⟩:=e;exact⟨at_,jm i f j,g,h⟩
variable{q x y z:Value}
theorem VK(b:w.heap[n]?=some (.cells #[x,y,z,q] F (0,0))):w.cell? (A n 0)=some x/\w.cell? (A n 1)=some y/\w.cell? (A n 2)=some z/\w.cell? (A n 3)=some q :=
 ⟨by rw[jb b];rfl,by rw[jb b];rfl,by rw[jb b];rfl,by rw[jb b];rfl⟩
theorem KS{d e c f g h:Value}(b:w.heap[n]?=some (.cells #[d,e,c,f,g,h] F (0,0))):(w.cell? (A n 0)=some d/\w.cell? (A n 1)=some e/\w.cell? (A n 2)=some c/\w.cell? (A n 3)=some f/\w.cell? (A n 4)=some g/\w.cell? (A n 5)=some h) /\
  (w.frozen? (A n 0)=false/\w.frozen? (A n 1)=false/\w.frozen? (A n 2)=false/\w.frozen? (A n 3)=false/\w.frozen? (A n 4)=false/\w.frozen? (A n 5)=false) :=
 ⟨⟨by rw[jb b];rfl,by rw[jb b];rfl,by rw[jb b];rfl,by rw[jb b];rfl,by rw[jb b];rfl,by rw[jb b];rfl⟩,
  kh w n _ _ F b,kh w n _ _ F b,kh w n _ _ F b,kh w n _ _ F b,kh w n _ _ F b,kh w n _ _ F b⟩
theorem VX(p g c i:Nat)(sort l rest:B8)(b:W)(hs:l.length<=maxLen)(Z:qU b p l rest) :
  C' 226 #[(Q p 0),D3 sort g c i] b (GL Xc zn (C5 sort g c i) p l rest b):=by
 have F:=I hs;have Hp:=I Z;have d5:=zh Z;clear hs Z;go_enter Tryz.func226,Tryz.ntmps226;go_wp2_with fail;obtain⟨K,d7,L,X⟩:=QB b #[S sort,N g,N c,N i] 111 #[S [],N 0,N 0,N 0,S [],S []] 113;generalize (b.alloc _).alloc _=W0 at *;have dv:=I (xf Hp.o K d5);have y:b.grownBy W0 (some p):=jU (qb b _) K;have T:b.heap.size≠p:=by omega
 have V:b.heap.size+1≠p:=by omega
 clear K;refine(Ni p l rest W0 F.o dv.o).mono ?_;rintro x w1 ⟨m,⟨o,rfl⟩|⟨e,f,a,o,rfl,bX⟩⟩
 ·have HN:J (∀(d:NB) q,Xc d->rest≠zn d++q):=by
   rintro d q j rfl;unfold zn at o;simp only[aB,jx]at o;omega
  have HG:=I (je y m);clear o m y L X;go_wp2;exact⟨rfl,HG.o,.inl ⟨rfl,HN.o⟩⟩
 ·have M:=jm m L T;have Y:=jm m X V;have D:=I (je y m);have dT:=I bX;have w:=I o;have d6:e.toNat+256*f.toNat<=65535:=by have:=e.toNat_lt;have:=f.toNat_lt;omega
  have HM:J (2<=e.toNat+256*f.toNat->4<=a.length->e.toNat+256*f.toNat<=(a.drop 4).length->Xc (a.take 4,(a.drop 4).take (e.toNat+256*f.toNat))/\e::f::a=zn (a.take 4,(a.drop 4).take (e.toNat+256*f.toNat))++(a.drop 4).drop (e.toNat+256*f.toNat)):=Ce;have E:J (∀(d:NB) q,Xc d->e::f::a=zn d++q->d.2.length=e.toNat+256*f.toNat/\a=d.1++(d.2++q)):=fun d q=>Mn;clear o m y L X bX;have d8:=aZ w1 (A (b.heap.size+1) 0) (by rw[jb Y];rfl);generalize e.toNat+256*f.toNat=n at *;by_cases h2:2<=n
  ·have hi:(2:Int)<=(n:Int):=(by omega);go_wp2_with fail;refine(qx _).mono ?_;rintro x w2 ⟨rfl,rfl⟩;go_wp2_with fail;have HC:=I (VK M);have da:=I M;have dr:=I Y;clear M Y;refine k9 (S:=fun C=>C.cell? (A b.heap.size 0)=some (S sort)/\C.cell? (A b.heap.size 1)=some (N g)/\C.cell? (A b.heap.size 2)=some (N c)/\C.cell? (A b.heap.size 3)=some (N i)) (by kernel_rfl) ?_ (fun z=>?_)
   ·exact HC.o
   refine tk 0 (D3 sort g c i) ?_;refine tk 1 (Q p 0) ?_;refine tk 3 (Q p 0) ?_;refine tk 4 (N n) ?_;simp only[jA,jB,jC,Act.put,jD,jE,jF];refine rd 2 (fun k h=>?_);simp only[jA,jB,jC];go_simp;go_at_call 224
   refine(QJ p l a 4 _ F.o (by omega) (show qU w2.drew p l a from dT.o)).mono ?_;rintro x w3 ⟨t,⟨be,rfl⟩|⟨d2,rfl,b4⟩⟩
   ·refine⟨rfl,je D.o (jS t),.inl ⟨rfl,fun d q j s=>?_⟩⟩;obtain⟨_,G⟩:=E.o d q j (w.o.symm.trans s);have H:=bN List.length G;have h6:=j.1;rw[aB]at H;omega
   have O:=jm (jS t) da.o T;have bi:=jm (jS t) dr.o V;have am:=I (je D.o (jS t));have dW:=I b4;have ce:=I (VK O);have ds:=I bi;have dd:=I O;clear t b4 O bi;(try go_wp2_with fail);refine h.out _ _ ce.o (fun z=>?_);clear h k;(try simp only[jA,jB,jC,Act.put,jD,jE,jF]);refine rd 5 (fun k h=>?_);simp only[jA,jB,jC];go_simp;go_at_call 224
   refine(QJ p l (a.drop 4) n w3 F.o (by omega) dW.o).mono ?_;rintro x w4 ⟨u,⟨be,rfl⟩|⟨d3,rfl,cd⟩⟩
   ·refine⟨rfl,je am.o u,.inl ⟨rfl,fun d q j s=>?_⟩⟩;obtain⟨h3,G⟩:=E.o d q j (w.o.symm.trans s);have H:=j.1;rw[G,<-H,fF,aB]at be;omega
   have P:=jm u dd.o T;have bv:=jm u ds.o V;have co:=I (je am.o u);have d0:=I cd;have ac:=I (VK P);have ap:=I bv;have dl:=I P;have HE:=I (HM.o h2 d2 d3);clear u cd P bv;generalize a.take 4=r at *;generalize (a.drop 4).take n=U at *;generalize (a.drop 4).drop n=V at *;(try go_wp2_with fail);refine h.out _ _ ac.o (fun z=>?_);clear h k;(try simp only[jA,jB,jC,Act.put,jD,jE,jF]);refine rd 6 (fun k h=>?_);simp only[jA,jB,jC];go_simp;(try go_wp2_with fail);refine h.out _ _ ac.o (fun z=>?_);clear h k;(try simp only[jA,jB,jC,Act.put,jD,jE,jF]);obtain⟨⟨q0,q1,q2,q3,q4,q5⟩,z0,z1,z2,z3,z4,z5⟩:=KS ap.o;refine rd 7 (fun k h=>?_);simp only[jA,jB,jC];(try go_simp);show k _ (w4.setCells (b.heap.size+1) 0 [S sort,N g,N c,N i,S r,S U]);have d4:=Xk [S sort,N g,N c,N i,S r,S U] (by rfl) ap.o;have B:=zu (b.heap.size+1) [S sort,N g,N c,N i,S r,S U] w4 0;clear q0 q1 q2 q3 q4 q5 z0 z1 z2 z3 z4 z5;generalize w4.setCells _ _ _=W5 at *;have ci:=I (VK (jm B dl.o (by omega)));have cs:=I (Jt co.o B (by rintro i hk;cases hk;omega));have d1:=I (JL d0.o B (by omega));clear B;refine h.out _ _ ci.o (fun z=>?_);clear h k;refine kp (by kernel_rfl) ?_ _;obtain⟨⟨q0,q1,q2,q3,q4,q5⟩,_⟩:=KS d4;go_wp2;exact kk (v:=C5 sort g c i (r,U)) (by simp[results,Tryz.results226,go_sem,q0,q1,q2,q3,q4,q5]) rfl ⟨cs.o,.inr ⟨(r,U),V,HE.o.1,rfl,d1.o,w.o.trans HE.o.2⟩⟩
  ·have hi:decide ((2:Int)<=(n:Int))=false:=(by simp;omega);go_wp2_with fail;refine(xu _).mono ?_;rintro x w2 ⟨rfl,rfl⟩;go_wp2;exact⟨rfl,D.o,.inl ⟨rfl,fun d q j s=>by
    have:=(E.o d q j (w.o.symm.trans s)).1;have:=j.2.1;omega⟩⟩
theorem jn(a:w.grownBy v (some m))(i:n<=m)(g:n<=w.heap.size):Below n w v :=
 ⟨a.os,a.tape,a.output,a.size,fun f h=>a.block f (by omega) (fun e=>by cases e;omega)⟩
theorem Kw(b:B8)(a:W) :
  C' 157 #[S b] a fun d c=>d=.returned (Q a.heap.size 0)/\qU c a.heap.size b b/\Below a.heap.size a c:=by
 go_enter Tryz.func157,Tryz.ntmps157;go_wp2;go_ret;exact⟨rfl,⟨0,kH a _,aG _,rfl⟩,(k8 _ _).alloc (aA _) _⟩
theorem YZ(c:s≠r):(s==r)=false:=by simp[c]
theorem Ct(p:Nat)(h rest:B8)(m:W)(x:h.length<=maxLen)(u:qU m p h rest) :
  C' 156 #[(Q p 0)] m (GL (fun n:Nat=>n<=65535) (fun n=>qh (n:Int)++[67,70]) (fun n=>N n) p h rest m):=by
 have t:=I x;have C:=I u;clear x u;go_enter Tryz.func156,Tryz.ntmps156;go_wp2_with fail;refine(Ni p h rest m t.o C.o).mono ?_;rintro o M ⟨k,⟨b,rfl⟩|⟨e,f,c,b,rfl,v⟩⟩
 ·have d:J (∀(n:Nat) q,n<=65535->rest≠(qh (n:Int)++[67,70])++q):=by
   rintro n q g rfl;simp only[aB,jx]at b;omega
  have y:=I k;clear b k;go_wp2;exact⟨rfl,y.o,.inl ⟨rfl,d.o⟩⟩
 ·have r:=I k;have D:=I v;have K:e.toNat+256*f.toNat<=65535:=by have:=e.toNat_lt;have:=f.toNat_lt;omega
  have s:J (∀(n:Nat) q,n<=65535->rest=(qh (n:Int)++[67,70])++q->c.take 2=[67,70]):=by
   intro n q g a;rw[b,aD]at a;have G:[e,f]++c=qh (n:Int)++([67,70]++q):=a;obtain⟨_,H⟩:=bO G (by rw[jx];rfl);rw[H];rfl
  have z:J (c.take 2=[67,70]->rest=(qh ((e.toNat+256*f.toNat:Nat):Int)++[67,70])++c.drop 2):=by
   intro a;rw[KB,b,<-a,aD,aY];rfl
  clear b k v;generalize e.toNat+256*f.toNat=n at *;go_wp2_with fail;refine(QJ p h c 2 M t.o (by omega) D.o).mono ?_;rintro o U ⟨l,⟨T,rfl⟩|⟨P,rfl,w⟩⟩
  ·have i:=I (je r.o l);have d:J (∀(n:Nat) q,n<=65535->rest≠(qh (n:Int)++[67,70])++q):=by
    intro n q g a;have:=bN List.length (s.o n q g a);rw[aM]at this;simp at this;omega
   clear l;go_wp2;exact⟨rfl,i.o,.inl ⟨rfl,d.o⟩⟩
  ·have i:=I (je r.o l);have E:=I w;clear l w;generalize c.take 2=F at *;by_cases j:F=[67,70]
   ·have B:=I (z.o j);subst j;go_wp2_with fail;refine(qx _).mono ?_;rintro o O ⟨rfl,rfl⟩;go_wp2;go_ret;exact⟨i.o,.inr ⟨n,_,K,rfl,E.o,B.o⟩⟩
   ·have L:=YZ j;go_wp2_with fail;refine(xu _).mono ?_;rintro o O ⟨rfl,rfl⟩;have d:J (∀(n:Nat) q,n<=65535->rest≠(qh (n:Int)++[67,70])++q):=fun n q g a=>j (s.o n q g a);clear L;go_wp2;exact⟨rfl,i.o,.inl ⟨rfl,d.o⟩⟩
def Zc(told:Bool)(a:Nat):B8:=[67,70]++[if told=true then 79 else 69]++[T4 (a:Int)]
theorem jde{c0 c1 c2 c3 c4 c5 c6 c7 c8 c9 v:Value}(b:w.heap[n]?=some (.cells #[c0,c1,c2,c3,c4,c5,c6,c7,c8,c9] F (0,0))):(w.setCell (A n 0) v).heap[n]?=some (.cells #[v,c1,c2,c3,c4,c5,c6,c7,c8,c9] F (0,0)):=by
 rw[kj w n 0 _ F v b];rfl
theorem jcl{c0 c1 c2 c3 c4 c5 c6 c7 c8 c9 v:Value}(b:w.heap[n]?=some (.cells #[c0,c1,c2,c3,c4,c5,c6,c7,c8,c9] F (0,0))):(w.setCell (A n 1) v).heap[n]?=some (.cells #[c0,v,c2,c3,c4,c5,c6,c7,c8,c9] F (0,0)):=by
 rw[kj w n 1 _ F v b];rfl
theorem jce{c0 c1 c2 c3 c4 c5 c6 c7 c8 c9 v:Value}(b:w.heap[n]?=some (.cells #[c0,c1,c2,c3,c4,c5,c6,c7,c8,c9] F (0,0))):(w.setCell (A n 2) v).heap[n]?=some (.cells #[c0,c1,v,c3,c4,c5,c6,c7,c8,c9] F (0,0)):=by
 rw[kj w n 2 _ F v b];rfl
theorem qQ(a:W)(q b:Nat)(v:Value):a.grownBy (a.setCell (A q b) v) (some q) :=
 ⟨rfl,rfl,rfl,by simp,fun e _ d=>kA a (A q b) e v (fun c=>d (by simp[c]))⟩
theorem xZ{c0 c1 c2 c3 c4 c5 c6 c7 c8 c9:Value}(b:w.heap[n]?=some (.cells #[c0,c1,c2,c3,c4,c5,c6,c7,c8,c9] F (0,0))) :
  (w.cell? (A n 0)=some c0/\w.cell? (A n 1)=some c1/\w.cell? (A n 2)=some c2/\w.cell? (A n 3)=some c3/\w.cell? (A n 4)=some c4/\w.cell? (A n 5)=some c5/\w.cell? (A n 6)=some c6/\w.cell? (A n 7)=some c7/\w.cell? (A n 8)=some c8/\w.cell? (A n 9)=some c9)/\(∀j,w.frozen? (A n j)=false) :=
 ⟨⟨by rw[jb b];rfl,by rw[jb b];rfl,by rw[jb b];rfl,by rw[jb b];rfl,by rw[jb b];rfl,by rw[jb b];rfl,by rw[jb b];rfl,by rw[jb b];rfl,by rw[jb b];rfl,by rw[jb b];rfl⟩,
  fun j=>kh w n j _ F b⟩
theorem Dh(p q u:Nat)(n rest:B8)(c0 c1 c2 c3 c4 c5 c6 c7 c8 c9:Value)(o:W)(hs:n.length<=maxLen)(H:qU o p n rest)(K:o.heap[q]?=some (.cells #[c0,c1,c2,c3,c4,c5,c6,c7,c8,c9] 115 (0,0)))(B:p≠q)(j:u<=p)(bv:u<=q) :
  C' 158 #[(Q q 0),(Q p 0)] o fun e w'=>Below u o w'/\((e=T8/\∀(told:Bool) (a:Nat) (b:B8),1<=a->a<=9->rest≠Zc told a++b) \/
   ∃(told:Bool) (a:Nat) (b:B8),1<=a/\a<=9/\e=.returned (.tuple #[])/\rest=Zc told a++b/\w'.heap[q]?=some (.cells #[N a,.bool told,c2,c3,c4,c5,c6,c7,c8,c9] 115 (0,0))):=by
 have F:=I hs;have Hp:=I H;have Hq:=I K;have d7:=zh H;have d8:=(aF.1 K).1;have i:J (∀(told:Bool) (a:Nat) (b:B8),1<=a->a<=9->rest=Zc told a++b->rest.take 2=[67,70]/\(rest.drop 2).take 1=[if told=true then 79 else 69]/\(rest.drop 2).drop 1=T4 (a:Int)::b):=by
  rintro told a b f g rfl;exact⟨rfl,rfl,rfl⟩
 clear hs H K;go_enter Tryz.func158,Tryz.ntmps158;go_wp2_with fail;refine(QJ p n rest 2 o F.o (by omega) Hp.o).mono ?_;rintro e w1 ⟨k,⟨dW,rfl⟩|⟨d5,rfl,bX⟩⟩
 ·have HB:=I (jn k j (by omega));clear k;go_wp2;exact⟨rfl,HB.o,.inl ⟨rfl,fun told a b f g d=>by
   have:=bN List.length (i.o told a b f g d).1;rw[aM]at this;simp at this;omega⟩⟩
 have C:=I (jn k j (by omega));have da:=I (jm k Hq.o (eW B));have co:=I bX;have ea:=k.size;clear k bX;have ce:J (rest.take 2=rest.take 2):=rfl;generalize hT:rest.take 2=T at *;have HT:=I hT;clear hT ce;by_cases y:T≠[67,70]
 ·have d0:=YZ y;go_wp2_with fail;refine(xu _).mono ?_;rintro e w2 ⟨rfl,rfl⟩;clear d0;go_wp2;exact⟨rfl,C.o,.inl ⟨rfl,fun told a b f g d=>y (i.o told a b f g d).1⟩⟩
 have ds:=dX.1 y;clear y;subst ds;go_wp2_with fail;refine(qx _).mono ?_;rintro e w2 ⟨rfl,rfl⟩;go_wp2_with fail;refine(QJ p n (rest.drop 2) 1 w2 F.o (by omega) co.o).mono ?_;rintro e t ⟨l,⟨dW,rfl⟩|⟨d6,rfl,b4⟩⟩
 ·have w:=I (C.o.trans (jn l j (by omega)));clear l;go_wp2;exact⟨rfl,w.o,.inl ⟨rfl,fun told a b f g d=>by
   have:=bN List.length (i.o told a b f g d).2.1;rw[aM]at this;simp only[bC,bJ]at this;omega⟩⟩
 have w:=I (C.o.trans (jn l j (by omega)));have E:=I (jm l da.o (eW B));have cs:=I b4;have ec:=l.size;clear l b4;generalize hU:(rest.drop 2).take 1=U at *;have HU:=I hU;clear hU;have dr:∀(told:Bool),U=[if told=true then 79 else 69]->U≠[]:=fun told d=>by rw[d];simp
 by_cases r:¬∃told:Bool,U=[if told=true then 79 else 69]
 ·have n1:=YZ (show U≠[79]from fun d=>r ⟨true,d⟩);have n2:=YZ (show U≠[69]from fun d=>r ⟨false,d⟩);go_wp2_with fail;refine(xu _).mono ?_;rintro e h ⟨rfl,rfl⟩;clear n1 n2;go_wp2;exact⟨rfl,w.o,.inl ⟨rfl,fun told a b f g d=>r ⟨told,(i.o told a b f g d).2.1⟩⟩⟩
 obtain⟨told,z⟩:=eG.1 r;have ci:=I z;have d3:(U==[79])=told:=by rw[z];cases told<;>decide
 have dv:told=false->(U==[69])=true:=by rintro rfl;rw[z];decide
 clear dr z r;obtain⟨⟨L,M,O,P,T,V,X,Y,Z,q9⟩,cf⟩:=xZ E.o;have f1:=cf 1;clear cf;have eg:q<t.heap.size:=(aF.1 E.o).1;have step:∀h:W,h=t.setCell (A q 1) (.bool told)->qU h p n ((rest.drop 2).drop 1)/\h.heap[q]?=some (.cells #[c0,.bool told,c2,c3,c4,c5,c6,c7,c8,c9] 115 (0,0))/\Below u o h/\h.heap.size=t.heap.size:=by
  rintro h rfl;exact⟨JL cs.o (qQ t q 1 _) B,jcl E.o,w.o.trans (jn (qQ t q 1 _) bv (by omega)),by simp⟩
 have ap:=I step;clear step;cases told
 all_goals
  (try have d4:=dv rfl);go_wp2_with fail;refine(qx _).mono ?_;rintro e h ⟨rfl,rfl⟩;go_wp2_with fail;obtain⟨d1,cd,bi,er⟩:=ap.o _ rfl;generalize h.setCell _ _=w5 at *;have dd:=I cd;have ac:=I bi;clear L M O P T V X Y Z q9 f1 cd bi ap;refine(Kz p n _ w5 F.o d1).mono ?_;rintro e w6 ⟨m,⟨s,rfl⟩|⟨c,b,s,rfl,d2⟩⟩
  ·have D:=I (ac.o.trans (jn m j (by omega)));have x:=I s;clear m s;go_wp2;exact⟨rfl,D.o,.inl ⟨rfl,fun told a b f g d=>by
    have:=(i.o told a b f g d).2.2;rw[x.o]at this;cases this⟩⟩
  have x:=I s;have be:=I (jm m dd.o (eW B));have D:=I (ac.o.trans (jn m j (by omega)));have lc:=c.toNat_lt;have eq:IntKind.i64.wrap (c.toNat:Int)=(c.toNat:Int):=kD _ ⟨by omega,by omega⟩;have em:=m.size;clear m d2 s;obtain⟨⟨L,M,O,P,T,V,X,Y,Z,q9⟩,cf⟩:=xZ be.o;have f0:=cf 0;clear cf;go_wp2_with fail;have dl:=I (jde (v:=N c.toNat) be.o);have am:=I (D.o.trans (jn (qQ w6 q 0 (N c.toNat)) bv (by omega)));refine(UP _ _).mono ?_;rintro e w7 ⟨rfl,rfl⟩;clear L M O P T V X Y Z q9 f0;generalize w6.setCell _ _=w7 at *;by_cases hk:1<=c.toNat/\c.toNat<=9
  ·have G:(decide (1<=(c.toNat:Int))&&decide ((c.toNat:Int)<=9))=true:=(by simp;omega);rw[G];go_wp2_with fail;refine(qx _).mono ?_;rintro e w8 ⟨rfl,rfl⟩;go_wp2;go_end0
   refine⟨am.o,.inr ⟨_,c.toNat,b,hk.1,hk.2,rfl,?_,dl.o⟩⟩;have dT:T4 (c.toNat:Int)=c:=dZ.1 (Xl _ (by omega));rw[<-aY 2 rest,HT.o,<-aY 1 (rest.drop 2),HU.o,ci.o,x.o];unfold Zc;rw[dT];simp
  ·have G:(decide (1<=(c.toNat:Int))&&decide ((c.toNat:Int)<=9))=false:=by
    rw[ej];simp only[cW];omega
   rw[G];go_wp2_with fail;refine(xu _).mono ?_;rintro e w8 ⟨rfl,rfl⟩;go_wp2;refine⟨rfl,am.o,.inl ⟨rfl,fun told a r2 f g d=>?_⟩⟩;have:=(i.o told a r2 f g d).2.2;rw[x.o]at this;simp only[bT]at this;have h2:=bN UInt8.toNat this.1;rw[Xl _ (by omega)]at h2;omega
theorem La{b c:NB}(d:Xc b)(e:Xc c)(a:zn b++s=zn c++r):b=c/\s=r:=by
 unfold zn at a;simp only[aD]at a;obtain⟨g,h⟩:=bO a (by rw[jx,jx]);have m:=QH d.2.2 e.2.2 g;obtain⟨i,j⟩:=bO h (by rw[d.1,e.1]);obtain⟨k,l⟩:=bO j m;exact⟨fP i k,l⟩
def xK(told:Bool)(footer:B8)(a:NB):B8:=(if told=true then qh (footer.length:Int)++footer else[])++zn a
theorem jbm{c0 c1 c2 c3 c4 c5 c6 c7 c8 c9 v3 v4 v5 v6 v7 v8:Value}(b:v.heap[n]?=some (.cells #[c0,c1,c2,c3,c4,c5,c6,c7,c8,c9] F (0,0))):(v.setCells n 3 [v3,v4,v5,v6,v7,v8]).heap[n]?=some (.cells #[c0,c1,c2,v3,v4,v5,v6,v7,v8,c9] F (0,0)) :=
 Uf (w:=v) [v3,v4,v5,v6,v7,v8] [c0,c1,c2] [c9] [c3,c4,c5,c6,c7,c8] rfl b
def jfw(d q e:Nat)(told:Bool)(rest:B8)(c9:Value)(f:W)(b:Ending)(c:W):Prop :=
 Below d f c/\((b=T8/\∀(footer:B8) (a:NB),(told=false->footer=[])->footer.length<=65535->Xc a->rest≠xK told footer a) \/
   ∃(footer:B8) (a:NB),(told=false->footer=[])/\Xc a/\b=.returned (.tuple #[])/\rest=xK told footer a/\c.heap[q]?=some (.cells #[N e,.bool told,S footer,S [if told=true then 83 else 70],N 0,N 0,N 0,S a.1,S a.2,c9] 115 (0,0)))
theorem Dq(p q P ft:Nat)(told:Bool)(H rest:B8)(c3 c4 c5 c6 c7 c8 c9:Value)(B:W)(hs:H.length<=maxLen)(hp:qU B p H rest)(hq:B.heap[q]?=some (.cells #[N ft,.bool told,S [],c3,c4,c5,c6,c7,c8,c9] 115 (0,0)))(O:p≠q)(C:P<=p)(dl:P<=q) :
  C' 159 #[(Q q 0),(Q p 0)] B (jfw P q ft told rest c9 B):=by
 have U:=I hs;have Hp:=I hp;have Hq:=I hq;have es:=zh hp;have ev:=(aF.1 hq).1;clear hs hp hq;obtain⟨⟨k,l,h,m,o,r,s,t,u,w⟩,cf⟩:=xZ Hq.o;have L:=cf 2;clear cf;go_enter Tryz.func159,Tryz.ntmps159;cases told
 case' false =>
  have ac:J (Below P B B):=k8 _ _;have ap:J (∀(y:B8) (a:NB),(false=false->y=[])->y.length<=65535->Xc a->rest=xK false y a->rest=zn a):=by
   intro f' a d _ j b;simpa[xK]using b
  have ce:J (∀a:NB,rest=zn a->rest=xK false [] a):=by
   intro a b;simpa[xK]using b
  have bi:=Hp;have bv:=Hq;have dr:false=false->([]:B8)=[]:=fun _=>rfl;have eg:=es;have em:=ev;clear k h m o r s t u w L;go_wp2_with fail;clear l
 case' true =>
  clear k m o r s t u w;go_wp2_with fail;clear l;refine(Ni p H rest B U.o Hp.o).mono ?_;rintro e w1 ⟨D,⟨G,rfl⟩|⟨e,f,c,G,rfl,d0⟩⟩
  ·have K:J (∀(footer:B8) (a:NB),(true=false->footer=[])->footer.length<=65535->Xc a->rest≠xK true footer a):=by
    rintro g a _ _ _ rfl;simp only[xK,db,aB,jx]at G;omega
   have Y:=I (jn D C (by omega));clear G D h L;go_wp2;exact⟨rfl,Y.o,.inl ⟨rfl,K.o⟩⟩
  have bX:=I (jn D C (by omega));have ci:=I (jm D Hq.o (eW O));have d6:=I d0;have eM:=D.size;have eC:e.toNat+256*f.toNat<=65535:=by have:=e.toNat_lt;have:=f.toNat_lt;omega
  have am:J (∀(footer:B8) (a:NB),footer.length<=65535->rest=xK true footer a->footer.length=e.toNat+256*f.toNat/\c=footer++zn a):=by
   intro g a d b;rw[G]at b;simp only[xK,db,aD]at b;have h':[e,f]++c=qh (g.length:Int)++(g++zn a):=b;obtain⟨i,z⟩:=bO h' (by rw[jx];rfl);rw[<-KB e f]at i;exact⟨(QH (by omega) d i).symm,z⟩
  have cd:J (∀(a:NB),e.toNat+256*f.toNat<=c.length->c.drop (e.toNat+256*f.toNat)=zn a->rest=xK true (c.take (e.toNat+256*f.toNat)) a):=by
   intro a V b;have eq:(c.take (e.toNat+256*f.toNat)).length=e.toNat+256*f.toNat:=(by rw[aM];omega);simp only[xK,db];rw[eq,KB,<-b,aD,aY,G];rfl
  clear G D d0 h L;obtain⟨⟨k,l,h,m,o,r,s,t,u,w⟩,cf⟩:=xZ ci.o;clear k l h m o r s t u w cf;generalize e.toNat+256*f.toNat=n at *;go_wp2_with fail;refine(QJ p H c n w1 U.o (by omega) d6.o).mono ?_;rintro e w2 ⟨E,⟨ds,rfl⟩|⟨er,rfl,d1⟩⟩
  ·have K:J (∀(footer:B8) (a:NB),(true=false->footer=[])->footer.length<=65535->Xc a->rest≠xK true footer a):=by
    intro g a _ d _ b;obtain⟨i,z⟩:=am.o g a d b;rw[z,aB]at ds;omega
   have Y:=I (bX.o.trans (jn E C (by omega)));clear ds E;go_wp2;exact⟨rfl,Y.o,.inl ⟨rfl,K.o⟩⟩
  have d4:=I (bX.o.trans (jn E C (by omega)));have co:=I (jm E ci.o (eW O));have d7:=I d1;have eP:=E.size;clear E d1;obtain⟨⟨k,l,h,m,o,r,s,t,u,w⟩,cf⟩:=xZ co.o;have L:=cf 2;clear k l m o r s t u w cf;have ap:J (∀(y:B8) (a:NB),(true=false->y=[])->y.length<=65535->Xc a->rest=xK true y a->c.drop n=zn a):=by
   intro f' a _ d j b;obtain⟨i,z⟩:=am.o f' a d b;rw[z,<-i,fF]
  have ce:J (∀a:NB,c.drop n=zn a->rest=xK true (c.take n) a):=fun a b=>cd.o a er b;have dr:true=false->c.take n=[]:=fun b=>by cases b
  clear am cd;generalize c.take n=X at *;generalize c.drop n=r1 at *;have bv:=I (jce (v:=S X) co.o);have ac:=I (d4.o.trans (jn (qQ w2 q 2 (S X)) dl (by omega)));have bi:=I (JL d7.o (qQ w2 q 2 (S X)) O);go_wp2_with fail;clear h L;generalize w2.setCell _ _=w3 at *;have eg:=zh bi.o;have em:=(aF.1 bv.o).1
 all_goals
  refine(VX p 0 0 0 _ H _ _ U.o bi.o).mono ?_;rintro e w6 ⟨F,⟨rfl,dW⟩|⟨a,r6,j,rfl,d2,d3⟩⟩
  ·have Z:=I (ac.o.trans (jn F C (by omega)));have d5:=I dW;clear F dW;go_wp2;exact⟨rfl,Z.o,.inl ⟨rfl,fun g a d V j b=>d5.o a [] j (by rw[aT];exact ap.o g a (by first|exact d|exact(fun _=>d rfl)) V j b)⟩⟩
  have Z:=I (ac.o.trans (jn F C (by omega)));have cs:=I (jm F bv.o (eW O));have d8:=I d2;have dd:=I d3;have eR:=F.size;clear F d2 d3;obtain⟨⟨k,l,h,m,o,r,s,t,u,w⟩,cf⟩:=xZ cs.o;have f3:=cf 3;have f4:=cf 4;have f5:=cf 5;have f6:=cf 6;have f7:=cf 7;have f8:=cf 8;clear k l h w cf;have ec:=I (fun x:Value=>jbm (v3:=x) (v4:=N 0) (v5:=N 0) (v6:=N 0) (v7:=S a.1) (v8:=S a.2) cs.o);have be:=I (fun x:Value=>zu q [x,N 0,N 0,N 0,S a.1,S a.2] w6 3);have b4:=I (fun x:Value=>Z.o.trans (jn (be.o x) dl (by omega)));have ea:=I (fun x:Value=>JL d8.o (be.o x) O);clear be;go_wp2_with fail;clear m o r s t u f3 f4 f5 f6 f7 f8;refine(Id p H r6 (w6.setCells q 3 [S _,N 0,N 0,N 0,S a.1,S a.2]) U.o (ea.o _)).mono ?_;rintro e w8 ⟨M,⟨dv,rfl⟩|⟨dT,rfl⟩⟩
  ·have T:=I ((b4.o _).trans (M.mono (by rw[ZI];omega)));have K:=I dv;clear M dv;go_wp2;refine⟨rfl,T.o,.inl ⟨rfl,fun g y d V hy b=>?_⟩⟩;have i:=ap.o g y (by first|exact d|exact(fun _=>d rfl)) V hy b;rw[dd.o]at i;have z:zn a++r6=zn y++[]:=(by rw[aT];exact i);exact K.o (La j hy z).2
  ·have T:=I ((b4.o _).trans (M.mono (by rw[ZI];omega)));have da:=I ((M.block q (by rw[ZI];omega)).trans (ec.o _));have HE:=I (ce.o a (by rw[dd.o,dT,aT]));clear M dT;go_wp2;go_end0
   first
   | exact⟨T.o,.inr ⟨_,a,dr,j,rfl,HE.o,da.o⟩⟩
   | exact⟨T.o,.inr ⟨[],a,fun _=>rfl,j,rfl,HE.o,da.o⟩⟩
def qw(a:U0):B8:=Zc a.told a.R++a.parts
abbrev K8(a:U0):Value:=.agg #[N a.R,.bool a.told,S a.footer,S [if a.told=true then 83 else 70],N 0,N 0,N 0,S a.I,S a.body,S (qw a)]
def jdk(file:B8)(c:W)(a:Ending)(d:W):Prop :=
 Below c.heap.size c d/\((a=T8/\xL file=none)\/∃b,xL file=some b/\a=.returned (K8 b))
structure H7 (file:B8) (f:U0):Prop where
 len:file.length=4+(f.parts.length+((qP f).length+4))
 short:file.length<=65000
 last:file.drop (file.length-4)=qh ((qP f).length:Int)++[67,70]
 first:file.take 4=Zc f.told f.R
 c2:(file.drop (4+f.parts.length)).take (qP f).length=xK f.told f.footer (f.I,f.body)
theorem JR{a:U0}(d:L6 a)(b:xN a=s):H7 s a:=by
 have c:s.length=4+(a.parts.length+((qP a).length+4)):=by
  rw[<-b];simp only[xN,aB,bC,bJ,jx]
 refine⟨c,by rw[<-b];exact d.short,?_,?_,?_⟩
 ·rw[c,show 4+(a.parts.length+((qP a).length+4))-4=4+(a.parts.length+(qP a).length) by omega,<-b];unfold xN;rw[<-cZ,dx (by simp),<-aD,dx (by simp)]
 ·rw[<-b];unfold xN Zc;rw[fB (by simp)]
 ·rw[<-b];unfold xN;rw[<-cZ,dx (by simp),dx rfl,fB rfl];rfl
theorem Wd{Y9 b:Nat}{told:Bool}{a:NB}(m:s.length<=65000)(o:Y9+8<=s.length)(l:1<=b/\b<=9)(n:told=false->r=[])(e:Xc a)
  (h:s.take 4=Zc told b)(c:(s.drop (s.length-4-Y9)).take Y9=xK told r a)(i:s.drop (s.length-4)=qh (Y9:Int)++[67,70]) :
  xL s=some ⟨told,b,(s.drop 4).take (s.length-4-Y9-4),r,a.1,a.2⟩:=by
 have f:s.drop (s.length-4-Y9)=(s.drop (s.length-4-Y9)).take Y9++s.drop (s.length-4):=by
  conv=>lhs;rw[<-aY Y9 (s.drop (s.length-4-Y9))]
  rw[cZ]
  congr 2;omega
 have g:s.drop 4=(s.drop 4).take (s.length-4-Y9-4)++s.drop (s.length-4-Y9):=by
  conv=>lhs;rw[<-aY (s.length-4-Y9-4) (s.drop 4)]
  rw[cZ]
  congr 2;omega
 have k:(xK told r a).length=Y9:=by rw[<-c,aM,aP];omega
 have d:xN ⟨told,b,(s.drop 4).take (s.length-4-Y9-4),r,a.1,a.2⟩=s:=by
  have j:qP ⟨told,b,(s.drop 4).take (s.length-4-Y9-4),r,a.1,a.2⟩=xK told r a:=rfl;unfold xN;rw[j,k];simp only;rw[<-i,<-c,<-f,<-g];have:[67,70]++[if told=true then 79 else 69]++[T4 (b:Int)]=s.take 4:=h.symm;rw[this,aY]
 conv=>lhs;rw[<-d]
 exact YF ⟨e.1,e.2.1,l,by rw[d];exact m,n⟩
theorem MK(b:B8)(a:Nat):(⟨b.toArray⟩:ByteArray).extract 0 a=⟨(b.take a).toArray⟩:=by
 rw[Nv];simp
theorem jdc(a:B8)(b:Nat):(⟨a.toArray⟩:ByteArray).extract b a.length=⟨(a.drop b).toArray⟩:=by
 rw[Nv]
 congr 2;rw[aU (by rw[aP];omega)]
theorem Md(file:B8)(e:W)(hs:file.length<=maxLen):C' 98 #[S file] e (jdk file e):=by
 have hz:=jT file;have Hs:=I hs;unfold maxLen at hs;go_enter Tryz.func98,Tryz.ntmps98;by_cases h8:¬8<=file.length
 ·have f:J (xL file=none):=Xg (fun d c b=>by have:=(JR c b).len;omega);have i1:¬(8:Int)<=(file.length:Int):=by omega
  go_wp2_with fail;refine(xu _).mono ?_;rintro b w1 ⟨rfl,rfl⟩;go_wp2;exact⟨rfl,(k8 _ _).alloc (aA _) _,.inl ⟨rfl,f.o⟩⟩
 by_cases er:¬file.length<=65000
 ·have f:J (xL file=none):=Xg (fun d c b=>by have:=(JR c b).short;omega);have i1:(8:Int)<=(file.length:Int):=by omega
  have i2:¬(file.length:Int)<=65000:=by omega
  go_wp2_with fail;refine(xu _).mono ?_;rintro b w1 ⟨rfl,rfl⟩;go_wp2;exact⟨rfl,(k8 _ _).alloc (aA _) _,.inl ⟨rfl,f.o⟩⟩
 have i1:(8:Int)<=(file.length:Int):=by omega
 have i2:(file.length:Int)<=65000:=by omega
 have C:IntKind.i64.wrap ((file.length:Int)-4)=((file.length-4:Nat):Int):=by rw[kE];omega
 have hE:file.length-4<=file.length:=by omega
 have fc:4<=file.length-4:=by omega
 have fb:J (file.length-4+4=file.length):=by show _=_;omega
 have B:=jdc file (file.length-4);clear h8 er;go_wp2_with fail;refine(qx _).mono ?_;rintro b w1 ⟨rfl,rfl⟩;go_wp2_with fail;obtain⟨b4,eC,_,ce⟩:=jJ e #[N 0,.bool false,S [],S [],N 0,N 0,N 0,S [],S [],S []] 115;generalize e.alloc _=W0 at *;have ac:=I b4;have dT:=I ce;clear b4 ce;refine(Kw (file.drop (file.length-4)) W0).mono ?_;rintro b w2 ⟨rfl,m,y⟩;have ec:=I m;have am:=I (ac.o.trans (y.mono ac.o.size));have dW:=I ((y.block e.heap.size eC).trans dT.o);have fd:=y.size;clear m y;go_wp2_with fail;refine(Ct W0.heap.size _ _ w2 (by rw[aP];unfold maxLen;omega) ec.o).mono ?_;rintro b w3 ⟨p,⟨rfl,l⟩|⟨a,r,hN,rfl,eP,M⟩⟩
 ·have f:J (xL file=none):=Xg (fun d c b=>by
   have:=c.lens;exact l (qP d).length [] (by omega) (by rw[aT];exact(JR c b).last))
  have i:=I (am.o.trans (jn p (by omega) (by omega)));clear l p;go_wp2;exact⟨rfl,i.o,.inl ⟨rfl,f.o⟩⟩
 have i:=I (am.o.trans (jn p (by omega) (by omega)));have d0:=I (jm p dW.o (by omega));have fe:=p.size;have HL:J (file.drop (file.length-4)=qh (a:Int)++[67,70]):=by
  have j:=bN List.length M;simp only[aB,aP,jx,bC,bJ]at j;have q:r=[]:=aO (by omega);show _=_;rw[M,q,aT]
 clear p eP M;have bv:J (∀d,L6 d->xN d=file->(qP d).length=a):=by
  intro d c b;have j:=(JR c b).last;rw[HL.o]at j;have:=c.lens;exact(QH hN (by omega) (bO j (by rw[jx,jx])).1).symm
 by_cases dl:¬a+8<=file.length
 ·have f:J (xL file=none):=Xg (fun d c b=>by
   have j:=bv.o d c b;have q:=(JR c b).len;omega)
  have u:IntKind.i64.wrap (((file.length-4:Nat):Int)-(a:Int))=((file.length-4:Nat):Int)-(a:Int):=by rw[kE];omega
  have i3:decide ((4:Int)<=((file.length-4:Nat):Int)-(a:Int))=false:=by simp;omega
  go_wp2_with fail;refine(xu _).mono ?_;rintro b h ⟨rfl,rfl⟩;clear B u C;go_wp2;exact⟨rfl,i.o,.inl ⟨rfl,f.o⟩⟩
 have eR:=dX.1 dl;have u:IntKind.i64.wrap (((file.length-4:Nat):Int)-(a:Int))=((file.length-4-a:Nat):Int):=by rw[kE];omega
 have i3:(4:Int)<=((file.length-4-a:Nat):Int):=by omega
 have K:=MK file (file.length-4-a);have L:=MK file 4;have i4:file.length-4-a<=file.length:=by omega
 have i5:4<=file.length:=by omega
 clear dl;go_wp2_with fail;refine(qx _).mono ?_;rintro b h ⟨rfl,rfl⟩;go_wp2_with fail;have z:=Nv file (file.length-4-a) (file.length-4);rw[show file.length-4-(file.length-4-a)=a by omega]at z;have i6:file.length-4-a<=file.length-4:=by omega
 have i7:((file.length-4-a:Nat):Int)<=((file.length-4:Nat):Int):=by omega
 have i8:((file.length-4:Nat):Int)<=(file.length:Int):=by omega
 have i9:(0:Int)<=((file.length-4-a:Nat):Int):=by omega
 obtain⟨H,eM,_,ci⟩:=jJ h #[N 0,.bool false,S [],S [],N 0,N 0,N 0,S [],S [],S (file.take (file.length-4-a))] 115;show Calls _ _ _ (h.alloc (.cells #[N 0,.bool false,S [],S [],N 0,N 0,N 0,S [],S [],S (file.take (file.length-4-a))] 115)) _;generalize h.alloc _=W5 at *;have ap:=I (i.o.trans (H.mono i.o.size));have d6:=I ci;have d1:=I ((H.block e.heap.size (by omega)).trans d0.o);clear H ci;refine(Kw (file.take 4) W5).mono ?_;rintro b w6 ⟨rfl,m,r⟩;have eg:=I m;have be:=I (ap.o.trans (r.mono ap.o.size));have d7:=I ((r.block h.heap.size eM).trans d6.o);have d2:=I ((r.block e.heap.size (by omega)).trans d1.o);have ff:=r.size;clear m r;go_wp2_with fail;refine(Dh W5.heap.size h.heap.size h.heap.size (file.take 4) (file.take 4) _ _ _ _ _ _ _ _ _ _ w6 (by rw[aM];unfold maxLen;omega) eg.o d7.o (by omega) (by omega) (aA _)).mono ?_;rintro b w7 ⟨o,⟨rfl,l⟩|⟨told,k,r7,es,ev,rfl,O,co⟩⟩
 ·have f:J (xL file=none):=Xg (fun d c b=>by
   have:=c.R;exact l d.told d.R [] this.1 this.2 (by rw[aT];exact(JR c b).first))
  have w:=I (be.o.trans (o.mono i.o.size));clear l o K L B C u z;go_wp2;exact⟨rfl,w.o,.inl ⟨rfl,f.o⟩⟩
 have w:=I (be.o.trans (o.mono i.o.size));have d8:=I co;have d3:=I ((o.block e.heap.size (by omega)).trans d2.o);have fk:=o.size;have F:J (file.take 4=Zc told k):=by
  have j:=bN List.length O;rw[aB,aM,show(Zc told k).length=4 from rfl]at j;have q:r7=[]:=aO (by omega);show _=_;rw[O,q,aT]
 clear o co O;go_wp2_with fail;refine(Kw ((file.drop (file.length-4-a)).take a) w7).mono ?_;rintro b w8 ⟨rfl,m,s⟩;have em:=I m;have bi:=I (w.o.trans (s.mono w.o.size));have ea:=I ((s.block h.heap.size (by omega)).trans d8.o);have d4:=I ((s.block e.heap.size (by omega)).trans d3.o);have fl:=s.size;clear m s;go_wp2_with fail;refine(Dq w7.heap.size h.heap.size h.heap.size k told _ _ _ _ _ _ _ _ _ w8 (by rw[aM];unfold maxLen;omega) em.o ea.o (by omega) (by omega) (aA _)).mono ?_;rintro b w9 ⟨t,⟨rfl,l⟩|⟨footer,n,cd,hx,rfl,da,cs⟩⟩
 ·have f:J (xL file=none):=Xg (fun d c b=>by
   have G:=JR c b;have j:=bv.o d c b;have q:=c.lens;have h3:d.told=told:=by
    have h4:=G.first;rw[F.o]at h4;unfold Zc at h4;cases h5:d.told<;>cases h6:told<;>simp_all
   have h7:file.length-4-a=4+d.parts.length:=by have:=G.len;omega
   refine l d.footer (d.I,d.body) (fun h=>c.none_ (by rw[h3];exact h)) (by omega) ⟨c.I,c.body,by simp only;omega⟩ ?_;rw[h7,<-j,<-h3];exact G.c2)
  have x:=I (bi.o.trans (t.mono i.o.size));clear l t K L B C u z;go_wp2;exact⟨rfl,x.o,.inl ⟨rfl,f.o⟩⟩
 have HF:=I (Wd (Y9:=a) (by omega) eR ⟨es,ev⟩ cd hx F.o da HL.o);have x:=I (bi.o.trans (t.mono i.o.size));have bX:=I ((t.block e.heap.size (by omega)).trans d4.o);have HA:J (file.take (file.length-4-a)=Zc told k++(file.drop 4).take (file.length-4-a-4)):=by
  show _=_;rw[<-F.o,<-fN]
  congr 1;omega
 obtain⟨⟨P,T,U,D,V,X,Y,Z,q8,q9⟩,_⟩:=xZ cs;clear cs t da K L B C u z;obtain⟨⟨o0,o1,o2,o3,o4,o5,o6,o7,o8,o9⟩,g⟩:=xZ bX.o;have eS:=g 0;have e0:=g 1;have e1:=g 2;have e2:=g 3;have e3:=g 4;have e4:=g 5;have e5:=g 6;have e6:=g 7;have e7:=g 8;have fa:=g 9;clear g;have ds:J ((if told=true then(83:UInt8)else 70)=if told=true then(83:UInt8)else 70):=rfl;generalize dd:(if told=true then(83:UInt8)else 70)=E at D;have eq:=I dd;clear dd cd ds;have d5:=I (Xk [N k,.bool told,S footer,S [E],N 0,N 0,N 0,S n.1,S n.2,S (file.take (file.length-4-a))] (by rfl) bX.o);have dv:=I (zu e.heap.size [N k,.bool told,S footer,S [E],N 0,N 0,N 0,S n.1,S n.2,S (file.take (file.length-4-a))] w9 0);go_wp2;show bodyPost _ _ _ _ _ (w9.setCells e.heap.size 0 [N k,.bool told,S footer,S [E],N 0,N 0,N 0,S n.1,S n.2,S (file.take (file.length-4-a))]);clear P T U D V X Y Z q8 q9 o0 o1 o2 o3 o4 o5 o6 o7 o8 o9 eS e0 e1 e2 e3 e4 e5 e6 e7 fa;generalize w9.setCells _ _ _=WE at *;have dr:=I (x.o.trans (jn dv.o (aA _) x.o.size));obtain⟨⟨P,T,U,D,V,X,Y,Z,q8,q9⟩,_⟩:=xZ d5.o;refine kk (v:=.agg #[N k,.bool told,S footer,S [E],N 0,N 0,N 0,S n.1,S n.2,S (file.take (file.length-4-a))]) (by simp[results,Tryz.results98,go_sem,P,T,U,D,V,X,Y,Z,q8,q9]) rfl ⟨dr.o,.inr ⟨_,HF.o,?_⟩⟩;simp only[K8,qw];rw[HA.o,eq.o]
end Go.Proofs.YthhpbhpfagoapaaGreat
