import Derived.Laws.CopyOwn
import Derived.Test.YthhpbhpfagoapaaGreatGAN
import Derived.Test.YthhpbhpfagoapaaGreatGAH
namespace Go.Proofs.YthhpbhpfagoapaaGreat
set_option linter.all false
set_option maxRecDepth 100000
set_option maxHeartbeats 16000000
open Go.RowKit
def P9:Z9:=⟨false,-77,[109,97,114,107]⟩
theorem Tr(a:W) :
  C' 133 #[] a fun b c=>b=.returned (C6 P9)/\Below a.heap.size a c:=by
 go_enter Tryz.func133,Tryz.ntmps133;go_wp2;exact kk (v:=C6 P9) (by simp[results,Tryz.results133,go_sem,C6,P9]) rfl ⟨rfl,(k8 _ _).alloc (aA _) _⟩
theorem ZM(b:W)(k B C f:TypeId)(g e n size:Nat)(d:Addr)(i z:Nat)(c:V')(t:TypeId)(a:List Value)
  (x:Tryz.prog.underlying k=some (.slice f))(l:(Tryz.prog.info? f).map (·.size)=some size)
  (q:b.heap[g]?=some (.cells c t (0,0)))(u:a.length=Nat.min i e*size)
  (w:∀j v,a[j]?=some v->b.cell? (d.add j)=some v)(p:a.length<=c.size)(o:∀v∈a,v.oneCell'=true) :
  (Builtin.copy_ #[k,B] C #[R g e n,.slice (some d) i z]).run Tryz.prog b =
   .ok (goInt (Nat.min i e)) (b.setRow g (a++c.toList.drop a.length).toArray):=by
 have s:=run_loadCells_list (P:=Tryz.prog) b d a w;have m:=run_storeCells_at Tryz.prog g 0 t a 0 c b q (by simpa using p) o;cases h:Tryz.prog.info? f with
 | none=>simp[h]at l
 | some y =>
  have r:y.size=size:=by simpa[h]using l
  simp only[dh,fE,bW]at m;simp[Builtin.copy_,gn x,Builtin.lenOf,Builtin.firstCells,sizeOf,typeInfo,h,r,<-u,s,m]
theorem Gv(d:W)(b k l a:TypeId)(g f e size j:Nat)
  (i:Tryz.prog.underlying b=some (.slice a))(h:(Tryz.prog.info? a).map (·.size)=some size) :
  (Builtin.copy_ #[b,k] l #[R g f e,.slice none 0 j]).run Tryz.prog d=.ok (goInt 0) d:=by
 cases c:Tryz.prog.info? a with
 | none=>simp[c]at h
 | some m=>simp[Builtin.copy_,gn i,Builtin.lenOf,Builtin.firstCells,sizeOf,typeInfo,c,storeCells]
variable{k m n:Nat}
theorem T3.cells{w:W}{c:List Z9}(h:∀j (h:j<c.length),
  w.cell? (A n (m+j*3))=some (.bool (c[j]).null)/\w.cell? (A n (m+j*3+1))=some (N (c[j]).int)/\w.cell? (A n (m+j*3+2))=some (S (c[j]).text)) :
  ∀a v,(jL c)[a]?=some v->w.cell? (((A n m):Addr).add a)=some v:=by
 intro a v b;have o:a<(jL c).length:=(aV.1 b).1;rw[xX]at o;have i:a/3<c.length:=by omega
 obtain⟨k,l,d⟩:=h (a/3) i;obtain⟨c1,c2,c3⟩:=ZA c (a/3) i;have e:((A n m):Addr).add a=(A n (m+a)):=by unfold Addr.add;split<;>simp_all
 rw[e];have g:a%3=0\/a%3=1\/a%3=2:=by omega
 rcases g with g|g|g
 ·have f:a=a/3*3:=by omega
  rw[f]at b ⊢;rw[c1]at b;rw[k];exact b
 ·have f:a=a/3*3+1:=by omega
  rw[f]at b ⊢;rw[c2]at b;rw[<-dq,l];exact b
 ·have f:a=a/3*3+2:=by omega
  rw[f]at b ⊢;rw[c3]at b;rw[<-dq,d];exact b
theorem KO(d:List Z9):∀v∈jL d,v.oneCell'=true:=by
 intro v b;simp only[jL,cU]at b;obtain⟨c,_,a⟩:=b;simp at a;rcases a with rfl|rfl|rfl<;>rfl
theorem IJ:(Tryz.prog.info? 58).map (·.size)=some 3:=by kernel_rfl
theorem Lv(a:W)(m:TypeId)(g n:Nat)(p:O')(l i:Nat)(b:List Z9)(d:List Value)(H:b.length<=n)
  (K:a.ownsRow i 58 3 (R g n n) n d)(G:T3 a p b) :
  ∃q,(Builtin.copy_ #[59,59] m #[R g n n,.slice p b.length l]).run Tryz.prog a=.ok (goInt b.length) q /\
   q.ownsRow i 58 3 (R g n n) n (jL b++d.drop (b.length*3))/\a.grownBy q (some g):=by
 obtain⟨k,M⟩:=K;rcases M with⟨j,_⟩|⟨V,U,c,j,r,h,u,s,o,x⟩
 ·simp at j
 simp only[cx,aW,cG,de,eu]at j;obtain⟨rfl,rfl⟩:=j;have e:=xX b;have E:c.toList=d:=by rw[<-x,aU (by rw[dP,o];exact aA _)]
 have t:Nat.min b.length n=b.length:=d9 H;by_cases v:b=[]
 ·subst v;have L:a.ownsRow i 58 3 (R g n n) n d:=⟨k,.inr ⟨g,n,c,rfl,r,h,u,s,o,x⟩⟩;have C:jL []++d.drop (([]:List Z9).length*3)=d:=by simp[jL]
  have w:a.ownsRow i 58 3 (R g n n) n (jL []++d.drop (([]:List Z9).length*3)):=by rw[C];exact L
  cases p with
  | none=>exact⟨a,Gv a 59 59 m 58 g n n 3 l Tryz.underlying59 IJ,w,kY _ _⟩
  | some ad =>
   have f:=ZM a 59 59 m 58 g n n 3 ad 0 l c 58 [] Tryz.underlying59 IJ h (by simp) (by simp) (by simp) (by simp);have O:a.setRow g (([]:List Value)++c.toList.drop ([]:List Value).length).toArray=a:=by
    simpa using setRow_self a g c 58 (0,0) h
   rw[O]at f;have B:Nat.min 0 n=0:=d9 (aG _);rw[B]at f;exact⟨a,f,w,kY _ _⟩
 ·obtain⟨y,T,rfl,X,D⟩:=G.at_ v;have f:=ZM a 59 59 m 58 g n n 3 (A y T) b.length l c 58 (jL b) Tryz.underlying59 IJ h (by rw[t,e]) (T3.cells D) (by rw[e,o];omega) (KO b);rw[t,E]at f;refine⟨_,f,⟨?_,.inr ⟨g,n,_,rfl,r,kr a g c _ 58 _ h,u,s,?_,?_⟩⟩,⟨rfl,rfl,rfl,by simp,fun P _ F=>kK a g P _ (fun z=>F (by simp[z]))⟩⟩
  ·rw[aB,aP,e,k];omega
  ·simp only[gJ,aB,aP,e,k];omega
  ·rw[gz,e,aU (by rw[aB,aP,e,k];omega)]
def Kf:Z9:=⟨false,0,[]⟩
def Xz(b:List Z9)(a:Nat):List Z9:=b++List.replicate a P9++List.replicate (8-a) Kf
theorem TR(n:Nat):jL (List.replicate n Kf)=(madeCells (Value.agg #[.bool false,N 0,.string ⟨#[]⟩]).cells (n*3)).toList:=by
 apply eF;intro a;by_cases f:a<n*3
 ·have e:a/3<(List.replicate n Kf).length:=by simp;omega
  obtain⟨c1,c2,c3⟩:=ZA (List.replicate n Kf) (a/3) e;simp only[cH]at c1 c2 c3;have c:a%3=0\/a%3=1\/a%3=2:=by omega
  have d:(Value.agg #[.bool false,N 0,.string ⟨#[]⟩]).cells=#[.bool false,N 0,.string ⟨#[]⟩]:=rfl;rcases c with c|c|c
  ·have b:a=a/3*3:=(by omega);rw[b,c1,d];simp[madeCells,show a/3*3<n*3 by omega,Kf]
  ·have b:a=a/3*3+1:=(by omega);rw[b,c2,d];simp[madeCells,show a/3*3+1<n*3 by omega,Kf,show(a/3*3+1)%3=1 by omega]
  ·have b:a=a/3*3+2:=(by omega);rw[b,c3,d];simp[madeCells,show a/3*3+2<n*3 by omega,Kf,show(a/3*3+2)%3=2 by omega]
 ·rw[cN (by rw[xX];simp;omega),cN (by rw[dP,lf];omega)]
theorem jes(a:List Z9):jL a++(jL (List.replicate (a.length+8) Kf)).drop (a.length*3)=jL (Xz a 0):=by
 have b:List.replicate (a.length+8) Kf=List.replicate a.length Kf++List.replicate 8 Kf:=by rw[et]
 rw[b,Jp,dx (by rw[xX];simp)];simp[Xz,Jp]
theorem jge(a d:List Z9)(g c:Z9):(((jL (a++g::d)).set (a.length*3) (.bool c.null)).set (a.length*3+1) (N c.int)).set (a.length*3+2) (S c.text)=jL (a++c::d):=by
 have f:=xX a;have e:∀b:Z9,jL (a++b::d)=jL a++(.bool b.null::N b.int::S b.text::jL d):=by intro b;simp[jL]
 rw[e,e,<-f];rw[bI _ _ (aA _),bI _ _ (by omega),bI _ _ (by omega)];simp
theorem CQ(b:List Z9)(a:Nat)(c:a<8):Xz b a=(b++List.replicate a P9)++Kf::List.replicate (7-a) Kf/\Xz b (a+1)=(b++List.replicate a P9)++P9::List.replicate (7-a) Kf:=by
 unfold Xz;constructor
 ·rw[show 8-a=(7-a)+1 by omega,dt]
 ·rw[show 8-(a+1)=7-a by omega,en];simp
variable{v w:W}{D:List Z9}
theorem FG(l:k<8)(i:w.ownsRow n 58 3 (R m (D.length+8) (D.length+8)) (D.length+8) (jL (Xz D k))) :
  (((w.setCell (A m ((D.length+k)*3)) (.bool P9.null)).setCell (A m ((D.length+k)*3+1)) (N P9.int)).setCell (A m ((D.length+k)*3+2)) (S P9.text)).ownsRow n 58 3 (R m (D.length+8) (D.length+8)) (D.length+8) (jL (Xz D (k+1))):=by
 have j:=(i.stored ((D.length+k)*3) (.bool P9.null)).1;have b:=(j.stored ((D.length+k)*3+1) (N P9.int)).1;have e:=(b.stored ((D.length+k)*3+2) (S P9.text)).1;obtain⟨f,h⟩:=CQ D k l;rw[f]at e;rw[h,<-jge (D++List.replicate k P9) (List.replicate (7-k) Kf) Kf P9];have g:(D++List.replicate k P9).length=D.length+k:=by simp
 rw[g];exact e
variable{C:List Value}
theorem jet(b:w.ownsRow n 58 3 (R m k k) k C)(j:Nat)(e:j<k) :
  (∃v,w.cell? (A m (j*3))=some v)/\(∃v,w.cell? (A m (j*3+1))=some v)/\(∃v,w.cell? (A m (j*3+2))=some v):=by
 have f:=b.1;refine⟨?_,?_,?_⟩
 ·rw[b.cellAt (j*3) (by omega),aR (by omega)];exact⟨_,rfl⟩
 ·rw[b.cellAt (j*3+1) (by omega),aR (by omega)];exact⟨_,rfl⟩
 ·rw[b.cellAt (j*3+2) (by omega),aR (by omega)];exact⟨_,rfl⟩
theorem Tm(k:O')(q:Nat)(a:List Z9)(c:W)(hm:a.length*32<=140737488351232)(v:T3 c k a) :
  C' 74 #[.slice k a.length q] c fun r w=>∃g,r=.returned (R g a.length (a.length+8)) /\
   w.ownsRow c.heap.size 58 3 (R g (a.length+8) (a.length+8)) (a.length+8) (jL (Xz a 8))/\Below c.heap.size c w:=by
 obtain⟨O,D,H,K,L⟩:=ks Tryz.au;have C:=I v;clear v;go_enter Tryz.func74,Tryz.ntmps74;go_wp2_with(at_make;refine kN _ rfl (.tmp 9) (.tmp 9) 59 rfl c.heap.size 58 O (.agg #[.bool false,N 0,.string ⟨#[]⟩]) 3 Tryz.underlying59 D H K .i64 .i64 _ _ (a.length+8) rfl rfl (by omega) (by omega) (by rw[L];omega) (by unfold maxLen;omega) (aA _) ?_;intro x d n;rw[<-TR]at d;obtain⟨y,G,j,u⟩:=Lv x 3 c.heap.size (a.length+8) k q c.heap.size a _ (by omega) d (C.o.j ((k8 _ _).grown n (aA _) (fun _ f=>by cases f))));rw[jes]at j;have m:Below c.heap.size c x:=(k8 _ _).grown n (aA _) (fun _ f=>by cases f);have s:Below c.heap.size c y:=m.grown u m.size (fun b f=>by cases f;exact aA _);have h:c.heap.size<y.heap.size:=(j.lt _ rfl).2;clear d n u G m;generalize t:c.heap.size=g at *;go_loopw [5] (fun o wr=>∃b:Nat,b<=8/\o=N b/\wr.ownsRow g 58 3 (R g (a.length+8) (a.length+8)) (a.length+8) (jL (Xz a b))/\Below g c wr/\g<wr.heap.size) (fun o _=>8-(intOf o).toNat)
 case atStart=>exact⟨0,aG _,rfl,j,s,h⟩
 case round =>
  clear j s h;obtain⟨b,hk,rfl,d,l,h⟩:=hrel;by_cases F:b<8
  ·go_wp2_with fail;refine(Tr _).mono ?_;rintro r w5 ⟨rfl,i⟩;have e:=d.kept (Rj i) (.inr (by simp[Value.ownBlock]));have M:(jL (Xz a b)).length=(a.length+8)*3:=e.1;obtain⟨⟨V,P⟩,⟨X,T⟩,⟨Y,U⟩⟩:=jet e (a.length+b) (by omega);have Z:=e.frozenAt ((a.length+b)*3);have f2:=e.frozenAt ((a.length+b)*3+1);have f3:=e.frozenAt ((a.length+b)*3+2);have B:=I (FG F e);have ac:=i.size;have z:=I (((((l.trans (i.mono (eN h))).setCell (p:=(A g ((a.length+b)*3))) (aA _) (.bool P9.null)).setCell (p:=(A g ((a.length+b)*3+1))) (aA _) (N P9.int)).setCell (p:=(A g ((a.length+b)*3+2))) (aA _) (S P9.text)));clear d e l i M;go_wp2;go_roundw
   ·exact⟨b+1,by omega,by go_num,B.o,z.o,by simp;omega⟩
   ·simp[intOf];omega
  ·have E:b=8:=(by omega);subst E;go_wp2;go_ret;exact⟨g,rfl,by rw[t];exact d,by rw[t];exact l⟩
theorem jcb(g a2:O')(o p:Nat)(a:List Z9)(d:W)(r:a.length<=maxLen)(j:T3 d g a)(k:T3 d a2 a) :
  C' 92 #[.slice g a.length o,.slice a2 a.length p] d fun q s=>q=.returned (.bool true)/\Below d.heap.size d s:=by
 have m:=I j;have n:=I k;clear j k;unfold maxLen at r;have C:((a.length:Int) != (a.length:Int))=false:=by simp
 go_enter Tryz.func92,Tryz.ntmps92;go_wp2;go_loopw [5] (fun f wr=>∃b:Nat,b<=a.length/\f=N b/\Below d.heap.size d wr) (fun f _=>a.length-(intOf f).toNat)
 case atStart=>exact⟨0,aG _,rfl,k8 _ _⟩
 case round =>
  obtain⟨b,z,rfl,e⟩:=hrel;by_cases l:b<a.length
  ·obtain⟨t,G,rfl,x,h⟩:=(m.o.j e).at_ (aE (by omega));obtain⟨g1,v,w⟩:=h b l;obtain⟨u,H,rfl,y,i⟩:=(n.o.j e).at_ (aE (by omega));obtain⟨D,E,F⟩:=i b l;clear h i;generalize a[b]=c at *;have B:(b:Int)<(a.length:Int):=(by omega);go_wp2_with fail;go_quiet(fail);go_wp2_with fail;go_roundw
   ·exact⟨b+1,by omega,by go_num,below_drewN e nq⟩
   ·simp[intOf];omega
  ·go_wp2;go_ret;exact⟨rfl,e⟩
theorem Em{b i:List Z9}(a:w.ownsRow n 58 3 (R m k k) k (jL (b++i)))(o:∀c∈b,D9 c):T3 w (some (A m 0)) b:=by
 refine⟨o,fun p=>⟨m,0,rfl,(a.lt m rfl).2,fun j l=>?_⟩⟩;have g:=a.1;rw[xX,aB]at g;obtain⟨e,f,h⟩:=ZA (b++i) j (by rw[aB];omega);rw[dC l]at e f h;simp only[dh];exact⟨by rw[a.cellAt (j*3) (by omega)];exact e,by rw[a.cellAt (j*3+1) (by omega)];exact f,by rw[a.cellAt (j*3+2) (by omega)];exact h⟩
theorem VY(a:List Z9):Xz a 8=a++List.replicate 8 P9:=by simp[Xz]
theorem PI(d:w.ownsRow n 58 3 (R m (D.length+8) (D.length+8)) (D.length+8) (jL (Xz D 8)))(b:Nat)(k:b<8) :
  w.cell? (A m ((D.length+b)*3))=some (.bool P9.null)/\w.cell? (A m ((D.length+b)*3+1))=some (N P9.int)/\w.cell? (A m ((D.length+b)*3+2))=some (S P9.text):=by
 rw[VY]at d;obtain⟨e,f,h⟩:=ZA (D++List.replicate 8 P9) (D.length+b) (by simp;omega);have j:(D++List.replicate 8 P9)[D.length+b]'(by simp;omega)=P9:=by rw[dA (by omega)];simp only[cH]
 rw[j]at e f h;exact⟨by rw[d.cellAt _ (by omega)];exact e,by rw[d.cellAt _ (by omega)];exact f,by rw[d.cellAt _ (by omega)];exact h⟩
theorem Fx(i:O')(o g u:Nat)(a:List Z9)(c:W)(H:a.length*32<=140737488351232)(t:T3 c i a)
  (l:c.ownsRow u 58 3 (R g (a.length+8) (a.length+8)) (a.length+8) (jL (Xz a 8))) :
  C' 77 #[R g a.length (a.length+8),.slice i a.length o] c fun j C=>j=.returned (.bool true)/\Below c.heap.size c C:=by
 have n:=I t;have h:=I l;have e:g<c.heap.size:=(l.lt g rfl).2;clear t l;go_enter Tryz.func77,Tryz.ntmps77;go_wp2_with fail;refine(jcb _ i (a.length+8) o a _ (by unfold maxLen;omega) (Em (by have:=h.o;rw[VY]at this;exact this) n.o.ok) n.o).mono ?_;rintro j M ⟨rfl,s⟩;go_wp2_with fail;go_loopw [8] (fun m wr=>∃b:Nat,b<=8/\m=N b/\Below c.heap.size c wr) (fun m _=>8-(intOf m).toNat)
 case atStart=>exact⟨0,aG _,rfl,s⟩
 case round =>
  clear s;obtain⟨b,D,rfl,d⟩:=hrel;by_cases z:b<8
  ·obtain⟨g1,q,r⟩:=PI h.o b z;have v:=(d.cell (p:=(A g ((a.length+b)*3))) e).trans g1;have w:=(d.cell (p:=(A g ((a.length+b)*3+1))) e).trans q;have x:=(d.cell (p:=(A g ((a.length+b)*3+2))) e).trans r;have k:g<wr.heap.size:=aC e d.size;have F:(a.length:Int)+(b:Int)<(a.length:Int)+8:=(by omega);have E:(0:Int)<=(a.length:Int)+(b:Int):=(by omega);have G:IntKind.i64.wrap ((a.length:Int)+(b:Int))=(a.length:Int)+(b:Int):=kD _ ⟨by omega,by omega⟩;have K:((a.length:Int)+(b:Int)).toNat=a.length+b:=(by omega);have B:=I Tr;clear g1 q r h;generalize P9=L at *;go_wp2_with fail;go_region_with (go_at_call 133;refine(B.o _).mono ?_;rintro j O ⟨rfl,f⟩;have P:=(f.cell (p:=(A g ((a.length+b)*3))) k).trans v;have T:=(f.cell (p:=(A g ((a.length+b)*3+1))) k).trans w;have U:=(f.cell (p:=(A g ((a.length+b)*3+2))) k).trans x)
   all_goals
    go_wp2_with fail;go_roundw
    ·exact⟨b+1,by omega,by go_num,d.trans ((jg f).mono d.size)⟩
    ·simp[intOf];omega
  ·have y:b=8:=(by omega);subst y;go_wp2;go_ret;exact⟨rfl,d⟩
abbrev D0(v:Value)(j:V6):Value:=.agg #[v,N j.J.group,N j.J.aa,N j.J.R,.bool j.J.told,S j.pre,N j.draw]
structure F6 (w:W) (a:O') (cap:Nat) (j:V6):Prop where
 table:P3 w a j.table
 len:j.table.length<=maxLen
 cap_:j.table.length<=cap
 pre:j.pre.length<=maxLen
 draw:-9223372036854775808<=j.draw/\j.draw<=9223372036854775807
 group:-9223372036854775808<=j.J.group/\j.J.group<=9223372036854775807
 aa:-9223372036854775808<=j.J.aa/\j.J.aa<=9223372036854775807
 R:-9223372036854775808<=j.J.R/\j.J.R<=9223372036854775807
theorem F6.j{c:O'}{d:Nat}{j:V6}(a:F6 w c d j)(f:Below w.heap.size w v):F6 v c d j :=
 ⟨a.table.j f,a.len,a.cap_,a.pre,a.draw,a.group,a.aa,a.R⟩
def UU(j:V6):Bool:=qK j.J&&(decide (j.pre.length<=20)&&(decide (0<=j.draw)&&decide (j.draw<=65535)))
theorem Xa{r:List W9}{n:Int}(h:xD r=true):(jh r n=[])↔jG r n=false:=by
 constructor
 ·intro a;cases d:jG r n with
  | false=>rfl
  | true =>
   simp only[jG,ez]at d;cases b:r.find? (fun c=>decide (c.number=n))with
   | none =>
    rw[dU]at b;obtain⟨e,i,j⟩:=d;exact absurd j (b e i)
   | some e =>
    have g:=eQ b;obtain⟨c,f,rfl⟩:=cA.1 g;have:=(Rg (RC h (aA _) c f).1).2.2;simp only[jh,Ya,b,eB,eO]at a;rw[a]at this;simp at this
 ·intro a;rw[jh,Rl a];rfl
variable{E:List W9}{K:Int}
theorem JB(h:xD E=true)(d:jG E K=true):(jh E K).length=8:=by
 simp only[jG,ez]at d;cases a:E.find? (fun c=>decide (c.number=K))with
 | none =>
  rw[dU]at a;obtain⟨e,i,j⟩:=d;exact absurd j (a e i)
 | some e =>
  have g:=eQ a;obtain⟨c,f,rfl⟩:=cA.1 g;have:=(Rg (RC h (aA _) c f).1).2.2;simp only[jh,Ya,a,eB,eO];exact this
def Zb(j:V6)(a:List W9)(b:Nat):Bool:=!jG a j.J.R||(j.table.take b).any fun c=>decide (0<c.key) && !jG a c.key
variable{X:V6}
theorem Tk{r:List W9}(b:n<X.table.length):Zb X r (n+1)=(Zb X r n||(decide (0<(X.table[n]).key) && !jG r (X.table[n]).key)):=by
 unfold Zb;rw[aH b,List.any_append,Bool.or_assoc];simp
def zak(a:W)(p:Nat)(v:Value)(j:V6):Prop :=
 a.cell? (A p 0)=some v/\a.cell? (A p 1)=some (N j.J.group)/\a.cell? (A p 2)=some (N j.J.aa)/\a.cell? (A p 3)=some (N j.J.R)/\a.cell? (A p 4)=some (.bool j.J.told)/\a.cell? (A p 5)=some (S j.pre)/\a.cell? (A p 6)=some (N j.draw)
theorem zak.j{c d:W}{p:Nat}{v:Value}{j:V6}(e:zak c p v j)(b:p<c.heap.size)(a:Below c.heap.size c d):zak d p v j:=by
 obtain⟨f,g,h,i,k,l,m⟩:=e;exact⟨(a.cell (p:=A p _) b).trans f,(a.cell (p:=A p _) b).trans g,(a.cell (p:=A p _) b).trans h,(a.cell (p:=A p _) b).trans i,(a.cell (p:=A p _) b).trans k,(a.cell (p:=A p _) b).trans l,(a.cell (p:=A p _) b).trans m⟩
theorem UC(b:W)(v:Value)(j:V6)(t:TypeId):zak (b.alloc (.cells #[v,N j.J.group,N j.J.aa,N j.J.R,.bool j.J.told,S j.pre,N j.draw] t)) b.heap.size v j:=by
 obtain⟨_,_,a,_⟩:=jJ b #[v,N j.J.group,N j.J.aa,N j.J.R,.bool j.J.told,S j.pre,N j.draw] t;exact⟨a 0,a 1,a 2,a 3,a 4,a 5,a 6⟩
theorem Eb{a b:Bool}(c:(a=true)↔(b=true)):a=b:=by cases a<;>cases b<;>simp_all
theorem SA(o:O')(p:Nat)(j:V6)(q:O')(P:Nat)(a:List W9)(e:W)(G:F6 e o p j)(hr:U2 e q a)(V:a.length<=maxLen) :
  C' 35 #[D0 (.slice o j.table.length p) j,.slice q a.length P] e fun h w'=>h=.returned (N (xp j a))/\Below e.heap.size e w':=by
 have Hj:=I G;have Hr:=I hr;have d5:=G.len;have ea:=G.pre;unfold maxLen at d5 ea;clear G hr;have y:J (xp j a=if xk j.table=false then 5 else if UU j=false then 7 else if xD a=false then 1 else if XU j a=true then 8 else 0):=rfl;have HM:J (Zb j a j.table.length=XU j a):=by simp[J,Zb,XU]
 have ac:J (UU j=(qK j.J&&(decide (j.pre.length<=20)&&(decide (0<=j.draw)&&decide (j.draw<=65535))))):=rfl;go_enter Tryz.func35,Tryz.ntmps35;go_wp2_with fail;obtain⟨E,M,_,_⟩:=jJ e #[.slice o j.table.length p,N j.J.group,N j.J.aa,N j.J.R,.bool j.J.told,S j.pre,N j.draw] 26;have T:=I (UC e (.slice o j.table.length p) j 26);have bi:=I (Hj.o.j E);have bv:=I (Hr.o.j E);have be:=I E;clear E;generalize e.alloc _=w0 at *;refine(Mp o p j.table w0 Hj.o.len bi.o.table).mono ?_;rintro h w1 ⟨rfl,F⟩;obtain⟨r,s,t,u,v,w,x⟩:=T.o.j M F;go_wp2_with fail;refine(Yi j.J _).mono ?_;rintro h w2 ⟨rfl,b4⟩;have D:=F.trans (b4.mono F.size);clear r s t u v w x F b4;go_wp2_with fail;refine(RP q P a _ V (bv.o.j D)).mono ?_;rintro h w3 ⟨rfl,cd⟩;have f:=D.trans (cd.mono D.size);clear D cd;obtain⟨r,s,t,u,v,w,x⟩:=T.o.j M f;have k:=I (be.o.trans (f.mono be.o.size));cases O:xk j.table with
 | false =>
  have m:=I O;clear O;go_wp2;go_ret;exact⟨qX (by rw[y.o,m.o];rfl),k.o⟩
 | true =>
  have m:=I O;clear O;cases d:UU j with
  | false =>
   have C:=I d;rw[ac.o]at d;simp only[ej,cW]at d;have d2:qK j.J=false\/(qK j.J=true/\((20:Int)<(j.pre.length:Int)\/(¬(20:Int)<(j.pre.length:Int)/\(j.draw<0\/(¬j.draw<0/\65535<j.draw))))):=by
    rcases d with i|i
    ·exact .inl i
    ·cases es:qK j.J with
     | false=>exact .inl rfl
     | true=>exact .inr ⟨rfl,by omega⟩
   clear d;have l:J (xp j a=7):=by show xp j a=7;rw[y.o,m.o,C.o];rfl
   generalize d3:j.draw=dr at *;clear d3;rcases d2 with U|⟨U,h2|⟨h2,h3|⟨h3,h4⟩⟩⟩
   all_goals
    rw[U];clear U;go_wp2;go_ret;exact⟨qX l.o.symm,k.o⟩
  | true =>
   have C:=I d;rw[ac.o]at d;simp only[aK,aN]at d;obtain⟨dl,d6,d7,d8⟩:=d;have q2:¬(20:Int)<(j.pre.length:Int):=(by omega);have q3:¬j.draw<0:=(by omega);have q4:¬65535<j.draw:=(by omega);rw[dl];clear dl d6 d7 d8;cases H:xD a with
   | false =>
    have B:=I H;clear H;go_wp2;go_ret;exact⟨qX (by rw[y.o,m.o,C.o,B.o];rfl),k.o⟩
   | true =>
    have B:=I H;clear H;have ap:=I (fun n=>Xa (r:=a) (n:=n) B.o);have Z:J (xp j a=if XU j a=true then 8 else 0):=by show xp j a=_;rw[y.o,m.o,C.o,B.o];rfl
    have bX:=I (bv.o.j f);have dT:=I (bi.o.j f);have d0:=I (T.o.j M f);have ec:=aC M f.size;clear f;have am:J ((jh a j.J.R).isEmpty=Zb j a 0):=by
     show(jh a j.J.R).isEmpty=Zb j a 0;have i:=ap.o j.J.R;apply Eb;rw[fm,i];simp[Zb]
    go_wp2_with fail;clear q2 q3 q4;refine(JS q P a j.J.R _ V bX.o).mono ?_;rintro h w4 ⟨rfl,ce⟩;clear r s t u v w x;generalize jh a j.J.R=sv at *;go_wp2_with fail;rw[am.o];clear am;go_loopw [8,9] (fun mv X wr=>∃b:Nat,b<=j.table.length/\X=N b/\mv=.bool (Zb j a b)/\Below w3.heap.size w3 wr) (fun _ X _=>j.table.length-(intOf X).toNat)
    case atStart=>exact⟨0,aG _,rfl,rfl,ce⟩
    case round =>
     clear ce;obtain⟨b,er,rfl,rfl,c⟩:=hrel;obtain⟨r,s,t,u,v,w,x⟩:=d0.o.j ec c;clear s t u v w x;by_cases dd:b<j.table.length
     ·have cs:=dT.o.table.j c;obtain⟨eg,ev,rfl,em,co⟩:=cs.at_ (aE (by omega));obtain⟨g1,g2,g3,_⟩:=co b dd;have dW:=I (bX.o.j c);clear co g1 g2 cs;have z:=I (Tk (r:=a) dd);have eq:(b:Int)<(j.table.length:Int):=(by omega);cases K:Zb j a b with
      | true =>
       have g:J (Zb j a (b+1)=true):=by show _=_;rw[z.o,K];rfl
       clear K z;go_wp2;go_roundw
       ·exact⟨b+1,by omega,by go_num,by rw[g.o],c⟩
       ·simp[intOf];omega
      | false =>
       have g:J (Zb j a (b+1)=(decide (0<(j.table[b]).key) && !jG a (j.table[b]).key)):=by show _=_;rw[z.o,K];rfl
       clear K z;by_cases da:0<(j.table[b]).key
       ·have ds:J ((jh a (j.table[b]).key).isEmpty=Zb j a (b+1)):=by
         show _=_;have i:=ap.o (j.table[b]).key;rw[g.o,dK da,ep];apply Eb;rw[fm,i];simp
        clear g;go_wp2_with fail;refine(JS q P a (j.table[b]).key _ V dW.o).mono ?_;rintro h w5 ⟨rfl,ci⟩;have d1:=c.trans (ci.mono c.size);clear c ci r g3;generalize jh a (j.table[b]).key=eC at *;go_wp2;go_roundw
        ·exact⟨b+1,by omega,by go_num,by rw[<-ds.o],d1⟩
        ·simp[intOf];omega
       ·have dv:J (Zb j a (b+1)=false):=by show _=_;rw[g.o];simp[da]
        clear g;go_wp2;go_roundw
        ·exact⟨b+1,by omega,by go_num,by rw[dv.o],c⟩
        ·simp[intOf];omega
     ·have d4:b=j.table.length:=(by omega);subst d4;rw[HM.o];have Y:=I (k.o.trans (c.mono k.o.size));cases L:XU j a with
      | true =>
       have l:J (xp j a=8):=by show _=_;rw[Z.o,L];rfl
       clear L;go_wp2;go_ret;exact⟨qX l.o.symm,Y.o⟩
      | false =>
       have l:J (xp j a=0):=by show _=_;rw[Z.o,L];rfl
       clear L;go_wp2;go_ret;exact⟨qX l.o.symm,Y.o⟩
theorem UP(n:Int)(a:W) :
  C' 153 #[N n] a fun b c=>b=.returned (.bool (decide (1<=n)&&decide (n<=9)))/\c=a:=by
 go_enter Tryz.func153,Tryz.ntmps153;go_wp2
 all_goals
  go_ret;exact⟨jI (by simp;try omega),rfl⟩
theorem Iv(n:Int)(a:W) :
  C' 213 #[N n] a fun b c=>b=.returned (.bool (decide (1<=n)&&decide (n<=60)))/\c=a:=by
 go_enter Tryz.func213,Tryz.ntmps213;go_wp2
 all_goals
  go_ret;exact⟨jI (by simp;try omega),rfl⟩
theorem Sq(n:Int)(a:W) :
  C' 136 #[N n] a fun b c=>b=.returned (.bool (decide (0<=n)&&decide (n<=65535)))/\c=a:=by
 go_enter Tryz.func136,Tryz.ntmps136;go_wp2
 all_goals
  go_ret;exact⟨jI (by simp;try omega),rfl⟩
theorem NS(a:B8)(b:W)(d:a.length<=maxLen) :
  C' 94 #[S a] b fun c e=>c=.returned (.bool (decide (a.length<=20)))/\e=b:=by
 unfold maxLen at d;go_enter Tryz.func94,Tryz.ntmps94;go_wp2;go_ret;exact⟨jI (by simp;try omega),rfl⟩
theorem Iy(p:L8)(a:W) :
  C' 135 #[zah p] a fun f s=>f=.returned (.bool (qK p))/\Below a.heap.size a s:=by
 have b:J (qK p=((decide (1<=p.group)&&decide (p.group<=60))&&((decide (1<=p.aa)&&decide (p.aa<=60))&&(decide (1<=p.R)&&decide (p.R<=9))))):=rfl;obtain⟨d,e,c,r⟩:=p;simp only at b;have g:=I ((k8 a.heap.size a).alloc (aA _) (.cells #[N d,N e,N c,.bool r] 24));generalize h:(decide (1<=d)&&decide (d<=60))=q at *;generalize i:(decide (1<=e)&&decide (e<=60))=l at *;generalize j:(decide (1<=c)&&decide (c<=9))=t at *;have m:=I h;have n:=I i;have o:=I j;clear h i j;go_enter Tryz.func135,Tryz.ntmps135;go_wp2_with fail;refine(Iv d _).mono ?_;rintro f k ⟨rfl,rfl⟩;rw[m.o];cases q with
 | false =>
  go_wp2;go_ret;exact⟨jI b.o.symm,g.o⟩
 | true =>
  go_wp2_with fail;refine(Iv e _).mono ?_;rintro f k ⟨rfl,rfl⟩;rw[n.o];cases l with
  | false =>
   go_wp2;go_ret;exact⟨jI b.o.symm,g.o⟩
  | true =>
   go_wp2_with fail;refine(UP c _).mono ?_;rintro f k ⟨rfl,rfl⟩;rw[o.o];go_wp2;go_ret;exact⟨jI b.o.symm,g.o⟩
theorem Fe(a:ByteArray)(r:W)(w:a.size<=maxLen) :
  C' 268 #[.string a] r fun t x=>t=.returned (.bool (zA a.data.toList))/\x=r:=by
 unfold maxLen at w;have d:J (zA a.data.toList=(a.data.toList.all QS&&(decide (1<=a.size)&&decide (a.size<=8)))):=by
  show _=_;rw[Rv];simp
 go_enter Tryz.func268,Tryz.ntmps268;by_cases f:1<=a.size
 ·have g:¬(a.size:Int)<1:=by omega
  by_cases h:a.size<=8
  ·have i:¬(8:Int)<(a.size:Int):=(by omega);have o:J (zA a.data.toList=a.data.toList.all QS):=by
    show _=_;rw[d.o];simp[f,h]
   go_wp2;go_loop [14] (fun k=>∃b:Nat,b<=a.size/\k=N b/\(a.data.toList.take b).all QS=true) (fun k=>a.size-(intOf k).toNat)
   case atStart=>exact⟨0,aG _,rfl,rfl⟩
   case round =>
    obtain⟨b,z,rfl,q⟩:=hrel;have p:=I q;clear q;by_cases j:b<a.size
    ·have y:=(a[b]'j).toNat_lt;have s:J (QS a[b]=true->(a.data.toList.take (b+1)).all QS=true):=by
      intro u;rw[Gh a b j,ek,p.o];simp[u]
     have m:J (QS a[b]=false->zA a.data.toList=false):=by
      intro v;rw[o.o,el];exact⟨a[b],by have:=aJ (l:=a.data.toList) (n:=b) (by simpa using j);exact this,by simp[v]⟩
     have e:J (QS a[b]=(decide (97<=(a[b]).toNat)&&decide ((a[b]).toNat<=122))):=rfl;by_cases f:(a[b]).toNat<97
     ·have g:((a[b]).toNat:Int)<97:=(by omega);go_wp2;go_ret;exact⟨jI (m.o (by rw[e.o];simp;omega)).symm,rfl⟩
     ·have g:¬((a[b]).toNat:Int)<97:=(by omega);by_cases h:122<(a[b]).toNat
      ·have i:(122:Int)<((a[b]).toNat:Int):=(by omega);go_wp2;go_ret;exact⟨jI (m.o (by rw[e.o];simp;omega)).symm,rfl⟩
      ·have i:¬(122:Int)<((a[b]).toNat:Int):=(by omega);go_wp2;go_round
       ·exact⟨b+1,by omega,by go_num,s.o (by rw[e.o];simp;omega)⟩
       ·simp[intOf];omega
    ·have c:J (zA a.data.toList=true):=by
      show _=_;rw[o.o];have:=p.o
      rwa [aU (by simp;omega)]at this
     go_wp2;go_ret;exact⟨jI c.o.symm,rfl⟩
  ·have i:(8:Int)<(a.size:Int):=(by omega);have c:J (zA a.data.toList=false):=by show _=_;rw[d.o];simp[h]
   go_wp2;go_ret;exact⟨jI c.o.symm,rfl⟩
 ·have g:(a.size:Int)<1:=by omega
  have c:J (zA a.data.toList=false):=by show _=_;rw[d.o];simp[f]
  go_wp2;go_ret;exact⟨jI c.o.symm,rfl⟩
theorem Lz(a:B8)(b:W)(d:a.length<=maxLen) :
  C' 268 #[S a] b fun c e=>c=.returned (.bool (zA a))/\e=b :=
 Fe ⟨a.toArray⟩ b (by rw[jT];exact d)
theorem TD(c:W8)(e:-9223372036854775808<=c.key):JW c=(zA c.name&&((decide (c.kind=0)||decide (c.kind=1))&&(decide (c.key=0)||(decide (1<=c.key)&&decide (c.key<=9))))):=by
 apply Eb;simp only[JW,aK,dp,aN];constructor
 ·rintro⟨a,b,d⟩;exact⟨a,by omega,by omega⟩
 ·rintro⟨a,b,d⟩;exact⟨a,by omega,by omega⟩
theorem Nw(c:W8)(v:Value)(b:W)(y:MP c)(F:v.oneCell'=true) :
  C' 254 #[zat c v] b fun f z=>f=.returned (.bool (JW c))/\Below b.heap.size b z:=by
 obtain⟨i,w,x,D⟩:=y;have e:=I (TD c x);have p:=I i;have d:=I ((k8 b.heap.size b).alloc (aA _) (.cells #[S c.name,N c.kind,N c.key,v] 61));obtain⟨m,h,a,C⟩:=c;simp only at *;clear i w;generalize j:zA m=u at *;generalize k:(decide (h=0)||decide (h=1))=o at *;generalize l:(decide (1<=a)&&decide (a<=9))=B at *;have r:=I j;have s:=I k;have t:=I l;clear j k l;go_enter Tryz.func254,Tryz.ntmps254;go_wp2_with fail;refine(Lz m _ p.o).mono ?_;rintro f n ⟨rfl,rfl⟩;rw[r.o];cases u with
 | false =>
  go_wp2;go_ret;exact⟨jI e.o.symm,d.o⟩
 | true =>
  go_wp2_with fail;refine(jbb h _).mono ?_;rintro f n ⟨rfl,rfl⟩;rw[s.o];cases o with
  | false =>
   go_wp2;go_ret;exact⟨jI e.o.symm,d.o⟩
  | true =>
   by_cases g:a=0
   ·subst g;go_wp2;go_ret;exact⟨jI (by rw[e.o];simp),d.o⟩
   ·have E:(a==0)=false:=(by simp[g]);have q:=I g;clear g;go_wp2_with fail;refine(UP a _).mono ?_;rintro f n ⟨rfl,rfl⟩;rw[t.o];go_wp2;go_ret;exact⟨jI (by rw[e.o];simp[q.o]),d.o⟩
theorem CW(k:O')(s:Nat)(t:List W8)(b:B8)(d:W)(x:t.length<=maxLen)(y:b.length<=maxLen)(n:P3 d k t) :
  C' 255 #[.slice k t.length s,S b] d fun w z=>w=.returned (.bool (zx t b))/\Below d.heap.size d z:=by
 have r:=I n;clear n;unfold maxLen at x y;go_enter Tryz.func255,Tryz.ntmps255;go_wp2;go_loopw [9] (fun h wr=>∃a:Nat,a<=t.length/\h=N a/\zx (t.take a) b=false/\Below d.heap.size d wr) (fun h _=>t.length-(intOf h).toNat)
 case atStart=>exact⟨0,aG _,rfl,rfl,k8 _ _⟩
 case round =>
  obtain⟨a,H,rfl,o,e⟩:=hrel;have j:=I o;clear o;by_cases f:a<t.length
  ·obtain⟨B,L,rfl,F,l⟩:=(r.o.j e).at_ (aE (by omega));obtain⟨g1,C,D,v,E,ca,u,rfl,_⟩:=l a f;clear l;have G:(a:Int)<(t.length:Int):=(by omega);have g:=I (e.alloc e.size (Obj.cells #[S (t[a]).name,N (t[a]).kind,N (t[a]).key,.slice ca (t[a]).cells.length u] 61));have i:=I (ND (t:=t) (k:=t.length) (m:=a) f f b);rw[aS]at i;by_cases c:(t[a]).name=b
   ·have p:J (zx t b=true):=by
     simp only[J,zx,ez];exact⟨t[a],aJ f,by simp[c]⟩
    rw[c]at g1;rw[c]at g;clear c;go_wp2;go_ret;exact⟨jI p.o.symm,g.o⟩
   ·have K:((t[a]).name==b)=false:=(by simpa using c);have q:=I c;clear c;go_wp2;go_roundw
    ·exact⟨a+1,by omega,by go_num,by rw[i.o,j.o];simp[q.o],g.o⟩
    ·simp[intOf];omega
  ·go_wp2;go_ret;exact⟨jI (by have:=j.o;rw[aU (by omega)]at this;rw[this]),e⟩
variable{a:O'}
theorem P3.take{t:List W8}(e:P3 w a t)(f:Nat):P3 w a (t.take f):=by
 refine⟨fun c b=>e.ok c (bP b),fun n=>?_⟩;obtain⟨h,o,i,k,b⟩:=e.at_ (fun g=>n (by rw[g];simp));refine⟨h,o,i,k,fun j l=>?_⟩;have m:j<t.length:=by rw[aM]at l;omega
 have g:(t.take f)[j]=t[j]:=dL;rw[g];exact b j m
theorem DV(d:O')(f a:Nat)(t:List W8)(c:B8)(b:W)(k:t.length<=maxLen)(h:c.length<=maxLen)(j:a<=t.length)(g:P3 b d t) :
  C' 255 #[.slice d a f,S c] b fun e i=>e=.returned (.bool (zx (t.take a) c))/\Below b.heap.size b i:=by
 have e:(t.take a).length=a:=by rw[aM];omega
 have:=CW d f (t.take a) c b (by omega) h (g.take a);rw[e]at this;exact this
theorem Yd(y:O')(h:Nat)(t:List W8)(c:W)(H:t.length<=maxLen)(cd:t.length<=h)(G:P3 c y t) :
  C' 212 #[.slice y t.length h] c fun i w'=>i=.returned (.bool (jW t))/\Below c.heap.size c w':=by
 have o:=I G;clear G;have bv:=H;unfold maxLen at H;have m:J (jW t=(JZ t t.length&&(decide (1<=t.length)&&decide (t.length<=6)))):=rfl;by_cases z:1<=t.length
 ·have Z:¬(t.length:Int)<1:=by omega
  by_cases B:t.length<=6
  ·have ac:¬(6:Int)<(t.length:Int):=(by omega);have M:J (jW t=JZ t t.length):=by show _=_;rw[m.o];simp[z,B]
   go_enter Tryz.func212,Tryz.ntmps212;go_wp2;go_loopw [15] (fun u wr=>∃a:Nat,a<=t.length/\u=N a/\JZ t a=true/\Below c.heap.size c wr) (fun u _=>t.length-(intOf u).toNat)
   case atStart=>exact⟨0,aG _,rfl,rfl,k8 _ _⟩
   case round =>
    obtain⟨a,bi,rfl,D,f⟩:=hrel;have x:=I D;clear D;by_cases k:a<t.length
    ·obtain⟨U,b4,rfl,ap,F⟩:=(o.o.j f).at_ (aE (by omega));obtain⟨g1,V,X,v,Y,ca,s,rfl,_⟩:=F a k;clear F;have q:=I (o.o.ok t[a] (aJ k));have K:(t[a]).name.length<=maxLen:=q.o.1;have T:=I K;clear K;have P:=I (Nz k x.o);have w:=I (Ic (t:=t) k);have ci:(a:Int)<(t.length:Int):=(by omega);have ce:(a:Int)<=(h:Int):=(by omega);go_wp2_with fail;obtain⟨E,bX,g,_⟩:=jJ wr #[S (t[a]).name,N (t[a]).kind,N (t[a]).key,.slice ca (t[a]).cells.length s] 61;have L:=g 0;have y1:=g 1;have y2:=g 2;have y3:=g 3;simp only[cP,bU,bV]at L y1 y2 y3;have d:=I (f.trans (E.mono f.size));clear g E g1 V X Y f ap;generalize wr.alloc _=wb at *;have O:=I (o.o.j d.o);cases j:JW t[a]with
     | false =>
      have e:=I j;clear j
      first|go_region_with (first
       | (go_at_call 254;refine(Nw t[a] (.slice ca (t[a]).cells.length s) _ q.o rfl).mono ?_;rintro i w5 ⟨rfl,b⟩;rw[e.o];replace b:=jg b))|fail
      all_goals
       go_simp;go_wp2;go_ret;exact⟨jI (w.o (by rw[e.o];rfl)).symm,d.o.trans (b.mono d.o.size)⟩
     | true =>
      have e:=I j;clear j
      first|go_region_with (first
       | (go_at_call 254;refine(Nw t[a] (.slice ca (t[a]).cells.length s) _ q.o rfl).mono ?_;rintro i w5 ⟨rfl,b⟩;rw[e.o];replace b:=jg b;have z0:=(b.cell (p:=A wr.heap.size 0) bX).trans L)
       | (go_at_call 255;refine(DV (some (A U b4)) h a t (t[a]).name _ bv T.o bi (O.o.j b)).mono ?_;rintro i w6 ⟨rfl,am⟩))|fail
      have C:=d.o.trans (((b.trans (am.mono b.size))).mono d.o.size);go_simp;cases l:zx (t.take a) (t[a]).name with
      | true =>
       have r:=I l;clear l;go_wp2;go_ret;exact⟨jI (w.o (by rw[r.o];simp)).symm,C⟩
      | false =>
       have r:=I l;clear l;go_wp2;go_roundw
       ·exact⟨a+1,by omega,by go_num,by rw[P.o,e.o,r.o];rfl,C⟩
       ·simp[intOf];omega
    ·have be:a=t.length:=(by omega);subst be;go_wp2;go_ret;exact⟨jI (by rw[M.o,x.o]),f⟩
  ·have ac:(6:Int)<(t.length:Int):=(by omega);have n:J (jW t=false):=by show _=_;rw[m.o];simp[B]
   go_enter Tryz.func212,Tryz.ntmps212;go_wp2;go_ret;exact⟨jI n.o.symm,k8 _ _⟩
 ·have Z:(t.length:Int)<1:=by omega
  have n:J (jW t=false):=by show _=_;rw[m.o];simp[z]
  go_enter Tryz.func212,Tryz.ntmps212;go_wp2;go_ret;exact⟨jI n.o.symm,k8 _ _⟩
end Go.Proofs.YthhpbhpfagoapaaGreat
