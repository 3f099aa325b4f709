import Derived.Test.YthhpbhpfagoapaaGreatGAX
namespace Go.Proofs.YthhpbhpfagoapaaGreat
set_option linter.all false
set_option maxRecDepth 100000
set_option maxHeartbeats 16000000
open Go.RowKit
def M8:W9:=⟨-77,[109,97,114,107]⟩
def Ax(a:W):C' 40 #[] a fun b c=>b=.returned (zao M8)/\Below a.heap.size a c:=by
 go_enter Tryz.func40,Tryz.ntmps40;go_wp2;exact kk (v:=zao M8) (by simp[results,Tryz.results40,go_sem,zao,M8]) rfl ⟨rfl,(k8 _ _).alloc (aA _) _⟩
def zX(a:List W9):List Value:=a.flatMap fun c=>[N c.number,S c.ab]
def Xr(a:List W9):(zX a).length=a.length*2:=Qn _ 2 (fun _=>rfl) a
def Nu(a b:List W9):zX (a++b)=zX a++zX b:=by simp[zX]
def NV(a:List W9)(j:Nat)(b:j<a.length):(zX a)[j*2]?=some (N (a[j]).number)/\(zX a)[j*2+1]?=some (S (a[j]).ab):=⟨Jl _ 2 (fun _=>rfl) a j 0 b (by decide),Jl _ 2 (fun _=>rfl) a j 1 b (by decide)⟩
variable{k m n:Nat}
def U2.cells{w:W}{c:List W9}(h:∀j (h:j<c.length),
  w.cell? (A n (m+j*2))=some (N (c[j]).number)/\w.cell? (A n (m+j*2+1))=some (S (c[j]).ab)):∀a v,(zX c)[a]?=some v->w.cell? (((A n m):Addr).add a)=some v:=by
 intro a v b;have e:a<(zX c).length:=(aV.1 b).1;rw[Xr]at e;have i:a/2<c.length:=by omega
 obtain⟨k,l⟩:=h (a/2) i;obtain⟨c1,c2⟩:=NV c (a/2) i;have d:((A n m):Addr).add a=(A n (m+a)):=by unfold Addr.add;split<;>simp_all
 rw[d];have g:a%2=0\/a%2=1:=by omega
 rcases g with g|g
 ·have f:a=a/2*2:=by omega
  rw[f]at b ⊢;rw[c1]at b;rw[k];exact b
 ·have f:a=a/2*2+1:=by omega
  rw[f]at b ⊢;rw[c2]at b;rw[<-dq,l];exact b
def Fm(d:List W9):∀v∈zX d,v.oneCell'=true:=by
 intro v b;simp only[zX,cU]at b;obtain⟨c,_,a⟩:=b;simp at a;rcases a with rfl|rfl<;>rfl
def Dv:(Tryz.prog.info? 63).map (·.size)=some 2:=by kernel_rfl
def Tryz.cn:(Tryz.prog.info? 63).map (fun a=>(a.zero,a.size,a.bytes))=some (some (.agg #[N 0,.string ⟨#[]⟩]),2,24):=by kernel_rfl
def BU(a:W)(m:TypeId)(g n:Nat)(p:O')(l i:Nat)(b:List W9)(d:List Value)(H:b.length<=n)
  (K:a.ownsRow i 63 2 (R g n n) n d)(G:U2 a p b):∃q,(Builtin.copy_ #[27,27] m #[R g n n,.slice p b.length l]).run Tryz.prog a=.ok (goInt b.length) q /\
   q.ownsRow i 63 2 (R g n n) n (zX b++d.drop (b.length*2))/\a.grownBy q (some g):=by
 obtain⟨k,M⟩:=K;rcases M with⟨j,_⟩|⟨V,U,c,j,r,h,u,s,o,x⟩
 ·simp at j
 simp only[cx,aW,cG,de,eu]at j;obtain⟨rfl,rfl⟩:=j;have e:=Xr b;have E:c.toList=d:=by rw[<-x,aU (by rw[dP,o];exact aA _)]
 have t:Nat.min b.length n=b.length:=d9 H;by_cases v:b=[]
 ·subst v;have L:a.ownsRow i 63 2 (R g n n) n d:=⟨k,.inr ⟨g,n,c,rfl,r,h,u,s,o,x⟩⟩;have C:zX []++d.drop (([]:List W9).length*2)=d:=by simp[zX]
  have w:a.ownsRow i 63 2 (R g n n) n (zX []++d.drop (([]:List W9).length*2)):=by rw[C];exact L
  cases p with
  | none=>exact⟨a,Gv a 27 27 m 63 g n n 2 l Tryz.underlying27 Dv,w,kY _ _⟩
  | some ad=>
   have f:=ZM a 27 27 m 63 g n n 2 ad 0 l c 63 [] Tryz.underlying27 Dv h (by simp) (by simp) (by simp) (by simp);have O:a.setRow g (([]:List Value)++c.toList.drop ([]:List Value).length).toArray=a:=by
    simpa using setRow_self a g c 63 (0,0) h
   rw[O]at f;have B:Nat.min 0 n=0:=d9 (aG _);rw[B]at f;exact⟨a,f,w,kY _ _⟩
 ·obtain⟨y,T,rfl,X,D⟩:=G.at_ v;have f:=ZM a 27 27 m 63 g n n 2 (A y T) b.length l c 63 (zX b) Tryz.underlying27 Dv h (by rw[t,e]) (U2.cells D) (by rw[e,o];omega) (Fm b);rw[t,E]at f;refine⟨_,f,⟨?_,.inr ⟨g,n,_,rfl,r,kr a g c _ 63 _ h,u,s,?_,?_⟩⟩,⟨rfl,rfl,rfl,by simp,fun P _ F=>kK a g P _ (fun z=>F (by simp[z]))⟩⟩
  ·rw[aB,aP,e,k];omega
  ·simp only[gJ,aB,aP,e,k];omega
  ·rw[gz,e,aU (by rw[aB,aP,e,k];omega)]
def Kx:W9:=⟨0,[]⟩
def Qx(b:List W9)(a:Nat):List W9:=b++List.replicate a M8++List.replicate (8-a) Kx
def Pg(n:Nat):zX (List.replicate n Kx)=(madeCells (Value.agg #[N 0,.string ⟨#[]⟩]).cells (n*2)).toList:=by
 apply eF;intro a;by_cases f:a<n*2
 ·have e:a/2<(List.replicate n Kx).length:=by simp;omega
  obtain⟨c1,c2⟩:=NV (List.replicate n Kx) (a/2) e;simp only[cH]at c1 c2;have c:a%2=0\/a%2=1:=by omega
  have d:(Value.agg #[N 0,.string ⟨#[]⟩]).cells=#[N 0,.string ⟨#[]⟩]:=rfl;rcases c with c|c
  ·have b:a=a/2*2:=(by omega);rw[b,c1,d];simp[madeCells,show a/2*2<n*2 by omega,Kx]
  ·have b:a=a/2*2+1:=(by omega);rw[b,c2,d];simp[madeCells,show a/2*2+1<n*2 by omega,Kx,show(a/2*2+1)%2=1 by omega]
 ·rw[cN (by rw[Xr];simp;omega),cN (by rw[dP,lf];omega)]
def jbv(a:List W9):zX a++(zX (List.replicate (a.length+8) Kx)).drop (a.length*2)=zX (Qx a 0):=by
 have b:List.replicate (a.length+8) Kx=List.replicate a.length Kx++List.replicate 8 Kx:=by rw[et]
 rw[b,Nu,dx (by rw[Xr];simp)];simp[Qx,Nu]
def jga(a b:List W9)(g c:W9):((zX (a++g::b)).set (a.length*2) (N c.number)).set (a.length*2+1) (S c.ab)=zX (a++c::b):=by
 have f:=Xr a;have e:∀d:W9,zX (a++d::b)=zX a++(N d.number::S d.ab::zX b):=by intro d;simp[zX]
 rw[e,e,<-f];rw[bI _ _ (aA _),bI _ _ (by omega)];simp
def DQ(b:List W9)(a:Nat)(c:a<8):Qx b a=(b++List.replicate a M8)++Kx::List.replicate (7-a) Kx/\Qx b (a+1)=(b++List.replicate a M8)++M8::List.replicate (7-a) Kx:=by
 unfold Qx;constructor
 ·rw[show 8-a=(7-a)+1 by omega,dt]
 ·rw[show 8-(a+1)=7-a by omega,en];simp
variable{v w:W}{E:List W9}
def Sw(g:k<8)(i:w.ownsRow n 63 2 (R m (E.length+8) (E.length+8)) (E.length+8) (zX (Qx E k))):((w.setCell (A m ((E.length+k)*2)) (N M8.number)).setCell (A m ((E.length+k)*2+1)) (S M8.ab)).ownsRow n 63 2 (R m (E.length+8) (E.length+8)) (E.length+8) (zX (Qx E (k+1))):=by
 have j:=(i.stored ((E.length+k)*2) (N M8.number)).1;have e:=(j.stored ((E.length+k)*2+1) (S M8.ab)).1;obtain⟨f,h⟩:=DQ E k g;rw[f]at e;rw[h,<-jga (E++List.replicate k M8) (List.replicate (7-k) Kx) Kx M8];have l:(E++List.replicate k M8).length=E.length+k:=by simp
 rw[l];exact e
variable{C:List Value}
def jbj(b:w.ownsRow n 63 2 (R m k k) k C)(j:Nat)(e:j<k):(∃v,w.cell? (A m (j*2))=some v)/\(∃v,w.cell? (A m (j*2+1))=some v):=by
 have f:=b.1;refine⟨?_,?_⟩
 ·rw[b.cellAt (j*2) (by omega),aR (by omega)];exact⟨_,rfl⟩
 ·rw[b.cellAt (j*2+1) (by omega),aR (by omega)];exact⟨_,rfl⟩
def PA(k:O')(q:Nat)(a:List W9)(b:W)(hm:a.length*24<=140737488351232)(v:U2 b k a):C' 11 #[.slice k a.length q] b fun r w=>∃g,r=.returned (R g a.length (a.length+8)) /\
   w.ownsRow b.heap.size 63 2 (R g (a.length+8) (a.length+8)) (a.length+8) (zX (Qx a 8))/\Below b.heap.size b w:=by
 obtain⟨O,D,H,K,L⟩:=ks Tryz.cn;have C:=I v;clear v;go_enter Tryz.func11,Tryz.ntmps11;go_wp2_with(at_make;refine kN _ rfl (.tmp 9) (.tmp 9) 27 rfl b.heap.size 63 O (.agg #[N 0,.string ⟨#[]⟩]) 2 Tryz.underlying27 D H K .i64 .i64 _ _ (a.length+8) rfl rfl (by omega) (by omega) (by rw[L];omega) (by unfold maxLen;omega) (aA _) ?_;intro x d n;rw[<-Pg]at d;obtain⟨y,G,j,u⟩:=BU x 3 b.heap.size (a.length+8) k q b.heap.size a _ (by omega) d (C.o.j ((k8 _ _).grown n (aA _) (fun _ f=>by cases f))));rw[jbv]at j;have m:Below b.heap.size b x:=(k8 _ _).grown n (aA _) (fun _ f=>by cases f);have s:Below b.heap.size b y:=m.grown u m.size (fun c f=>by cases f;exact aA _);have h:b.heap.size<y.heap.size:=(j.lt _ rfl).2;clear d n u G m;generalize t:b.heap.size=g at *;go_loopw [5] (fun o wr=>∃c:Nat,c<=8/\o=N c/\wr.ownsRow g 63 2 (R g (a.length+8) (a.length+8)) (a.length+8) (zX (Qx a c))/\Below g b wr/\g<wr.heap.size) (fun o _=>8-(intOf o).toNat)
 case atStart=>exact⟨0,aG _,rfl,j,s,h⟩
 case round=>
  clear j s h;obtain⟨c,Z,rfl,d,l,h⟩:=hrel;by_cases F:c<8
  ·go_wp2_with fail;refine(Ax _).mono ?_;rintro r w5 ⟨rfl,i⟩;have e:=d.kept (Rj i) (.inr (by simp[Value.ownBlock]));have M:(zX (Qx a c)).length=(a.length+8)*2:=e.1;obtain⟨⟨U,P⟩,⟨V,T⟩⟩:=jbj e (a.length+c) (by omega);have X:=e.frozenAt ((a.length+c)*2);have Y:=e.frozenAt ((a.length+c)*2+1);have B:=I (Sw F e);have ac:=i.size;have z:=I (((l.trans (i.mono (eN h))).setCell (p:=(A g ((a.length+c)*2))) (aA _) (N M8.number)).setCell (p:=(A g ((a.length+c)*2+1))) (aA _) (S M8.ab));clear d e l i M;go_wp2;go_roundw
   ·exact⟨c+1,by omega,by go_num,B.o,z.o,by simp;omega⟩
   ·simp[intOf];omega
  ·have E:c=8:=(by omega);subst E;go_wp2;go_ret;exact⟨g,rfl,by rw[t];exact d,by rw[t];exact l⟩
def jae(g a2:O')(o p:Nat)(a:List W9)(d:W)(r:a.length<=maxLen)(j:U2 d g a)(k:U2 d a2 a):C' 47 #[.slice g a.length o,.slice a2 a.length p] d fun q s=>q=.returned (.bool true)/\Below d.heap.size d s:=by
 have m:=I j;have n:=I k;clear j k;unfold maxLen at r;have B:((a.length:Int)!=(a.length:Int))=false:=by simp
 go_enter Tryz.func47,Tryz.ntmps47;go_wp2;go_loopw [5] (fun f wr=>∃b:Nat,b<=a.length/\f=N b/\Below d.heap.size d wr) (fun f _=>a.length-(intOf f).toNat)
 case atStart=>exact⟨0,aG _,rfl,k8 _ _⟩
 case round=>
  obtain⟨b,y,rfl,e⟩:=hrel;by_cases l:b<a.length
  ·obtain⟨t,E,rfl,w,h⟩:=(m.o.j e).at_ (aE (by omega));obtain⟨g1,v⟩:=h b l;obtain⟨u,F,rfl,x,i⟩:=(n.o.j e).at_ (aE (by omega));obtain⟨C,D⟩:=i b l;clear h i;generalize a[b]=c at *;have z:(b:Int)<(a.length:Int):=(by omega);go_wp2_with fail;go_quiet(fail);go_wp2_with fail;go_roundw
   ·exact⟨b+1,by omega,by go_num,below_drewN e nq⟩
   ·simp[intOf];omega
  ·go_wp2;go_ret;exact⟨rfl,e⟩
def Yy{b h:List W9}(a:w.ownsRow n 63 2 (R m k k) k (zX (b++h)))(i:∀c∈b,Bj c):U2 w (some (A m 0)) b:=by
 refine⟨i,fun o=>⟨m,0,rfl,(a.lt m rfl).2,fun j g=>?_⟩⟩;have l:=a.1;rw[Xr,aB]at l;obtain⟨e,f⟩:=NV (b++h) j (by rw[aB];omega);rw[dC g]at e f;simp only[dh];exact⟨by rw[a.cellAt (j*2) (by omega)];exact e,by rw[a.cellAt (j*2+1) (by omega)];exact f⟩
def Vr(a:List W9):Qx a 8=a++List.replicate 8 M8:=by simp[Qx]
def Tl(d:w.ownsRow n 63 2 (R m (E.length+8) (E.length+8)) (E.length+8) (zX (Qx E 8)))(b:Nat)(j:b<8):w.cell? (A m ((E.length+b)*2))=some (N M8.number)/\w.cell? (A m ((E.length+b)*2+1))=some (S M8.ab):=by
 rw[Vr]at d;obtain⟨e,f⟩:=NV (E++List.replicate 8 M8) (E.length+b) (by simp;omega);have i:(E++List.replicate 8 M8)[E.length+b]'(by simp;omega)=M8:=by rw[dA (by omega)];simp only[cH]
 rw[i]at e f;exact⟨by rw[d.cellAt _ (by omega)];exact e,by rw[d.cellAt _ (by omega)];exact f⟩
def LD(f:O')(n g t:Nat)(a:List W9)(c:W)(F:a.length*24<=140737488351232)(s:U2 c f a)
  (k:c.ownsRow t 63 2 (R g (a.length+8) (a.length+8)) (a.length+8) (zX (Qx a 8))):C' 14 #[R g a.length (a.length+8),.slice f a.length n] c fun h z=>h=.returned (.bool true)/\Below c.heap.size c z:=by
 have m:=I s;have e:=I k;have i:g<c.heap.size:=(k.lt g rfl).2;clear s k;go_enter Tryz.func14,Tryz.ntmps14;go_wp2_with fail;refine(jae _ f (a.length+8) n a _ (by unfold maxLen;omega) (Yy (by have:=e.o;rw[Vr]at this;exact this) m.o.ok) m.o).mono ?_;rintro h K ⟨rfl,r⟩;go_wp2_with fail;go_loopw [8] (fun l wr=>∃b:Nat,b<=8/\l=N b/\Below c.heap.size c wr) (fun l _=>8-(intOf l).toNat)
 case atStart=>exact⟨0,aG _,rfl,r⟩
 case round=>
  clear r;obtain⟨b,B,rfl,d⟩:=hrel;by_cases x:b<8
  ·obtain⟨g1,o⟩:=Tl e.o b x;have u:=(d.cell (p:=(A g ((a.length+b)*2))) i).trans g1;have v:=(d.cell (p:=(A g ((a.length+b)*2+1))) i).trans o;have q:g<wr.heap.size:=aC i d.size;have D:(a.length:Int)+(b:Int)<(a.length:Int)+8:=(by omega);have C:(0:Int)<=(a.length:Int)+(b:Int):=(by omega);have E:IntKind.i64.wrap ((a.length:Int)+(b:Int))=(a.length:Int)+(b:Int):=kD _ ⟨by omega,by omega⟩;have G:((a.length:Int)+(b:Int)).toNat=a.length+b:=(by omega);have y:=I Ax;clear g1 o e;generalize M8=H at *;go_wp2_with fail;go_region_with (go_at_call 40;refine(y.o _).mono ?_;rintro h L ⟨rfl,j⟩;have M:=(j.cell (p:=(A g ((a.length+b)*2))) q).trans u;have O:=(j.cell (p:=(A g ((a.length+b)*2+1))) q).trans v)
   all_goals
    go_wp2_with fail;go_roundw
    ·exact⟨b+1,by omega,by go_num,d.trans ((jg j).mono d.size)⟩
    ·simp[intOf];omega
  ·have w:b=8:=(by omega);subst w;go_wp2;go_ret;exact⟨rfl,d⟩
abbrev T5(a:U0):V':=#[N a.R,.bool a.told,S a.footer,S [if a.told=true then 83 else 70],N 0,N 0,N 0,S a.I,S a.body,S (qw a)]
abbrev M9:V':=#[N 0,.bool false,S [],S [],N 0,N 0,N 0,S [],S [],S []]
def Gk(a:U0):(T5 a).all (·.oneCell')=true:=by simp[Value.oneCell']
def Gu(a:W)(g:Nat)(b:V'):a.grownBy (a.setRow g b) (some g):=⟨rfl,rfl,rfl,by simp,fun e _ d=>kK a g e b (fun c=>d (by rw[c]))⟩
def jaf(file:B8)(g:Nat)(a:W)(n:file.length<=maxLen)(i:a.cell? (A g 0)=some (S file)):C' 97 #[(Q g 0)] a (jdk file a):=by
 have u:=I n;have w:=jf (.cells M9 115) i;clear n;obtain⟨j,B,_,m⟩:=jJ a M9 115;go_enter Tryz.func97,Tryz.ntmps97;go_wp2_with fail;clear w i;refine(Md file (a.alloc (.cells M9 115)) u.o).mono ?_;generalize a.alloc _=x at *;have d:=I j;have s:=I m;clear j m;rintro z f ⟨c,⟨rfl,l⟩|⟨b,k,rfl⟩⟩
 ·have r:=I l;have e:=I (d.o.trans (c.mono d.o.size));clear c l;go_wp2;exact⟨rfl,e.o,.inl ⟨rfl,r.o⟩⟩
 ·have q:=I k;have e:=I (d.o.trans (c.mono d.o.size));have h:=I (jd c s.o);clear c k;go_wp2_with(refine kl rfl 115 (.tmp 1) (.tmp 3) rfl a.heap.size (T5 b) rfl rfl 115 M9 h.o (by kernel_rfl) rfl (Gk b) ?_);have t:=I (kr f a.heap.size _ (T5 b) 115 (0,0) h.o);have o:=I (e.o.trans (jn (Gu f a.heap.size (T5 b)) (aA _) e.o.size));generalize f.setRow _ _=y at *;exact kk (v:=K8 b) (kV (P:=Tryz.prog) (p:=1) (ty:=115) rfl _ _ a.heap.size 115 (T5 b) (0,0) _ rfl t.o Tryz.underlying115 rfl (by kernel_rfl)) rfl ⟨o.o,.inr ⟨b,q.o,rfl⟩⟩
def RA(p:Addr)(e:Bool)(d:TypeId)(c:Value)(b:List PanicEntry)(a:W)(g:a.cell? p=some (.bool e))(i:a.frozen? p=false):CallsD Tryz.prog 154 #[.pointer (some p)] (.panicking ({ v:=.iface d c,recovered:=false}::b)) a fun f j k=>
   f=.returned (.tuple #[])/\j=.panicking ({ v:=.iface d c,recovered:=true}::b)/\k=a.setCell p (.bool false):=by
 refine l6 Tryz.func154 rfl fun m l h=>?_;apply lb;simp[wpOpsS,go_sem,recoverD,h,Tryz.ntmps154,Exit.thenS,g,i,bodyPostS,results,Tryz.results154]
def TM(p:Addr)(b:Bool)(a:W)(e:a.cell? p=some (.bool b))(g:a.frozen? p=false):CallsD Tryz.prog 154 #[.pointer (some p)] .returning a fun d h i=>d=.returned (.tuple #[])/\h=.returning/\i=a.setCell p (.bool true):=by
 refine l6 Tryz.func154 rfl fun c j f=>?_;apply lb;simp[wpOpsS,go_sem,recoverD,f,Tryz.ntmps154,Exit.thenS,e,g,bodyPostS,results,Tryz.results154];cases c;simp_all
def jbf(file:B8)(g:Nat)(a:W)(V:file.length<=maxLen)(H:a.cell? (A g 0)=some (S file)):C' 96 #[.func (.func 97) #[] #[(Q g 0)]] a fun d w'=>Below a.heap.size a w' /\
   ((xL file=none/\d=.returned (.tuple #[.agg M9,.bool false]))\/∃b,xL file=some b/\d=.returned (.tuple #[K8 b,.bool true])):=by
 have bv:∀(G:Fn) (first F:V') (a:W),(Instr.makeFunc G first F).run Tryz.prog a=.ok (.func G first F) a:=fun _ _ _ _=>rfl;have Hs:=I V;have K:=jf (.cells #[.bool false] 4) (jf (.cells M9 115) H);obtain⟨M,bi,U,P⟩:=QB a M9 115 #[.bool false] 4;have D:=I K;clear V H K;go_enter_defers Tryz.func96,Tryz.ntmps96
 go_wp2_with fail;refine(jaf file g ((a.alloc (.cells M9 115)).alloc (.cells #[.bool false] 4)) Hs.o D.o).mono ?_;clear D;generalize (a.alloc _).alloc _=W0 at *;have C:=I M;have am:=I U;have ac:=I P;clear M U P;rintro d c ⟨e,ho⟩;have h:=I (C.o.trans (e.mono C.o.size));have k:=I (jd e am.o);have j:=I (jd e ac.o);have n:c.cell? (A (a.heap.size+1) 0)=some (.bool false):=by rw[jb j.o];rfl
 have X:c.frozen? (A (a.heap.size+1) 0)=false:=kh c _ _ _ _ j.o;rcases ho with⟨rfl,T⟩|⟨b,O,rfl⟩
 ·have Hn:=I T;clear T e;go_wp2;refine l9 (f:=154) (args:=#[(Q (a.heap.size+1) 0)]) (by simp) (by simp[go_sem]) ?_;refine(RA (A (a.heap.size+1) 0) false 9 _ [] _ n X).mono ?_;rintro d u' be ⟨rfl,rfl,rfl⟩;have m:=cB c (A (a.heap.size+1) 0) (.bool false) n;have i:=I (h.o.setCell (p:=A (a.heap.size+1) 0) (by simp) (.bool false));have l:=I (jm (qQ c (a.heap.size+1) 0 (.bool false)) k.o (by omega));generalize c.setCell _ _=K0 at *;obtain⟨⟨r,s,t,u,v,w,x,y,z,B⟩,_⟩:=xZ l.o;simp[Leaves,settle,results,Tryz.results96,go_sem,m,r,s,t,u,v,w,x,y,z,B];exact⟨i.o,Hn.o⟩
 ·have Hf:=I O;have q:=Gu c a.heap.size (T5 b);have E:=I (jm q j.o (by omega));have ap:=I (kr c a.heap.size _ (T5 b) 115 (0,0) k.o);have Z:=I (h.o.trans (jn q (aA _) h.o.size));have o:(c.setRow a.heap.size (T5 b)).cell? (A (a.heap.size+1) 0)=some (.bool false):=by rw[jb E.o];rfl
  have Y:(c.setRow a.heap.size (T5 b)).frozen? (A (a.heap.size+1) 0)=false:=kh _ _ _ _ _ E.o;clear O e q n X;go_wp2_with(refine kl rfl 115 (.tmp 2) (.tmp 6) rfl a.heap.size (T5 b) rfl rfl 115 M9 k.o (by kernel_rfl) rfl (Gk b) ?_);generalize c.setRow _ _=f at *;refine l9 (f:=154) (args:=#[(Q (a.heap.size+1) 0)]) (by simp) (by simp[go_sem]) ?_;refine(TM (A (a.heap.size+1) 0) true _ ?_ ?_).mono ?_
  ·exact cB f (A (a.heap.size+1) 0) (.bool true) o
  ·simp[Y]
  rintro d u' be ⟨rfl,rfl,rfl⟩;have L:=cB f (A (a.heap.size+1) 0) (.bool true) o;have m:=cB _ (A (a.heap.size+1) 0) (.bool true) L;have i:=I ((Z.o.setCell (p:=A (a.heap.size+1) 0) (by simp) (.bool true)).setCell (p:=A (a.heap.size+1) 0) (by simp) (.bool true));have l:=I (jm (qQ (f.setCell (A (a.heap.size+1) 0) (.bool true)) (a.heap.size+1) 0 (.bool true)) (jm (qQ f (a.heap.size+1) 0 (.bool true)) ap.o (by omega)) (by omega));clear L o Y;generalize (f.setCell _ _).setCell _ _=K0 at *;obtain⟨⟨r,s,t,u,v,w,x,y,z,B⟩,_⟩:=xZ l.o;simp[Leaves,settle,results,Tryz.results96,go_sem,m,r,s,t,u,v,w,x,y,z,B];exact⟨i.o,b,Hf.o,rfl,rfl,rfl,rfl,rfl,rfl,rfl⟩
abbrev E4(a:U0):V':=#[.bool a.told,N a.R,S a.parts,S a.footer,S a.I,S a.body]
abbrev U4:V':=#[.bool false,N 0,S [],S [],S [],S []]
def Cf(file:B8)(d:W)(b:Ending)(e:W):Prop:=Below d.heap.size d e/\((JO file=none/\∃a:V',(a.size=6/\a.all (·.oneCell')=true)/\b=.returned (.tuple #[.agg a,.bool false]))\/∃c,JO file=some c/\b=.returned (.tuple #[.agg (E4 c),.bool true]))
variable{F:TypeId}
def qN{P:Program}{e:Func}{p q:Tmp}(h:e.results=#[.cell p F,.tmp q])(a:V')(b:W)(g:Nat)(d:V')(c:Value)
  (j:a.getD p undef=(Q g 0))(l:a.getD q undef=c)(i:(loadVar F (A g 0)).run P b=.ok (.agg d) b):(results e a).run P b=.ok (.tuple #[.agg d,c]) b:=by
 have k:a[p]?.getD undef=(Q g 0):=by simpa using j
 have m:a[q]?.getD undef=c:=by simpa using l
 simp[results,h,k,m,asAddr,i]
def CJ(file:B8)(c:W)(hs:file.length<=maxLen)(E:65000<file.length\/file.length<8\/file.take 2≠[67,70]\/file.drop (file.length-2)≠[67,70]\/(file.getD 2 0≠69/\file.getD 2 0≠79)\/(file.getD 3 0).toNat<1\/9<(file.getD 3 0).toNat):C' 88 #[S file] c (Cf file c):=by
 have M:=I E;clear E;obtain⟨D,bi,_,F⟩:=jJ c U4 169;have e:=I D;have f:=I F;clear D F;have g:J ((65000<file.length\/file.length<8\/file.take 2≠[67,70]\/file.drop (file.length-2)≠[67,70]\/(file.getD 2 0≠69/\file.getD 2 0≠79)\/(file.getD 3 0).toNat<1\/9<(file.getD 3 0).toNat)->JO file=none):=fun a=>by
  unfold JO;rw[aQ a]
 by_cases h:65000<file.length
 ·have b:J (JO file=none):=g.o (.inl h);have O:(65000:Int)<(file.length:Int):=by omega
  clear h;go_enter Tryz.func88,Tryz.ntmps88;go_wp2;exact kk (v:=.tuple #[.agg U4,.bool false]) (qN (p:=2) (q:=3) rfl _ _ _ _ _ rfl rfl (ki (P:=Tryz.prog) _ c.heap.size 169 169 U4 (0,0) _ f.o Tryz.underlying169 rfl (by kernel_rfl))) rfl ⟨e.o,.inl ⟨b.o,_,⟨by rfl,by simp[Value.oneCell']⟩,rfl⟩⟩
 have ap:decide ((65000:Int)<(file.length:Int))=false:=bS (by omega);have O:(file.length:Int)<=65000:=by omega
 by_cases j:file.length<8
 ·have b:J (JO file=none):=g.o (.inr (.inl j));have T:(file.length:Int)<8:=by omega
  clear h j;go_enter Tryz.func88,Tryz.ntmps88;go_wp2;exact kk (v:=.tuple #[.agg U4,.bool false]) (qN (p:=2) (q:=3) rfl _ _ _ _ _ rfl rfl (ki (P:=Tryz.prog) _ c.heap.size 169 169 U4 (0,0) _ f.o Tryz.underlying169 rfl (by kernel_rfl))) rfl ⟨e.o,.inl ⟨b.o,_,⟨by rfl,by simp[Value.oneCell']⟩,rfl⟩⟩
 have be:decide ((file.length:Int)<8)=false:=bS (by omega);have T:(8:Int)<=(file.length:Int):=by omega
 have l:((⟨file.toArray⟩:ByteArray).extract 0 2).toList=file.take 2:=by rw[kW];simp
 have m:((⟨file.toArray⟩:ByteArray).extract (file.length-2) file.length).toList=file.drop (file.length-2):=by rw[kW];simp;rw[aU (by simp)]
 by_cases i:file.take 2=[67,70]
 case neg=>
  have b:J (JO file=none):=g.o (.inr (.inr (.inl i)));have U:(((⟨file.toArray⟩:ByteArray).extract 0 2).toList==[67,70])=false:=by rw[l];simpa using i
  clear h j i l m;go_enter Tryz.func88,Tryz.ntmps88;go_wp2;exact kk (v:=.tuple #[.agg U4,.bool false]) (qN (p:=2) (q:=3) rfl _ _ _ _ _ rfl rfl (ki (P:=Tryz.prog) _ c.heap.size 169 169 U4 (0,0) _ f.o Tryz.underlying169 rfl (by kernel_rfl))) rfl ⟨e.o,.inl ⟨b.o,_,⟨by rfl,by simp[Value.oneCell']⟩,rfl⟩⟩
 have U:(((⟨file.toArray⟩:ByteArray).extract 0 2).toList==[67,70])=true:=by rw[l];simpa using i
 by_cases k:file.drop (file.length-2)=[67,70]
 case neg=>
  have b:J (JO file=none):=g.o (.inr (.inr (.inr (.inl k))));have V:(((⟨file.toArray⟩:ByteArray).extract (file.length-2) file.length).toList==[67,70])=false:=by rw[m];simpa using k
  clear h j i k l m;go_enter Tryz.func88,Tryz.ntmps88;go_wp2;exact kk (v:=.tuple #[.agg U4,.bool false]) (qN (p:=2) (q:=3) rfl _ _ _ _ _ rfl rfl (ki (P:=Tryz.prog) _ c.heap.size 169 169 U4 (0,0) _ f.o Tryz.underlying169 rfl (by kernel_rfl))) rfl ⟨e.o,.inl ⟨b.o,_,⟨by rfl,by simp[Value.oneCell']⟩,rfl⟩⟩
 have V:(((⟨file.toArray⟩:ByteArray).extract (file.length-2) file.length).toList==[67,70])=true:=by rw[m];simpa using k
 have ac:2<(⟨file.toArray⟩:ByteArray).size:=by simp[ByteArray.size];omega
 have am:3<(⟨file.toArray⟩:ByteArray).size:=by simp[ByteArray.size];omega
 obtain⟨b2,u⟩:∃s,file[2]?=some s:=⟨file[2],aR (by omega)⟩;obtain⟨b3,w⟩:∃s,file[3]?=some s:=⟨file[3],aR (by omega)⟩;have y:file.getD 2 0=b2:=by simp[List.getD,u]
 have z:file.getD 3 0=b3:=by simp[List.getD,w]
 have i2:((⟨file.toArray⟩:ByteArray)[2]'ac).toNat=b2.toNat:=by
  have:=(aV.1 u).2;rw[<-this];rfl
 have i3:((⟨file.toArray⟩:ByteArray)[3]'am).toNat=b3.toNat:=by
  have:=(aV.1 w).2;rw[<-this];rfl
 have x:=I y;have n:=I z;have G:=I h;have H:=I j;have K:=I i;have L:=I k;clear u w l m h j i k y z;by_cases d:b2=69\/b2=79
 case neg=>
  have b:J (JO file=none):=g.o (.inr (.inr (.inr (.inr (.inl (by rw[x.o];exact⟨fun a=>d (.inl a),fun a=>d (.inr a)⟩))))));have o:((b2.toNat:Int)!=69)=true:=by
   rw[eI];intro a;exact d (.inl (gP (by show b2.toNat=69;omega)))
  have r:((b2.toNat:Int)!=79)=true:=by
   rw[eI];intro a;exact d (.inr (gP (by show b2.toNat=79;omega)))
  clear d;go_enter Tryz.func88,Tryz.ntmps88;go_wp2;exact kk (v:=.tuple #[.agg U4,.bool false]) (qN (p:=2) (q:=3) rfl _ _ _ _ _ rfl rfl (ki (P:=Tryz.prog) _ c.heap.size 169 169 U4 (0,0) _ f.o Tryz.underlying169 rfl (by kernel_rfl))) rfl ⟨e.o,.inl ⟨b.o,_,⟨by rfl,by simp[Value.oneCell']⟩,rfl⟩⟩
 have o:(b2=69/\((b2.toNat:Int)!=69)=false/\((b2.toNat:Int)==79)=false)\/(b2=79/\((b2.toNat:Int)!=69)=true/\((b2.toNat:Int)!=79)=false/\((b2.toNat:Int)==79)=true):=by
  rcases d with rfl|rfl
  ·exact .inl ⟨rfl,rfl,rfl⟩
  ·exact .inr ⟨rfl,rfl,rfl,rfl⟩
 clear d;by_cases t:b3.toNat<1
 ·have b:J (JO file=none):=g.o (.inr (.inr (.inr (.inr (.inr (.inl (by rw[n.o];exact t)))))));have Y:decide ((b3.toNat:Int)<1)=true:=dK (by omega);clear t;rcases o with⟨_,r,_⟩|⟨_,r,X,_⟩
  ·go_enter Tryz.func88,Tryz.ntmps88;go_wp2;exact kk (v:=.tuple #[.agg U4,.bool false]) (qN (p:=2) (q:=3) rfl _ _ _ _ _ rfl rfl (ki (P:=Tryz.prog) _ c.heap.size 169 169 U4 (0,0) _ f.o Tryz.underlying169 rfl (by kernel_rfl))) rfl ⟨e.o,.inl ⟨b.o,_,⟨by rfl,by simp[Value.oneCell']⟩,rfl⟩⟩
  ·go_enter Tryz.func88,Tryz.ntmps88;go_wp2;exact kk (v:=.tuple #[.agg U4,.bool false]) (qN (p:=2) (q:=3) rfl _ _ _ _ _ rfl rfl (ki (P:=Tryz.prog) _ c.heap.size 169 169 U4 (0,0) _ f.o Tryz.underlying169 rfl (by kernel_rfl))) rfl ⟨e.o,.inl ⟨b.o,_,⟨by rfl,by simp[Value.oneCell']⟩,rfl⟩⟩
 have Y:decide ((b3.toNat:Int)<1)=false:=bS (by omega);by_cases C:9<b3.toNat
 ·have b:J (JO file=none):=g.o (.inr (.inr (.inr (.inr (.inr (.inr (by rw[n.o];exact C)))))));have Z:decide ((9:Int)<(b3.toNat:Int))=true:=dK (by omega);clear t C;rcases o with⟨_,r,_⟩|⟨_,r,X,_⟩
  ·go_enter Tryz.func88,Tryz.ntmps88;go_wp2;exact kk (v:=.tuple #[.agg U4,.bool false]) (qN (p:=2) (q:=3) rfl _ _ _ _ _ rfl rfl (ki (P:=Tryz.prog) _ c.heap.size 169 169 U4 (0,0) _ f.o Tryz.underlying169 rfl (by kernel_rfl))) rfl ⟨e.o,.inl ⟨b.o,_,⟨by rfl,by simp[Value.oneCell']⟩,rfl⟩⟩
  ·go_enter Tryz.func88,Tryz.ntmps88;go_wp2;exact kk (v:=.tuple #[.agg U4,.bool false]) (qN (p:=2) (q:=3) rfl _ _ _ _ _ rfl rfl (ki (P:=Tryz.prog) _ c.heap.size 169 169 U4 (0,0) _ f.o Tryz.underlying169 rfl (by kernel_rfl))) rfl ⟨e.o,.inl ⟨b.o,_,⟨by rfl,by simp[Value.oneCell']⟩,rfl⟩⟩
 have Z:decide ((9:Int)<(b3.toNat:Int))=false:=bS (by omega);exfalso;rcases M.o with a|a|a|a|⟨a,B⟩|a|a
 ·exact G.o a
 ·exact H.o a
 ·exact a K.o
 ·exact a L.o
 ·rw[x.o]at a B;rcases o with⟨d,_⟩|⟨d,_⟩
  ·exact a d
  ·exact B d
 ·rw[n.o]at a;omega
 ·rw[n.o]at a;omega
def IH(file:B8):((⟨file.toArray⟩:ByteArray).extract 0 2).toList=file.take 2:=by rw[kW];simp
def EN(file:B8):((⟨file.toArray⟩:ByteArray).extract (file.length-2) file.length).toList=file.drop (file.length-2):=by rw[kW];simp;rw[aU (by simp)]
def NK(file:B8)(a b:Nat):(⟨file.toArray⟩:ByteArray).extract a b=⟨((file.drop a).take (b-a)).toArray⟩:=by
 apply ByteArray.ext;rw[ByteArray.data_extract];simp
def zy(a:w.grownBy v (some m))(i:n<=m)(f:n<=w.heap.size):Below n w v:=⟨a.os,a.tape,a.output,a.size,fun h g=>a.block h (aC g f) (by intro d;injection d with d;omega)⟩
def qD(a:Below n w v):Below n w v.drew:=⟨a.os,a.tape,a.output,a.size,a.block⟩
def On(file:B8):Prop:=¬65000<file.length/\¬file.length<8/\file.take 2=[67,70]/\file.drop (file.length-2)=[67,70]/\(file.getD 2 0=69\/file.getD 2 0=79)/\¬(file.getD 3 0).toNat<1/\¬9<(file.getD 3 0).toNat
def Ad(file:B8)(c:W)(z:On file)(m:file.length<8+XT (file.drop (file.length-4))):C' 88 #[S file] c (Cf file c):=by
 have E:J (JO file=none):=by
  show _=_;unfold JO;rw[aQ m];split<;>rfl
 have ap:=I z;obtain⟨i,T,t,u,j,w,x⟩:=z;obtain⟨y,da,_,B⟩:=jJ c U4 169;have C:=I y;have G:=I B;clear y B;have bi:(file.length:Int)<=65000:=by omega
 have bX:(8:Int)<=(file.length:Int):=by omega
 have be:decide ((65000:Int)<(file.length:Int))=false:=bS (by omega);have bv:decide ((file.length:Int)<8)=false:=bS (by omega);have b4:(((⟨file.toArray⟩:ByteArray).extract 0 2).toList==[67,70])=true:=by rw[IH];simpa using t
 have cd:(((⟨file.toArray⟩:ByteArray).extract (file.length-2) file.length).toList==[67,70])=true:=by rw[EN];simpa using u
 have Y:2<(⟨file.toArray⟩:ByteArray).size:=by simp[ByteArray.size];omega
 have Z:3<(⟨file.toArray⟩:ByteArray).size:=by simp[ByteArray.size];omega
 obtain⟨b2,k⟩:∃d,file[2]?=some d:=⟨file[2],aR (by omega)⟩;obtain⟨b3,l⟩:∃d,file[3]?=some d:=⟨file[3],aR (by omega)⟩;have g:file.getD 2 0=b2:=by simp[List.getD,k]
 have h:file.getD 3 0=b3:=by simp[List.getD,l]
 have i2:((⟨file.toArray⟩:ByteArray)[2]'Y).toNat=b2.toNat:=by
  have:=(aV.1 k).2;rw[<-this];rfl
 have i3:((⟨file.toArray⟩:ByteArray)[3]'Z).toNat=b3.toNat:=by
  have:=(aV.1 l).2;rw[<-this];rfl
 rw[h]at w x;rw[g]at j;have am:=I h;have ac:=I g;have ci:decide ((b3.toNat:Int)<1)=false:=bS (by omega);have co:decide ((9:Int)<(b3.toNat:Int))=false:=bS (by omega);obtain⟨a,n⟩:∃d,file[file.length-4]?=some d:=⟨file[file.length-4]'(by omega),aR (by omega)⟩;obtain⟨b,o⟩:∃d,file[file.length-3]?=some d:=⟨file[file.length-3]'(by omega),aR (by omega)⟩;have e0:∀e,(⟨file.toArray⟩:ByteArray)[file.length-4]'e=a:=fun e=>(aV.1 n).2;have e1:∀e,(⟨file.toArray⟩:ByteArray)[file.length-3]'e=b:=fun e=>(aV.1 o).2;have F:J (XT (file.drop (file.length-4))=a.toNat+256*b.toNat):=by
  show _=_;obtain⟨L,M⟩:=aV.1 n;obtain⟨i,O⟩:=aV.1 o;rw[bK L,M,show file.length-4+1=file.length-3 by omega,bK i,O];rfl
 have l0:a.toNat<256:=a.toNat_lt;have l1:b.toNat<256:=b.toNat_lt;have l3:b3.toNat<256:=b3.toNat_lt;clear n o k l g h i T t u w x;have q0:(0:Int)<=(file.length:Int)-4:=by omega
 have q1:(file.length:Int)-4<(file.length:Int):=by omega
 have q2:((file.length:Int)-4).toNat=file.length-4:=by omega
 have q3:(0:Int)<=(file.length:Int)-3:=by omega
 have q4:(file.length:Int)-3<(file.length:Int):=by omega
 have q5:((file.length:Int)-3).toNat=file.length-3:=by omega
 have w0:IntKind.i64.wrap ((file.length:Int)-4)=(file.length:Int)-4:=kD _ ⟨by omega,by omega⟩;have w1:IntKind.i64.wrap ((file.length:Int)-3)=(file.length:Int)-3:=kD _ ⟨by omega,by omega⟩;have w2:IntKind.i64.wrap (a.toNat:Int)=(a.toNat:Int):=kD _ ⟨by omega,by omega⟩;have w3:IntKind.i64.wrap (b.toNat:Int)=(b.toNat:Int):=kD _ ⟨by omega,by omega⟩;have w4:IntKind.i64.wrap (256*(b.toNat:Int))=256*(b.toNat:Int):=kD _ ⟨by omega,by omega⟩;have w5:IntKind.i64.wrap ((file.length:Int)-4-(a.toNat:Int))=(file.length:Int)-4-(a.toNat:Int):=kD _ ⟨by omega,by omega⟩;have w6:IntKind.i64.wrap ((file.length:Int)-4-(a.toNat:Int)-256*(b.toNat:Int))=(file.length:Int)-4-(a.toNat:Int)-256*(b.toNat:Int):=kD _ ⟨by omega,by omega⟩;have w7:IntKind.i64.wrap (b3.toNat:Int)=(b3.toNat:Int):=kD _ ⟨by omega,by omega⟩;rw[F.o]at m;have cs:(file.length:Int)-4-(a.toNat:Int)-256*(b.toNat:Int)<4:=by omega
 clear m;have U:(b2=69/\((b2.toNat:Int)!=69)=false)\/(b2=79/\((b2.toNat:Int)!=69)=true/\((b2.toNat:Int)!=79)=false):=by
  rcases j with rfl|rfl
  ·exact .inl ⟨rfl,rfl⟩
  ·exact .inr ⟨rfl,rfl,rfl⟩
 clear j;rcases U with⟨_,V⟩|⟨_,V,ce⟩
 all_goals
  go_enter Tryz.func88,Tryz.ntmps88;go_wp2_with fail;go_quiet(fail);have s:J (((c.alloc (.cells U4 169)).drewN nq).heap[c.heap.size]?=some (.cells U4 169 (0,0))):=G.o;have r:=I (below_drewN C.o nq);generalize X:(c.alloc _).drewN nq=f at *;clear X;go_wp2_with(refine kl rfl 169 (.tmp 2) (.tmp 67) rfl c.heap.size U4 rfl rfl 169 U4 s.o (by kernel_rfl) rfl (by simp[Value.oneCell']) ?_);have H:=I (kr f c.heap.size _ U4 169 (0,0) s.o);have D:=I (r.o.trans (zy (Zo f c.heap.size U4) (aA _) r.o.size));generalize f.setRow _ _=K at *;exact kk (v:=.tuple #[.agg U4,.bool false]) (qN (p:=2) (q:=3) rfl _ _ _ _ _ rfl rfl (ki (P:=Tryz.prog) K c.heap.size 169 169 U4 (0,0) _ H.o Tryz.underlying169 rfl (by kernel_rfl))) rfl ⟨D.o,.inl ⟨E.o,_,⟨by rfl,by simp[Value.oneCell']⟩,rfl⟩⟩
end Go.Proofs.YthhpbhpfagoapaaGreat
