import Derived.Test.YthhpbhpfagoapaaGreatGBB
import Derived.Test.YthhpbhpfagoapaaGreatGBA
namespace Go.Proofs.YthhpbhpfagoapaaGreat
set_option linter.all false
set_option maxRecDepth 100000
set_option maxHeartbeats 16000000
open Go.RowKit
variable{B:List W8}
def XA:∀(c:List V1) (b:List W6) (n:Nat) (e:Bool),∀d∈jK B n e c b,d<=n+(jw B c b).length:=by
 intro c
 induction c with
 | nil=>intro b n e d a;simp[jK]at a
 | cons h c f=>
  intro b n e d a;cases b with
  | nil=>simp[jK]at a
  | cons g b=>
   simp only[jK,aX]at a;simp only[jw,aB];rcases a with a|a
   ·split at a
    ·simp at a;omega
    ·simp at a
   ·have:=f b _ _ d a;omega
variable{i k m n:Nat}{r s:B8}{Z:V7}
def Se(f:4+s.length<=65000)(a:U8 n s r Z):T9 n Z.rows Z.J Z.U (jK Z.U 4 true (qp Z) Z.ae):=⟨a.rows,a.J,a.told,a.R,a.aq,a.bare,Xj a,fun e d=>by
  have:=XA _ _ _ _ e d;rw[<-a.parts]at this;omega⟩
structure P8 (X9:V7) (f:U0) (base:Nat) (w:W) (v:Value) (cv pv:Value) (Kb:Nat) (V:Nat->Value) (Qp:Nat->Nat->List W6) (Qm:Nat->Nat->W6) (Pv:Nat->Nat->Value):Prop where
 val:v=.agg #[N f.R,.bool f.told,S f.footer,S [if f.told=true then 83 else 70],N 0,N 0,N 0,S f.I,S f.body,S (qw f),N X9.rows,N X9.J.group,N X9.J.aa,N X9.J.R,.bool false,cv,pv,R Kb X9.U.length X9.U.length]
 U:w.ownsRow base 61 4 cv X9.U.length (Qf X9.U)
 c0:∃a m k,pv=.slice a m k
 small:∀c∈X9.U,P4 c
 new:base<=Kb
 kb:w.heap[Kb]?=some (.cells ((List.range X9.U.length).map V).toArray 258 (0,0))
 chunks:∀i,i<X9.U.length->F5 X9.U X9.rows X9.J.group.toNat X9.J.aa.toNat base w i (qc X9.rows X9.J.group.toNat) (V i) Qp Qm Pv
 ae:X9.ae=xH (fun g c=>Qp g c++[Qm g c]) X9.U.length (qc X9.rows X9.J.group.toNat)
variable{v w:W}{x y z:Value}{G:Nat->Nat->List W6}{O:Nat->Nat->W6}{P:Nat->Nat->Value}
def F5.lower{i d c j b:Nat}(a:F5 B i d c j w n m x G O P)(k:b<=j):F5 B i d c b w n m x G O P:=⟨jQ a.row k,fun g f=>jQ (a.bb g f) k,a.ok⟩
variable{T:Nat->Value}{F:TypeId}
def P8.grown{o:U0}{s:V'}(a:P8 Z o n w x y z k T G O P)(c:w.grownBy v (some m))(d:w.heap[m]?=some (.cells s F (0,0)))(t:F≠61)(u:F≠258)(q:F≠261)(r:F≠113):P8 Z o n v x y z k T G O P:=by
 refine⟨a.val,qM a.U c d t,a.c0,a.small,a.new,jm c a.kb ?_,fun g f=>(a.chunks g f).br (fun b B e=>qM e c d q) (fun C b B e=>qM e c d r),a.ae⟩;rintro rfl;have:=a.kb;rw[d]at this;simp only[aW,fZ]at this;exact u this.2.1
def P8.j{j:V7}{k:U0}{base:Nat}{d m:W}{v cv l:Value}{i:Nat->Value}{g:Nat->Nat->W6}(a:P8 j k base d v cv l n i G g P)(b:Below d.heap.size d m):P8 j k base m v cv l n i G g P:=⟨a.val,jy a.U b,a.c0,a.small,a.new,jd b a.kb,fun p o=>(a.chunks p o).br (fun h q c=>jy c b) (fun r h q c=>jy c b),a.ae⟩
def P8.lower{k:U0}{j b:Nat}(a:P8 Z k j w x y z n T G O P)(c:b<=j):P8 Z k b w x y z n T G O P:=⟨a.val,jQ a.U c,a.c0,a.small,aI c a.new,a.kb,fun o m=>(a.chunks o m).lower c,a.ae⟩
def xq(b:V7)(a:U0)(cv d:Value)(c:Nat):V':=#[N a.R,.bool a.told,S a.footer,S [if a.told=true then 83 else 70],N 0,N 0,N 0,S a.I,S a.body,S (qw a),N b.rows,N b.J.group,N b.J.aa,N b.J.R,.bool false,cv,d,R c b.U.length b.U.length]
def P8.one{c:U0}(e:P8 Z c n w x y z m T G O P):x=.agg (xq Z c y z m)/\(xq Z c y z m).size=18/\(xq Z c y z m).all (·.oneCell')=true:=by
 refine⟨e.val,rfl,?_⟩;obtain⟨l,b,g,rfl⟩:=e.c0;obtain⟨ca,cc,rfl⟩:=jt e.U;simp[xq,Value.oneCell']
def OE(a:U0)(footer:B8)(c:W)(d:Ending)(e:W):Prop:=Below c.heap.size c e/\((d=T8/\zH a.R a.parts footer=none) \/
  ∃b v cv k f j i h g,zH a.R a.parts footer=some b/\U8 a.R a.parts footer b/\d=.returned v/\P8 b a c.heap.size e v cv k f j i h g)
def EK{d:Ending}(g:DU s n w d v)(j:∀a p t b,T9 n a p t b->s≠qG a p t b):d=T8/\Below w.heap.size w v:=by
 obtain⟨h,⟨i,_⟩|⟨a,p,t,b,cv,m,k,l,_⟩⟩:=g
 ·exact⟨i,h⟩
 ·exact absurd l (j a p t b k)
def Yr{h:Ending}{p:L8}{a:List Nat}(k:DU s n w h v)(l:T9 n m p B a)(g:s=qG m p B a):∃m p B a cv e,Below w.heap.size w v/\T9 n m p B a/\s=qG m p B a/\(∀c∈B,P4 c)/\h=.returned (zaf m p cv e)/\v.ownsRow w.heap.size 61 4 cv B.length (Qf B)/\v.ownsRow w.heap.size 3 1 e a.length (xA a):=by
 obtain⟨text,⟨i,q⟩|⟨j,f,y,x,cv,e,r,t,u,i,o,b⟩⟩:=k
 ·exact absurd g (q m p B a l)
 ·exact⟨j,f,y,x,cv,e,text,r,t,u,i,o,b⟩
def Mz{p:L8}{h:List Nat}(b:T9 n m p B h):∃a P:Nat,p=⟨(a:Int),(P:Int),(n:Int),false⟩/\1<=a/\a<=60/\1<=P/\P<=60:=by
 have e:=b.J;simp only[qK,aK,aN]at e;refine⟨p.group.toNat,p.aa.toNat,?_,by omega,by omega,by omega,by omega⟩;have f:=b.R;have g:=b.told;cases p;simp only[L8.mk.injEq]at *;exact⟨by omega,by omega,f,g⟩
def KH(a:U0):(qw a).drop 4=a.parts/\4<=(qw a).length/\(qw a).length=4+a.parts.length:=by
 have:(Zc a.told a.R).length=4:=rfl;have b:(qw a).length=4+a.parts.length:=by unfold qw;rw[aB,this]
 exact⟨by unfold qw;rw[<-this,fF],by omega,b⟩
def Lx{d:List Nat}(parts:T9 n m ⟨(k:Int),(i:Int),(n:Int),false⟩ B d)(footer:∀c∈B,P4 c)(f:r=qG m ⟨(k:Int),(i:Int),(n:Int),false⟩ B d)(e:U8 n s r Z):Z.rows=m/\Z.J=⟨(k:Int),(i:Int),(n:Int),false⟩/\Z.U=B/\qp Z=jR m B.length k i/\jK B 4 true (jR m B.length k i) Z.ae=d/\V2 B (jR m B.length k i) Z.ae/\s=jw B (jR m B.length k i) Z.ae:=by
 obtain⟨j,P,b,o,p,q⟩:=Up (Xj e) parts.len (e.footer.symm.trans f);have l:=Bp e.J parts.J (e.told.trans rfl) P b o;have g:Z.U=B:=Au (XN e.aq e.bare) footer p;have h:qp Z=jR m B.length k i:=by unfold qp;rw[j,l,g];rfl
 refine⟨j,l,g,h,?_,?_,?_⟩
 ·rw[<-h,<-g];exact q
 ·have:=e.ae;rw[h,g]at this;exact this
 ·have:=e.parts;rw[h,g]at this;exact this
def jH(a:W)(g:Nat)(b:V'):a.grownBy (a.setRow g b) (some g):=⟨rfl,rfl,rfl,by simp,fun e _ d=>kK a g e b (fun c=>d (by rw[c]))⟩
def Fd(a:U0)(footer:B8)(d:W)(hs:footer.length<=maxLen)(hl:(qw a).length<=65000):C' 230 #[K8 a,S footer] d (OE a footer d):=by
 have Hs:=I hs;have dW:J ((qw a).length<=maxLen):=aI hl (by decide);have ho:4+a.parts.length<=65000:=by
  have:(qw a).length=4+a.parts.length:=by simp[qw,Zc];omega
  omega
 clear hs;generalize eq:(if a.told=true then(83:UInt8)else 70)=j at *;have hf:=I eq;have gt:J (K8 a=.agg #[N a.R,.bool a.told,S a.footer,S [j],N 0,N 0,N 0,S a.I,S a.body,S (qw a)]):=by show _=_;rw[K8,eq]
 clear eq;have f2:=gt.o;rw[f2];clear f2;obtain⟨fs,hB,eg,f8⟩:=QB d #[N a.R,.bool a.told,S a.footer,S [j],N 0,N 0,N 0,S a.I,S a.body,S (qw a)] 115 #[N 0,.bool false,S [],S [],N 0,N 0,N 0,S [],S [],S [],N 0,N 0,N 0,N 0,.bool false,.slice none 0 0,.slice none 0 0,.slice none 0 0] 120;go_enter Tryz.func230,Tryz.ntmps230;go_wp2_with fail;generalize (d.alloc _).alloc _=C at *;have x:=I fs;have dr:=I eg;have d4:=I f8;have d0:=I (xZ eg).1;clear fs eg f8;by_cases hx:¬∃H p U T,T9 a.R H p U T/\footer=qG H p U T
 ·have HN:J (zH a.R a.parts footer=none):=Km (fun s K=>hx ⟨_,_,_,_,Se ho K,K.footer⟩);have eM:J (∀H p U T,T9 a.R H p U T->footer≠qG H p U T):=fun H p U T B h2=>hx ⟨H,p,U,T,B,h2⟩;clear hx;refine k9 (S:=fun k=>k.cell? (A d.heap.size 0)=some (N a.R)/\k.cell? (A d.heap.size 1)=some (.bool a.told)/\k.cell? (A d.heap.size 2)=some (S a.footer)/\k.cell? (A d.heap.size 3)=some (S [j])/\k.cell? (A d.heap.size 4)=some (N 0)/\k.cell? (A d.heap.size 5)=some (N 0)/\k.cell? (A d.heap.size 6)=some (N 0)/\k.cell? (A d.heap.size 7)=some (S a.I)/\k.cell? (A d.heap.size 8)=some (S a.body)/\k.cell? (A d.heap.size 9)=some (S (qw a))) (by kernel_rfl) ?_ (fun F=>?_)
  ·exact d0.o
  refine tk 0 (.agg #[N a.R,.bool a.told,S a.footer,S [j],N 0,N 0,N 0,S a.I,S a.body,S (qw a)]) ?_;refine tk 1 (S footer) ?_;refine tk 2 (Q d.heap.size 0) ?_;refine tk 3 (N a.R) ?_;simp only[jA,jB,jC,Act.put,jD,jE,jF];refine kB (rs:=[4,6]) (by kernel_rfl) (by simp) ?_;refine km (o:=_) rfl (fun t i=>?_) (km (o:=_) rfl (fun t i=>?_) kz)
  ·simp only[jA,jB,jC];go_simp;go_at_call 259
   refine(Za footer a.R _ Hs.o).mono ?_;intro V w1 B;obtain⟨rfl,bi⟩:=EK B eM.o;exact⟨rfl,x.o.trans (jg (bi.mono x.o.size)),.inl ⟨rfl,HN.o⟩⟩
  ·simp only[jA,jB,jC];go_simp;(try go_wp2_with fail);have co:=(k8 C.drew.heap.size C.drew).alloc (aA _) (.cells #[N 0,.bool false,S [],S [],N 0,N 0,N 0,S [],S [],S [],N 0,N 0,N 0,N 0,.bool false,.slice none 0 0,.slice none 0 0,.slice none 0 0] 120);have go:=I (xZ (jd (jg co) dr.o)).1;refine i.out _ _ go.o (fun F=>?_);clear i t;(try simp only[jA,jB,jC,Act.put,jD,jE,jF]);refine rd 4 (fun t i=>?_);simp only[jA,jB,jC];go_simp;go_at_call 259
   refine(Za footer a.R _ Hs.o).mono ?_;intro V w1 B;obtain⟨rfl,bi⟩:=EK B eM.o;exact⟨rfl,x.o.trans ((jg co).mono x.o.size |>.trans (bi.mono (aI x.o.size (by simp)))),.inl ⟨rfl,HN.o⟩⟩
 ·obtain⟨H,p0,U,T,fa,fb⟩:=eG.1 hx;have HF:=I (dy fa fb);clear hx fa fb;obtain⟨x0,x1,x2,x3,x4,x5,x6,x7,x8,x9⟩:=d0.o;have hC:=x.o.size;have hy:=I d4.o;refine k9 (S:=fun k=>k.cell? (A d.heap.size 0)=some (N a.R)/\k.cell? (A d.heap.size 1)=some (.bool a.told)/\k.cell? (A d.heap.size 2)=some (S a.footer)/\k.cell? (A d.heap.size 3)=some (S [j])/\k.cell? (A d.heap.size 4)=some (N 0)/\k.cell? (A d.heap.size 5)=some (N 0)/\k.cell? (A d.heap.size 6)=some (N 0)/\k.cell? (A d.heap.size 7)=some (S a.I)/\k.cell? (A d.heap.size 8)=some (S a.body)/\k.cell? (A d.heap.size 9)=some (S (qw a))) (by kernel_rfl) ?_ (fun F=>?_)
  ·exact d0.o
  refine tk 0 (.agg #[N a.R,.bool a.told,S a.footer,S [j],N 0,N 0,N 0,S a.I,S a.body,S (qw a)]) ?_;refine tk 1 (S footer) ?_;refine tk 2 (Q d.heap.size 0) ?_;refine tk 3 (N a.R) ?_;simp only[jA,jB,jC,Act.put,jD,jE,jF];refine kB (rs:=[4,6]) (by kernel_rfl) (by simp) ?_;refine km (o:=_) rfl (fun t i=>?_) (km (o:=_) rfl (fun t i=>?_) kz)
  case' refine_1=>
   simp only[jA,jB,jC];go_simp;go_at_call 259
   refine(Za footer a.R _ Hs.o).mono ?_;intro V w1 B;obtain⟨f,p1,b,l,cv,pv,bi,w,O,M,ea,Z,am⟩:=Yr B HF.o.1 HF.o.2;obtain⟨ca,cc,rfl⟩:=jt Z;obtain⟨m,r,rfl⟩:=jt am;obtain⟨e,h,rfl,fc,fd,fe,ff⟩:=Mz w;subst ea;have u:=jg bi;have gr:=I (xZ (jd u dr.o)).1;have g9:=I (jd u dr.o);have hc:=I (jd u d4.o);have er:=I (x.o.trans (u.mono x.o.size));have ev:=I (dy w (dy O M));have g7:=I (jQ Z (show d.heap.size<=C.drew.heap.size from x.o.size));have hb:=I (jQ am (show d.heap.size<=C.drew.heap.size from x.o.size));have hw:=u.size;clear bi u B w O M Z am;(try go_wp2_with fail);refine i.out _ _ gr.o (fun F=>?_);clear i t;(try simp only[jA,jB,jC,Act.put,jD,jE,jF]);refine tk 5 (.agg #[N a.R,.bool a.told,S a.footer,S [j],N 0,N 0,N 0,S a.I,S a.body,S (qw a),N f,N e,N h,N a.R,.bool false,.slice ca b.length cc,.slice m l.length r,.slice none 0 0]) ?_;simp only[jA,jB,jC,Act.put,jD,jE,jF];refine rd 6 (fun t i=>?_);simp only[jA,jB,jC];go_simp;obtain⟨bv,hq,_,fn⟩:=jJ w1 #[N 0,.bool false,S [],S [],N 0,N 0,N 0,S [],S [],S [],N 0,N 0,N 0,N 0,.bool false,.slice none 0 0,.slice none 0 0,.slice none 0 0] 120;generalize w1.alloc _=E at *;have D:=I fn;have ci:=I (jd bv g9.o);have d7:=I (jd bv hc.o);have d2:=I (xZ ci.o).1;have bX:=I (er.o.trans (bv.mono er.o.size));have d3:=I (jy g7.o bv);have d6:=I (jy hb.o bv);generalize d8:w1.heap.size=y at *;have hm:d.heap.size+1<y:=(by omega);clear bv fn d8;(try go_wp2_with fail);refine i.out _ _ d2.o (fun F=>?_);clear i t;(try simp only[jA,jB,jC,Act.put,jD,jE,jF]);refine rd 7 (fun t i=>?_);simp only[jA,jB,jC];rw[aQ (by simp[Region.wanted])];refine kL 120 (.tmp 5) (.tmp 12) rfl y #[N a.R,.bool a.told,S a.footer,S [j],N 0,N 0,N 0,S a.I,S a.body,S (qw a),N f,N e,N h,N a.R,.bool false,.slice ca b.length cc,.slice m l.length r,.slice none 0 0] rfl rfl 120 #[N 0,.bool false,S [],S [],N 0,N 0,N 0,S [],S [],S [],N 0,N 0,N 0,N 0,.bool false,.slice none 0 0,.slice none 0 0,.slice none 0 0] D.o (by kernel_rfl) rfl (by simp[Value.oneCell']) ?_;have d5:=I (kr E y _ #[N a.R,.bool a.told,S a.footer,S [j],N 0,N 0,N 0,S a.I,S a.body,S (qw a),N f,N e,N h,N a.R,.bool false,.slice ca b.length cc,.slice m l.length r,.slice none 0 0] 120 (0,0) D.o);have z:=I (jH E y #[N a.R,.bool a.told,S a.footer,S [j],N 0,N 0,N 0,S a.I,S a.body,S (qw a),N f,N e,N h,N a.R,.bool false,.slice ca b.length cc,.slice m l.length r,.slice none 0 0]);generalize E.setRow _ _=WE at *;have ds:=I (jm z.o ci.o (by omega));have e7:=I (jm z.o d7.o (by omega));have e3:=I (qM d3.o z.o D.o (by decide));have e6:=I (qM d6.o z.o D.o (by decide));have dl:=I (bX.o.trans (jn z.o (by omega) bX.o.size));have d1:=I (xZ ds.o).1;refine i.out _ _ d1.o (fun F=>?_);clear i t;refine kp (by kernel_rfl) ?_ _
  case' refine_2=>
   simp only[jA,jB,jC];go_simp;(try go_wp2_with fail);obtain⟨co,hp,_,fl⟩:=jJ C #[N 0,.bool false,S [],S [],N 0,N 0,N 0,S [],S [],S [],N 0,N 0,N 0,N 0,.bool false,.slice none 0 0,.slice none 0 0,.slice none 0 0] 120;have dv:=co;generalize C.alloc _=WA at *;have e4:=I (jd dv dr.o);have hd:=I (jd dv d4.o);have gs:=I (xZ e4.o).1;have dd:=I (x.o.trans (dv.mono x.o.size));have gZ:=I fl;have hD:C.heap.size<WA.heap.size:=hp;clear co dv fl;refine i.out _ _ gs.o (fun F=>?_);clear i t;(try simp only[jA,jB,jC,Act.put,jD,jE,jF]);refine rd 4 (fun t i=>?_);simp only[jA,jB,jC];go_simp;go_at_call 259
   refine(Za footer a.R _ Hs.o).mono ?_;intro V E B;obtain⟨f,p1,b,l,cv,pv,ft,w,O,M,ea,Z,am⟩:=Yr B HF.o.1 HF.o.2;obtain⟨ca,cc,rfl⟩:=jt Z;obtain⟨m,r,rfl⟩:=jt am;obtain⟨e,h,rfl,fc,fd,fe,ff⟩:=Mz w;subst ea;have u:=jg ft;have ci:=I (jd u e4.o);have d2:=I (xZ ci.o).1;have d7:=I (jd u hd.o);have bX:=I (dd.o.trans (u.mono dd.o.size));have ev:=I (dy w (dy O M));have d3:=I (jQ Z (show d.heap.size<=WA.heap.size from dd.o.size));have d6:=I (jQ am (show d.heap.size<=WA.heap.size from dd.o.size));have hw:=u.size;have fk:=jd u gZ.o;have D:J (E.heap[C.heap.size]?=some (.cells #[N 0,.bool false,S [],S [],N 0,N 0,N 0,S [],S [],S [],N 0,N 0,N 0,N 0,.bool false,.slice none 0 0,.slice none 0 0,.slice none 0 0] 120 (0,0))):=fk;have hq:C.heap.size<E.heap.size:=(by omega);clear u ft B w O M Z am fk;generalize d8:C.heap.size=y at *;have hm:d.heap.size+1<y:=(by omega);clear d8;(try go_wp2_with fail);refine i.out _ _ d2.o (fun F=>?_);clear i t;(try simp only[jA,jB,jC,Act.put,jD,jE,jF]);refine tk 5 (.agg #[N a.R,.bool a.told,S a.footer,S [j],N 0,N 0,N 0,S a.I,S a.body,S (qw a),N f,N e,N h,N a.R,.bool false,.slice ca b.length cc,.slice m l.length r,.slice none 0 0]) ?_;simp only[jA,jB,jC,Act.put,jD,jE,jF];refine rd 7 (fun t i=>?_);simp only[jA,jB,jC];rw[aQ (by simp[Region.wanted])];refine kL 120 (.tmp 5) (.tmp 12) rfl y #[N a.R,.bool a.told,S a.footer,S [j],N 0,N 0,N 0,S a.I,S a.body,S (qw a),N f,N e,N h,N a.R,.bool false,.slice ca b.length cc,.slice m l.length r,.slice none 0 0] rfl rfl 120 #[N 0,.bool false,S [],S [],N 0,N 0,N 0,S [],S [],S [],N 0,N 0,N 0,N 0,.bool false,.slice none 0 0,.slice none 0 0,.slice none 0 0] D.o (by kernel_rfl) rfl (by simp[Value.oneCell']) ?_;have d5:=I (kr E y _ #[N a.R,.bool a.told,S a.footer,S [j],N 0,N 0,N 0,S a.I,S a.body,S (qw a),N f,N e,N h,N a.R,.bool false,.slice ca b.length cc,.slice m l.length r,.slice none 0 0] 120 (0,0) D.o);have z:=I (jH E y #[N a.R,.bool a.told,S a.footer,S [j],N 0,N 0,N 0,S a.I,S a.body,S (qw a),N f,N e,N h,N a.R,.bool false,.slice ca b.length cc,.slice m l.length r,.slice none 0 0]);generalize E.setRow _ _=WE at *;have ds:=I (jm z.o ci.o (by omega));have e7:=I (jm z.o d7.o (by omega));have e3:=I (qM d3.o z.o D.o (by decide));have e6:=I (qM d6.o z.o D.o (by decide));have dl:=I (bX.o.trans (jn z.o (by omega) bX.o.size));have d1:=I (xZ ds.o).1;refine i.out _ _ d1.o (fun F=>?_);clear i t;refine kp (by kernel_rfl) ?_ _
  all_goals
   have hE:=dl.o.size;obtain⟨_,_,_,_,_,_,_,_,_,x9⟩:=(xZ ds.o).1;have hz:=(aF.1 d5.o).1;clear F;go_wp2_with fail;clear x9;refine(Kw (qw a) WE).mono ?_;rintro V w3 ⟨rfl,dT,Y⟩;have gX:=I (jd Y d5.o);have g0:=I (jd Y e7.o);have ge:=I (jy e3.o Y);have gT:=I (jy e6.o Y);have gc:=I (dl.o.trans (Y.mono dl.o.size));have hF:=Y.size;generalize hv:WE.heap.size=p at *;clear Y hv;go_wp2_with fail;obtain⟨fw,fz,f1⟩:=KH a;refine(QJ p (qw a) (qw a) 4 w3 dW.o (by decide) dT).mono ?_;rintro V w4 ⟨ac,⟨ht,rfl⟩|⟨hr,rfl,em⟩⟩
   ·exact absurd fz (Nat.not_le_of_lt ht)
   rw[fw]at em;have eR:=I (jm ac gX.o (by omega));have g2:=I (jm ac g0.o (by omega));have es:=I (qM ge.o ac (zU dT) (by decide));have gU:=I (qM gT.o ac (zU dT) (by decide));have ap:=I (gc.o.trans (jn ac (by omega) (by omega)));have hG:=ac.size;have e5:=I em;have g8:=I f1;clear ac em dT fw fz f1 hr;generalize (qw a).take 4=hA at *;obtain⟨w,O,M⟩:=ev.o;have ec:=w.aq;simp only[jW,aK,aN]at ec;have eP:=I w;have e2:=I O;have e0:=I M;have hn:=w.rows;have f4:=ec.2;have gA:=I w.len;clear w O M ec;go_wp2_with fail;refine(Er b f e h b.length y p d.heap.size l.length _ _ _ _ _ _ _ _ _ _ _ _ _ _ l (qw a) a.parts w4 dW.o e5.o (by rw[g8.o];exact fG _ _) hn fc fd fe ff f4.1 f4.2 rfl (by rw[gA.o];rfl) rfl eR.o es.o gU.o (by omega)).mono ?_;have eS:J (∀s,U8 a.R a.parts footer s->s.rows=f/\s.J=⟨(e:Int),(h:Int),(a.R:Int),false⟩/\s.U=b/\qp s=jR f b.length e h/\jK b 4 true (jR f b.length e h) s.ae=l/\V2 b (jR f b.length e h) s.ae/\a.parts=jw b (jR f b.length e h) s.ae):=fun s K=>Lx eP.o e0.o e2.o K;rintro V w5 ⟨X,⟨rfl,f7⟩|⟨G,hg,Qp,Qm,Pv,gb,rfl,fr,ga,f3,fv,f9⟩⟩
   ·have HN:J (zH a.R a.parts footer=none):=Km (fun s K=>by
     obtain⟨_,_,_,_,h5,h6,h7⟩:=eS.o s K;exact f7 s.ae [] h6 (by rw[aT];exact h7) h5.symm)
    have be:=I (ap.o.trans (X.below (by omega) (by omega) ap.o.size));clear f7 X;go_wp2;exact⟨rfl,be.o,.inl ⟨rfl,HN.o⟩⟩
   have be:=I (ap.o.trans (X.below (by omega) (by omega) ap.o.size));have gg:=I (X.owns es.o (zU e5.o) eR.o (by decide) (by decide));have g3:=I (X.keeps g2.o (by omega) (by omega));have g4:=I fr;have he:=I ga;have eC:=I (dy f3 (dy fv f9));have hH:=X.size;clear X fr ga f3 fv f9;go_wp2_with fail;refine(Id p (qw a) gb w5 dW.o he.o).mono ?_;rintro V w6 ⟨L,⟨f5,rfl⟩|⟨f6,rfl⟩⟩
   ·have HN:J (zH a.R a.parts footer=none):=Km (fun s K=>by
     obtain⟨_,_,_,_,h5,h6,h7⟩:=eS.o s K;obtain⟨m1,m2,_⟩:=eC.o;rw[m2]at h7;have hj:V2 b (jR f b.length e h++[]) s.ae:=(by rw[aT];exact h6);obtain⟨M2,_,h9,hh⟩:=Vq (rest:=gb) (q:=[]) m1 hj (by rw[aT,aT];exact h7);cases h9 using V2.ind;exact f5 (by simpa[jw]using hh))
    have da:=I (be.o.trans (L.mono be.o.size));clear f5 L;go_wp2;exact⟨rfl,da.o,.inl ⟨rfl,HN.o⟩⟩
   have da:=I (be.o.trans (L.mono be.o.size));have gi:=I (jy gg.o L);have b4:=I (jd L g3.o);have cd:=I (g4.o.j L);have hI:=L.size;have e1:J (U8 a.R a.parts footer ⟨f,⟨(e:Int),(h:Int),(a.R:Int),false⟩,b,xH (fun g c=>Qp g c++[Qm g c]) b.length (qc f e)⟩):=by
    obtain⟨m1,m2,m3⟩:=eC.o;have hk:=eP.o;refine⟨hk.rows,hk.J,rfl,rfl,hk.aq,hk.bare,m1,?_,?_⟩
    ·rw[m2,f6,aT];rfl
    ·rw[e2.o,m3];rfl
   clear L f6;have gY:J (w6.heap[y]?=some (.cells #[N a.R,.bool a.told,S a.footer,S [j],N 0,N 0,N 0,S a.I,S a.body,S (qw a),N f,N e,N h,N a.R,.bool false,.slice ca b.length cc,.slice m l.length r,R G b.length b.length] 120 (0,0))):=cd.o.a6;go_wp2_with(first|(refine kx rfl 120 (.tmp 5) rfl y rfl 120 #[N a.R,.bool a.told,S a.footer,S [j],N 0,N 0,N 0,S a.I,S a.body,S (qw a),N f,N e,N h,N a.R,.bool false,.slice ca b.length cc,.slice m l.length r,R G b.length b.length] (0,0) _ gY.o Tryz.underlying120 rfl (by kernel_rfl) ?_)|(refine kl rfl 120 (.tmp 4) (.tmp 22) rfl (d.heap.size+1) #[N a.R,.bool a.told,S a.footer,S [j],N 0,N 0,N 0,S a.I,S a.body,S (qw a),N f,N e,N h,N a.R,.bool false,.slice ca b.length cc,.slice m l.length r,R G b.length b.length] rfl rfl 120 #[N 0,.bool false,S [],S [],N 0,N 0,N 0,S [],S [],S [],N 0,N 0,N 0,N 0,.bool false,.slice none 0 0,.slice none 0 0,.slice none 0 0] b4.o (by kernel_rfl) rfl (by simp[Value.oneCell']) ?_));have ha:=I (kr w6 (d.heap.size+1) _ #[N a.R,.bool a.told,S a.footer,S [j],N 0,N 0,N 0,S a.I,S a.body,S (qw a),N f,N e,N h,N a.R,.bool false,.slice ca b.length cc,.slice m l.length r,R G b.length b.length] 120 (0,0) b4.o);have ce:=I (jH w6 (d.heap.size+1) #[N a.R,.bool a.told,S a.footer,S [j],N 0,N 0,N 0,S a.I,S a.body,S (qw a),N f,N e,N h,N a.R,.bool false,.slice ca b.length cc,.slice m l.length r,R G b.length b.length]);have gp:=I (qM gi.o ce.o b4.o (by decide));have gw:=I (jm ce.o cd.o.kb (by have:=cd.o.new;omega));have g5:=I (fun cs (hi:cs<b.length)=>(cd.o.U cs hi).br (fun n xs hu=>qM hu ce.o b4.o (by decide)) (fun hJ n xs hu=>qM hu ce.o b4.o (by decide)));have gd:=I (da.o.trans (jn ce.o (by omega) da.o.size));generalize w6.setRow _ _=WF at *;refine kk (v:=.agg #[N a.R,.bool a.told,S a.footer,S [j],N 0,N 0,N 0,S a.I,S a.body,S (qw a),N f,N e,N h,N a.R,.bool false,.slice ca b.length cc,.slice m l.length r,R G b.length b.length]) (kV (P:=Tryz.prog) (p:=4) (ty:=120) rfl _ _ (d.heap.size+1) 120 #[N a.R,.bool a.told,S a.footer,S [j],N 0,N 0,N 0,S a.I,S a.body,S (qw a),N f,N e,N h,N a.R,.bool false,.slice ca b.length cc,.slice m l.length r,R G b.length b.length] (0,0) _ rfl ha.o Tryz.underlying120 rfl (by kernel_rfl)) rfl ⟨gd.o,.inr ⟨⟨f,⟨(e:Int),(h:Int),(a.R:Int),false⟩,b,xH (fun g c=>Qp g c++[Qm g c]) b.length (qc f e)⟩,_,.slice ca b.length cc,.slice m l.length r,G,hg,Qp,Qm,Pv,NY e1.o,e1.o,rfl,⟨?_,gp.o,⟨_,_,_,rfl⟩,e0.o,?_,gw.o,fun cs hi=>?_,rfl⟩⟩⟩
   ·rw[hf.o]
   ·have:=cd.o.new;have:=ap.o.size;omega
   ·have:=g5.o cs hi;rw[aL (gR cs)]at this;exact this.lower ap.o.size
abbrev W7:V':=#[N 0,.bool false,S [],S [],N 0,N 0,N 0,S [],S [],S [],N 0,N 0,N 0,N 0,.bool false,.slice none 0 0,.slice none 0 0,.slice none 0 0]
def Yt{P:Program}{e:Func}{p q:Tmp}{f h:TypeId}(j:e.results=#[.cell p f,.cell q h])(b:V')(a:W)(g c:Nat)(d:V')(i:Value)
  (m:b.getD p undef=(Q g 0))(o:b.getD q undef=(Q c 0))(k:(loadVar f (A g 0)).run P a=.ok (.agg d) a)(l:(loadVar h (A c 0)).run P a=.ok i a):(results e b).run P a=.ok (.tuple #[.agg d,i]) a:=by
 have n:b[p]?.getD undef=(Q g 0):=by simpa using m
 have r:b[q]?.getD undef=(Q c 0):=by simpa using o
 simp[results,j,n,r,asAddr,k,l]
def Bx(c:U0)(footer:B8)(i l:Nat)(a:W)(D:footer.length<=maxLen)(y:(qw c).length<=65000)(q:a.heap[i]?=some (.cells (T5 c) 115 (0,0)))(s:a.cell? (A l 0)=some (S footer)):C' 229 #[(Q i 0),(Q l 0)] a (OE c footer a):=by
 have T:=I D;have L:=I y;have Z:=jf (.cells W7 120) s;have r:=jo (.cells W7 120) q;clear D y;obtain⟨w,bv,_,B⟩:=jJ a W7 120;go_enter Tryz.func229,Tryz.ntmps229;go_wp2_with(refine kx rfl 115 (.tmp 0) rfl i rfl 115 (T5 c) (0,0) _ r Tryz.underlying115 rfl (by kernel_rfl) ?_);clear r Z q s;refine(Fd c footer (a.alloc (.cells W7 120)) T.o L.o).mono ?_;generalize a.alloc _=W0 at *;have d:=I w;have M:=I B;clear w B;rintro bi h ⟨e,⟨rfl,z⟩|⟨o,v,cv,E,n,Y,X,V,U,u,C,rfl,k⟩⟩
 ·have K:=I z;have f:=I (d.o.trans (e.mono d.o.size));clear e z;go_wp2;exact⟨rfl,f.o,.inl ⟨rfl,K.o⟩⟩
 ·have m:=I (dy u C);have f:=I (d.o.trans (e.mono d.o.size));have j:=I (jd e M.o);obtain⟨hv,g,ac⟩:=k.one;subst hv;have H:=I k;clear e u C k;generalize t:xq o c cv E n=b at *;have ap:=I t;clear t;have x:(Tryz.prog.info? 120).map (·.size)=some b.size:=by rw[g];kernel_rfl
  have am:W7.size=b.size:=by rw[g];rfl
  have be:=I g;clear g;go_wp2_with(refine kl rfl 120 (.tmp 2) (.tmp 5) rfl a.heap.size b rfl rfl 120 W7 j.o x am ac ?_);have O:=I (kr h a.heap.size _ b 120 (0,0) j.o);have F:=I (f.o.trans (jn (jH h a.heap.size b) (aA _) f.o.size));have G:=I ((H.o.grown (jH h a.heap.size b) j.o (by decide) (by decide) (by decide) (by decide)).lower d.o.size);generalize h.setRow _ _=WF at *;exact kk (v:=.agg b) (kV (P:=Tryz.prog) (p:=2) (ty:=120) rfl _ _ a.heap.size 120 b (0,0) _ rfl O.o Tryz.underlying120 rfl x) rfl ⟨F.o,.inr ⟨o,.agg b,cv,E,n,Y,X,V,U,m.o.1,m.o.2,rfl,G.o⟩⟩
def RK(p:Addr)(e:Bool)(d:TypeId)(c:Value)(b:List PanicEntry)(a:W)(g:a.cell? p=some (.bool e))(i:a.frozen? p=false):CallsD Tryz.prog 258 #[.pointer (some p)] (.panicking ({ v:=.iface d c,recovered:=false}::b)) a fun f j k=>
   f=.returned (.tuple #[])/\j=.panicking ({ v:=.iface d c,recovered:=true}::b)/\k=a.setCell p (.bool false):=by
 refine l6 Tryz.func258 rfl fun m l h=>?_;apply lb;simp[wpOpsS,go_sem,recoverD,h,Tryz.ntmps258,Exit.thenS,g,i,bodyPostS,results,Tryz.results258]
def CH(p:Addr)(b:Bool)(a:W)(e:a.cell? p=some (.bool b))(g:a.frozen? p=false):CallsD Tryz.prog 258 #[.pointer (some p)] .returning a fun d h i=>d=.returned (.tuple #[])/\h=.returning/\i=a.setCell p (.bool true):=by
 refine l6 Tryz.func258 rfl fun c j f=>?_;apply lb;simp[wpOpsS,go_sem,recoverD,f,Tryz.ntmps258,Exit.thenS,e,g,bodyPostS,results,Tryz.results258];cases c;simp_all
def Rh(a:U0)(footer:B8)(e:W)(f:Ending)(g:W):Prop:=Below e.heap.size e g/\((zH a.R a.parts footer=none/\f=.returned (.tuple #[.agg W7,.bool false])) \/
  ∃b cv d c k j i h,zH a.R a.parts footer=some b/\U8 a.R a.parts footer b/\f=.returned (.tuple #[.agg (xq b a cv d c),.bool true])/\P8 b a e.heap.size g (.agg (xq b a cv d c)) cv d c k j i h)
def jam(c:U0)(footer:B8)(l m:Nat)(a:W)(hs:footer.length<=maxLen)(hl:(qw c).length<=65000)(X:a.heap[l]?=some (.cells (T5 c) 115 (0,0)))(Y:a.cell? (A m 0)=some (S footer)):C' 228 #[.func (.func 229) #[] #[(Q l 0),(Q m 0)]] a (Rh c footer a):=by
 have d0:∀(V:Fn) (first T:V') (a:W),(Instr.makeFunc V first T).run Tryz.prog a=.ok (.func V first T) a:=fun _ _ _ _=>rfl;have Hs:=I hs;have Hl:=I hl;have K:=I (jo (.cells #[.bool false] 4) (jo (.cells W7 120) X));have L:=I (jf (.cells #[.bool false] 4) (jf (.cells W7 120) Y));obtain⟨am,dW,bv,be⟩:=QB a W7 120 #[.bool false] 4;clear hs hl X Y;go_enter_defers Tryz.func228,Tryz.ntmps228
 go_wp2_with fail;refine(Bx c footer l m ((a.alloc (.cells W7 120)).alloc (.cells #[.bool false] 4)) Hs.o Hl.o K.o L.o).mono ?_;clear K L;generalize (a.alloc _).alloc _=W0 at *;have n:=I am;have dd:=I bv;have da:=I be;clear am bv be;rintro U b ⟨g,ho⟩;have o:=I (n.o.trans (g.mono n.o.size));have i:=I (jd g dd.o);have t:=I (jd g da.o);have C:b.cell? (A (a.heap.size+1) 0)=some (.bool false):=by rw[jb t.o];rfl
 have b4:b.frozen? (A (a.heap.size+1) 0)=false:=kh b _ _ _ _ t.o;rcases ho with⟨rfl,hn⟩|⟨x,v,cv,H,w,dr,Qp,Qm,Pv,hS,bX,rfl,E⟩
 ·have Hn:=I hn;clear hn g;go_wp2;refine l9 (f:=258) (args:=#[(Q (a.heap.size+1) 0)]) (by simp) (by simp[go_sem]) ?_;refine(RK (A (a.heap.size+1) 0) false 9 _ [] _ C b4).mono ?_;rintro U u' dT ⟨rfl,rfl,rfl⟩;have B:=cB b (A (a.heap.size+1) 0) (.bool false) C;have r:=I (o.o.setCell (p:=A (a.heap.size+1) 0) (by simp) (.bool false));have u:=I (jm (qQ b (a.heap.size+1) 0 (.bool false)) i.o (by omega));generalize b.setCell _ _=d at *;have k:=ki (P:=Tryz.prog) d a.heap.size 120 120 W7 (0,0) _ u.o Tryz.underlying120 rfl (by kernel_rfl);have F:(loadVar 4 (A (a.heap.size+1) 0)).run Tryz.prog d=.ok (.bool false) d:=by simp[go_sem,B]
  have s:J (Rh c footer a (.returned (.tuple #[.agg W7,.bool false])) d):=⟨r.o,.inl ⟨Hn.o,rfl⟩⟩;exact⟨_,Yt (p:=2) (q:=3) rfl _ _ _ _ _ _ rfl rfl k F,s.o⟩
 ·obtain⟨hv,G,ds⟩:=E.one;subst hv;have O:=I (dy hS bX);have co:=I E;clear hS bX E;generalize Z:xq x c cv H w=e at *;have M:=I Z;clear Z;have ap:(Tryz.prog.info? 120).map (·.size)=some e.size:=by rw[G];kernel_rfl
  have dv:W7.size=e.size:=by rw[G];rfl
  clear G;have j:=jH b a.heap.size e;have h:=I (jm j t.o (by omega));have dl:=I (kr b a.heap.size _ e 120 (0,0) i.o);have ce:=I (o.o.trans (jn j (aA _) o.o.size));have ci:=I ((co.o.grown j i.o (by decide) (by decide) (by decide) (by decide)).lower n.o.size);have D:(b.setRow a.heap.size e).cell? (A (a.heap.size+1) 0)=some (.bool false):=by rw[jb h.o];rfl
  have cd:(b.setRow a.heap.size e).frozen? (A (a.heap.size+1) 0)=false:=kh _ _ _ _ _ h.o;clear g j C b4;go_wp2_with(refine kl rfl 120 (.tmp 2) (.tmp 6) rfl a.heap.size e rfl rfl 120 W7 i.o ap dv ds ?_);generalize b.setRow _ _=f at *;refine l9 (f:=258) (args:=#[(Q (a.heap.size+1) 0)]) (by simp) (by simp[go_sem]) ?_;refine(CH (A (a.heap.size+1) 0) true _ ?_ ?_).mono ?_
  ·exact cB f (A (a.heap.size+1) 0) (.bool true) D
  ·simp[cd]
  rintro U u' dT ⟨rfl,rfl,rfl⟩;have ac:=cB f (A (a.heap.size+1) 0) (.bool true) D;have B:=cB _ (A (a.heap.size+1) 0) (.bool true) ac;have r:=I ((ce.o.setCell (p:=A (a.heap.size+1) 0) (by simp) (.bool true)).setCell (p:=A (a.heap.size+1) 0) (by simp) (.bool true));have y:=qQ f (a.heap.size+1) 0 (.bool true);have z:=qQ (f.setCell (A (a.heap.size+1) 0) (.bool true)) (a.heap.size+1) 0 (.bool true);have bi:(f.setCell (A (a.heap.size+1) 0) (.bool true)).heap[a.heap.size+1]?=some (.cells #[.bool true] 4 (0,0)):=by
   rw[kj f (a.heap.size+1) 0 _ 4 (.bool true) h.o];rfl
  have u:=I (jm z (jm y dl.o (by omega)) (by omega));have cs:=I ((ci.o.grown y h.o (by decide) (by decide) (by decide) (by decide)).grown z bi (by decide) (by decide) (by decide) (by decide));clear ac D cd y z bi;generalize (f.setCell _ _).setCell _ _=d at *;have k:=ki (P:=Tryz.prog) d a.heap.size 120 120 e (0,0) _ u.o Tryz.underlying120 rfl ap;have F:(loadVar 4 (A (a.heap.size+1) 0)).run Tryz.prog d=.ok (.bool true) d:=by simp[go_sem,B]
  rw[<-M.o]at k;have s:J (Rh c footer a (.returned (.tuple #[.agg (xq x c cv H w),.bool true])) d):=⟨r.o,.inr ⟨x,cv,H,w,dr,Qp,Qm,Pv,O.o.1,O.o.2,rfl,by rw[M.o];exact cs.o⟩⟩;exact⟨_,Yt (p:=2) (q:=3) rfl _ _ _ _ _ _ rfl rfl k F,s.o⟩
def OG(a:W)(b:V')(d:TypeId)(c:V')(e:TypeId)(f:V')(g:TypeId):Below a.heap.size a (((a.alloc (.cells b d)).alloc (.cells c e)).alloc (.cells f g))/\a.heap.size+1+1<(((a.alloc (.cells b d)).alloc (.cells c e)).alloc (.cells f g)).heap.size /\
  (((a.alloc (.cells b d)).alloc (.cells c e)).alloc (.cells f g)).heap[a.heap.size]?=some (.cells b d (0,0))/\(((a.alloc (.cells b d)).alloc (.cells c e)).alloc (.cells f g)).heap[a.heap.size+1]?=some (.cells c e (0,0))/\(((a.alloc (.cells b d)).alloc (.cells c e)).alloc (.cells f g)).heap[a.heap.size+1+1]?=some (.cells f g (0,0)):=by
 obtain⟨h,l,j,k⟩:=QB a b d c e;have i:((a.alloc (.cells b d)).alloc (.cells c e)).heap.size=a.heap.size+2:=by simp
 refine⟨h.alloc h.size _,by simp,jo _ j,jo _ k,?_⟩;have:=kH ((a.alloc (.cells b d)).alloc (.cells c e)) (.cells f g);rw[i]at this;exact this
def xz{P:Program}{e:Func}{p q:Tmp}(h:e.results=#[.cell p F,.tmp q])(a:V')(b:W)(g:Nat)(d:V')(c:Value)
  (j:a.getD p undef=(Q g 0))(l:a.getD q undef=c)(i:(loadVar F (A g 0)).run P b=.ok (.agg d) b):(results e a).run P b=.ok (.tuple #[.agg d,c]) b:=by
 have k:a[p]?.getD undef=(Q g 0):=by simpa using j
 have m:a[q]?.getD undef=c:=by simpa using l
 simp[results,h,k,m,asAddr,i]
def jdu(a:U0)(footer:B8)(e:W)(f:Ending)(g:W):Prop:=Below e.heap.size e g/\((zH a.R a.parts footer=none/\f=.returned (.tuple #[.agg W7,N 9])) \/
  ∃b cv d c k j i h,zH a.R a.parts footer=some b/\U8 a.R a.parts footer b/\f=.returned (.tuple #[.agg (xq b a cv d c),N 0])/\P8 b a e.heap.size g (.agg (xq b a cv d c)) cv d c k j i h)
def Iu(g:U0)(footer:B8)(a:W)(hs:footer.length<=maxLen)(X:(qw g).length<=65000):C' 160 #[K8 g,S footer] a (jdu g footer a):=by
 have ci:∀(H:Fn) (first G:V') (a:W),(Instr.makeFunc H first G).run Tryz.prog a=.ok (.func H first G) a:=fun _ _ _ _=>rfl;have Hs:=I hs;have Hl:=I X;clear hs X;show Calls _ _ #[.agg (T5 g),S footer] _ _;generalize T:T5 g=FC;have ap:=I T;clear T;obtain⟨V,ce,K,L,M⟩:=OG a FC 115 #[S footer] 9 W7 120;go_enter Tryz.func160,Tryz.ntmps160;go_wp2_with fail;generalize ((a.alloc _).alloc _).alloc _=w at *;have n:=I V;have H1:J (w.heap[a.heap.size]?=some (.cells (T5 g) 115 (0,0))):=by show _=_;rw[ap.o];exact K
 have H2:J (w.cell? (A (a.heap.size+1) 0)=some (S footer)):=by show _=_;rw[jb L];rfl
 have B:=I M;clear V K L M;refine(jam g footer a.heap.size (a.heap.size+1) w Hs.o Hl.o H1.o H2.o).mono ?_;rintro cd c ⟨l,⟨Y,rfl⟩|⟨F,cv,pv,E,bX,Qp,Qm,Pv,U,Z,rfl,y⟩⟩
 ·have HN:=I Y;have e:=I (n.o.trans (l.mono n.o.size));have m:=I (jd l B.o);clear l Y;obtain⟨f,b4,_,k⟩:=jJ c W7 120;have h:=jH (c.alloc (.cells W7 120)) c.heap.size W7;have j:=jm h (jd f m.o) (by have:=e.o.size;have:=(aF.1 m.o).1;omega);have o:=I ((e.o.trans (f.mono e.o.size)).trans (jn h e.o.size (aI e.o.size f.size)));go_wp2_with(first
   | (refine kl rfl 120 (.tmp 6) (.tmp 11) rfl c.heap.size W7 rfl rfl 120 W7 k (by kernel_rfl) rfl (by simp[Value.oneCell']) ?_)
   | (refine kl rfl 120 (.tmp 4) (.tmp 15) rfl (a.heap.size+1+1) W7 rfl rfl 120 W7 j (by kernel_rfl) rfl (by simp[Value.oneCell']) ?_))
  show bodyPost _ _ _ _ _ (((c.alloc (.cells W7 120)).setRow c.heap.size W7).setRow (a.heap.size+1+1) W7);have r:=I j;clear k j h f;generalize (c.alloc _).setRow _ _=i at *;have u:=I (kr i (a.heap.size+1+1) _ W7 120 (0,0) r.o);have t:=I (o.o.trans (jn (jH i (a.heap.size+1+1) W7) (by omega) o.o.size));generalize i.setRow _ _=x at *;exact kk (v:=.tuple #[.agg W7,N 9]) (xz (p:=4) (q:=5) rfl _ _ _ _ _ rfl rfl (ki (P:=Tryz.prog) x (a.heap.size+1+1) 120 120 W7 (0,0) _ u.o Tryz.underlying120 rfl (by kernel_rfl))) rfl ⟨t.o,.inl ⟨HN.o,rfl⟩⟩
 ·have D:=I (dy U Z);have e:=I (n.o.trans (l.mono n.o.size));have m:=I (jd l B.o);obtain⟨_,z,ac⟩:=y.one;have bv:=I (y.lower (b:=a.heap.size) n.o.size);clear l U Z y;generalize O:xq F g cv pv E=d at *;have C:=I O;clear O;have s:(Tryz.prog.info? 120).map (·.size)=some d.size:=by rw[z];kernel_rfl
  have am:W7.size=d.size:=by rw[z];rfl
  clear z;obtain⟨f,b4,_,k⟩:=jJ c W7 120;have h:=jH (c.alloc (.cells W7 120)) c.heap.size d;have oA:=kr (c.alloc (.cells W7 120)) c.heap.size _ d 120 (0,0) k;have j:=jm h (jd f m.o) (by have:=e.o.size;have:=(aF.1 m.o).1;omega);have o:=I ((e.o.trans (f.mono e.o.size)).trans (jn h e.o.size (aI e.o.size f.size)));have be:=I ((bv.o.j f).grown h k (by decide) (by decide) (by decide) (by decide));go_wp2_with(first
   | (refine kl rfl 120 (.tmp 6) (.tmp 11) rfl c.heap.size d rfl rfl 120 W7 k s am ac ?_)
   | (refine kx rfl 120 (.tmp 6) rfl c.heap.size rfl 120 d (0,0) _ oA Tryz.underlying120 rfl s ?_)
   | (refine kl rfl 120 (.tmp 4) (.tmp 16) rfl (a.heap.size+1+1) d rfl rfl 120 W7 j s am ac ?_))
  show bodyPost _ _ _ _ _ (((c.alloc (.cells W7 120)).setRow c.heap.size d).setRow (a.heap.size+1+1) d);have r:=I j;clear k oA j h f;generalize (c.alloc _).setRow _ _=i at *;have u:=I (kr i (a.heap.size+1+1) _ d 120 (0,0) r.o);have t:=I (o.o.trans (jn (jH i (a.heap.size+1+1) d) (by omega) o.o.size));have bi:=I (be.o.grown (jH i (a.heap.size+1+1) d) r.o (by decide) (by decide) (by decide) (by decide));generalize i.setRow _ _=x at *;exact kk (v:=.tuple #[.agg d,N 0]) (xz (p:=4) (q:=5) rfl _ _ _ _ _ rfl rfl (ki (P:=Tryz.prog) x (a.heap.size+1+1) 120 120 d (0,0) _ u.o Tryz.underlying120 rfl s)) rfl ⟨t.o,.inr ⟨F,cv,pv,E,bX,Qp,Qm,Pv,D.o.1,D.o.2,by rw[C.o],by rw[C.o];exact bi.o⟩⟩
def qu(pre:B8)(a:U0):B8:=jz pre (if a.told=true then 83 else 70) 0 0 0++a.footer
def GD(a:U0)(pre:B8)(b:W)(o:pre.length<=20)(n:a.footer.length<=5000):C' 169 #[K8 a,S pre] b fun f p=>f=.returned (S (qu pre a))/\Below b.heap.size b p:=by
 have m:J (qu pre a=jz pre (if a.told=true then 83 else 70) 0 0 0++a.footer):=rfl;have d:J (K8 a=.agg #[N a.R,.bool a.told,S a.footer,S [if a.told=true then 83 else 70],N 0,N 0,N 0,S a.I,S a.body,S (qw a)]):=rfl;generalize (if a.told=true then(83:UInt8)else 70)=k at *;have i:=d.o;rw[i];clear i d;obtain⟨g,q,_,j⟩:=QB b #[N a.R,.bool a.told,S a.footer,S [k],N 0,N 0,N 0,S a.I,S a.body,S (qw a)] 115 #[S a.footer] 9;go_enter Tryz.func169,Tryz.ntmps169;go_wp2_with fail;generalize (b.alloc _).alloc _=e at *;have c:=I g;refine(Kp k 0 0 0 pre (R (b.heap.size+1) 1 1) a.footer e (by decide) (by decide) (by decide) o n (AX a.footer (b.heap.size+1) e (by omega) j)).mono ?_;rintro f r ⟨rfl,h⟩;have l:=I (c.o.trans (h.mono c.o.size));clear g h j;go_wp2;go_ret;exact⟨qH m.o.symm,l.o⟩
def Eg(a:U0)(o:Option B8):Value:=if a.told=true then .tuple #[S a.footer,.bool (decide (o=some []))]else RU o
def Cl(a:U0)(e pre:B8)(c:W)(t:pre.length<=20)(r:a.footer.length<=5000)(v:(qu pre a).length<=5000)(u:e.length<=1000)(s:a.I.length<=1000)(q:a.body.length<=maxLen):C' 231 #[K8 a,S e,S pre] c fun f b=>f=.returned (Eg a (qE e a.I (qu pre a) a.body))/\Below c.heap.size c b:=by
 have C:J (∀b:W,C' 169 #[.agg #[N a.R,.bool a.told,S a.footer,S [if a.told=true then 83 else 70],N 0,N 0,N 0,S a.I,S a.body,S (qw a)],S pre] b fun f x=>f=.returned (S (qu pre a))/\Below b.heap.size b x):=fun b=>GD a pre b t r;have m:=I (fun b=>EF e a.I (qu pre a) a.body b u s v q);show Calls _ _ #[.agg #[N a.R,.bool a.told,S a.footer,S [if a.told=true then 83 else 70],N 0,N 0,N 0,S a.I,S a.body,S (qw a)],S e,S pre] _ _;generalize (if a.told=true then(83:UInt8)else 70)=w at *;generalize qu pre a=E at *;generalize qE e a.I E a.body=g at *;have D:J (Eg a g=if a.told=true then .tuple #[S a.footer,.bool (decide (g=some []))]else RU g):=rfl;generalize a.told=h at *;rcases g with _|P
 all_goals
  simp only[RU]at m;obtain⟨o,G,_,j⟩:=jJ c #[N a.R,.bool h,S a.footer,S [w],N 0,N 0,N 0,S a.I,S a.body,S (qw a)] 115;go_enter Tryz.func231,Tryz.ntmps231;go_wp2_with fail;generalize c.alloc _=F at *;have k:=I o;have n:=I j;have z:=I (xZ j).1;clear o j t r v u s q;go_region_held3 (fun b=>b.cell? (A c.heap.size 0)=some (N a.R)/\b.cell? (A c.heap.size 1)=some (.bool h)/\b.cell? (A c.heap.size 2)=some (S a.footer)/\b.cell? (A c.heap.size 3)=some (S [w])/\b.cell? (A c.heap.size 4)=some (N 0)/\b.cell? (A c.heap.size 5)=some (N 0)/\b.cell? (A c.heap.size 6)=some (N 0)/\b.cell? (A c.heap.size 7)=some (S a.I)/\b.cell? (A c.heap.size 8)=some (S a.body)/\b.cell? (A c.heap.size 9)=some (S (qw a)))
   (first|with_reducible exact l.o|with_reducible exact B.o|exact z.o)
   (first
    | (go_at_call 169;refine(C.o _).mono ?_;rintro f H ⟨rfl,p⟩;have d:=jg p;have B:=I (xZ (jd d n.o)).1)
    | (go_at_call 180;refine(m.o _).mono ?_;rintro f x ⟨rfl,i⟩;have l:=I (xZ (jd (d.trans (i.mono d.size)) n.o)).1))
  have y:=I (k.o.trans ((d.trans (i.mono d.size)).mono k.o.size));obtain⟨K,L,M,O,T,U,V,X,Y,Z⟩:=l.o;clear p d i;cases h
  all_goals
   go_wp2;go_ret2;refine⟨?_,y.o⟩;rw[D.o]
   first
   | rfl
   | (cases P<;>rfl)
def Ur(a:U0)(has:Bool)(o:Option B8):Value:=if has=false then .tuple #[S [],N 8]
 else if a.told=true then(if o=some []then .tuple #[S a.footer,N 0]else .tuple #[S [],N 4])
 else match o with
  | some p=>.tuple #[S p,N 0]
  | none=>.tuple #[S [],N 4]
def II(a:U0)(pre:B8)(f:O')(u:Nat)(b:List W9)(d:W)(V:pre.length<=20)(M:a.footer.length<=5000)(Y:(qu pre a).length<=5000)(U:a.I.length<=1000)(L:a.body.length<=maxLen)(t:xD b=true)(bv:b.length<=maxLen)(T:U2 d f b):C' 161 #[K8 a,S pre,.slice f b.length u] d fun e c=>e=.returned (Ur a (jG b (a.R:Int)) (qE (jh b (a.R:Int)) a.I (qu pre a) a.body))/\Below d.heap.size d c:=by
 have X:(jh b (a.R:Int)).length<=1000:=by
  cases O:jG b (a.R:Int)with
  | true=>rw[JB t O];decide
  | false=>rw[(Xa t).2 O];decide
 have ap:J (∀c:W,C' 231 #[.agg #[N a.R,.bool a.told,S a.footer,S [if a.told=true then 83 else 70],N 0,N 0,N 0,S a.I,S a.body,S (qw a)],S (jh b (a.R:Int)),S pre] c fun e Z=>e=.returned (Eg a (qE (jh b (a.R:Int)) a.I (qu pre a) a.body))/\Below c.heap.size c Z):=fun c=>Cl a _ pre c V M Y X U L;have am:=I (fun c (i:U2 c f b)=>Zt f u b (a.R:Int) c bv i);have g:J (∀i o,Ur a i o=if i=false then .tuple #[S [],N 8]
   else if a.told=true then(if o=some []then .tuple #[S a.footer,N 0]else .tuple #[S [],N 4])
   else match o with
    | some p=>.tuple #[S p,N 0]
    | none=>.tuple #[S [],N 4]):=fun _ _=>rfl
 have be:J (∀o,Eg a o=if a.told=true then .tuple #[S a.footer,.bool (decide (o=some []))]else RU o):=fun _=>rfl;have Hl:=I T;show Calls _ _ #[.agg #[N a.R,.bool a.told,S a.footer,S [if a.told=true then 83 else 70],N 0,N 0,N 0,S a.I,S a.body,S (qw a)],S pre,.slice f b.length u] _ _;generalize (if a.told=true then(83:UInt8)else 70)=sb at *;generalize qE (jh b (a.R:Int)) a.I (qu pre a) a.body=h at *;generalize jh b (a.R:Int)=b4 at *;generalize jG b (a.R:Int)=has at *;generalize a.told=H at *;clear V M Y U L t X T;obtain⟨n,bX,_,s⟩:=jJ d #[N a.R,.bool H,S a.footer,S [sb],N 0,N 0,N 0,S a.I,S a.body,S (qw a)] 115;obtain⟨⟨v,w,x,y,z,B,C,D,E,F⟩,_⟩:=xZ s;go_enter Tryz.func161,Tryz.ntmps161;go_wp2_with fail;generalize d.alloc _=W0 at *;have G:=I n;have bi:=I s;have ac:=I (Hl.o.j n);clear n s v w x y z B C D E F;refine(am.o W0 ac.o).mono ?_;rintro e w1 ⟨rfl,q⟩;have j:=I (G.o.trans (q.mono G.o.size));obtain⟨⟨v,w,x,y,z,B,C,D,E,F⟩,_⟩:=xZ (jd q bi.o);clear q;cases has
 ·go_wp2;go_ret2;exact⟨by rw[g.o];rfl,j.o⟩
 ·go_wp2_with fail;refine(ap.o w1).mono ?_;rintro e Z ⟨rfl,K⟩;have k:=I (j.o.trans (K.mono j.o.size));clear K v w x y z B C D E F;rw[be.o];cases H
  ·rcases h with _|P
   all_goals
    simp only[RU,cD,dz];go_wp2;go_ret2;exact⟨by rw[g.o];rfl,k.o⟩
  ·by_cases m:h=some []
   ·subst m;have r:decide (some ([]:B8)=some [])=true:=(by simp);have l:J (Ur a true (some [])=.tuple #[S a.footer,N 0]):=by show _=_;rw[g.o];rfl
    rw[r];simp only[db];go_wp2;go_ret2;exact⟨by rw[l.o];rfl,k.o⟩
   ·have r:decide (h=some [])=false:=bS m;have l:J (Ur a true h=.tuple #[S [],N 4]):=by show _=_;rw[g.o];simp[m]
    rw[r];simp only[db];go_wp2;go_ret2;exact⟨by rw[l.o];rfl,k.o⟩
def XJ:W7.all (·.oneCell')=true:=by simp[Value.oneCell']
def VN(i:Int×Option V7)(e:U0)(g:W)(h:Ending)(j:W):Prop:=Below g.heap.size g j/\((∃d b,i=(d,none)/\d≠0/\b.size=18/\b.all (·.oneCell')=true/\h=.returned (.tuple #[.agg b,N d])) \/
  ∃a cv f c n m l k,i=(0,some a)/\h=.returned (.tuple #[.agg (xq a e cv f c),N 0])/\P8 a e g.heap.size j (.agg (xq a e cv f c)) cv f c n m l k)
def Yv(a:U0)(has:Bool)(o:Option B8):Int×Option V7:=if has=false then(8,none)
 else match o with
  | none=>(4,none)
  | some footer=>match zH a.R a.parts footer with
   | none=>(9,none)
   | some b=>(0,some b)
def EU(a:U0)(pre:B8)(t:O')(z:Nat)(d:List W9)(c:W)(ht:a.told=false)(ac:(qw a).length<=65000)(bi:pre.length<=20)(hf:a.footer.length<=5000)(hx:(qu pre a).length<=5000)(be:a.I.length<=1000)(am:a.body.length<=maxLen)(hr:xD d=true)(dW:d.length<=maxLen)(hl:U2 c t d):C' 100 #[K8 a,S pre,.slice t d.length z] c (VN (Yv a (jG d (a.R:Int)) (qE (jh d (a.R:Int)) a.I (qu pre a) a.body)) a c):=by
 have cs:J (∀e:W,U2 e t d->C' 161 #[.agg (T5 a),S pre,.slice t d.length z] e fun D g=>D=.returned (Ur a (jG d (a.R:Int)) (qE (jh d (a.R:Int)) a.I (qu pre a) a.body))/\Below e.heap.size e g):=fun e w=>II a pre t z d e bi hf hx be am hr dW w;have cd:J (∀w o,Ur a w o=if w=false then .tuple #[S [],N 8]
   else match o with
    | some p=>.tuple #[S p,N 0]
    | none=>.tuple #[S [],N 4]):=by
  intro w o;unfold Ur;rw[ht];rfl
 have ci:J (∀(p:B8) (e:W),p.length<=maxLen->C' 160 #[.agg (T5 a),S p] e (jdu a p e)):=fun p e H=>Iu a p e H ac;have O:J (∀p,qE (jh d (a.R:Int)) a.I (qu pre a) a.body=some p->p.length<=maxLen):=by
  intro p H;obtain⟨h1,h2⟩:=KR H;have:=bN List.length h1;rw[zT]at this;unfold maxLen;omega
 have Hl:=I hl;show Calls _ _ #[.agg (T5 a),S pre,.slice t d.length z] _ _;have d2:J (K8 a=.agg (T5 a)):=rfl;generalize qE (jh d (a.R:Int)) a.I (qu pre a) a.body=dr at *;generalize jG d (a.R:Int)=has at *;generalize y:T5 a=m at *;have d1:=I y;have X:m.size=10:=by rw[<-y];rfl
 have d3:m.all (·.oneCell')=true:=by rw[<-y];exact Gk a
 have V:(Tryz.prog.info? 115).map (·.size)=some m.size:=by rw[X];kernel_rfl
 clear bi hf hx be am hr hl ht ac y X;obtain⟨E,d4,G,bv⟩:=QB c m 115 W7 120;go_enter Tryz.func100,Tryz.ntmps100;go_wp2_with(refine kx rfl 115 (.tmp 3) rfl c.heap.size rfl 115 m (0,0) _ G Tryz.underlying115 rfl V ?_);have ce:=I (Hl.o.j E);generalize (c.alloc _).alloc _=W0 at *;have L:=I E;have da:=I G;have dl:=I bv;clear E G bv;refine(cs.o W0 ce.o).mono ?_;rintro D l ⟨rfl,x⟩;have f:=I (L.o.trans (x.mono L.o.size));have dd:=I (jd x da.o);have n:=I (jd x dl.o);have d5:=x.size;clear x;rw[cd.o];cases has
 ·simp only[db];go_wp2_with(refine kl rfl 120 (.tmp 6) (.tmp 19) rfl (c.heap.size+1) W7 rfl rfl 120 W7 n.o (by kernel_rfl) rfl (by simp[Value.oneCell']) ?_);have j:=I (kr l (c.heap.size+1) _ W7 120 (0,0) n.o);have i:=I (f.o.trans (jn (jH l (c.heap.size+1) W7) (by omega) f.o.size));generalize l.setRow _ _=k at *;exact kk (v:=.tuple #[.agg W7,N 8]) (xz (p:=6) (q:=7) rfl _ _ _ _ _ rfl rfl (ki (P:=Tryz.prog) k (c.heap.size+1) 120 120 W7 (0,0) _ j.o Tryz.underlying120 rfl (by kernel_rfl))) rfl ⟨i.o,.inl ⟨8,W7,rfl,by decide,rfl,XJ,rfl⟩⟩
 ·simp only[Bool.true_eq_false,dz];rcases dr with _|P
  ·go_wp2_with(refine kl rfl 120 (.tmp 6) (.tmp 19) rfl (c.heap.size+1) W7 rfl rfl 120 W7 n.o (by kernel_rfl) rfl (by simp[Value.oneCell']) ?_);have j:=I (kr l (c.heap.size+1) _ W7 120 (0,0) n.o);have i:=I (f.o.trans (jn (jH l (c.heap.size+1) W7) (by omega) f.o.size));generalize l.setRow _ _=k at *;exact kk (v:=.tuple #[.agg W7,N 4]) (xz (p:=6) (q:=7) rfl _ _ _ _ _ rfl rfl (ki (P:=Tryz.prog) k (c.heap.size+1) 120 120 W7 (0,0) _ j.o Tryz.underlying120 rfl (by kernel_rfl))) rfl ⟨i.o,.inl ⟨4,W7,rfl,by decide,rfl,XJ,rfl⟩⟩
  ·have Y:=O.o P rfl;have co:=I Y;clear Y O;go_wp2_with(refine kx rfl 115 (.tmp 3) rfl c.heap.size rfl 115 m (0,0) _ dd.o Tryz.underlying115 rfl V ?_);refine(ci.o P l co.o).mono ?_;rintro D g ⟨s,⟨hn,rfl⟩|⟨C,cv,pv,T,ds,Qp,Qm,Pv,Z,dv,rfl,F⟩⟩
   ·have B:J (Yv a true (some P)=(9,none)):=by show _=_;unfold Yv;rw[aL (by decide)];simp only[hn]
    have u:=I (f.o.trans (s.mono f.o.size));have r:=I (jd s n.o);clear s hn;go_wp2_with(refine kl rfl 120 (.tmp 6) (.tmp 24) rfl (c.heap.size+1) W7 rfl rfl 120 W7 r.o (by kernel_rfl) rfl (by simp[Value.oneCell']) ?_);have j:=I (kr g (c.heap.size+1) _ W7 120 (0,0) r.o);have i:=I (u.o.trans (jn (jH g (c.heap.size+1) W7) (by omega) u.o.size));generalize g.setRow _ _=k at *;exact kk (v:=.tuple #[.agg W7,N 9]) (xz (p:=6) (q:=7) rfl _ _ _ _ _ rfl rfl (ki (P:=Tryz.prog) k (c.heap.size+1) 120 120 W7 (0,0) _ j.o Tryz.underlying120 rfl (by kernel_rfl))) rfl ⟨i.o,.inl ⟨9,W7,B.o,by decide,rfl,XJ,rfl⟩⟩
   ·have B:J (Yv a true (some P)=(0,some C)):=by show _=_;unfold Yv;rw[aL (by decide)];simp only[Z]
    have u:=I (f.o.trans (s.mono f.o.size));have r:=I (jd s n.o);obtain⟨_,K,dT⟩:=F.one;have b4:=I (F.lower (b:=c.heap.size) f.o.size);clear s Z dv F;generalize U:xq C a cv pv T=h at *;have M:=I U;clear U;have ap:(Tryz.prog.info? 120).map (·.size)=some h.size:=(by rw[K];kernel_rfl);have d0:W7.size=h.size:=(by rw[K];rfl);clear K;go_wp2_with(refine kl rfl 120 (.tmp 6) (.tmp 24) rfl (c.heap.size+1) h rfl rfl 120 W7 r.o ap d0 dT ?_);have j:=I (kr g (c.heap.size+1) _ h 120 (0,0) r.o);have i:=I (u.o.trans (jn (jH g (c.heap.size+1) h) (by omega) u.o.size));have bX:=I (b4.o.grown (jH g (c.heap.size+1) h) r.o (by decide) (by decide) (by decide) (by decide));generalize g.setRow _ _=k at *;exact kk (v:=.tuple #[.agg h,N 0]) (xz (p:=6) (q:=7) rfl _ _ _ _ _ rfl rfl (ki (P:=Tryz.prog) k (c.heap.size+1) 120 120 h (0,0) _ j.o Tryz.underlying120 rfl ap)) rfl ⟨i.o,.inr ⟨C,cv,pv,T,ds,Qp,Qm,Pv,B.o,by rw[M.o],by rw[M.o];exact bX.o⟩⟩
open Classical in
def Uw(a:U0)(has:Bool)(o:Option B8)(c:Bool):Int×Option V7:=match zH a.R a.parts a.footer with
 | none=>(9,none)
 | some b=>if c=true then(0,some b)else if has=false then(8,none)else if o=some []then(0,some b)else(4,none)
def Dw(a:U0)(pre:B8)(M:O')(be:Nat)(i:List W9)(C:Bool)(d:W)(ht:a.told=true)(d2:(qw a).length<=65000)(d4:a.footer.length<=maxLen)(cs:pre.length<=20)(d5:a.I.length<=1000)(d3:a.body.length<=maxLen)(hr:xD i=true)(eP:i.length<=maxLen)(hl:U2 d M i):C' 99 #[K8 a,S pre,.slice M i.length be,.bool C] d (VN (Uw a (jG i (a.R:Int)) (qE (jh i (a.R:Int)) a.I (qu pre a) a.body) C) a d):=by
 have eq:J (a.footer.length<=4200->∀n:W,U2 n M i->C' 161 #[.agg (T5 a),S pre,.slice M i.length be] n fun cd l=>cd=.returned (Ur a (jG i (a.R:Int)) (qE (jh i (a.R:Int)) a.I (qu pre a) a.body))/\Below n.heap.size n l):=fun hf n f=>II a pre M be i n cs (by omega) (by
  have:=zL pre (if a.told=true then 83 else 70) 0 0 0 cs;unfold qu;rw[aB];omega) d5 d3 hr eP f
 have da:J (∀g,U8 a.R a.parts a.footer g->a.footer.length<=4200):=fun g Y=>Xm (fun eS hx=>by
  have h1:=XA _ _ _ _ eS hx;rw[<-Y.parts]at h1;have h2:(qw a).length=4+a.parts.length:=(KH a).2.2;omega) Y
 have ec:J (∀f o,Ur a f o=if f=false then .tuple #[S [],N 8]else if o=some []then .tuple #[S a.footer,N 0]else .tuple #[S [],N 4]):=by
  intro f o;unfold Ur;rw[ht];rfl
 have em:J (∀n:W,C' 160 #[.agg (T5 a),S a.footer] n (jdu a a.footer n)):=fun n=>Iu a a.footer n d4 d2;have bv:J (∀f o,Uw a f o C=match zH a.R a.parts a.footer with
   | none=>(9,none)
   | some g=>if C=true then(0,some g)else if f=false then(8,none)else if o=some []then(0,some g)else(4,none)):=fun f o=>by unfold Uw;rfl
 have Hl:=I hl;show Calls _ _ #[.agg (T5 a),S pre,.slice M i.length be,.bool C] _ _;have er:J ((T5 a)[2]?=some (S a.footer)):=rfl;generalize qE (jh i (a.R:Int)) a.I (qu pre a) a.body=X at *;generalize jG i (a.R:Int)=has at *;generalize dW:T5 a=H at *;have d1:H.size=10:=by rw[<-dW];rfl
 have d0:(Tryz.prog.info? 115).map (·.size)=some H.size:=by rw[d1];kernel_rfl
 clear cs d5 d3 hr hl ht d2 dW d1 d4;obtain⟨ci,e1,am,d7⟩:=QB d H 115 W7 120;have x2:((d.alloc (.cells H 115)).alloc (.cells W7 120)).cell? (A d.heap.size 2)=some (S a.footer):=by rw[jb am];exact er.o
 go_enter Tryz.func99,Tryz.ntmps99;go_wp2_with(refine kx rfl 115 (.tmp 4) rfl d.heap.size rfl 115 H (0,0) _ am Tryz.underlying115 rfl d0 ?_);have e0:=I (Hl.o.j ci);generalize (d.alloc _).alloc _=W0 at *;have O:=I ci;have es:=I am;have ds:=I d7;clear ci am d7 x2;refine(em.o W0).mono ?_;rintro cd e ⟨B,⟨hn,rfl⟩|⟨g,cv,pv,Kb,dv,Qp,Qm,Pv,Y,d6,rfl,co⟩⟩
 ·have HN:J (∀f o,Uw a f o C=(9,none)):=by intro f o;rw[bv.o];simp only[hn]
  have t:=I (O.o.trans (B.mono O.o.size));have V:=I (jd B ds.o);have eR:=B.size;clear B hn;obtain⟨k,eM,_,s⟩:=jJ e W7 120;have r:=jH (e.alloc (.cells W7 120)) e.heap.size W7;have G:=kr (e.alloc (.cells W7 120)) e.heap.size _ W7 120 (0,0) s;have z:=jm r (jd k V.o) (by have:=(aF.1 V.o).1;omega);have E:=I ((t.o.trans (k.mono t.o.size)).trans (jn r t.o.size (aI t.o.size k.size)));go_wp2_with(first
   | (refine kl rfl 120 (.tmp 10) (.tmp 17) rfl e.heap.size W7 rfl rfl 120 W7 s (by kernel_rfl) rfl (by simp[Value.oneCell']) ?_)
   | (refine kx rfl 120 (.tmp 10) rfl e.heap.size rfl 120 W7 (0,0) _ G Tryz.underlying120 rfl (by kernel_rfl) ?_)
   | (refine kl rfl 120 (.tmp 8) (.tmp 32) rfl (d.heap.size+1) W7 rfl rfl 120 W7 z (by kernel_rfl) rfl (by simp[Value.oneCell']) ?_))
  show bodyPost _ _ _ _ _ (((e.alloc (.cells W7 120)).setRow e.heap.size W7).setRow (d.heap.size+1) W7);have bi:=I z;clear s G z r k;generalize (e.alloc _).setRow _ _=l at *;have x:=I (kr l (d.heap.size+1) _ W7 120 (0,0) bi.o);have w:=I (E.o.trans (jn (jH l (d.heap.size+1) W7) (by omega) E.o.size));generalize l.setRow _ _=y at *;exact kk (v:=.tuple #[.agg W7,N 9]) (xz (p:=8) (q:=9) rfl _ _ _ _ _ rfl rfl (ki (P:=Tryz.prog) y (d.heap.size+1) 120 120 W7 (0,0) _ x.o Tryz.underlying120 rfl (by kernel_rfl))) rfl ⟨w.o,.inl ⟨9,W7,HN.o _ _,by decide,rfl,XJ,rfl⟩⟩
 ·have dr:J (∀f o,Uw a f o C=if C=true then(0,some g)else if f=false then(8,none)else if o=some []then(0,some g)else(4,none)):=by intro f o;rw[bv.o];simp only[Y]
  have d8:=I (da.o g d6);have t:=I (O.o.trans (B.mono O.o.size));have V:=I (jd B ds.o);have ev:=I (jd B es.o);have eR:=B.size;obtain⟨_,ap,D⟩:=co.one;have ea:=I (co.lower (b:=d.heap.size) O.o.size);clear B Y d6 co bv da;generalize dT:xq g a cv pv Kb=c at *;have ac:=I dT;clear dT;have dl:=I ap;have h:(Tryz.prog.info? 120).map (·.size)=some c.size:=by rw[ap];kernel_rfl
  have L:W7.size=c.size:=by rw[ap];rfl
  clear ap;obtain⟨k,eM,_,s⟩:=jJ e W7 120;have e2:=(aF.1 V.o).1;have r:=jH (e.alloc (.cells W7 120)) e.heap.size c;have G:=kr (e.alloc (.cells W7 120)) e.heap.size _ c 120 (0,0) s;have z:=jm r (jd k V.o) (by omega);have ce:=jm r (jd k ev.o) (by omega);have E:=I ((t.o.trans (k.mono t.o.size)).trans (jn r t.o.size (aI t.o.size k.size)));have dd:=I ((ea.o.j k).grown r s (by decide) (by decide) (by decide) (by decide));cases C
  ·have bX:J (∀f o,Uw a f o false=if f=false then(8,none)else if o=some []then(0,some g)else(4,none)):=(by intro f o;rw[dr.o,aL (by decide)]);go_wp2_with(first
    | (refine kl rfl 120 (.tmp 10) (.tmp 17) rfl e.heap.size c rfl rfl 120 W7 s h L D ?_)
    | (refine kx rfl 115 (.tmp 4) rfl d.heap.size rfl 115 H (0,0) _ ce Tryz.underlying115 rfl d0 ?_))
   have eg:=I (Hl.o.j E.o);have bi:=I z;have eC:=I G;clear s G z ce r k;show Calls _ _ _ ((e.alloc (.cells W7 120)).setRow e.heap.size c) _;generalize (e.alloc _).setRow _ _=l at *;refine(eq.o d8.o l eg.o).mono ?_;rintro cd m ⟨rfl,Z⟩;have u:=I (E.o.trans (Z.mono E.o.size));have j:=I (jd Z bi.o);have b4:=I (jd Z eC.o);have T:=I (dd.o.j Z);clear Z;rw[ec.o];cases has
   ·simp only[db];have F:J (Uw a false X false=(8,none)):=by show _=_;rw[bX.o,aQ rfl]
    go_wp2_with(first
    | (refine kx rfl 120 (.tmp 10) rfl e.heap.size rfl 120 c (0,0) _ b4.o Tryz.underlying120 rfl h ?_)
    | (refine kl rfl 120 (.tmp 8) (.tmp 32) rfl (d.heap.size+1) c rfl rfl 120 W7 j.o h L D ?_))
    have x:=I (kr m (d.heap.size+1) _ c 120 (0,0) j.o);have w:=I (u.o.trans (jn (jH m (d.heap.size+1) c) (by omega) u.o.size));have U:=I (T.o.grown (jH m (d.heap.size+1) c) j.o (by decide) (by decide) (by decide) (by decide));generalize m.setRow _ _=y at *;exact kk (v:=.tuple #[.agg c,N 8]) (xz (p:=8) (q:=9) rfl _ _ _ _ _ rfl rfl (ki (P:=Tryz.prog) y (d.heap.size+1) 120 120 c (0,0) _ x.o Tryz.underlying120 rfl h)) rfl ⟨w.o,.inl ⟨8,c,F.o,by decide,dl.o,D,rfl⟩⟩
   ·by_cases K:X=some []
    ·have F:J (Uw a true X false=(0,some g)):=by show _=_;rw[bX.o,aL (by decide),aQ K]
     rw[aL (by decide),aQ K];clear K;go_wp2_with(first
    | (refine kx rfl 120 (.tmp 10) rfl e.heap.size rfl 120 c (0,0) _ b4.o Tryz.underlying120 rfl h ?_)
    | (refine kl rfl 120 (.tmp 8) (.tmp 32) rfl (d.heap.size+1) c rfl rfl 120 W7 j.o h L D ?_))
     have x:=I (kr m (d.heap.size+1) _ c 120 (0,0) j.o);have w:=I (u.o.trans (jn (jH m (d.heap.size+1) c) (by omega) u.o.size));have U:=I (T.o.grown (jH m (d.heap.size+1) c) j.o (by decide) (by decide) (by decide) (by decide));generalize m.setRow _ _=y at *;exact kk (v:=.tuple #[.agg c,N 0]) (xz (p:=8) (q:=9) rfl _ _ _ _ _ rfl rfl (ki (P:=Tryz.prog) y (d.heap.size+1) 120 120 c (0,0) _ x.o Tryz.underlying120 rfl h)) rfl ⟨w.o,.inr ⟨g,cv,pv,Kb,dv,Qp,Qm,Pv,F.o,by rw[ac.o],by rw[ac.o];exact U.o⟩⟩
    ·have F:J (Uw a true X false=(4,none)):=by show _=_;rw[bX.o,aL (by decide),aL K]
     rw[aL (by decide),aL K];clear K;go_wp2_with(first
    | (refine kx rfl 120 (.tmp 10) rfl e.heap.size rfl 120 c (0,0) _ b4.o Tryz.underlying120 rfl h ?_)
    | (refine kl rfl 120 (.tmp 8) (.tmp 32) rfl (d.heap.size+1) c rfl rfl 120 W7 j.o h L D ?_))
     have x:=I (kr m (d.heap.size+1) _ c 120 (0,0) j.o);have w:=I (u.o.trans (jn (jH m (d.heap.size+1) c) (by omega) u.o.size));have U:=I (T.o.grown (jH m (d.heap.size+1) c) j.o (by decide) (by decide) (by decide) (by decide));generalize m.setRow _ _=y at *;exact kk (v:=.tuple #[.agg c,N 4]) (xz (p:=8) (q:=9) rfl _ _ _ _ _ rfl rfl (ki (P:=Tryz.prog) y (d.heap.size+1) 120 120 c (0,0) _ x.o Tryz.underlying120 rfl h)) rfl ⟨w.o,.inl ⟨4,c,F.o,by decide,dl.o,D,rfl⟩⟩
  ·have F:J (Uw a has X true=(0,some g)):=by show _=_;rw[dr.o,aQ rfl]
   go_wp2_with(first
    | (refine kl rfl 120 (.tmp 10) (.tmp 17) rfl e.heap.size c rfl rfl 120 W7 s h L D ?_)
    | (refine kx rfl 120 (.tmp 10) rfl e.heap.size rfl 120 c (0,0) _ G Tryz.underlying120 rfl h ?_)
    | (refine kl rfl 120 (.tmp 8) (.tmp 32) rfl (d.heap.size+1) c rfl rfl 120 W7 z h L D ?_))
   show bodyPost _ _ _ _ _ (((e.alloc (.cells W7 120)).setRow e.heap.size c).setRow (d.heap.size+1) c);have j:=I z;have u:=I E.o;have T:=I dd.o;clear s G z ce r k;generalize (e.alloc _).setRow _ _=l at *;have x:=I (kr l (d.heap.size+1) _ c 120 (0,0) j.o);have w:=I (u.o.trans (jn (jH l (d.heap.size+1) c) (by omega) u.o.size));have U:=I (T.o.grown (jH l (d.heap.size+1) c) j.o (by decide) (by decide) (by decide) (by decide));generalize l.setRow _ _=y at *;exact kk (v:=.tuple #[.agg c,N 0]) (xz (p:=8) (q:=9) rfl _ _ _ _ _ rfl rfl (ki (P:=Tryz.prog) y (d.heap.size+1) 120 120 c (0,0) _ x.o Tryz.underlying120 rfl h)) rfl ⟨w.o,.inr ⟨g,cv,pv,Kb,dv,Qp,Qm,Pv,F.o,by rw[ac.o],by rw[ac.o];exact U.o⟩⟩
def Ln(file pre:B8)(b:List W9)(c:Bool)(f:W)(e:Ending)(g:W):Prop:=∃a:U0,(∀d,qJ file pre b c=(0,some d)->xL file=some a)/\VN (qJ file pre b c) a f e g
def f0:U0:=⟨false,0,[],[],[],[]⟩
def IX(file pre:B8)(D:O')(ac:Nat)(d:List W9)(x:Bool)(c:W)(d7:file.length<=maxLen)(em:pre.length<=maxLen)(d1:d.length<=maxLen)(hl:U2 c D d):C' 42 #[S file,S pre,.slice D d.length ac,.bool x] c (Ln file pre d x c):=by
 have fc:∀(fn:Fn) (first d3:V') (c:W),(Instr.makeFunc fn first d3).run Tryz.prog c=.ok (.func fn first d3) c:=fun _ _ _ _=>rfl;have eR:=I d7;have e1:=I em;have Hl:=I hl;clear d7 em hl;obtain⟨dv,fb,eg,eq⟩:=QB c #[S file] 9 W7 120;go_enter Tryz.func42,Tryz.ntmps42;go_wp2_with fail;have ev:=I (Hl.o.j dv);generalize (c.alloc _).alloc _=W0 at *;have k:=I dv;have eS:=I eg;have dl:=I eq;clear dv eg eq;refine(NS pre W0 e1.o).mono ?_;rintro ci w1 ⟨rfl,rfl⟩;by_cases hp:¬pre.length<=20
 ·have E:J (qJ file pre d x=(7,none)):=by show _=_;unfold qJ;rw[aQ (by omega)]
  rw[bS hp];clear hp;go_wp2_with(refine kl rfl 120 (.tmp 8) (.tmp 15) rfl (c.heap.size+1) W7 rfl rfl 120 W7 dl.o (by kernel_rfl) rfl (by simp[Value.oneCell']) ?_);have l:=I (kr w1 (c.heap.size+1) _ W7 120 (0,0) dl.o);have j:=I (k.o.trans (jn (jH w1 (c.heap.size+1) W7) (by omega) k.o.size));generalize w1.setRow _ _=n at *;exact kk (v:=.tuple #[.agg W7,N 7]) (xz (p:=8) (q:=9) rfl _ _ _ _ _ rfl rfl (ki (P:=Tryz.prog) n (c.heap.size+1) 120 120 W7 (0,0) _ l.o Tryz.underlying120 rfl (by kernel_rfl))) rfl ⟨f0,(fun F r=>by rw[E.o]at r;simp at r),j.o,.inl ⟨7,W7,E.o,by decide,rfl,XJ,rfl⟩⟩
 have co:=dX.1 hp;rw[dK co];clear hp;go_wp2_with fail;refine(EP D ac d w1 d1 ev.o).mono ?_;rintro ci w2 ⟨rfl,b4⟩;have T:=I (k.o.trans (b4.mono k.o.size));have e0:=I (jd b4 eS.o);have ce:=I (jd b4 dl.o);have fd:=b4.size;have fa:=I (Hl.o.j T.o);clear b4 k;have k:=T;cases hr:xD d with
 | false=>
  have E:J (qJ file pre d x=(1,none)):=by show _=_;unfold qJ;rw[aL (by omega),aQ hr]
  clear hr;go_wp2_with(refine kl rfl 120 (.tmp 8) (.tmp 19) rfl (c.heap.size+1) W7 rfl rfl 120 W7 ce.o (by kernel_rfl) rfl (by simp[Value.oneCell']) ?_);have l:=I (kr w2 (c.heap.size+1) _ W7 120 (0,0) ce.o);have j:=I (k.o.trans (jn (jH w2 (c.heap.size+1) W7) (by omega) k.o.size));generalize w2.setRow _ _=n at *;exact kk (v:=.tuple #[.agg W7,N 1]) (xz (p:=8) (q:=9) rfl _ _ _ _ _ rfl rfl (ki (P:=Tryz.prog) n (c.heap.size+1) 120 120 W7 (0,0) _ l.o Tryz.underlying120 rfl (by kernel_rfl))) rfl ⟨f0,(fun F r=>by rw[E.o]at r;simp at r),j.o,.inl ⟨1,W7,E.o,by decide,rfl,XJ,rfl⟩⟩
 | true=>
  have Hr:=I hr;clear hr;have d6:w2.cell? (A c.heap.size 0)=some (S file):=by rw[jb e0.o];rfl
  have er:=I d6;clear d6;go_wp2_with fail;refine(jbf file c.heap.size w2 eR.o er.o).mono ?_;rintro ci e ⟨X,⟨hn,rfl⟩|⟨a,hf,rfl⟩⟩
  ·have E:J (qJ file pre d x=(9,none)):=by show _=_;unfold qJ;rw[aL (by omega),aL (by rw[Hr.o];decide)];simp only[hn]
   have z:=I (T.o.trans (X.mono T.o.size));have be:=I (jd X ce.o);clear X hn k;obtain⟨C,e4,_,Y⟩:=jJ e M9 115;have e6:=(aF.1 be.o).1;have K:=jH (e.alloc (.cells M9 115)) e.heap.size M9;have Z:=jm K (jd C be.o) (by omega);have k:=I ((z.o.trans (C.mono z.o.size)).trans (jn K z.o.size (aI z.o.size C.size)));go_wp2_with(first
    | (refine kl rfl 115 (.tmp 10) (.tmp 23) rfl e.heap.size M9 rfl rfl 115 M9 Y (by kernel_rfl) rfl (by simp[Value.oneCell']) ?_)
    | (refine kl rfl 120 (.tmp 8) (.tmp 28) rfl (c.heap.size+1) W7 rfl rfl 120 W7 Z (by kernel_rfl) rfl (by simp[Value.oneCell']) ?_))
   show bodyPost _ _ _ _ _ (((e.alloc (.cells M9 115)).setRow e.heap.size M9).setRow (c.heap.size+1) W7);have V:=I Z;clear Y Z K C;generalize (e.alloc _).setRow _ _=w4 at *;have l:=I (kr w4 (c.heap.size+1) _ W7 120 (0,0) V.o);have j:=I (k.o.trans (jn (jH w4 (c.heap.size+1) W7) (by omega) k.o.size));generalize w4.setRow _ _=n at *;exact kk (v:=.tuple #[.agg W7,N 9]) (xz (p:=8) (q:=9) rfl _ _ _ _ _ rfl rfl (ki (P:=Tryz.prog) n (c.heap.size+1) 120 120 W7 (0,0) _ l.o Tryz.underlying120 rfl (by kernel_rfl))) rfl ⟨f0,(fun F r=>by rw[E.o]at r;simp at r),j.o,.inl ⟨9,W7,E.o,by decide,rfl,XJ,rfl⟩⟩
  ·have G:=(Uz hf).1;obtain⟨e3,ea,ec⟩:=G.lens;have e7:=G.short;have ds:(qw a).length<=65000:=by
    have h1:=(KH a).2.2;have h2:=(JR G rfl).len;omega
   have dW:a.I.length<=1000:=(by rw[G.I];decide);have dT:a.body.length<=maxLen:=aI ea (by decide);have d8:a.footer.length<=maxLen:=aI ec (by decide);have eP:J (a.told=true->∀y,U2 y D d->C' 99 #[.agg (T5 a),S pre,.slice D d.length ac,.bool x] y (VN (Uw a (jG d (a.R:Int)) (qE (jh d (a.R:Int)) a.I (qu pre a) a.body) x) a y)):=fun h y r=>Dw a pre D ac d x y h ds d8 co dW dT Hr.o d1 r;have es:J (a.told=false->∀y,U2 y D d->C' 100 #[.agg (T5 a),S pre,.slice D d.length ac] y (VN (Yv a (jG d (a.R:Int)) (qE (jh d (a.R:Int)) a.I (qu pre a) a.body)) a y)):=fun h y r=>EU a pre D ac d y h ds co (by rw[G.none_ h];decide) (by
    have:=zL pre (if a.told=true then 83 else 70) 0 0 0 co;unfold qu;rw[aB,G.none_ h];simp only[bJ];omega) dW dT Hr.o d1 r
   have z:=I (T.o.trans (X.mono T.o.size));have be:=I (jd X ce.o);have U:=I hf;have eM:=I G.none_;clear X hf G e3 ea ec e7 ds dW dT d8 k;obtain⟨C,e4,_,Y⟩:=jJ e M9 115;have e6:=(aF.1 be.o).1;have K:=jH (e.alloc (.cells M9 115)) e.heap.size (T5 a);have oA:=kr (e.alloc (.cells M9 115)) e.heap.size _ (T5 a) 115 (0,0) Y;have Z:=jm K (jd C be.o) (by omega);have x1:((e.alloc (.cells M9 115)).setRow e.heap.size (T5 a)).cell? (A e.heap.size 1)=some (.bool a.told):=(by rw[jb oA];rfl);have t:=I ((z.o.trans (C.mono z.o.size)).trans (jn K z.o.size (aI z.o.size C.size)));have e5:=Gk a;have eC:=I (Hl.o.j t.o);have d4:K8 a=.agg (T5 a):=rfl;rw[d4];clear d4;have d5:(Tryz.prog.info? 115).map (·.size)=some (T5 a).size:=(by kernel_rfl);have e2:M9.size=(T5 a).size:=rfl;generalize T5 a=FC at *;cases h:a.told
   case' true=>
    rw[h]at x1;have ap:J (qJ file pre d x=Uw a (jG d (a.R:Int)) (qE (jh d (a.R:Int)) a.I (qu pre a) a.body) x):=by
     show _=_;unfold qJ Uw;rw[aL (by omega),aL (by rw[Hr.o];decide)];simp only[U.o,h,db];unfold qu;rw[h];rfl
    have d2:=I (eP.o h)
   case' false=>
    rw[h]at x1;have ap:J (qJ file pre d x=Yv a (jG d (a.R:Int)) (qE (jh d (a.R:Int)) a.I (qu pre a) a.body)):=by
     show _=_;unfold qJ Yv;rw[aL (by omega),aL (by rw[Hr.o];decide)];simp only[U.o,h,cD,dz];unfold qu;rw[h,eM.o h];simp only[cD,dz,aT];rfl
    have d2:=I (es.o h)
   all_goals
    clear h;go_wp2_with(first
     | (refine kl rfl 115 (.tmp 10) (.tmp 23) rfl e.heap.size FC rfl rfl 115 M9 Y d5 e2 e5 ?_)
     | (refine kx rfl 115 (.tmp 10) rfl e.heap.size rfl 115 FC (0,0) _ oA Tryz.underlying115 rfl d5 ?_))
    show Calls _ _ _ ((e.alloc (.cells M9 115)).setRow e.heap.size FC) _;have V:=I Z;clear Y Z K C oA x1;generalize (e.alloc _).setRow _ _=w4 at *;refine(d2.o w4 eC.o).mono ?_
   next=>
    rintro ci i ⟨o,⟨bi,f,w,cd,B,bv,rfl⟩|⟨F,cv,pv,Kb,dr,Qp,Qm,Pv,w,rfl,L⟩⟩
    ·have H:=I (ap.o.trans w);have s:=I (t.o.trans (o.mono t.o.size));have m:=I (jd o V.o);have u:(Tryz.prog.info? 120).map (·.size)=some f.size:=(by rw[B];kernel_rfl);have O:W7.size=f.size:=(by rw[B];rfl);have HC:=I B;have dd:=I cd;clear o w B cd;go_wp2_with(refine kl rfl 120 (.tmp 8) (.tmp 43) rfl (c.heap.size+1) f rfl rfl 120 W7 m.o u O bv ?_);have l:=I (kr i (c.heap.size+1) _ f 120 (0,0) m.o);have j:=I (s.o.trans (jn (jH i (c.heap.size+1) f) (by omega) s.o.size));generalize i.setRow _ _=n at *;exact kk (v:=.tuple #[.agg f,N bi]) (xz (p:=8) (q:=9) rfl _ _ _ _ _ rfl rfl (ki (P:=Tryz.prog) n (c.heap.size+1) 120 120 f (0,0) _ l.o Tryz.underlying120 rfl u)) rfl ⟨a,(fun _ _=>U.o),j.o,.inl ⟨bi,f,H.o,dd.o,HC.o,bv,rfl⟩⟩
    ·have H:=I (ap.o.trans w);have s:=I (t.o.trans (o.mono t.o.size));have m:=I (jd o V.o);obtain⟨_,M,d0⟩:=L.one;have da:=I (L.lower (b:=c.heap.size) t.o.size);clear o w L;generalize bX:xq F a cv pv Kb=g at *;have am:=I bX;clear bX;have u:(Tryz.prog.info? 120).map (·.size)=some g.size:=(by rw[M];kernel_rfl);have O:W7.size=g.size:=(by rw[M];rfl);clear M;go_wp2_with(refine kl rfl 120 (.tmp 8) (.tmp 43) rfl (c.heap.size+1) g rfl rfl 120 W7 m.o u O d0 ?_);have l:=I (kr i (c.heap.size+1) _ g 120 (0,0) m.o);have j:=I (s.o.trans (jn (jH i (c.heap.size+1) g) (by omega) s.o.size));have cs:=I (da.o.grown (jH i (c.heap.size+1) g) m.o (by decide) (by decide) (by decide) (by decide));generalize i.setRow _ _=n at *;exact kk (v:=.tuple #[.agg g,N 0]) (xz (p:=8) (q:=9) rfl _ _ _ _ _ rfl rfl (ki (P:=Tryz.prog) n (c.heap.size+1) 120 120 g (0,0) _ l.o Tryz.underlying120 rfl u)) rfl ⟨a,(fun _ _=>U.o),j.o,.inr ⟨F,cv,pv,Kb,dr,Qp,Qm,Pv,H.o,by rw[am.o],by rw[am.o];exact cs.o⟩⟩
   next=>
    rintro ci i ⟨o,⟨bi,f,w,cd,B,bv,rfl⟩|⟨F,cv,pv,Kb,dr,Qp,Qm,Pv,w,rfl,L⟩⟩
    ·have H:=I (ap.o.trans w);have s:=I (t.o.trans (o.mono t.o.size));have m:=I (jd o V.o);have u:(Tryz.prog.info? 120).map (·.size)=some f.size:=(by rw[B];kernel_rfl);have O:W7.size=f.size:=(by rw[B];rfl);have HC:=I B;have dd:=I cd;clear o w B cd;go_wp2_with(refine kl rfl 120 (.tmp 8) (.tmp 37) rfl (c.heap.size+1) f rfl rfl 120 W7 m.o u O bv ?_);have l:=I (kr i (c.heap.size+1) _ f 120 (0,0) m.o);have j:=I (s.o.trans (jn (jH i (c.heap.size+1) f) (by omega) s.o.size));generalize i.setRow _ _=n at *;exact kk (v:=.tuple #[.agg f,N bi]) (xz (p:=8) (q:=9) rfl _ _ _ _ _ rfl rfl (ki (P:=Tryz.prog) n (c.heap.size+1) 120 120 f (0,0) _ l.o Tryz.underlying120 rfl u)) rfl ⟨a,(fun _ _=>U.o),j.o,.inl ⟨bi,f,H.o,dd.o,HC.o,bv,rfl⟩⟩
    ·have H:=I (ap.o.trans w);have s:=I (t.o.trans (o.mono t.o.size));have m:=I (jd o V.o);obtain⟨_,M,d0⟩:=L.one;have da:=I (L.lower (b:=c.heap.size) t.o.size);clear o w L;generalize bX:xq F a cv pv Kb=g at *;have am:=I bX;clear bX;have u:(Tryz.prog.info? 120).map (·.size)=some g.size:=(by rw[M];kernel_rfl);have O:W7.size=g.size:=(by rw[M];rfl);clear M;go_wp2_with(refine kl rfl 120 (.tmp 8) (.tmp 37) rfl (c.heap.size+1) g rfl rfl 120 W7 m.o u O d0 ?_);have l:=I (kr i (c.heap.size+1) _ g 120 (0,0) m.o);have j:=I (s.o.trans (jn (jH i (c.heap.size+1) g) (by omega) s.o.size));have cs:=I (da.o.grown (jH i (c.heap.size+1) g) m.o (by decide) (by decide) (by decide) (by decide));generalize i.setRow _ _=n at *;exact kk (v:=.tuple #[.agg g,N 0]) (xz (p:=8) (q:=9) rfl _ _ _ _ _ rfl rfl (ki (P:=Tryz.prog) n (c.heap.size+1) 120 120 g (0,0) _ l.o Tryz.underlying120 rfl u)) rfl ⟨a,(fun _ _=>U.o),j.o,.inr ⟨F,cv,pv,Kb,dr,Qp,Qm,Pv,H.o,by rw[am.o],by rw[am.o];exact cs.o⟩⟩
end Go.Proofs.YthhpbhpfagoapaaGreat
