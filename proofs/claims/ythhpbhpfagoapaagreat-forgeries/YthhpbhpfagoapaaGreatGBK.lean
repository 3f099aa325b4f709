import Derived.Test.YthhpbhpfagoapaaGreatGBJ
import Derived.Test.YthhpbhpfagoapaaGreatGBI
namespace Go.Proofs.YthhpbhpfagoapaaGreat
set_option linter.all false
set_option maxRecDepth 100000
set_option maxHeartbeats 16000000
open Go.RowKit
section
def XE(M:List W6):List Value:=M.map fun a=>S a.plain
def Qa(M:List W6):List Value:=M.flatMap fun a=>[S a.I,S a.body]
def Nx(M:List W6)(a:W6):XE (M++[a])=XE M++[S a.plain]:=by simp[XE]
def Gw(M:List W6)(a:W6):Qa (M++[a])=Qa M++[S a.I,S a.body]:=by simp[Qa]
variable{u v w:W}{g i k m n:Nat}{x:Value}{C:List Value}
def xt{c t:TypeId}{e:V'}{f:Nat×Nat}(h:w.ownsRow n c m x k C)(l:w.heap[i]?=some (.cells e t f))(j:c≠t):x.ownBlock=none\/x.ownBlock≠some i:=by
 rcases h.2 with⟨rfl,_⟩|⟨g,T,o,rfl,_,a,_⟩
 ·exact .inl rfl
 ·right;intro b;injection b with b
  subst b;rw[l]at a;injection a with a
  injection a with h1 h2 h3
  exact j h2.symm
variable{a:O'}{L:List V1}
def NW(b:w.ownsRow n 161 6 (.slice a m k) m (JH L))(f:Nat)(i:f<L.length):∃g,a=some (A g 0)/\g<w.heap.size/\w.cell? (A g (f*6))=some (S [(L[f]).sort])/\w.cell? (A g (f*6+1))=some (N ((L[f]).g:Int))/\w.cell? (A g (f*6+2))=some (N ((L[f]).c:Int))/\w.cell? (A g (f*6+3))=some (N ((L[f]).p:Int))/\w.cell? (A g (f*6+4))=some (N ((L[f]).start:Int))/\w.cell? (A g (f*6+5))=some (N ((L[f]).many:Int)):=by
 have p:(JH L).length=L.length*6:=Qn Uk 6 (fun _=>rfl) L;have q:m=L.length:=by have:=b.1;omega
 have at_:∀c,c<6->(JH L)[f*6+c]?=(Uk L[f])[c]?:=fun c h=>Jl Uk 6 (fun _=>rfl) L f c i h;rcases b.2 with⟨j,o⟩|⟨g,e,l,d,_⟩
 ·omega
 ·simp only[cx]at d;obtain⟨rfl,_,rfl⟩:=d;refine⟨g,rfl,(b.lt g rfl).2,?_,?_,?_,?_,?_,?_⟩
  ·rw[b.cellAt _ (by omega)];exact at_ 0 (by decide)
  ·rw[b.cellAt _ (by omega)];exact at_ 1 (by decide)
  ·rw[b.cellAt _ (by omega)];exact at_ 2 (by decide)
  ·rw[b.cellAt _ (by omega)];exact at_ 3 (by decide)
  ·rw[b.cellAt _ (by omega)];exact at_ 4 (by decide)
  ·rw[b.cellAt _ (by omega)];exact at_ 5 (by decide)
variable{B:List W8}
def Mk(b:w.ownsRow n 61 4 (.slice a m k) m (Qf B))(e:Nat)(h:e<B.length):∃g,a=some (A g 0)/\g<w.heap.size/\w.cell? (A g (e*4))=some (S (B[e]).name)/\w.cell? (A g (e*4+1))=some (N (B[e]).kind)/\w.cell? (A g (e*4+2))=some (N (B[e]).key)/\w.cell? (A g (e*4+3))=some V3:=by
 have ca:(Qf B).length=B.length*4:=Qn TN 4 (fun _=>rfl) B;have o:m=B.length:=by have:=b.1;omega
 have at_:∀c,c<4->(Qf B)[e*4+c]?=(TN B[e])[c]?:=fun c f=>Jl TN 4 (fun _=>rfl) B e c h f;rcases b.2 with⟨t,l⟩|⟨g,i,j,d,_⟩
 ·omega
 ·simp only[cx]at d;obtain⟨rfl,_,rfl⟩:=d;refine⟨g,rfl,(b.lt g rfl).2,?_,?_,?_,?_⟩
  ·rw[b.cellAt _ (by omega)];exact at_ 0 (by decide)
  ·rw[b.cellAt _ (by omega)];exact at_ 1 (by decide)
  ·rw[b.cellAt _ (by omega)];exact at_ 2 (by decide)
  ·rw[b.cellAt _ (by omega)];exact at_ 3 (by decide)
structure E5 (x w:W) (T q:Nat) (H:Value->Value->V') (t:List W8) (L:List V1) (cv sv pv ev xv:Value) (np:Nat) (M:List Value) (ne:Nat) (E:List Value) (parts:B8) (st:Option B8) (pl:List Nat):Prop where
 told:x.heap[T]?=some (.cells (H pv ev) 179 (0,0))
 U:x.ownsRow w.heap.size 61 4 cv t.length (Qf t)
 an:x.ownsRow w.heap.size 161 6 sv L.length (JH L)
 ai:x.ownsRow w.heap.size 9 1 pv np M
 ad:x.ownsRow w.heap.size 167 2 ev ne E
 spot:qo x q parts st
 places:x.ownsRow w.heap.size 3 1 xv pl.length (xA pl)
 below:Below w.heap.size w x
 bh:w.heap.size<=T
 bu:w.heap.size<=q
 apart:T≠q
section
variable {x y w:W} {T q:Nat} {H:Value->Value->V'} {t:List W8} {L:List V1} {cv sv pv ev xv:Value} {np:Nat} {M:List Value} {ne:Nat} {E:List Value} {parts:B8} {st:Option (B8)} {pl:List Nat}
def E5.j(a:E5 x w T q H t L cv sv pv ev xv np M ne E parts st pl)(b:Below x.heap.size x y):E5 y w T q H t L cv sv pv ev xv np M ne E parts st pl:=⟨jd b a.told,jy a.U b,jy a.an b,jy a.ai b,jy a.ad b,Xs a.spot (XF a.spot) (VI b) (fun c b=>by cases b),jy a.places b,a.below.trans (b.mono a.below.size),a.bh,a.bu,a.apart⟩
def E5.alloc(a:E5 x w T q H t L cv sv pv ev xv np M ne E parts st pl)(o:Obj):E5 (x.alloc o) w T q H t L cv sv pv ev xv np M ne E parts st pl:=a.j ((k8 x.heap.size x).alloc (aA _) o)
def E5.drew(a:E5 x w T q H t L cv sv pv ev xv np M ne E parts st pl):E5 x.drew w T q H t L cv sv pv ev xv np M ne E parts st pl:=a.j (qD (k8 x.heap.size x))
def E5.read(a:E5 x w T q H t L cv sv pv ev xv np M ne E parts st pl){d:Option (B8)}(b:x.grownBy y (some q))(e:qo y q parts d):E5 y w T q H t L cv sv pv ev xv np M ne E parts d pl:=by
 obtain⟨at_,f,c,_⟩:=a.spot;exact⟨qL b a.told a.apart,a.U.kept b (xt a.U c (by decide)),a.an.kept b (xt a.an c (by decide)),a.ai.kept b (xt a.ai c (by decide)),a.ad.kept b (xt a.ad c (by decide)),e,a.places.kept b (xt a.places c (by decide)),a.below.trans (jn b a.bu a.below.size),a.bh,a.bu,a.apart⟩
variable{d:Option Nat}
def QD(y:Below u.heap.size u w)(a:w.grownBy v d)(f:∀b,d=some b->u.heap.size<=b):Below u.heap.size u v:=y.trans ⟨a.os,a.tape,a.output,a.size,fun b g=>a.block b (aC g y.size) (fun e=>by have:=f b e.symm;omega)⟩
theorem GU{x y:W}{b a k n q:Nat}{v:Value}{l:List Value}{parts:B8}{st:Option (B8)}(d:qo x q parts st)(g:x.grownBy y v.ownBlock)(h:x.ownsRow b a k v n l)(f:243≠a):qo y q parts st:=by
 obtain⟨at_,c,i,e,j⟩:=d;exact⟨at_,c,jq g h i f,e,j⟩
theorem E5.put(a:E5 x w T q H t L cv sv pv ev xv np M ne E parts st pl){v:Value}{pl':List Nat}(b:x.grownBy y xv.ownBlock)(d:y.ownsRow w.heap.size 3 1 v pl'.length (xA pl')):E5 y w T q H t L cv sv pv ev v np M ne E parts st pl' :=
 ⟨jq b a.places a.told (by decide),a.U.kept b (qd a.U a.places (by decide)),a.an.kept b (qd a.an a.places (by decide)),a.ai.kept b (qd a.ai a.places (by decide)),a.ad.kept b (qd a.ad a.places (by decide)),GU a.spot b a.places (by decide),d,QD a.below b (fun e c=>(a.places.lt e c).1),a.bh,a.bu,a.apart⟩
theorem E5.plain(a:E5 x w T q H t L cv sv pv ev xv np M ne E parts st pl){v:Value}{m:Nat}{e:List Value}(b:x.grownBy y pv.ownBlock)(j:y.ownsRow w.heap.size 9 1 v m e)(r:∀o f n,(H o f).setIfInBounds 7 n=H n f):E5 (y.setCell (A T 7) v) w T q H t L cv sv v ev xv m e ne E parts st pl:=by
 have d:=jq b a.ai a.told (by decide);have h:=a.U.kept b (qd a.U a.ai (by decide));have l:=a.an.kept b (qd a.an a.ai (by decide));have i:=a.ad.kept b (qd a.ad a.ai (by decide));have k:=a.places.kept b (qd a.places a.ai (by decide));have u:=GU a.spot b a.ai (by decide);have g:=QD a.below b (fun z s=>(a.ai.lt z s).1);have c:=Qk y T 7 v;refine⟨?_,h.kept c (xt h d (by decide)),l.kept c (xt l d (by decide)),j.kept c (xt j d (by decide)),i.kept c (xt i d (by decide)),zk u c (fun p=>a.apart p.symm),k.kept c (xt k d (by decide)),g.trans (jn c a.bh g.size),a.bh,a.bu,a.apart⟩;rw[kj y T 7 _ _ v d,r]
theorem E5.module(a:E5 x w T q H t L cv sv pv ev xv np M ne E parts st pl){v:Value}{m:Nat}{e:List Value}(b:x.grownBy y ev.ownBlock)(j:y.ownsRow w.heap.size 167 2 v m e)(r:∀f o n,(H f o).setIfInBounds 8 n=H f n):E5 (y.setCell (A T 8) v) w T q H t L cv sv pv v xv np M m e parts st pl:=by
 have d:=jq b a.ad a.told (by decide);have h:=a.U.kept b (qd a.U a.ad (by decide));have l:=a.an.kept b (qd a.an a.ad (by decide));have i:=a.ai.kept b (qd a.ai a.ad (by decide));have k:=a.places.kept b (qd a.places a.ad (by decide));have u:=GU a.spot b a.ad (by decide);have g:=QD a.below b (fun z s=>(a.ad.lt z s).1);have c:=Qk y T 8 v;refine⟨?_,h.kept c (xt h d (by decide)),l.kept c (xt l d (by decide)),i.kept c (xt i d (by decide)),j.kept c (xt j d (by decide)),zk u c (fun p=>a.apart p.symm),k.kept c (xt k d (by decide)),g.trans (jn c a.bh g.size),a.bh,a.bu,a.apart⟩;rw[kj y T 8 _ _ v d,r]
theorem JT{x:W}{c a e n b:Nat}{v:Value}{f:List Value}(d:x.ownsRow c a e v n f)(h:x.heap.size<=b):v.ownBlock=none\/v.ownBlock≠some b:=by
 rcases hv:v.ownBlock with _|g
 ·exact .inl rfl
 ·refine .inr (fun a=>?_);have:=(d.lt g hv).2;injection a with a
  omega
theorem E5.cf(a:E5 x w T q H t L cv sv pv ev xv np M ne E parts st pl)(c:Nat)(e:V'){j:V'}(d:x.heap[c]?=some (.cells j 167 (0,0)))(i:w.heap.size<=c)(f:T≠c)(h:q≠c)(g:ev.ownBlock=none\/ev.ownBlock≠some c):E5 (x.setRow c e) w T q H t L cv sv pv ev xv np M ne E parts st pl:=by
 have b:=Zo x c e;exact⟨qL b a.told f,a.U.kept b (xt a.U d (by decide)),a.an.kept b (xt a.an d (by decide)),a.ai.kept b (xt a.ai d (by decide)),a.ad.kept b g,zk a.spot b h,a.places.kept b (xt a.places d (by decide)),a.below.trans (jn b i a.below.size),a.bh,a.bu,a.apart⟩
theorem E5.c1{b i:Nat}(d:E5 x w T q H t L cv (R b L.length i) pv ev xv np M ne E parts st pl)(a:Nat)(h:a<L.length):x.cell? (A b (a*6))=some (S [(L[a]).sort])/\x.cell? (A b (a*6+2))=some (N ((L[a]).c:Int)):=by
 obtain⟨g,c,_,e,_,f,_⟩:=NW d.an a h;simp only[aW,cG,de]at c;subst c;exact⟨e,f⟩
theorem E5.c6{cg cc:Nat}(b:E5 x w T q H t L (R cg t.length cc) sv pv ev xv np M ne E parts st pl)(c:Nat)(e:c<t.length):x.cell? (A cg (c*4+2))=some (N (t[c]).key):=by
 obtain⟨g,a,_,_,_,d,_⟩:=Mk b.U c e;simp only[aW,cG,de]at a;subst a;exact d
end
theorem Dj{t:List W8}{parts:B8}{L:List V1}{a at_:Nat}{f:Bool}{i:V1}{pl:List Nat}{M:List W6}{st j:Option (B8)}{d:W6}(h:L[a]?=some i)(g:xl t (some parts) (L.take a)=(M,st))(v:at_<=parts.length)(e:st=if f=true then none else some (parts.drop at_))(c:VW (ji t i.c).key st=(d,j))(u:parts.length<=65000)
  (k:pl.length=(jK t 4 true (L.take a) M).length)(l:∀x∈pl,x<=70000)(m:∀rest,st=some rest->pl=jK t 4 true (L.take a) M) :
  (pl++(if qS true (L.take a)=true then[4+at_]else[])).length=(jK t 4 true (L.take (a+1)) (M++[d])).length/\(∀x∈pl++(if qS true (L.take a)=true then[4+at_]else[]),x<=70000)/\∀rest,j=some rest->pl++(if qS true (L.take a)=true then[4+at_]else[])=jK t 4 true (L.take (a+1)) (M++[d]):=by
 have w:a<L.length:=(aV.1 h).1;have p:M.length=a:=by
  have:=AQ t (some parts) (L.take a);rw[g,aM]at this;simp only at this;omega
 rw[YQ h p d];refine⟨?_,?_,?_⟩
 ·rw[aB,aB,k];split<;>rfl
 ·intro x b;rcases aX.1 b with b|b
  ·exact l x b
  ·split at b
   ·simp at b;omega
   ·cases b
 ·intro rest r;cases st with
  | none=>rw[Az]at c;injection c with _ c;rw[r]at c;cases c
  | some s =>
   rw[m s rfl];obtain⟨_,q,_⟩:=BW g;cases f with
   | true=>cases e
   | false =>
    simp at e;have o:at_=(jw t (L.take a) M).length:=by
     have n:=bN List.length q;rw[aB,e,aP]at n;omega
    rw[o]
def Rb{t:List W8}:∀(L:List V1) (M:List W6) (n:Nat) (a:Bool),(jK t n a L M).length<=L.length:=by
 intro L
 induction L with
 | nil=>intro M n a;simp[jK]
 | cons b L c=>
  intro M n a;cases M with
  | nil=>simp[jK]
  | cons d M=>
   have:=c M (n+(qR (ji t b.c).key d).length) (decide (b.sort=77));simp only[jK,aB,bC];split<;>simp<;>omega
variable{H:List W6}
def DL(f:H.length=(jR m k i g).length)(e:1<=i)(j:m<=60)(d:k<=6):(jK B 4 true (jR m k i g) H).length<=360:=by
 rw[KD ⟨[],⟨0,0,0,false⟩,[],0⟩ [] _ _ _ _ ⟨[],[]⟩ f];have P:(qB ⟨[],⟨0,0,0,false⟩,[],0⟩ [] ⟨[],[]⟩ true (jR m k i g)).length=qc m i*k:=QL _ _ _ _ _ _ _ _;have h:=QP (n:=m) e;have t:qc m i*k<=60*6:=cS (by omega) d;omega
def As{b C a P:Nat}(d:1<=a)(f:1<=P)(e:a<=60)(i:b<=60)(c:C<=6):(jR b C a P).length<=21960:=by
 have g:=Gc b C a P (qc b a) f e c;have h:=QP (n:=b) d;unfold jR;omega
def P5(w:W)(T b:Nat)(a:V7):Prop:=∃cv sv pv ev,w.heap[T]?=some (.cells (L7 (a.rows:Int) a.J.group a.J.aa a.J.R cv sv pv ev) 179 (0,0))/\w.ownsRow b 61 4 cv a.U.length (Qf a.U)/\w.ownsRow b 161 6 sv (qp a).length (JH (qp a))/\w.ownsRow b 9 1 pv a.ae.length (XE a.ae)/\w.ownsRow b 167 2 ev a.ae.length (Qa a.ae)
def jfl(a:U0)(footer:B8)(w:W)(c:Ending)(d:W):Prop:=Below w.heap.size w d/\((Nh a.R a.parts footer=none/\∃v,c=.returned (.tuple #[v,.bool false]))\/∃b T,Nh a.R a.parts footer=some b/\c=.returned (.tuple #[(Q T 0),.bool true])/\P5 d T w.heap.size b)
def Tryz.ca:(Tryz.prog.info? 167).map (fun a=>(a.zero,a.size,a.bytes))=some (some (.agg #[.string ⟨#[]⟩,.string ⟨#[]⟩]),2,32):=by kernel_rfl
end
end Go.Proofs.YthhpbhpfagoapaaGreat
