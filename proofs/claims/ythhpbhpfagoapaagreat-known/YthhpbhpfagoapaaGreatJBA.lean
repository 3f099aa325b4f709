import Derived.Test.YthhpbhpfagoapaaGreatJBB
import Derived.Test.YthhpbhpfagoapaaGreatJAS
namespace Go.Proofs.YthhpbhpfagoapaaGreat
set_option linter.unusedVariables false
set_option linter.unusedSimpArgs false
set_option maxRecDepth 100000
set_option maxHeartbeats 16000000
section
open Go.RowKit
def Pb (T:List TypeId) (o:Obj):Prop:=∃ cur t,o=.cells cur t (0,0)∧t ∈ T
structure KeptT (T:List TypeId) (B:Nat) (w w':World):Prop where
 os:w'.os=w.os
 tape:w'.tape=w.tape
 output:w'.output=w.output
 size:w.heap.size≤w'.heap.size
 block:∀ k,k < B→w'.heap[k]?=w.heap[k]?
 other:∀ (k:Nat) (o:Obj),w.heap[k]?=some o→¬ Pb T o→w'.heap[k]?=some o
variable {T:List TypeId} {B:Nat}
theorem KeptT.refl (T:List TypeId) (B:Nat) (w:World):KeptT T B w w:=⟨rfl,rfl,rfl,Nat.le_refl _,fun _ _=>rfl,fun _ _ h _=>h⟩
theorem KeptT.trans {a b c:World} (h:KeptT T B a b) (k:KeptT T B b c):KeptT T B a c :=
 ⟨k.os.trans h.os,k.tape.trans h.tape,k.output.trans h.output,Nat.le_trans h.size k.size,fun i hi=>(k.block i hi).trans (h.block i hi),fun i o hi ho=>k.other i o (h.other i o hi ho) ho⟩
theorem KeptT.below {a b:World} (h:KeptT T B a b):Below B a b:=⟨h.os,h.tape,h.output,h.size,h.block⟩
theorem Below.keptT {a b:World} (h:Below a.heap.size a b) (hB:B≤a.heap.size):KeptT T B a b :=
 ⟨h.os,h.tape,h.output,h.size,fun k hk=>h.block k (by omega),fun k o hk _=>(h.block k (Array.getElem?_eq_some_iff.1 hk).1).trans hk⟩
theorem KeptT.drew {a b:World} (h:KeptT T B a b):KeptT T B a b.drew:=⟨h.os,h.tape,h.output,h.size,h.block,h.other⟩
theorem KeptT.undrew {a b:World} (h:KeptT T B a.drew b):KeptT T B a b:=⟨h.os,h.tape,h.output,h.size,h.block,h.other⟩
theorem KeptT.alloc {a b:World} (h:KeptT T B a b) (hB:B≤b.heap.size) (o:Obj):KeptT T B a (b.alloc o) :=
 h.trans (Below.keptT ((Below.refl _ _).alloc (Nat.le_refl _) _) hB)
theorem KeptT.grown {a b c:World} {row:Option Nat} (h:KeptT T B a b) (hg:b.grownBy c row) (hB:B≤b.heap.size)
  (hr:∀ k,row=some k→B≤k∧∃ o,b.heap[k]?=some o∧Pb T o):KeptT T B a c:=by
 refine h.trans ⟨hg.os,hg.tape,hg.output,hg.size,fun k hk=>hg.block k (by omega) (fun e=>by have:=(hr k e.symm).1;omega),fun k o hk ho=>?_⟩
 rw [hg.block k (Array.getElem?_eq_some_iff.1 hk).1 ?_]
 ·exact hk
 ·intro e
  obtain ⟨_,o',h1,h2⟩:=hr k e.symm
  rw [hk] at h1
  cases h1
  exact ho h2
theorem RO {w:World} {base:Nat} {e:TypeId} {size:Nat} {v:Value} {n:Nat} {xs:List Value} (h:w.ownsRow base e size v n xs) (he:e ∈ T) :
  ∀ k,v.ownBlock=some k→base≤k∧∃ o,w.heap[k]?=some o∧Pb T o:=by
 intro k hk
 rcases h.2 with ⟨rfl,_⟩|⟨g,cap,cur,rfl,hb,hg,_⟩
 ·simp [Value.ownBlock] at hk
 ·simp [Value.ownBlock] at hk
  subst hk
  exact ⟨hb,_,hg,cur,e,rfl,he⟩
theorem KeptT.owns {w w':World} {base:Nat} {e:TypeId} {size:Nat} {v:Value} {n:Nat} {xs:List Value} (hk:KeptT T B w w') (h:w.ownsRow base e size v n xs) (he:¬ e ∈ T):w'.ownsRow base e size v n xs:=by
 refine ⟨h.1,?_⟩
 rcases h.2 with hn|⟨g,cap,cur,rfl,hb,hg,rest⟩
 ·exact .inl hn
 ·refine .inr ⟨g,cap,cur,rfl,hb,hk.other g _ hg ?_,rest⟩
  rintro ⟨cur',t,e1,ht⟩
  cases e1
  exact he ht
theorem KeptT.row {w w':World} {g:Nat} {cur:Array Value} {e:TypeId} (hk:KeptT T B w w') (h:w.heap[g]?=some (.cells cur e (0,0))) (he:¬ e ∈ T):w'.heap[g]?=some (.cells cur e (0,0)):=by
 refine hk.other g _ h ?_
 rintro ⟨cur',t,e1,ht⟩
 cases e1
 exact he ht
theorem ja {w:World} {g j:Nat} {cur:Array Value} {e:TypeId} (h:w.heap[g]?=some (.cells cur e (0,0))):w.cell? ⟨g,j,none⟩=cur[j]?:=cell_of_row w g j cur e (0,0) h
theorem KeptT.set {a w:World} {g j:Nat} {cur:Array Value} {e:TypeId} (h:KeptT T B a w) (hg:w.heap[g]?=some (.cells cur e (0,0))) (hB:B≤g) (he:e ∈ T) (v:Value):KeptT T B a (w.setCell ⟨g,j,none⟩ v):=by
 refine h.trans ⟨rfl,rfl,rfl,by simp,fun k hk=>heap_setCell_other w ⟨g,j,none⟩ k v (by simp;omega),fun k o hk ho=>?_⟩
 rw [heap_setCell_other w ⟨g,j,none⟩ k v ?_]
 ·exact hk
 ·intro e1
  simp only at e1
  subst e1
  rw [hg] at hk
  cases hk
  exact ho ⟨cur,e,rfl,he⟩
theorem QA {α:Type} (f:α→List Value) (m:Nat) (hf:∀ x,(f x).length=m) (l:List α):∀ (j i:Nat) (hj:j < l.length) (hi:i < m),(l.flatMap f)[j*m+i]?=(f l[j])[i]?:=by
 induction l with
 | nil=>intro j i hj;simp at hj
 | cons x l ih =>
  intro j i hj hi
  rw [List.flatMap_cons]
  cases j with
  | zero=>rw [List.getElem?_append_left (by rw [hf];omega)];simp
  | succ j =>
   have hj':j < l.length:=by simpa using hj
   rw [List.getElem?_append_right (by rw [hf,Nat.succ_mul];omega),hf]
   rw [show (j+1)*m+i - m=j*m+i by rw [Nat.succ_mul];omega]
   exact ih j i hj' hi
theorem VK {α:Type} (f:α→List Value) (m:Nat) (hf:∀ x,(f x).length=m) (l:List α):(l.flatMap f).length=l.length*m:=by
 induction l with
 | nil=>simp
 | cons x l ih=>rw [List.flatMap_cons,List.length_append,hf,ih,List.length_cons,Nat.succ_mul];omega
theorem qa (w:World) (C:Array Value) (t:TypeId):Below w.heap.size w (w.alloc (.cells C t))∧w.heap.size < (w.alloc (.cells C t)).heap.size∧(∀ j,(w.alloc (.cells C t)).cell? ⟨w.heap.size,j,none⟩=C[j]?)∧(w.alloc (.cells C t)).heap[w.heap.size]?=some (.cells C t (0,0)) :=
 ⟨(Below.refl _ _).alloc (Nat.le_refl _) _,by simp,fun j=>World.cell?_alloc_mark ..,heap_alloc_new w _⟩
theorem Ql (w:World):Below w.heap.size w w.drew:=ji (Below.refl _ _)
end
section
theorem Cu (sec non ext p:List UInt8):(xV sec non ext p).take ((xV sec non ext p).length - 2)=zo sec non p:=by
 rw [xK]
 unfold xV
 rw [show p.length+2 - 2=(zo sec non p).length by rw [Jl];omega,List.take_left]
theorem Ut (sec non ext p:List UInt8) (h:p.length≤5000):xy sec non ext (xV sec non ext p)=some p:=by
 have e:zo sec non ((xV sec non ext p).take ((xV sec non ext p).length - 2))=p:=by rw [Cu,VF]
 unfold xy
 rw [e,if_pos ⟨by rw [xK];omega,by rw [xK];omega,rfl⟩]
theorem GZ {sec non ext b p:List UInt8} (h:xy sec non ext b=some p):b=xV sec non ext p∧b.length≤5002:=by
 unfold xy at h
 split at h
 ·rename_i hc
  cases h
  exact ⟨hc.2.2.symm,hc.1⟩
 ·cases h
def Xb (j:JobB) (r:List KeyB):Nat→List SpotB→List ModF
 | _,[]=>[]
 | n,s :: L =>
  if (je j.table s.c).key=0 then ⟨qP j.table s,[],[]⟩ :: Xb j r n L
  else ⟨[],xM j.draw n,xV (jl r (je j.table s.c).key) (xM j.draw n) (qE j.pre s.sort s.g s.c s.p) (qP j.table s)⟩ :: Xb j r (n+1) L
theorem Ck (j:JobB) (r:List KeyB):∀ (L:List SpotB) (st:StB),(qw j r st L).out=st.out++jk j.table L (Xb j r st.log.length L):=by
 intro L
 induction L with
 | nil=>intro st;simp [qw,Xb,jk]
 | cons s L ih =>
  intro st
  show (qw j r (zF j r st s) L).out=_
  rw [ih]
  simp only [Xb]
  by_cases hk:(je j.table s.c).key=0
  ·rw [if_pos hk]
   simp only [jk,zF,Qe,hk,if_true,zP,qq,List.append_assoc]
  ·rw [if_neg hk]
   simp only [jk,zF,Qe,if_neg hk,zA,qq,List.append_assoc,List.length_append,List.length_cons,List.length_nil,Nat.zero_add]
theorem Yz (j:JobB) (r:List KeyB):∀ (L:List SpotB) (st:StB) (b:Bool),qC j r st b L=jx j.table st.out.length b L (Xb j r st.log.length L):=by
 intro L
 induction L with
 | nil=>intro st b;simp [qC,Xb,jx]
 | cons s L ih =>
  intro st b
  simp only [qC]
  rw [ih]
  simp only [Xb]
  by_cases hk:(je j.table s.c).key=0
  ·rw [if_pos hk]
   simp only [jx,zF,Qe,hk,if_true,zP,qq,List.length_append]
  ·rw [if_neg hk]
   simp only [jx,zF,Qe,if_neg hk,zA,qq,List.length_append,List.length_cons,List.length_nil,Nat.zero_add]
theorem TM (j:JobB) (r:List KeyB):∀ (L:List SpotB) (n:Nat),(∀ s ∈ L,(qP j.table s).length≤5000)→ModsOk j.table L (Xb j r n L):=by
 intro L
 induction L with
 | nil=>intro n _;exact .nil
 | cons s L ih =>
  intro n h
  have hp:=h s (by simp)
  simp only [Xb]
  by_cases hk:(je j.table s.c).key=0
  ·rw [if_pos hk]
   exact .cons (.inl ⟨hk,rfl,rfl,by show (qP j.table s).length≤_;omega⟩) (ih _ (fun x hx=>h x (List.mem_cons_of_mem _ hx)))
  ·rw [if_neg hk]
   refine .cons (.inr ⟨hk,rfl,rfl,?_,?_⟩) (ih _ (fun x hx=>h x (List.mem_cons_of_mem _ hx)))
   ·show 2≤(xV ..).length;rw [xK];omega
   ·show (xV ..).length≤65535;rw [xK];omega
def DR (c:ColB):ColB:=⟨c.name,c.kind,c.key,[]⟩
def zk (t:List ColB):List ColB:=t.map DR
theorem Gq (t:List ColB) (c:Nat):je (zk t) c=DR (je t c):=by
 unfold je zk
 rw [List.getD_eq_getElem?_getD,List.getD_eq_getElem?_getD,List.getElem?_map]
 cases t[c]?<;>rfl
theorem AJ (t:List ColB):∀ (L:List SpotB) (M:List ModF),jk (zk t) L M=jk t L M:=by
 intro L
 induction L with
 | nil=>intro M;rfl
 | cons s L ih=>intro M;cases M with
  | nil=>rfl
  | cons m M=>simp only [jk,Gq,ih];rfl
theorem Ik (t:List ColB):∀ (L:List SpotB) (M:List ModF) (n:Nat) (b:Bool),jx (zk t) n b L M=jx t n b L M:=by
 intro L
 induction L with
 | nil=>intro M n b;rfl
 | cons s L ih=>intro M n b;cases M with
  | nil=>rfl
  | cons m M=>simp only [jx,Gq,ih];rfl
theorem Ms {t:List ColB} {L:List SpotB} {M:List ModF} (h:ModsOk t L M):ModsOk (zk t) L M:=by
 induction h using ModsOk.ind with
 | nil=>exact .nil
 | cons hm _ ih=>exact .cons (by rw [Gq];exact hm) ih
theorem If (R:Nat) (p:PlanB) (b:Bool) (t:List ColB) (pl:List Nat):qd R ⟨p.group,p.page,p.foot,b⟩ (zk t) pl=qd R p t pl:=by
 have e:(zk t).flatMap jT=t.flatMap jT:=by
  unfold zk
  rw [List.flatMap_map]
  rfl
 unfold qd
 rw [e]
 simp [zk]
theorem MI (t:List ColB) (s:List UInt8):xL (zk t) s=xL t s:=by
 unfold xL zk
 rw [List.any_map]
 rfl
theorem Yw (t:List ColB):∀ n,zH (zk t) n=zH t n:=by
 intro n
 induction n with
 | zero=>rfl
 | succ n ih =>
  simp only [zH,ih]
  have e:(zk t)[n]?=(t[n]?).map DR:=by unfold zk;rw [List.getElem?_map]
  rw [e]
  cases h:t[n]? with
  | none=>rfl
  | some c =>
   have e2:(zk t).take n=zk (t.take n):=by unfold zk;rw [List.map_take]
   simp only [Option.map_some,e2,MI]
   rfl
theorem Dx (t:List ColB):jQ (zk t)=jQ t:=by
 unfold jQ
 rw [show (zk t).length=t.length by simp [zk],Yw]
def IZ (j:JobB) (r:List KeyB):List UInt8:=jk j.table (qS j) (Xb j r 0 (qS j))
def zm (j:JobB) (r:List KeyB):SheetF:=⟨jY j.table,⟨j.plan.group,j.plan.page,j.plan.foot,false⟩,zk j.table,Xb j r 0 (qS j)⟩
theorem Xg (j:JobB) (r:List KeyB):qJ (zm j r)=qS j:=by
 simp [qJ,zm,qS,zk]
theorem GoodJ.plains {j:JobB} {r:List KeyB} (h:GoodJ j r):∀ s ∈ qS j,(qP j.table s).length≤5000:=by
 intro s hs
 have hi:=h.spotIn s hs
 have:=KV h.table hi.col hi.few.2.2.2.2
 omega
theorem ME {j:JobB} {r:List KeyB} (h:GoodJ j r):SheetOk j.plan.foot.toNat (IZ j r) (xX j r) (zm j r):=by
 obtain ⟨_,_,hf1,hf2⟩:=h.sizes
 refine ⟨h.table.rows,?_,rfl,?_,?_,?_,?_,?_,?_⟩
 ·exact h.plan
 ·show j.plan.foot=_;omega
 ·show jQ (zk j.table)=true
  rw [Dx]
  have:=h.table.ok
  simp only [xl,Bool.and_eq_true] at this
  exact this.1
 ·intro c hc
  simp only [zm,zk,List.mem_map] at hc
  obtain ⟨x,_,rfl⟩:=hc
  rfl
 ·rw [Xg]
  exact Ms (TM j r _ 0 h.plains)
 ·rw [Xg]
  exact (AJ ..).symm
 ·rw [Xg]
  show xX j r=qd (jY j.table) ⟨j.plan.group,j.plan.page,j.plan.foot,false⟩ (zk j.table) (jx (zk j.table) 4 true (qS j) (Xb j r 0 (qS j)))
  rw [If,Ik]
  unfold xX zq
  rw [Yz]
  rfl
def Qf (j:JobB) (r:List KeyB):FormF :=
 ⟨j.plan.told,j.plan.foot.toNat,IZ j r,if j.plan.told=true then xX j r else [],xM j.draw (xq j r).log.length,
  xV (jl r j.plan.foot) (xM j.draw (xq j r).log.length) (if j.plan.told=true then qE j.pre 83 0 0 0++xX j r else qE j.pre 70 0 0 0) (if j.plan.told=true then [] else xX j r)⟩
theorem Aa (j:JobB) (r:List KeyB):(xq j r).out=za j.plan++IZ j r:=Ck j r (qS j) ⟨za j.plan,[]⟩
theorem GP {j:JobB} {r:List KeyB} (h:GoodJ j r):xC j r=xd (Qf j r):=by
 obtain ⟨_,_,hf1,hf2⟩:=h.sizes
 have hfoot:((j.plan.foot.toNat:Nat):Int)=j.plan.foot:=by omega
 have hout:(Jf j r (xX j r) (xq j r)).out=(xq j r).out++qh (Qf j r):=by
  unfold Jf qh Qf
  cases ht:j.plan.told with
  | true=>simp only [if_true,zA,zP,List.append_assoc]
  | false=>simp only [if_false,Bool.false_eq_true,zA,List.append_assoc,List.nil_append]
 have hlen:(Jf j r (xX j r) (xq j r)).out.length - (xq j r).out.length=(qh (Qf j r)).length:=by
  rw [hout,List.length_append];omega
 unfold xC
 rw [hlen,hout,Aa]
 unfold xd za
 simp only [Qf,hfoot,List.append_assoc]
 rfl
theorem Tt {j:JobB} {r:List KeyB} (h:GoodJ j r) (hs:(xC j r).length≤65000):FormOk (Qf j r):=by
 obtain ⟨_,_,hf1,hf2⟩:=h.sizes
 refine ⟨Ve _ _,?_,?_,by rw [← GP h];exact hs,?_⟩
 ·show 2≤(xV ..).length;rw [xK];omega
 ·show 1≤j.plan.foot.toNat∧j.plan.foot.toNat≤9;omega
 ·intro ht
  show (if j.plan.told=true then xX j r else [])=[]
  rw [if_neg (by rw [show j.plan.told=false from ht];decide)]
theorem Es {j:JobB} {r:List KeyB} (h:GoodJ j r) (hs:(xC j r).length≤65000):Ja (xC j r)=some (Qf j r):=by
 rw [GP h]
 exact Kv (Tt h hs)
def Plains (t:List ColB) (pre:List UInt8) (r:List KeyB) (c:Nat):List SpotB→List ModF→Prop
 | [],[]=>True
 | s :: L,m :: M=>(s.c=c→QX pre r (je t c).key s m=some (qP t s))∧Plains t pre r c L M
 | _,_=>False
theorem Plains.nil {t:List ColB} {pre:List UInt8} {r:List KeyB} {c:Nat}:Plains t pre r c [] []:=trivial
theorem Plains.cons {t:List ColB} {pre:List UInt8} {r:List KeyB} {c:Nat} {s:SpotB} {L:List SpotB} {m:ModF} {M:List ModF} (a:s.c=c→QX pre r (je t c).key s m=some (qP t s)) (b:Plains t pre r c L M):Plains t pre r c (s :: L) (m :: M):=And.intro a b
theorem Plains.ind {t:List ColB} {pre:List UInt8} {r:List KeyB} {c:Nat} {motive:(L:List SpotB)→(M:List ModF)→Plains t pre r c L M→Prop} (nil:motive [] [] .nil)
  (cons:∀ {s:SpotB} {L:List SpotB} {m:ModF} {M:List ModF} (a:s.c=c→QX pre r (je t c).key s m=some (qP t s)) (b:Plains t pre r c L M),motive L M b→motive (s :: L) (m :: M) (.cons a b)):∀ {L:List SpotB} {M:List ModF} (h:Plains t pre r c L M),motive L M h
 | [],[],_=>nil
 | _ :: _,_ :: _,h=>cons h.1 h.2 (Plains.ind nil cons h.2)
 | [],_ :: _,h=>absurd h id
 | _ :: _,[],h=>absurd h id
theorem Plains.cut {t:List ColB} {pre:List UInt8} {r:List KeyB} {c:Nat} {L:List SpotB}:∀ {L2:List SpotB} {M:List ModF},Plains t pre r c (L++L2) M→∃ M1 M2,M=M1++M2∧M1.length=L.length∧Plains t pre r c L M1∧Plains t pre r c L2 M2:=by
 induction L with
 | nil=>intro L2 M h;exact ⟨[],M,rfl,rfl,.nil,h⟩
 | cons s L ih =>
  intro L2 M h
  cases h using Plains.ind with
  | cons hm h2 =>
   obtain ⟨M1,M2,h3,h3',h4,h5⟩:=ih h2
   exact ⟨_ :: M1,M2,by rw [h3];rfl,by simp [h3'],.cons hm h4,h5⟩
theorem Yg {j:JobB} {r r2:List KeyB} {c:Nat} (hk:(je j.table c).key=0∨jl r2 (je j.table c).key=jl r (je j.table c).key):∀ (L:List SpotB) (n:Nat),(∀ s ∈ L,(qP j.table s).length≤5000)→Plains j.table j.pre r2 c L (Xb j r n L):=by
 intro L
 induction L with
 | nil=>intro n _;exact .nil
 | cons s L ih =>
  intro n h
  simp only [Xb]
  by_cases h0:(je j.table s.c).key=0
  ·rw [if_pos h0]
   refine .cons (fun hc=>?_) (ih _ (fun x hx=>h x (List.mem_cons_of_mem _ hx)))
   rw [hc] at h0
   simp [QX,h0]
  ·rw [if_neg h0]
   refine .cons (fun hc=>?_) (ih _ (fun x hx=>h x (List.mem_cons_of_mem _ hx)))
   rw [hc] at h0
   rcases hk with hk|hk
   ·exact absurd hk h0
   ·unfold QX
    rw [if_neg h0,hk,hc]
    simp only [hc]
    exact Ut _ _ _ _ (h s (by simp))
theorem Dy {α:Type} (l:List α) (a n:Nat):l.take a++(l.drop a).take n=l.take (a+n):=(List.take_add).symm
theorem Mz {t:List ColB} {pre:List UInt8} {r:List KeyB} {s:SpotB} {m:ModF} (hg:GoodT t) (hc:s.c < t.length) (hsort:s.sort=80) (hend:s.start+s.many≤jY t) (hp:QX pre r (je t s.c).key s m=some (qP t s)) :
  Xa pre r (je t s.c).kind (je t s.c).key ((je t s.c).cells.take s.start) s m=some ((je t s.c).cells.take (s.start+s.many)):=by
 obtain ⟨h1,h2,h3⟩:=hg.cells s.c hc
 have hok:jR (t[s.c]).kind (((t[s.c]).cells.drop s.start).take s.many)=true:=by
  have:=(Vm hg.ok).2 t[s.c] (List.getElem_mem hc)
  have h4:=this.1
  simp only [jR,Bool.and_eq_true,Bool.or_eq_true,decide_eq_true_eq,List.all_eq_true] at h4 ⊢
  refine ⟨⟨h4.1.1,by rw [List.length_take];omega⟩,fun x hx=>h4.2 x (List.mem_of_mem_drop (List.mem_of_mem_take hx))⟩
 have hr:∀ x ∈ ((t[s.c]).cells.drop s.start).take s.many,Jh x:=fun x hx=>by
  have:=h3 x (List.mem_of_mem_drop (List.mem_of_mem_take hx))
  exact ⟨this.1,this.2.1⟩
 rw [zg hc] at hp ⊢
 unfold Xa
 rw [hp]
 have hpl:qP t s=xg (t[s.c]).kind (((t[s.c]).cells.drop s.start).take s.many):=by
  unfold qP
  rw [if_neg (by rw [hsort];decide),zg hc]
 simp only [hpl,if_neg (show ¬ s.sort=77 from by rw [hsort];decide),Zd _ _ hok hr]
 rw [if_pos (by rw [List.length_take,List.length_drop];omega),Dy]
theorem Cc {t:List ColB} {pre:List UInt8} {r:List KeyB} {s:SpotB} {m:ModF} (hc:s.c < t.length) (hsort:s.sort=77) (hp:QX pre r (je t s.c).key s m=some (qP t s)) :
  Xa pre r (je t s.c).kind (je t s.c).key ((je t s.c).cells.take (s.start+s.many)) s m=some ((je t s.c).cells.take (s.start+s.many)):=by
 unfold Xa
 rw [hp]
 have hpl:qP t s=JI (je t s.c).kind (((je t s.c).cells.drop s.start).take s.many):=by
  unfold qP
  rw [if_pos hsort]
 simp only [hpl,if_pos hsort]
 rw [if_pos]
 rw [List.drop_take,Nat.add_sub_cancel_left]
theorem Ek {t:List ColB} {pre:List UInt8} {r:List KeyB} {R G P g c:Nat} (hg:GoodT t) (hR:R=jY t) (hG:g*G < R) (hc:c < t.length) (hP:1≤P):∀ (k:Nat) (M:List ModF),k≤jZ (jo R G g) P→Plains t pre r c (jr P g c (g*G) (jo R G g) k) M →
  jz pre r (je t c).kind (je t c).key c (some ((je t c).cells.take (g*G))) (jr P g c (g*G) (jo R G g) k) M=some ((je t c).cells.take (g*G+min (k*P) (jo R G g))):=by
 intro k
 induction k with
 | zero=>intro M _ h;cases h using Plains.ind;simp [jz]
 | succ k ih =>
  intro M hk h
  rw [JK] at h ⊢
  obtain ⟨M1,M2,rfl,hl,h1,h2⟩:=h.cut
  rw [xJ _ _ _ _ _ _ _ _ _ _ hl,ih M1 (by omega) h1]
  have hlt:=(Ju (n:=jo R G g) (i:=k) hP).1 (by omega)
  have hpn:=jo R G g
  have hpe:g*G+jo R G g≤R:=by unfold jo;omega
  cases h2 using Plains.ind with
  | cons hm h3 =>
   cases h3 using Plains.ind
   rename_i m _ih
   have e1:min (k*P) (jo R G g)=k*P:=by omega
   rw [e1]
   have:=Mz (m:=m) (pre:=pre) (r:=r) (s:=⟨80,g,c,k,g*G+k*P,jo (jo R G g) P k⟩) hg hc rfl (by simp only [jo] at *;omega) (hm rfl)
   simp only at this
   have e2:=XH pre r (je t c).kind (je t c).key ⟨80,g,c,k,g*G+k*P,jo (jo R G g) P k⟩ m ((je t c).cells.take (g*G+k*P))
   simp only at e2
   rw [e2,this,Nat.succ_mul]
   congr 2
   have:jo (jo R G g) P k=min P (jo R G g - k*P):=rfl
   omega
theorem YK {t:List ColB} {pre:List UInt8} {r:List KeyB} {R G P g c:Nat} (hg:GoodT t) (hR:R=jY t) (hG:g*G < R) (hc:c < t.length) (hP:1≤P) {M:List ModF} (h:Plains t pre r c (jg R G P g c) M) :
  jz pre r (je t c).kind (je t c).key c (some ((je t c).cells.take (g*G))) (jg R G P g c) M=some ((je t c).cells.take (g*G+jo R G g)):=by
 unfold jg at h ⊢
 obtain ⟨M1,M2,rfl,hl,h1,h2⟩:=h.cut
 rw [xJ _ _ _ _ _ _ _ _ _ _ hl,Ek hg hR hG hc hP _ M1 (Nat.le_refl _) h1]
 have hm:=UL (n:=jo R G g) hP
 rw [show min (jZ (jo R G g) P*P) (jo R G g)=jo R G g by omega]
 cases h2 using Plains.ind with
 | cons hm h3 =>
  cases h3 using Plains.ind
  rename_i m _ih
  have:=Cc (m:=m) (pre:=pre) (r:=r) (s:=⟨77,g,c,0,g*G,jo R G g⟩) hc rfl (hm rfl)
  have e2:=XH pre r (je t c).kind (je t c).key ⟨77,g,c,0,g*G,jo R G g⟩ m ((je t c).cells.take (g*G+jo R G g))
  simp only at e2 this
  rw [e2,this]
theorem Yy {t:List ColB} {pre:List UInt8} {r:List KeyB} {R G P g c:Nat} (hg:GoodT t) (hR:R=jY t) (hG:g*G < R) (hc:c < t.length) (hP:1≤P):∀ (C:Nat) (M:List ModF),Plains t pre r c (jp R G P g C) M →
  jz pre r (je t c).kind (je t c).key c (some ((je t c).cells.take (g*G))) (jp R G P g C) M=some ((je t c).cells.take (if c < C then g*G+jo R G g else g*G)):=by
 intro C
 induction C with
 | zero=>intro M h;cases h using Plains.ind;simp [jp,jz]
 | succ C ih =>
  intro M h
  rw [zE] at h ⊢
  obtain ⟨M1,M2,rfl,hl,h1,h2⟩:=h.cut
  rw [xJ _ _ _ _ _ _ _ _ _ _ hl,ih M1 h1]
  by_cases hlt:c < C
  ·rw [if_pos hlt,if_pos (by omega),XP]
   intro s hs;rw [Xl s hs];omega
  ·rw [if_neg hlt]
   by_cases he:c=C
   ·subst he
    rw [if_pos (by omega),YK hg hR hG hc hP h2]
   ·rw [if_neg (by omega),XP]
    intro s hs;rw [Xl s hs];omega
theorem Mi {t:List ColB} {pre:List UInt8} {r:List KeyB} {R G P c:Nat} (hg:GoodT t) (hR:R=jY t) (hG:1≤G) (hc:c < t.length) (hP:1≤P):∀ (n:Nat) (M:List ModF),n≤jZ R G→Plains t pre r c (jy R t.length G P n) M →
  jz pre r (je t c).kind (je t c).key c (some []) (jy R t.length G P n) M=some ((je t c).cells.take (min (n*G) R)):=by
 intro n
 induction n with
 | zero=>intro M _ h;cases h using Plains.ind;simp [jy,jz]
 | succ n ih =>
  intro M hn h
  rw [zC] at h ⊢
  obtain ⟨M1,M2,rfl,hl,h1,h2⟩:=h.cut
  have hlt:=(Ju (n:=R) (i:=n) hG).1 (by omega)
  rw [xJ _ _ _ _ _ _ _ _ _ _ hl,ih M1 (by omega) h1]
  have e:min (n*G) R=n*G:=by omega
  rw [e,Yy hg hR hlt hc hP _ M2 h2,if_pos hc,Nat.succ_mul]
  congr 2
  unfold jo
  omega
theorem Dg {j:JobB} {r r2:List KeyB} {c:Nat} (h:GoodJ j r) (hc:c < j.table.length) (hk:(j.table[c]).key=0∨jl r2 (j.table[c]).key=jl r (j.table[c]).key) :
  jz j.pre r2 (j.table[c]).kind (j.table[c]).key c (some []) (qJ (zm j r)) (zm j r).mods=some (j.table[c]).cells:=by
 obtain ⟨⟨a,b⟩,⟨d,e⟩,_⟩:=h.sizes
 rw [Xg]
 rw [← zg hc] at hk
 have h1:=Yg (r:=r) (r2:=r2) hk (qS j) 0 h.plains
 have h2:=Mi (pre:=j.pre) (r:=r2) h.table rfl a hc d _ _ (Nat.le_refl _) h1
 show jz j.pre r2 _ _ c (some []) (qS j) (Xb j r 0 (qS j))=_
 rw [zg hc] at h2
 unfold qS qi at *
 rw [h2]
 congr 1
 obtain ⟨h3,_⟩:=h.table.cells c hc
 have h4:=UL (n:=jY j.table) a
 rw [show min (jZ (jY j.table) j.plan.group.toNat*j.plan.group.toNat) (jY j.table)=jY j.table by omega,← h3,List.take_length]
end
end Go.Proofs.YthhpbhpfagoapaaGreat
