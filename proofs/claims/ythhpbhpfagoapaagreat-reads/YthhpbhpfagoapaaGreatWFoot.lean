import Derived.Test.YthhpbhpfagoapaaGreatWExtra
import Derived.Deep.AppendLies
namespace Go.Proofs.YthhpbhpfagoapaaGreat
set_option linter.unusedVariables false
set_option linter.unusedSimpArgs false
set_option maxRecDepth 100000
set_option maxHeartbeats 16000000
open Go.RowKit
def zx (ps:List Nat):List Value:=ps.map fun (n:Nat)=>Value.int .i64 (n:Int)
theorem jq {w w':World} {u:Value} {base e size n q:Nat} {xs:List Value} {C:Array Value} {t:TypeId} (hg:w.grownBy w' u.ownBlock) (ho:w.ownsRow base e size u n xs) (h:w.heap[q]?=some (.cells C t (0,0))) (ht:t≠e) :
  w'.heap[q]?=some (.cells C t (0,0)):=by
 rw [hg.block q (Array.getElem?_eq_some_iff.1 h).1 ?_]
 ·exact h
 ·intro hq
  rcases ho.2 with ⟨rfl,_⟩|⟨g,cap,cur,rfl,_,hgg,_⟩
  ·simp [Value.ownBlock] at hq
  ·simp [Value.ownBlock] at hq
   subst hq
   rw [h] at hgg
   cases hgg
   exact ht rfl
theorem jb {w w':World} {q:Nat} {o:Obj} (hb:Below w.heap.size w w') (h:w.heap[q]?=some o):w'.heap[q]?=some o :=
 (hb.block q (Array.getElem?_eq_some_iff.1 h).1).trans h
theorem jt {w:World} {q:Nat} {o:Obj} (o':Obj) (h:w.heap[q]?=some o):(w.alloc o').heap[q]?=some o :=
 (World.grownBy_alloc w o' none).block q (Array.getElem?_eq_some_iff.1 h).1 (by simp) |>.trans h
theorem Bk {w:World} {q:Nat} {x y z u:Value} {t:TypeId} (h:w.heap[q]?=some (.cells #[x,y,z,u] t (0,0))):w.cell? ⟨q,0,none⟩=some x∧w.cell? ⟨q,1,none⟩=some y∧w.cell? ⟨q,2,none⟩=some z :=
 ⟨by rw [jd h];rfl,by rw [jd h];rfl,by rw [jd h];rfl⟩
theorem UX {α:Type} (f:α→List UInt8) (l:List α) (k:Nat) (h:k < l.length):(l.take (k+1)).flatMap f=(l.take k).flatMap f++f l[k]:=by
 rw [List.take_succ_eq_append_getElem h,List.flatMap_append];simp
theorem MW {w:World} {base:Nat} {pv:Value} {ps:List Nat} (h:w.ownsRow base 3 1 pv ps.length (zx ps)) :
  ∃ pa pc,pv=.slice pa ps.length pc∧∀ j (hj:j < ps.length),∃ g,pa=some ⟨g,0,none⟩∧g < w.heap.size∧w.cell? ⟨g,j,none⟩=some (.int .i64 ((ps[j]:Nat):Int)):=by
 rcases h.2 with ⟨rfl,h0⟩|⟨g,cap,cur,rfl,_⟩
 ·exact ⟨none,0,by rw [h0],fun j hj=>by omega⟩
 ·refine ⟨some ⟨g,0,none⟩,cap,rfl,fun j hj=>⟨g,rfl,(h.lt g rfl).2,?_⟩⟩
  rw [h.cellAt j (by omega)]
  simp [zx,hj]
end Go.Proofs.YthhpbhpfagoapaaGreat
