
/-
  Pages: plain mathematics, nothing of the program.
-/
import Derived.Test.YthhpbhpfagoapabGreatPWays
namespace Go.Proofs.YthhpbhpfagoapabGreat

/-- The number of the k-th way of a kind. -/
def wayN (kind : Int) (k : Nat) : Nat := if kind = 0 then k else if k = 0 then 5 else k + 2

/-- Values in a way, with its number. -/
def candB (n : Nat) (v : List CellB) : List UInt8 := byB ((n : Int) % 5) :: wayB n v

/-- The best of the first k ways. -/
def bestTo (kind : Int) (v : List CellB) : Nat → List UInt8
  | 0 => []
  | k + 1 => if k = 0 ∨ (candB (wayN kind k) v).length < (bestTo kind v k).length then candB (wayN kind k) v else bestTo kind v k

/-- The page of cells. -/
def pageB (kind : Int) (l : List CellB) : List UInt8 := if valuesB l = [] then headB l else headB l ++ bestTo kind (valuesB l) 3

theorem wayB_len (n : Nat) (v : List CellB) (h : ∀ c ∈ v, smallC c) (hn : v.length ≤ 60) : (wayB n v).length ≤ 5000 := by
  have h1 := stepsTo_len n v h hn v.length
  have hd : ∀ c ∈ diffB v, smallC c := fun c hc => h c (diffTo_mem v v.length (Nat.le_refl _) c hc)
  have hl : (diffB v).length ≤ 60 := Nat.le_trans (diffTo_len v v.length) hn
  have h2 := wordsTo_len (diffB v) hd hl (diffB v).length
  unfold wayB
  rw [List.length_append]
  split <;> simp <;> omega

theorem bestTo_len (kind : Int) (v : List CellB) (h : ∀ c ∈ v, smallC c) (hn : v.length ≤ 60) (k : Nat) : (bestTo kind v k).length ≤ 5001 := by
  induction k with
  | zero => simp [bestTo]
  | succ k ih =>
    have := wayB_len (wayN kind k) v h hn
    simp only [bestTo]
    split
    · simp only [candB, List.length_cons]; omega
    · exact ih

end Go.Proofs.YthhpbhpfagoapabGreat
