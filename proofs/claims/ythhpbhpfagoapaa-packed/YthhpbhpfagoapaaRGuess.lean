/-
  What the document's guess of values does, by a walk.
-/
import Derived.Test.YthhpbhpfagoapaaRSpot2
import Derived.Test.YthhpbhpfagoapaaRDiff
import Derived.Test.YthhpbhpfagoapaaPUnpage
import Derived.Deep.DeepCutAuto
import Derived.Deep.RegionWith
namespace Go.Proofs.Ythhpbhpfagoapaa
open Go.RowKit
set_option linter.unusedVariables false
set_option maxRecDepth 100000

theorem keep_row {wr w1 : World} {B p e sz n : Nat} {v : Value} {xs : List Value} (h : wr.ownsRow B e sz v n xs) (hp : p < B) (hg : wr.grownBy w1 (some p)) : w1.ownsRow B e sz v n xs := by
  refine h.kept hg ?_
  cases hv : v.ownBlock with
  | none => exact .inl rfl
  | some k =>
    right
    have := (h.lt k hv).1
    simp only [ne_eq, Option.some.injEq]
    omega

theorem spot_alloc {w : World} {p : Nat} {s : List UInt8} {st : Option (List UInt8)} (h : SpotAt w p s st) (hp : p < w.heap.size) (o : Obj) : SpotAt (w.alloc o) p s st := by
  obtain ⟨at_, bad, hrow, hat, hst⟩ := h
  exact ⟨at_, bad, by rw [Below.heap_alloc w o p hp]; exact hrow, hat, hst⟩

theorem spot_other {w : World} {p : Nat} {s : List UInt8} {st : Option (List UInt8)} (h : SpotAt w p s st) {q : Addr} (hq : p ≠ q.block) (v : Value) : SpotAt (w.setCell q v) p s st := by
  obtain ⟨at_, bad, hrow, hat, hst⟩ := h
  exact ⟨at_, bad, by rw [Below.heap_setCell w q v p hq]; exact hrow, hat, hst⟩

theorem grown_alloc {w wr : World} {p : Option Nat} (h : w.grownBy wr p) (o : Obj) : w.grownBy (wr.alloc o) p := grown_trans h (World.grownBy_alloc wr o p)

theorem grown_new {w wr : World} {p : Option Nat} (h : w.grownBy wr p) {q : Addr} (hq : w.heap.size ≤ q.block) (v : Value) : w.grownBy (wr.setCell q v) p :=
  ⟨h.os, h.tape, h.output, by have := h.size; simp; omega, fun k hk hne => by rw [Below.heap_setCell wr q v k (by omega)]; exact h.block k hk hne⟩

/-- A block of a cell, whole. -/
def Block3 (w : World) (g : Nat) (c : CellB) : Prop := w.heap[g]? = some (.cells #[.bool c.null, .int .i64 c.int, strB c.text] 48 (0, 0))

theorem Block3.kept {w w1 : World} {p g : Nat} {c : CellB} (h : Block3 w g c) (hg : w.grownBy w1 (some p)) (hlt : g < w.heap.size) (hne : g ≠ p) : Block3 w1 g c := by
  unfold Block3
  rw [hg.block g hlt (by simp [hne])]
  exact h

theorem spot_isBad {w : World} {p : Nat} {s : List UInt8} {st : Option (List UInt8)} (h : SpotAt w p s st) : w.cell? ⟨p, 2, none⟩ = some (.bool (isBad st)) ∧ w.frozen? ⟨p, 2, none⟩ = false := by
  refine ⟨spot_bad h, ?_⟩
  obtain ⟨at_, bad, hrow, _, _⟩ := h
  exact (cells3 hrow).2 2

/-- What a guess has after some rounds. -/
structure Guess (w wr : World) (p g14 : Nat) (s : List UInt8) (st : Option (List UInt8)) (lv : Value) (l : List CellB) (last : CellB) : Prop where
  row : wr.ownsRow (g14 + 1) 48 3 lv l.length (cellsC l)
  spot : SpotAt wr p s st
  grown : w.grownBy wr (some p)
  lastAt : Block3 wr g14 last
  ok : ∀ c ∈ l, okC c
  lastOk : okC last
  lastLen : last.text.length ≤ 12 * l.length

/-- What stepG gives is a cell that may be, and not much longer. -/
theorem stepG_ok (kind : Int) (e : Nat) (words : List (List UInt8)) (n len : Nat) (last : CellB) (st : Option (List UInt8)) (hw : ∀ x ∈ words, x.length ≤ 12) (hl : last.text.length ≤ 1000) :
    okC (stepG kind e words n len last st).1 ∧ (stepG kind e words n len last st).1.text.length ≤ last.text.length + 12 := by
  have hx : ∀ st', (xR 12 st').1.length ≤ 12 := by
    intro st'
    unfold xR
    have h1 := fewR_le 12 st'
    cases h2 : (fewR 12 st').2 with
    | none => simp [takeP]
    | some r =>
      by_cases hc : ((fewR 12 st').1 : Int) < 0 ∨ (r.length : Int) < ((fewR 12 st').1 : Int)
      · rw [takeP_no hc]; simp
      · rw [takeP_yes (by omega) (by omega)]
        simp only [List.length_take, Int.toNat_natCast]; omega
  have hz : ∀ k : Nat, k < 18446744073709551616 → -9223372036854775808 ≤ zOf k ∧ zOf k ≤ 9223372036854775807 := by
    intro k hk
    unfold zOf; split <;> omega
  have hm : (2000 : Nat) ≤ maxLen := by decide
  unfold stepG
  split
  · have := wrap64_range (lowN (takeP 8 st).1 : Int)
    exact ⟨⟨this.1, this.2, Nat.zero_le _⟩, Nat.zero_le _⟩
  split
  · have := wrap64_range (last.int + zOf (uR st).1)
    exact ⟨⟨this.1, this.2, Nat.zero_le _⟩, Nat.zero_le _⟩
  split
  · have := hz _ (uR_lt (fewR (n - len) st).2)
    exact ⟨⟨this.1, this.2, Nat.zero_le _⟩, Nat.zero_le _⟩
  split
  · have := hx st
    exact ⟨⟨by simp, by simp, by simp only; omega⟩, by simp only; omega⟩
  split
  · have h5 : (words.getD (fewR (words.length - 1) st).1 []).length ≤ 12 := by
      by_cases h6 : (fewR (words.length - 1) st).1 < words.length
      · simp only [List.getD, List.getElem?_eq_getElem h6, Option.getD_some]
        exact hw _ (List.getElem_mem h6)
      · simp [List.getD, List.getElem?_eq_none (Nat.le_of_not_lt h6)]
    exact ⟨⟨by simp, by simp, by simp only; omega⟩, by simp only; omega⟩
  split
  · have h7 := hx (fewR last.text.length st).2
    have h8 : (last.text.take (fewR last.text.length st).1 ++ (xR 12 (fewR last.text.length st).2).1).length ≤ last.text.length + 12 := by
      rw [List.length_append, List.length_take]; omega
    exact ⟨⟨by simp, by simp, by simp only; omega⟩, h8⟩
  · exact ⟨⟨by simp, by simp, by simp only [List.length_nil]; omega⟩, by simp⟩

/-- Words as they lie. -/
def wordsC (l : List (List UInt8)) : List Value := l.map strB

theorem Try.infoString : (Try.prog.info? 9).map (fun i => (i.zero, i.size, i.bytes)) = some (some (.string ⟨#[]⟩), 1, 16) := by kernel_rfl

theorem spot_kept {w w' : World} {p : Nat} {s : List UInt8} {st : Option (List UInt8)} {q : Option Nat} (h : SpotAt w p s st) (hp : p < w.heap.size) (hg : w.grownBy w' q) (hq : ∀ k, q = some k → p < k) : SpotAt w' p s st := by
  obtain ⟨at_, bad, hrow, hat, hst⟩ := h
  refine ⟨at_, bad, ?_, hat, hst⟩
  rw [hg.block p hp (fun e => absurd (hq p e.symm) (by omega))]
  exact hrow

theorem grown_own {w wr w2 : World} {p q : Option Nat} (h : w.grownBy wr p) (hg : wr.grownBy w2 q) (hq : ∀ k, q = some k → w.heap.size ≤ k) : w.grownBy w2 p := by
  refine ⟨hg.os.trans h.os, hg.tape.trans h.tape, hg.output.trans h.output, Nat.le_trans h.size hg.size, fun i hi hne => ?_⟩
  rw [hg.block i (Nat.lt_of_lt_of_le hi h.size) (fun e => absurd (hq i e.symm) (by omega))]
  exact h.block i hi hne

/-- A word more. -/
theorem grow_word {w w3 w4 : World} {v v' : Value} {p : Nat} {s : List UInt8} {st : Option (List UInt8)} {words : List (List UInt8)} {x : List UInt8} {o : Obj} (hp : p < w.heap.size)
    (hl : w3.ownsRow w.heap.size 9 1 v words.length (wordsC words)) (hl2 : w4.ownsRow w.heap.size 9 1 v' (words.length + 1) (wordsC words ++ [strB x])) (hg : (w3.alloc o).grownBy w4 v.ownBlock)
    (hsp : SpotAt w3 p s st) (hg3 : w.grownBy w3 (some p)) :
    w4.ownsRow w.heap.size 9 1 v' (words ++ [x]).length (wordsC (words ++ [x])) ∧ SpotAt w4 p s st ∧ w.grownBy w4 (some p) := by
  have hz := hg3.size
  have hb : ∀ k, v.ownBlock = some k → w.heap.size ≤ k := fun k hk => (hl.lt k hk).1
  refine ⟨?_, ?_, grown_own (grown_alloc hg3 o) hg hb⟩
  · rw [List.length_append, wordsC, List.map_append]; exact hl2
  · exact spot_kept (spot_alloc hsp (by omega) o) (by simp; omega) hg (fun k hk => by have := hb k hk; omega)

theorem xR_len (m : Nat) (st : Option (List UInt8)) : (xR m st).1.length ≤ m := by
  unfold xR
  have h1 := fewR_le m st
  cases h2 : (fewR m st).2 with
  | none => simp [takeP]
  | some r =>
    by_cases hc : ((fewR m st).1 : Int) < 0 ∨ (r.length : Int) < ((fewR m st).1 : Int)
    · rw [takeP_no hc]; simp
    · rw [takeP_yes (by omega) (by omega)]
      simp only [List.length_take, Int.toNat_natCast]; omega

theorem wordsR_step {k j : Nat} {words : List (List UInt8)} {sr sw : Option (List UInt8)} (h : j < k) (e1 : words ++ (wordsR (k - j) sr).1 = (wordsR k sw).1) (e2 : (wordsR (k - j) sr).2 = (wordsR k sw).2) :
    (words ++ [(xR 12 sr).1]) ++ (wordsR (k - (j + 1)) (xR 12 sr).2).1 = (wordsR k sw).1 ∧ (wordsR (k - (j + 1)) (xR 12 sr).2).2 = (wordsR k sw).2 := by
  rw [show k - j = (k - (j + 1)) + 1 by omega] at e1 e2
  simp only [wordsR] at e1 e2
  exact ⟨by rw [List.append_assoc]; exact e1, e2⟩

theorem guess_start {w wc : World} {p n : Nat} {s : List UInt8} {st : Option (List UInt8)} (hp : p < w.heap.size) (hsp : SpotAt wc p s st) (hg : w.grownBy wc (some p)) :
    Guess w (wc.alloc (Obj.cells #[Value.bool false, Value.int IntKind.i64 0, Value.string { data := #[] }] 48)) p wc.heap.size s st (.slice none 0 0) [] cellD where
  row := World.ownsRow_nil _ _ _ _
  spot := spot_alloc hsp (Nat.lt_of_lt_of_le hp hg.size) _
  grown := grown_alloc hg _
  lastAt := by
    unfold Block3
    rw [World.alloc]
    simp [cellD, strB]
  ok := by simp
  lastOk := ⟨by simp [cellD], by simp [cellD], by simp [cellD]⟩
  lastLen := by simp [cellD]

theorem guessF_stop (kind : Int) (e : Nat) (words : List (List UInt8)) (n gk : Nat) (l : List CellB) (last : CellB) (st : Option (List UInt8)) (h : ¬ (l.length < n ∧ st.isSome = true)) : guessF kind e words n gk l last st = (l, st) := by
  cases gk with
  | zero => rfl
  | succ f => rw [guessF, if_neg h]

/-- Ahead of the ways: a new cell lies there. -/
structure GuessPre (w wr wa : World) (p g14 g15 : Nat) (s : List UInt8) (st : Option (List UInt8)) (wv : Value) (last : CellB) (words : List (List UInt8)) : Prop where
  words : wa.ownsRow w.heap.size 9 1 wv words.length (wordsC words)
  spot : SpotAt wa p s st
  lastAt : Block3 wa g14 last
  newAt : Block3 wa g15 cellD
  grown : wr.grownBy wa (some p)
  size : wa.heap.size = g15 + 1

theorem guess_pre {w wr : World} {p g14 g15 : Nat} {s : List UInt8} {st : Option (List UInt8)} {lv wv : Value} {l : List CellB} {last : CellB} {words : List (List UInt8)} (h15 : g15 = wr.heap.size) (hp : p < wr.heap.size) (h14 : g14 < wr.heap.size)
    (hG : Guess w wr p g14 s st lv l last) (hw : wr.ownsRow w.heap.size 9 1 wv words.length (wordsC words)) :
    GuessPre w wr (wr.alloc (Obj.cells #[Value.bool false, Value.int IntKind.i64 0, Value.string { data := #[] }] 48)) p g14 g15 s st wv last words := by
  subst h15
  refine ⟨hw.alloc _, spot_alloc hG.spot hp _, ?_, ?_, World.grownBy_alloc _ _ _, by simp⟩
  · unfold Block3
    rw [Below.heap_alloc wr _ g14 h14]
    exact hG.lastAt
  · unfold Block3
    rw [World.alloc]
    simp [cellD, strB]

/-- Behind the ways. -/
structure GuessMid (w wc : World) (p g14 g15 : Nat) (s : List UInt8) (st : Option (List UInt8)) (lv wv : Value) (l : List CellB) (last v : CellB) (words : List (List UInt8)) : Prop where
  row : wc.ownsRow (g14 + 1) 48 3 lv l.length (cellsC l)
  words : wc.ownsRow w.heap.size 9 1 wv words.length (wordsC words)
  spot : SpotAt wc p s st
  grown : w.grownBy wc (some p)
  last : Block3 wc g14 last
  new : Block3 wc g15 v
  lt : g15 < wc.heap.size
  apart : lv.ownBlock ≠ some g15

theorem block_lt {w : World} {g : Nat} {c : CellB} (h : Block3 w g c) : g < w.heap.size := by
  unfold Block3 at h
  exact (Array.getElem?_eq_some_iff.1 h).1

theorem guess_mid {w wr wc : World} {p g14 g15 : Nat} {s : List UInt8} {st st2 : Option (List UInt8)} {lv wv : Value} {l : List CellB} {last v : CellB} {words : List (List UInt8)} (h15 : g15 = wr.heap.size) (hp : p < g15) (h14 : g14 < g15) (h14p : p < g14) (hpw : p < w.heap.size)
    (hG : Guess w wr p g14 s st lv l last) (hw : wr.ownsRow w.heap.size 9 1 wv words.length (wordsC words)) (hb : Block3 wc g15 v) (hsp : SpotAt wc p s st2) (hgr : wr.grownBy wc (some p)) :
    GuessMid w wc p g14 g15 s st2 lv wv l last v words := by
  subst h15
  exact ⟨keep_row hG.row (by omega) hgr, keep_row hw hpw hgr, hsp, grown_trans hG.grown hgr, hG.lastAt.kept hgr h14 (by omega), hb, block_lt hb, fun e => absurd (hG.row.lt _ e).2 (by omega)⟩

/-- How often a step's cell is taken. -/
theorem stepG_fits (kind : Int) (e : Nat) (words : List (List UInt8)) (n len : Nat) (last : CellB) (st : Option (List UInt8)) (hlt : len < n) :
    (stepG kind e words n len last st).2.1 ≤ n - len ∧ ((stepG kind e words n len last st).2.2.isSome = true → 1 ≤ (stepG kind e words n len last st).2.1) := by
  unfold stepG
  split
  · exact ⟨by show 1 ≤ _; omega, fun _ => Nat.le_refl 1⟩
  split
  · exact ⟨by show 1 ≤ _; omega, fun _ => Nat.le_refl 1⟩
  split
  · refine ⟨fewR_le _ _, ?_⟩
    show (if (fewR (n - len) st).1 = 0 then none else (uR (fewR (n - len) st).2).2).isSome = true → 1 ≤ (fewR (n - len) st).1
    split
    · intro h; simp at h
    · intro _; omega
  split
  · exact ⟨by show 1 ≤ _; omega, fun _ => Nat.le_refl 1⟩
  split
  · exact ⟨by show 1 ≤ _; omega, fun _ => Nat.le_refl 1⟩
  split
  · exact ⟨by show 1 ≤ _; omega, fun _ => Nat.le_refl 1⟩
  · exact ⟨by show 1 ≤ _; omega, fun _ => Nat.le_refl 1⟩

theorem row_ne_block {w : World} {b e s n g : Nat} {v : Value} {xs : List Value} {C : Array Value} {t : TypeId} {m : Nat × Nat} (h : w.ownsRow b e s v n xs) (hg : w.heap[g]? = some (.cells C t m)) (he : e ≠ t) : v.ownBlock ≠ some g := by
  rcases h.2 with ⟨rfl, _⟩ | ⟨g', cap, cur, rfl, _, hg', _⟩
  · simp [Value.ownBlock]
  · simp only [Value.ownBlock, ne_eq, Option.some.injEq]
    intro hgg
    subst hgg
    rw [hg] at hg'
    simp at hg'
    exact he hg'.2.1.symm

theorem rows_apart2 {W : World} {b b' e e' s s' n n' : Nat} {v v' : Value} {xs xs' : List Value} (h : W.ownsRow b e s v n xs) (h' : W.ownsRow b' e' s' v' n' xs') (he : e ≠ e') :
    v.ownBlock = none ∨ v.ownBlock ≠ v'.ownBlock := by
  rcases h'.2 with ⟨rfl, _⟩ | ⟨g', cap', cur', rfl, _, hg', _⟩
  · cases hv : v.ownBlock with
    | none => exact .inl rfl
    | some k => right; simp [Value.ownBlock]
  · exact .inr (row_ne_block h hg' he)

theorem ownsRow_base {w : World} {b b' e s n : Nat} {v : Value} {xs : List Value} (h : w.ownsRow b e s v n xs) (hb : b' ≤ b) : w.ownsRow b' e s v n xs := by
  refine ⟨h.1, ?_⟩
  rcases h.2 with h | ⟨g, cap, cur, rfl, hg, rest⟩
  · exact .inl h
  · exact .inr ⟨g, cap, cur, rfl, Nat.le_trans hb hg, rest⟩

theorem setB3 {w : World} {g : Nat} {x y z a b c : Value} {t : TypeId} (h : w.heap[g]? = some (.cells #[x, y, z] t (0, 0))) :
    (((w.setCell ⟨g, 0, none⟩ a).setCell ⟨g, 1, none⟩ b).setCell ⟨g, 2, none⟩ c).heap[g]? = some (.cells #[a, b, c] t (0, 0)) ∧ w.grownBy (((w.setCell ⟨g, 0, none⟩ a).setCell ⟨g, 1, none⟩ b).setCell ⟨g, 2, none⟩ c) (some g) := by
  have h1 : (w.setCell ⟨g, 0, none⟩ a).heap[g]? = some (.cells #[a, y, z] t (0, 0)) := by rw [heap_setCell_same w g 0 _ t a h]; rfl
  have h2 : ((w.setCell ⟨g, 0, none⟩ a).setCell ⟨g, 1, none⟩ b).heap[g]? = some (.cells #[a, b, z] t (0, 0)) := by rw [heap_setCell_same _ g 1 _ t b h1]; rfl
  refine ⟨by rw [heap_setCell_same _ g 2 _ t c h2]; rfl, ⟨rfl, rfl, rfl, by simp, fun k _ hk => ?_⟩⟩
  have hne : k ≠ g := fun e => hk (by rw [e])
  rw [heap_setCell_other _ ⟨g, 2, none⟩ k c hne, heap_setCell_other _ ⟨g, 1, none⟩ k b hne, heap_setCell_other _ ⟨g, 0, none⟩ k a hne]

/-- The last one is now the new one. -/
theorem guess_set {w wc : World} {p g14 g15 : Nat} {s : List UInt8} {st : Option (List UInt8)} {lv wv : Value} {l : List CellB} {last : CellB} {vn : Bool} {vi : Int} {vt : List UInt8} {words : List (List UInt8)} (h14 : g14 < g15) (hp : p < g14) (hw : w.heap.size ≤ g14)
    (h : GuessMid w wc p g14 g15 s st lv wv l last ⟨vn, vi, vt⟩ words) :
    GuessMid w (((wc.setCell ⟨g14, 0, none⟩ (.bool vn)).setCell ⟨g14, 1, none⟩ (.int .i64 vi)).setCell ⟨g14, 2, none⟩ (.string ⟨vt.toArray⟩)) p g14 g15 s st lv wv (l ++ List.replicate 0 ⟨vn, vi, vt⟩) ⟨vn, vi, vt⟩ ⟨vn, vi, vt⟩ words := by
  obtain ⟨hs, hg⟩ := setB3 (a := .bool vn) (b := .int .i64 vi) (c := .string ⟨vt.toArray⟩) h.last
  have hlt := h.lt
  refine ⟨?_, ?_, ?_, ?_, hs, ?_, Nat.lt_of_lt_of_le hlt hg.size, h.apart⟩
  · rw [List.replicate_zero, List.append_nil]
    exact keep_row h.row (by omega) hg
  · exact h.words.kept hg (.inr (row_ne_block h.words h.last (by decide)))
  · exact spot_kept h.spot (by omega) hg (fun k hk => by simp at hk; omega)
  · exact grown_own h.grown hg (fun k hk => by simp at hk; omega)
  · unfold Block3
    rw [hg.block g15 hlt (by simp; omega)]
    exact h.new

theorem cellsC_snoc (l : List CellB) (c : CellB) : cellsC (l ++ [c]) = cellsC l ++ [.bool c.null, .int .i64 c.int, strB c.text] := by
  rw [cellsC_append]; simp [cellsC]

theorem replicate_snoc {α : Type} (l : List α) (k : Nat) (v : α) : l ++ List.replicate (k + 1) v = (l ++ List.replicate k v) ++ [v] := by
  rw [List.replicate_succ', List.append_assoc]

/-- Another one is taken. -/
theorem guess_more {w w3 w4 : World} {p g14 g15 k : Nat} {s : List UInt8} {st : Option (List UInt8)} {lv lv' wv : Value} {l : List CellB} {v : CellB} {words : List (List UInt8)} {o : Obj} (h14 : g14 < g15) (hp : p < g14) (hw : w.heap.size ≤ g14)
    (h : GuessMid w w3 p g14 g15 s st lv wv (l ++ List.replicate k v) v v words)
    (hl : w4.ownsRow (g14 + 1) 48 3 lv' ((l ++ List.replicate k v).length + 1) (cellsC (l ++ List.replicate k v) ++ [.bool v.null, .int .i64 v.int, strB v.text]))
    (hg : (w3.alloc o).grownBy w4 lv.ownBlock) (ha : lv'.ownBlock = lv.ownBlock ∨ lv'.ownBlock = some (w3.heap.size + 1)) :
    GuessMid w w4 p g14 g15 s st lv' wv (l ++ List.replicate (k + 1) v) v v words := by
  have hlt := h.lt
  have hb : ∀ j, lv.ownBlock = some j → g14 + 1 ≤ j := fun j hj => (h.row.lt j hj).1
  have hz := hg.size
  rw [replicate_snoc]
  generalize l ++ List.replicate k v = l' at *
  refine ⟨?_, ?_, ?_, ?_, ?_, ?_, ?_, ?_⟩
  · rw [cellsC_snoc, List.length_append]; exact hl
  · exact (h.words.alloc o).kept hg (rows_apart2 h.words h.row (by decide))
  · exact spot_kept (spot_alloc h.spot (by omega) o) (by simp; omega) hg (fun j hj => by have := hb j hj; omega)
  · exact grown_own (grown_alloc h.grown o) hg (fun j hj => by have := hb j hj; omega)
  · unfold Block3
    rw [hg.block g14 (by simp; omega) (fun e => by have := hb g14 e.symm; omega), Below.heap_alloc w3 o g14 (by omega)]
    exact h.last
  · unfold Block3
    rw [hg.block g15 (by simp; omega) (fun e => h.apart e.symm), Below.heap_alloc w3 o g15 hlt]
    exact h.new
  · simp at hz; omega
  · rcases ha with ha | ha
    · rw [ha]; exact h.apart
    · rw [ha]; simp; omega

/-- A round is over. -/
theorem guess_next {w w3 : World} {p g14 g15 n times : Nat} {s : List UInt8} {st : Option (List UInt8)} {lv wv : Value} {l : List CellB} {last v : CellB} {words : List (List UInt8)} (hn : n ≤ 60) (hln : l.length ≤ n) (hlast : last.text.length ≤ 12 * l.length) (hok : ∀ c ∈ l, okC c)
    (h : GuessMid w w3 p g14 g15 s st lv wv (l ++ List.replicate times v) v v words) (ht : times ≤ n - l.length) (h1 : 1 ≤ times ∨ v.text.length ≤ 12 * l.length) (hv : okC v) (hvl : v.text.length ≤ last.text.length + 12) :
    Guess w w3 p g14 s st lv (l ++ List.replicate times v) v := by
  refine ⟨h.row, h.spot, h.grown, h.last, ?_, hv, ?_⟩
  · intro c hc
    rcases List.mem_append.1 hc with hc | hc
    · exact hok c hc
    · rw [(List.mem_replicate.1 hc).2]; exact hv
  · rw [List.length_append, List.length_replicate]
    rcases h1 with h1 | h1 <;> omega

theorem stepG_zero (kind : Int) (e : Nat) (words : List (List UInt8)) (n len : Nat) (last : CellB) (st : Option (List UInt8)) : 1 ≤ (stepG kind e words n len last st).2.1 ∨ (stepG kind e words n len last st).1.text.length = 0 := by
  unfold stepG
  split
  · exact .inl (Nat.le_refl 1)
  split
  · exact .inl (Nat.le_refl 1)
  split
  · exact .inr rfl
  split
  · exact .inl (Nat.le_refl 1)
  split
  · exact .inl (Nat.le_refl 1)
  split
  · exact .inl (Nat.le_refl 1)
  · exact .inl (Nat.le_refl 1)

/-- A number is put into the new cell. -/
theorem guess_int {wr w5 : World} {p g15 : Nat} {s : List UInt8} {st : Option (List UInt8)} {x y : Int} {t : List UInt8} {b : Bool} (h15 : g15 = wr.heap.size) (hp : p < g15) (hb : Block3 w5 g15 ⟨b, y, t⟩) (hsp : SpotAt w5 p s st) (hg : wr.grownBy w5 (some p)) :
    Block3 (w5.setCell ⟨g15, 1, none⟩ (.int .i64 x)) g15 ⟨b, x, t⟩ ∧ SpotAt (w5.setCell ⟨g15, 1, none⟩ (.int .i64 x)) p s st ∧ wr.grownBy (w5.setCell ⟨g15, 1, none⟩ (.int .i64 x)) (some p) := by
  refine ⟨(set_at hb).1, spot_other hsp (by show p ≠ g15; omega) _, grown_new hg (by show _ ≤ g15; omega) _⟩

/-- A text is put into the new cell. -/
theorem guess_text {wr w5 : World} {p g15 : Nat} {s : List UInt8} {st : Option (List UInt8)} {x t : List UInt8} {y : Int} {b : Bool} {v : Value} (hv : v = strB x) (h15 : g15 = wr.heap.size) (hp : p < g15) (hb : Block3 w5 g15 ⟨b, y, t⟩) (hsp : SpotAt w5 p s st) (hg : wr.grownBy w5 (some p)) :
    Block3 (w5.setCell ⟨g15, 2, none⟩ v) g15 ⟨b, y, x⟩ ∧ SpotAt (w5.setCell ⟨g15, 2, none⟩ v) p s st ∧ wr.grownBy (w5.setCell ⟨g15, 2, none⟩ v) (some p) := by
  subst hv
  refine ⟨(set_bad hb).1, spot_other hsp (by show p ≠ g15; omega) _, grown_new hg (by show _ ≤ g15; omega) _⟩

/-- The reader is told bad, or not. -/
theorem guess_bad {wr w5 : World} {p g15 : Nat} {s : List UInt8} {st : Option (List UInt8)} {c : CellB} (b : Bool) (hq : isBad st = true → b = true) (hp : p < g15) (hb : Block3 w5 g15 c) (hsp : SpotAt w5 p s st) (hg : wr.grownBy w5 (some p)) :
    Block3 (w5.setCell ⟨p, 2, none⟩ (.bool b)) g15 c ∧ SpotAt (w5.setCell ⟨p, 2, none⟩ (.bool b)) p s (if b = true then none else st) ∧ wr.grownBy (w5.setCell ⟨p, 2, none⟩ (.bool b)) (some p) := by
  obtain ⟨at_, bad, hrow, hat, hst⟩ := hsp
  obtain ⟨h1, h2⟩ := set_bad (v := .bool b) hrow
  refine ⟨?_, ⟨at_, b, h1, hat, ?_⟩, grown_trans hg h2⟩
  · unfold Block3
    rw [h2.block g15 (block_lt hb) (by simp; omega)]
    exact hb
  · cases b with
    | true => rfl
    | false =>
      cases bad with
      | true => subst hst; exact absurd (hq rfl) (by decide)
      | false => subst hst; rfl

theorem grown_undrew {a b : World} {p : Option Nat} (h : (a.drew).grownBy b p) : a.grownBy b p := ⟨h.os, h.tape, h.output, h.size, h.block⟩

/-- Words: where they lie. -/
theorem words_at {w : World} {B : Nat} {v : Value} {words : List (List UInt8)} (h : w.ownsRow B 9 1 v words.length (wordsC words)) (hn : 0 < words.length) :
    ∃ g cap, v = .slice (some ⟨g, 0, none⟩) words.length cap ∧ True := by
  rcases h.2 with ⟨_, h0⟩ | ⟨g, cap, cur, rfl, _⟩
  · omega
  · exact ⟨g, cap, rfl, trivial⟩

theorem words_cell {w : World} {B g cap : Nat} {words : List (List UInt8)} (h : w.ownsRow B 9 1 (.slice (some ⟨g, 0, none⟩) words.length cap) words.length (wordsC words)) (k : Nat) (hk : k < words.length) :
    w.cell? ⟨g, k, none⟩ = some (strB words[k]) := by
  rw [h.cellAt k (by omega)]
  simp [wordsC, hk]

theorem spot_drew {w : World} {p : Nat} {s : List UInt8} {st : Option (List UInt8)} (h : SpotAt w p s st) : SpotAt w.drew p s st := h

theorem str_take (t x : List UInt8) (k : Nat) : Value.string ((⟨t.toArray⟩ : ByteArray).extract 0 k ++ ⟨x.toArray⟩) = strB (t.take k ++ x) := by
  have h : (⟨t.toArray⟩ : ByteArray).extract 0 k = ⟨(t.take k).toArray⟩ := by
    apply ByteArray.ext
    apply Array.ext'
    rw [Lib.extract_data, mk_data]
    simp
  rw [h]
  exact congrArg Value.string (app_str _ _)

end Go.Proofs.Ythhpbhpfagoapaa
