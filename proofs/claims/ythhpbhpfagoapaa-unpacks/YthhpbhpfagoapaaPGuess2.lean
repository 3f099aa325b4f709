/-
  Values are read back from the ways 2 and 3: plain mathematics, nothing of the program.
-/
import Derived.Test.YthhpbhpfagoapaaPGuess
namespace Go.Proofs.Ythhpbhpfagoapaa
open Go.RowKit

/-- Words as they are read. -/
def wordsR : Nat → Option (List UInt8) → List (List UInt8) × Option (List UInt8)
  | 0, st => ([], st)
  | k + 1, st => ((xR 12 st).1 :: (wordsR k (xR 12 st).2).1, (wordsR k (xR 12 st).2).2)

def xsB (d : List CellB) : List UInt8 := d.flatMap fun c => xB c.text

theorem words_all (d : List CellB) : ∀ k, k ≤ d.length → wordsTo d k = uB d.length ++ xsB (d.take k) := by
  intro k
  induction k with
  | zero => intro _; simp [wordsTo, xsB]
  | succ k ih =>
    intro h
    rw [wordsTo, ih (by omega), nthB_at d k (by omega), List.take_succ_eq_append_getElem (by omega)]
    simp only [xsB, List.flatMap_append, List.flatMap_cons, List.flatMap_nil, List.append_nil, List.append_assoc]

theorem wordsR_back (d : List CellB) (r : List UInt8) (h : ∀ c ∈ d, c.text.length ≤ 12) : wordsR d.length (some (xsB d ++ r)) = (d.map (·.text), some r) := by
  induction d with
  | nil => rfl
  | cons c d ih =>
    have e : xsB (c :: d) ++ r = xB c.text ++ (xsB d ++ r) := by simp [xsB]
    rw [e]
    simp only [List.length_cons, wordsR]
    rw [xR_xB 12 c.text (xsB d ++ r) (h c (by simp)) (by omega)]
    simp only
    rw [ih (fun x hx => h x (by simp [hx]))]
    rfl

theorem guess3 (v : List CellB) (r : List UInt8) (hv : ∀ c ∈ v, textV c) (hn : v.length ≤ 60) : guessF 1 3 ((diffB v).map (·.text)) v.length (v.length + 1) [] cellD (some (tailB 3 v 0 v.length ++ r)) = (v, some r) := by
  have := guess_one 1 3 3 ((diffB v).map (·.text)) v r (fun i h rest => by
    have hc := hv v[i] (List.getElem_mem h)
    have hs : stepB 3 v i = uB (firstB (diffB v) (v[i]).text) := by show uB (firstB (diffB v) (nthB v i).text) = _; rw [nthB_at v i h]
    obtain ⟨h1, h2⟩ := firstB_at (diffB v) (v[i]).text (diffB_has v i h)
    have hdl := diffTo_len v v.length
    have hd2 : (diffB v).length ≤ v.length := hdl
    have hne : (diffB v).map (·.text) ≠ [] := by
      intro e0
      have := congrArg List.length e0
      simp at this
      rw [this] at h1
      simp at h1
    have hlm : ((diffB v).map (·.text)).length = (diffB v).length := by simp
    unfold stepG
    rw [if_neg (by omega), if_neg (by omega), if_neg (by omega), if_neg (by omega), if_pos ⟨rfl, rfl, hne⟩, hs, hlm, fewR_uB _ _ rest (by omega) (by omega)]
    have eg : ((diffB v).map (·.text)).getD (firstB (diffB v) (v[i]).text) [] = (v[i]).text := by
      simp only [List.getD, List.getElem?_map, List.getElem?_eq_getElem h1, Option.map_some, Option.getD_some]
      exact h2
    rw [eg]
    exact Prod.ext (textV_eq hc).symm rfl) v.length 0 (by omega)
  simpa [prevB] using this

theorem tail_skip (w : Nat) (v : List CellB) : ∀ (q a k : Nat), q ≤ k → (∀ j, j < q → stepB w v (a + j) = []) → tailB w v a k = tailB w v (a + q) (k - q) := by
  intro q
  induction q with
  | zero => intro a k _ _; rfl
  | succ q ih =>
    intro a k hk h
    obtain ⟨k', rfl⟩ : ∃ k', k = k' + 1 := ⟨k - 1, by omega⟩
    have h0 := h 0 (by omega)
    simp only [Nat.add_zero] at h0
    simp only [tailB]
    rw [h0, List.nil_append, ih (a + 1) k' (by omega) (fun j hj => by have := h (j + 1) (by omega); rwa [show a + (j + 1) = a + 1 + j by omega] at this)]
    congr 1 <;> omega

theorem guess2 (v : List CellB) (r : List UInt8) (hv : ∀ c ∈ v, intV c) (hn : v.length ≤ 60) :
    ∀ (k i f : Nat) (last : CellB), i + k = v.length → k < f → (k = 0 ∨ i = 0 ∨ (nthB v i).int ≠ (prevB v i).int) → guessF 0 2 [] v.length f (v.take i) last (some (tailB 2 v i k ++ r)) = (v, some r) := by
  intro k
  induction k using Nat.strongRecOn with
  | _ k ih =>
    intro i f last hi hf hrun
    obtain ⟨f', rfl⟩ : ∃ f', f = f' + 1 := ⟨f - 1, by omega⟩
    have hl : (v.take i).length = i := by rw [List.length_take]; omega
    by_cases hk : k = 0
    · subst hk
      rw [guessF, if_neg (by rw [hl]; omega), tailB, List.nil_append, List.take_of_length_le (by omega)]
    · have hlt : i < v.length := by omega
      have hc := hv v[i] (List.getElem_mem hlt)
      have hrow := rowI_le (v[i]).int (v.drop (i + 1))
      rw [List.length_drop] at hrow
      have hin : ∀ j, j < rowI (v[i]).int (v.drop (i + 1)) → ∃ h : i + 1 + j < v.length, v[i + 1 + j] = v[i] := by
        intro j hj
        obtain ⟨h1, h2⟩ := rowI_lt (v[i]).int (v.drop (i + 1)) j hj
        rw [List.length_drop] at h1
        refine ⟨by omega, ?_⟩
        rw [List.getElem_drop] at h2
        rw [intV_eq (hv v[i + 1 + j] (List.getElem_mem _)), intV_eq hc, h2]
      have hend : ∀ h : i + 1 + rowI (v[i]).int (v.drop (i + 1)) < v.length, (v[i + 1 + rowI (v[i]).int (v.drop (i + 1))]).int ≠ (v[i]).int := by
        intro h
        have := rowI_end (v[i]).int (v.drop (i + 1)) (by rw [List.length_drop]; omega)
        rw [List.getElem_drop] at this
        exact this
      have hs : stepB 2 v i = uB (rowI (v[i]).int (v.drop (i + 1)) + 1) ++ zB (v[i]).int := by
        simp only [stepB, nthB_at v i hlt]
        rw [if_pos]
        rcases hrun with h | h | h
        · exact absurd h hk
        · exact .inl h
        · rw [nthB_at v i hlt] at h; exact .inr h
      generalize rowI (v[i]).int (v.drop (i + 1)) = q at *
      have hskip : tailB 2 v (i + 1) (k - 1) = tailB 2 v (i + 1 + q) (k - 1 - q) := tail_skip 2 v q (i + 1) (k - 1) (by omega) (fun j hj => by
        obtain ⟨h1, h2⟩ := hin j hj
        simp only [stepB, nthB_at v (i + 1 + j) h1, prevB]
        rw [if_neg (by omega : ¬ (i + 1 + j = 0)), nthB_at v (i + 1 + j - 1) (by omega)]
        have hp : v[i + 1 + j - 1] = v[i] := by
          cases j with
          | zero => rfl
          | succ j =>
            obtain ⟨h3, h4⟩ := hin j (by omega)
            rw [← h4]
            congr 1
        rw [hp, h2]
        rw [if_neg (fun h => h.elim (fun h => by omega) (fun h => h rfl))])
      obtain ⟨k', rfl⟩ : ∃ k', k = k' + 1 := ⟨k - 1, by omega⟩
      simp only [Nat.add_sub_cancel] at hskip
      rw [guessF, if_pos (by rw [hl]; exact ⟨hlt, rfl⟩), hl]
      simp only [tailB, hs, hskip, List.append_assoc]
      have hstep : stepG 0 2 [] v.length i last (some (uB (q + 1) ++ (zB (v[i]).int ++ (tailB 2 v (i + 1 + q) (k' - q) ++ r)))) = (v[i], q + 1, some (tailB 2 v (i + 1 + q) (k' - q) ++ r)) := by
        unfold stepG
        rw [if_neg (by omega), if_neg (by omega), if_pos ⟨rfl, rfl⟩, fewR_uB _ _ _ (by omega) (by omega), uR_zB _ _ hc.2.2.1 hc.2.2.2]
        simp only [zOf_zN]
        rw [if_neg (by omega)]
        exact Prod.ext (intV_eq hc).symm rfl
      rw [hstep]
      have e1 : v.take i ++ List.replicate (q + 1) v[i] = v.take (i + 1 + q) := by
        apply List.ext_getElem
        · simp only [List.length_append, List.length_take, List.length_replicate]; omega
        · intro j h1 h2
          rw [List.getElem_take]
          by_cases hj : j < i
          · rw [List.getElem_append_left (by rw [hl]; exact hj), List.getElem_take]
          · rw [List.getElem_append_right (by rw [hl]; omega), List.getElem_replicate]
            by_cases hji : j = i
            · subst hji; rfl
            · obtain ⟨h3, h4⟩ := hin (j - i - 1) (by rw [List.length_take] at h2; omega)
              rw [← h4]
              congr 1
              omega
      simp only [e1]
      refine ih (k' - q) (by omega) (i + 1 + q) f' v[i] (by omega) (by omega) ?_
      by_cases hz : k' - q = 0
      · exact .inl hz
      · right; right
        have h5 : i + 1 + q < v.length := by omega
        rw [nthB_at v (i + 1 + q) h5]
        unfold prevB
        rw [if_neg (by omega), nthB_at v (i + 1 + q - 1) (by omega)]
        have hp : v[i + 1 + q - 1] = v[i] := by
          cases q with
          | zero => rfl
          | succ q =>
            obtain ⟨h3, h4⟩ := hin q (by omega)
            rw [← h4]
            congr 1
        rw [hp]
        exact hend h5

end Go.Proofs.Ythhpbhpfagoapaa
