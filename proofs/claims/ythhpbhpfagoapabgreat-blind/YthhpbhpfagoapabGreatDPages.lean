
/-
  What the program's steps, tests and runs of cells do, by walks.
-/
import Derived.Test.YthhpbhpfagoapabGreatDBytes
import Derived.Test.YthhpbhpfagoapabGreatRWay4
namespace Go.Proofs.YthhpbhpfagoapabGreat
open Go.RowKit
set_option linter.unusedVariables false
set_option maxRecDepth 100000

set_option maxHeartbeats 1000000 in
theorem common_any (s t : List UInt8) (w : World) (h1 : s.length ≤ 12) (h2 : t.length ≤ 12) :
    Calls Tryz.prog 180 #[strB s, strB t] w fun e w' => e = .returned (.int .i64 (sharedB s t : Int)) ∧ Below w.heap.size w w' := by
  have hs := strB_size s
  have ht := strB_size t
  have hle := sharedB_le s t
  have HSL := hid (sharedB_lt s t)
  have HSE := hid (sharedB_end s t)
  obtain ⟨hle1, hle2⟩ := hle
  generalize sharedB s t = sh at *
  go_enter Tryz.func180, Tryz.ntmps180
  go_wp2
  go_loopw [5] (fun i wr => ∃ k : Nat, k ≤ sh ∧ i = .int .i64 (k : Int) ∧ Below w.heap.size w wr) (fun i _ => sh - (intOf i).toNat)
  case atStart => exact ⟨0, Nat.zero_le _, rfl, Below.refl _ _⟩
  case round =>
    obtain ⟨m, hm, rfl, hB⟩ := hrel
    by_cases hmr : m < sh
    · have l1 : m < s.length := by omega
      have l2 : m < t.length := by omega
      have m1 : m < (⟨s.toArray⟩ : ByteArray).size := by rw [strB_size]; exact l1
      have m2 : m < (⟨t.toArray⟩ : ByteArray).size := by rw [strB_size]; exact l2
      have he : (((((⟨s.toArray⟩ : ByteArray)[m]'m1).toNat : Int)) == ((((⟨t.toArray⟩ : ByteArray)[m]'m2).toNat : Int))) = true := by
        rw [byte_mk s m l1, byte_mk t m l2, HSL.out m hmr l1 l2]; simp
      have i1 : (m : Int) < (s.length : Int) := by omega
      have i2 : (m : Int) < (t.length : Int) := by omega
      go_wp2_with fail
      go_quiet (fail)
      go_wp2
      go_roundw
      case rel => exact ⟨m + 1, by omega, by go_num, below_drewN hB nq⟩
      case measure => simp [intOf]; omega
    · have hme : m = sh := by omega
      subst hme
      by_cases l1 : m < s.length
      · have i1 : (m : Int) < (s.length : Int) := by omega
        by_cases l2 : m < t.length
        · have i2 : (m : Int) < (t.length : Int) := by omega
          have hne := HSE.out l1 l2
          have m1 : m < (⟨s.toArray⟩ : ByteArray).size := by rw [strB_size]; exact l1
          have m2 : m < (⟨t.toArray⟩ : ByteArray).size := by rw [strB_size]; exact l2
          have hne2 : (((((⟨s.toArray⟩ : ByteArray)[m]'m1).toNat : Int)) == ((((⟨t.toArray⟩ : ByteArray)[m]'m2).toNat : Int))) = false := by
            rw [byte_mk s m l1, byte_mk t m l2]
            have : ¬ (s[m]'l1).toNat = (t[m]'l2).toNat := fun h => hne (UInt8.toNat_inj.1 h)
            simp; omega
          clear hne
          go_wp2_with fail
          go_quiet (fail)
          go_wp2
          go_ret
          exact ⟨rfl, below_drewN hB nq⟩
        · have i2 : decide ((m : Int) < (t.length : Int)) = false := by simp; omega
          go_wp2_with fail
          go_quiet (fail)
          go_wp2
          go_ret
          exact ⟨rfl, below_drewN hB nq⟩
      · have i1 : decide ((m : Int) < (s.length : Int)) = false := by simp; omega
        go_wp2_with fail
        go_quiet (fail)
        go_wp2
        go_ret
        exact ⟨rfl, below_drewN hB nq⟩

theorem kind_any (kind : Int) (w : World) :
    Calls Tryz.prog 133 #[.int .i64 kind] w fun e w' => e = .returned (.bool (decide (kind = 0) || decide (kind = 1))) ∧ w' = w := by
  by_cases h0 : kind = 0
  · subst h0
    go_enter Tryz.func133, Tryz.ntmps133
    go_wp2
    go_ret
    exact ⟨rfl, rfl⟩
  · have k0 : (kind == 0) = false := by simp [h0]
    by_cases h1 : kind = 1
    · subst h1
      go_enter Tryz.func133, Tryz.ntmps133
      go_wp2
      go_ret
      exact ⟨rfl, rfl⟩
    · have k1 : (kind == 1) = false := by simp [h1]
      have HK : Hid ((decide (kind = 0) || decide (kind = 1)) = false) := by simp [Hid, h0, h1]
      clear h0 h1
      go_enter Tryz.func133, Tryz.ntmps133
      go_wp2
      go_ret
      exact ⟨ret_bool HK.out.symm, rfl⟩

set_option maxHeartbeats 1000000 in
theorem isCell_any (kind : Int) (c : CellB) (w : World) (hc : okC c) :
    Calls Tryz.prog 120 #[.int .i64 kind, cellV c] w fun e w' => e = .returned (.bool (fitsB kind c)) ∧ Below w.heap.size w w' := by
  obtain ⟨h0, h1, h2⟩ := hc
  unfold maxLen at h2
  obtain ⟨nl, it, tx⟩ := c
  simp only at h0 h1 h2
  cases nl with
  | true =>
    by_cases hi : it = 0
    · subst hi
      have HF : Hid (fitsB kind ⟨true, 0, tx⟩ = tx.isEmpty) := by simp [Hid, fitsB]
      go_enter Tryz.func120, Tryz.ntmps120
      go_wp2
      go_ret
      exact ⟨ret_bool HF.out.symm, (Below.refl _ _).alloc (Nat.le_refl _) _⟩
    · have hi2 : (it == 0) = false := by simp [hi]
      have HF : Hid (fitsB kind ⟨true, it, tx⟩ = false) := by simp [Hid, fitsB, hi]
      go_enter Tryz.func120, Tryz.ntmps120
      go_wp2
      go_ret
      exact ⟨ret_bool HF.out.symm, (Below.refl _ _).alloc (Nat.le_refl _) _⟩
  | false =>
    by_cases hk : kind = 0
    · subst hk
      have HF : Hid (fitsB 0 ⟨false, it, tx⟩ = tx.isEmpty) := by simp [Hid, fitsB]
      go_enter Tryz.func120, Tryz.ntmps120
      go_wp2
      go_ret
      exact ⟨ret_bool HF.out.symm, (Below.refl _ _).alloc (Nat.le_refl _) _⟩
    · have hk2 : (kind == 0) = false := by simp [hk]
      by_cases hi : it = 0
      · subst hi
        by_cases ht : tx.length ≤ 12
        · have HF : Hid (fitsB kind ⟨false, 0, tx⟩ = true) := by simp [Hid, fitsB, hk, ht]
          clear hk
          go_enter Tryz.func120, Tryz.ntmps120
          go_wp2
          go_ret
          exact ⟨ret_bool (by rw [HF.out]; simp; omega), (Below.refl _ _).alloc (Nat.le_refl _) _⟩
        · have HF : Hid (fitsB kind ⟨false, 0, tx⟩ = false) := by simp [Hid, fitsB, hk, ht]
          clear hk
          go_enter Tryz.func120, Tryz.ntmps120
          go_wp2
          go_ret
          exact ⟨ret_bool (by rw [HF.out]; simp; omega), (Below.refl _ _).alloc (Nat.le_refl _) _⟩
      · have hi2 : (it == 0) = false := by simp [hi]
        have HF : Hid (fitsB kind ⟨false, it, tx⟩ = false) := by simp [Hid, fitsB, hi, hk]
        clear hk hi
        go_enter Tryz.func120, Tryz.ntmps120
        go_wp2
        go_ret
        exact ⟨ret_bool HF.out.symm, (Below.refl _ _).alloc (Nat.le_refl _) _⟩

set_option maxHeartbeats 1000000 in
theorem areCells_any (kind : Int) (a : Option Addr) (cap : Nat) (l : List CellB) (w : World) (hm : l.length ≤ 140737488351232) (hl : Lies w a l) :
    Calls Tryz.prog 91 #[.int .i64 kind, .slice a l.length cap] w fun e w' => e = .returned (.bool (decide (l.length ≤ 60) && l.all (fitsB kind))) ∧ Below w.heap.size w w' := by
  have Hl := hid hl
  clear hl
  by_cases hn : l.length ≤ 60
  · have hni : (l.length : Int) ≤ 60 := by omega
    have HD : Hid ((decide (l.length ≤ 60) && l.all (fitsB kind)) = l.all (fitsB kind)) := by simp [Hid, hn]
    go_enter Tryz.func91, Tryz.ntmps91
    go_wp2
    go_loopw [12] (fun i wr => ∃ k : Nat, k ≤ l.length ∧ i = .int .i64 k ∧ (l.take k).all (fitsB kind) = true ∧ Below w.heap.size w wr) (fun i _ => l.length - (intOf i).toNat)
    case atStart => exact ⟨0, Nat.zero_le _, rfl, rfl, Below.refl _ _⟩
    case round =>
      obtain ⟨k, hkl, rfl, hall, hB⟩ := hrel
      have Hall := hid hall
      clear hall
      by_cases hlt : k < l.length
      · obtain ⟨b, off, rfl, hbw, hcell⟩ := (Hl.out.later hB).at_ (List.ne_nil_of_length_pos (by omega))
        obtain ⟨g1, g2, g3⟩ := hcell k hlt
        clear hcell
        have hokc := Hl.out.ok l[k] (List.getElem_mem hlt)
        have Hok := hid hokc
        clear hokc
        have HT : Hid ((l.take (k + 1)).all (fitsB kind) = fitsB kind l[k]) := by
          show (l.take (k + 1)).all (fitsB kind) = fitsB kind l[k]
          rw [List.take_succ_eq_append_getElem hlt, List.all_append, Hall.out]
          simp
        have HA : Hid (fitsB kind l[k] = false → l.all (fitsB kind) = false) := by
          intro hf
          rw [List.all_eq_false]
          exact ⟨l[k], List.getElem_mem hlt, by simp [hf]⟩
        go_wp2_with fail
        refine (isCell_any kind l[k] _ Hok.out).mono ?_
        rintro e w1 ⟨rfl, hb1⟩
        clear g1 g2 g3
        have hB1 := (hB.alloc hB.size _).trans (hb1.mono (by have := hB.size; simp; omega))
        clear hb1
        cases hf : fitsB kind l[k] with
        | false =>
          have Hf := hid hf
          clear hf
          go_wp2
          go_ret
          exact ⟨ret_bool (by rw [HD.out]; exact (HA.out Hf.out).symm), hB1⟩
        | true =>
          have Hf := hid hf
          clear hf
          go_wp2
          go_roundw
          case rel => exact ⟨k + 1, by omega, by go_num, by rw [HT.out]; exact Hf.out, hB1⟩
          case measure => simp [intOf]; omega
      · go_wp2
        go_ret
        exact ⟨ret_bool (by rw [HD.out, ← Hall.out, List.take_of_length_le (by omega)]), hB⟩
  · have hni : (60 : Int) < (l.length : Int) := by omega
    have HD : Hid ((decide (l.length ≤ 60) && l.all (fitsB kind)) = false) := by simp [Hid, hn]
    go_enter Tryz.func91, Tryz.ntmps91
    go_wp2
    go_ret
    exact ⟨ret_bool HD.out.symm, Below.refl _ _⟩

end Go.Proofs.YthhpbhpfagoapabGreat
