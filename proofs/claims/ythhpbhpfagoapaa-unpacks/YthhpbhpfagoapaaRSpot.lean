/-
  What the document's reader of bytes does (take, u, few, z, b, x), by walks over its place in memory.
-/
import Derived.Test.YthhpbhpfagoapaaRBytes
import Derived.Test.YthhpbhpfagoapaaPRead
import Derived.Deep.QuietTactic
import Derived.BigQuiet
import Derived.WalkSmall
import Derived.Lib.Strings
namespace Go.Proofs.Ythhpbhpfagoapaa
open Go.RowKit
set_option linter.unusedVariables false
set_option maxRecDepth 100000

/-- A reader lies at p: the text s; what is left of it, or nothing. -/
def SpotAt (w : World) (p : Nat) (s : List UInt8) (st : Option (List UInt8)) : Prop :=
  ∃ (at_ : Nat) (bad : Bool), w.heap[p]? = some (.cells #[strB s, .int .i64 (at_ : Int), .bool bad] 92 (0, 0)) ∧ at_ ≤ s.length ∧ st = (if bad = true then none else some (s.drop at_))

theorem grown_trans {a b c : World} {p : Option Nat} (h : a.grownBy b p) (k : b.grownBy c p) : a.grownBy c p :=
  ⟨k.os.trans h.os, k.tape.trans h.tape, k.output.trans h.output, Nat.le_trans h.size k.size, fun i hi hne => (k.block i (Nat.lt_of_lt_of_le hi h.size) hne).trans (h.block i hi hne)⟩

theorem cells3 {w : World} {p : Nat} {x y z : Value} {t : TypeId} (h : w.heap[p]? = some (.cells #[x, y, z] t (0, 0))) :
    (w.cell? ⟨p, 0, none⟩ = some x ∧ w.cell? ⟨p, 1, none⟩ = some y ∧ w.cell? ⟨p, 2, none⟩ = some z) ∧ (∀ j, w.frozen? ⟨p, j, none⟩ = false) := by
  refine ⟨⟨?_, ?_, ?_⟩, fun j => frozen_of_row w p j _ t h⟩
  · rw [cell_of_row w p 0 _ t (0, 0) h]; rfl
  · rw [cell_of_row w p 1 _ t (0, 0) h]; rfl
  · rw [cell_of_row w p 2 _ t (0, 0) h]; rfl

theorem set_bad {w : World} {p : Nat} {x y z v : Value} {t : TypeId} (h : w.heap[p]? = some (.cells #[x, y, z] t (0, 0))) : (w.setCell ⟨p, 2, none⟩ v).heap[p]? = some (.cells #[x, y, v] t (0, 0)) ∧ w.grownBy (w.setCell ⟨p, 2, none⟩ v) (some p) := by
  refine ⟨?_, ⟨rfl, rfl, rfl, by simp, fun k _ hk => heap_setCell_other w ⟨p, 2, none⟩ k v (fun e => hk (by simp [e]))⟩⟩
  rw [heap_setCell_same w p 2 _ t v h]
  rfl

theorem set_at {w : World} {p : Nat} {x y z v : Value} {t : TypeId} (h : w.heap[p]? = some (.cells #[x, y, z] t (0, 0))) : (w.setCell ⟨p, 1, none⟩ v).heap[p]? = some (.cells #[x, v, z] t (0, 0)) ∧ w.grownBy (w.setCell ⟨p, 1, none⟩ v) (some p) := by
  refine ⟨?_, ⟨rfl, rfl, rfl, by simp, fun k _ hk => heap_setCell_other w ⟨p, 1, none⟩ k v (fun e => hk (by simp [e]))⟩⟩
  rw [heap_setCell_same w p 1 _ t v h]
  rfl

theorem grown_drewN {a b : World} {p : Option Nat} (h : a.grownBy b p) (n : Nat) : a.grownBy (b.drewN n) p := ⟨h.os, h.tape, h.output, h.size, h.block⟩

theorem bad_end {w : World} {p at_ : Nat} {s : List UInt8} {z : Value} (h : w.heap[p]? = some (.cells #[strB s, .int .i64 (at_ : Int), z] 92 (0, 0))) (ha : at_ ≤ s.length) (nq : Nat) :
    SpotAt ((w.drewN nq).setCell ⟨p, 2, none⟩ (.bool true)) p s none :=
  ⟨at_, true, (set_bad (w := w.drewN nq) h).1, ha, rfl⟩

theorem bad_grown {w : World} {p : Nat} {x y z v : Value} {t : TypeId} (h : w.heap[p]? = some (.cells #[x, y, z] t (0, 0))) (nq : Nat) : w.grownBy ((w.drewN nq).setCell ⟨p, 2, none⟩ v) (some p) := by
  have h1 := (set_bad (w := w.drewN nq) (v := v) h).2
  exact ⟨h1.os, h1.tape, h1.output, h1.size, h1.block⟩

theorem at_end {w : World} {p at_ m : Nat} {s : List UInt8} {y : Value} (h : w.heap[p]? = some (.cells #[strB s, y, .bool false] 92 (0, 0))) (ha : at_ + m ≤ s.length) (n1 n2 : Nat) :
    SpotAt (((w.drewN n1).setCell ⟨p, 1, none⟩ (.int .i64 ((at_ : Int) + (m : Int)))).drewN n2) p s (some ((s.drop at_).drop ((m : Int)).toNat)) := by
  refine ⟨at_ + m, false, ?_, ha, by simp [List.drop_drop]⟩
  have := (set_at (w := w.drewN n1) (v := .int .i64 ((at_ : Int) + (m : Int))) h).1
  simpa using this

theorem at_grown {w : World} {p : Nat} {x y z v : Value} {t : TypeId} (h : w.heap[p]? = some (.cells #[x, y, z] t (0, 0))) (n1 n2 : Nat) : w.grownBy (((w.drewN n1).setCell ⟨p, 1, none⟩ v).drewN n2) (some p) := by
  have h1 := (set_at (w := w.drewN n1) (v := v) h).2
  exact ⟨h1.os, h1.tape, h1.output, h1.size, h1.block⟩

theorem ret_ext {s : ByteArray} {l : List UInt8} (h : s.data.toList = l) : Ending.returned (.string s) = .returned (strB l) := by
  subst h
  obtain ⟨⟨t⟩⟩ := s
  rfl

set_option maxHeartbeats 2000000 in
theorem take_any (p : Nat) (s : List UInt8) (st : Option (List UInt8)) (n : Int) (w : World) (hs : s.length ≤ maxLen) (h0 : -9223372036854775808 ≤ n) (h1 : n ≤ 9223372036854775807) (hp : SpotAt w p s st) :
    Calls Try.prog 97 #[.pointer (some ⟨p, 0, none⟩), .int .i64 n] w fun e w' => e = .returned (strB (takeP n st).1) ∧ SpotAt w' p s (takeP n st).2 ∧ w.grownBy w' (some p) := by
  obtain ⟨at_, bad, hrow, hat, hst⟩ := hp
  obtain ⟨⟨c0, c1, c2⟩, cf⟩ := cells3 hrow
  have f1 := cf 1
  have f2 := cf 2
  have Hrow := hid hrow
  unfold maxLen at hs
  clear hrow cf
  cases bad with
  | true =>
    simp only [if_true] at hst
    subst hst
    go_enter Try.func97, Try.ntmps97
    go_wp2_with fail
    go_quiet (fail)
    go_wp2
    go_ret
    exact ⟨rfl, bad_end Hrow.out hat nq, bad_grown Hrow.out nq⟩
  | false =>
    simp only [Bool.false_eq_true, if_false] at hst
    subst hst
    have hdl : (s.drop at_).length = s.length - at_ := List.length_drop
    by_cases hn0 : n < 0
    · have HT : Hid (takeP n (some (s.drop at_)) = ([], none)) := by simp [Hid, takeP, hn0]
      go_enter Try.func97, Try.ntmps97
      go_wp2_with fail
      go_quiet (fail)
      go_wp2
      go_ret
      rw [HT.out]
      exact ⟨rfl, bad_end Hrow.out hat nq, bad_grown Hrow.out nq⟩
    · have hn1 : decide (n < 0) = false := by simp; omega
      have hn2 : (0 : Int) ≤ n := by omega
      by_cases hn3 : (s.length : Int) - (at_ : Int) < n
      · have HT : Hid (takeP n (some (s.drop at_)) = ([], none)) := by
          exact takeP_no (.inr (by rw [hdl]; omega))
        clear hn0
        go_enter Try.func97, Try.ntmps97
        go_wp2_with fail
        go_quiet (fail)
        go_wp2
        go_ret
        rw [HT.out]
        exact ⟨rfl, bad_end Hrow.out hat nq, bad_grown Hrow.out nq⟩
      · have HT : Hid (takeP n (some (s.drop at_)) = ((s.drop at_).take n.toNat, some ((s.drop at_).drop n.toNat))) := by
          exact takeP_yes (by omega) (by rw [hdl]; omega)
        obtain ⟨m, rfl⟩ := Int.eq_ofNat_of_zero_le hn2
        have hn4 : decide ((s.length : Int) - (at_ : Int) < (m : Int)) = false := by simp; omega
        have hn5 : (m : Int) ≤ (s.length : Int) - (at_ : Int) := by omega
        clear hn0 hn3
        go_enter Try.func97, Try.ntmps97
        go_wp2_with fail
        go_quiet (fail)
        go_wp2_with fail
        have b1 : (at_ : Int) ≤ (at_ : Int) + (m : Int) := by omega
        have b2 : (at_ : Int) + (m : Int) ≤ (s.length : Int) := by omega
        have b3 : (0 : Int) ≤ (at_ : Int) := by omega
        have b4 : (at_ : Int) + (m : Int) - (m : Int) = (at_ : Int) := by omega
        have b5 : ((at_ : Int) + (m : Int)).toNat = at_ + m := by omega
        go_quiet (fail)
        go_wp2_with fail
        go_ret
        rw [HT.out]
        refine ⟨ret_ext ?_, at_end Hrow.out (by omega) _ _, at_grown Hrow.out _ _⟩
        rw [Lib.extract_data, mk_data]
        simp

/-- The reader's state, told bad. -/
def isBad : Option (List UInt8) → Bool
  | none => true
  | some _ => false

theorem spot_bad {w : World} {p : Nat} {s : List UInt8} {st : Option (List UInt8)} (h : SpotAt w p s st) : w.cell? ⟨p, 2, none⟩ = some (.bool (isBad st)) := by
  obtain ⟨at_, bad, hrow, _, rfl⟩ := h
  rw [(cells3 hrow).1.2.2]
  cases bad <;> rfl

theorem byte_u64 (c : UInt8) : IntKind.u64.wrap (((⟨#[c]⟩ : ByteArray)[0]'(by simp [ByteArray.size])).toNat : Int) = (c.toNat : Int) := by
  have := c.toNat_lt
  show IntKind.u64.wrap (c.toNat : Int) = _
  rw [IntKind.wrap_u64]; omega

theorem acc_eq (n sc c : Nat) : IntKind.u64.wrap ((n : Int) + IntKind.u64.wrap ((sc : Int) * ((c : Int) % 128))) = (((n + sc * (c % 128)) % 18446744073709551616 : Nat) : Int) := by
  have e : (sc : Int) * ((c : Int) % 128) = ((sc * (c % 128) : Nat) : Int) := by simp
  rw [e, IntKind.wrap_u64, IntKind.wrap_u64]
  omega

theorem sc_eq (sc : Nat) : IntKind.u64.wrap ((sc : Int) * 128) = ((sc * 128 % 18446744073709551616 : Nat) : Int) := by
  rw [IntKind.wrap_u64]; omega

set_option maxRecDepth 100000 in
set_option maxHeartbeats 2000000 in
theorem uS_any (p : Nat) (s : List UInt8) (st : Option (List UInt8)) (w : World) (hs : s.length ≤ maxLen) (hp : SpotAt w p s st) :
    Calls Try.prog 96 #[.pointer (some ⟨p, 0, none⟩)] w fun e w' => e = .returned (.int .u64 ((uP 10 0 1 st).1 : Int)) ∧ SpotAt w' p s (uP 10 0 1 st).2 ∧ w.grownBy w' (some p) := by
  have Hp := hid hp
  clear hp
  go_enter Try.func96, Try.ntmps96
  go_wp2
  go_loopw [3, 4, 5] (fun t c i wr => ∃ (k n sc : Nat) (sr : Option (List UInt8)), k ≤ 10 ∧ i = .int .i64 (k : Int) ∧ t = .int .u64 (n : Int) ∧ c = .int .u64 (sc : Int) ∧ n < 18446744073709551616 ∧ sc < 18446744073709551616 ∧ uP (10 - k) n sc sr = uP 10 0 1 st ∧ SpotAt wr p s sr ∧ w.grownBy wr (some p))
    (fun _ _ i _ => 10 - (intOf i).toNat)
  case atStart => exact ⟨0, 0, 1, st, Nat.zero_le _, rfl, rfl, rfl, by omega, by omega, rfl, Hp.out, World.grownBy.refl _ _⟩
  case round =>
    obtain ⟨k, n, sc, sr, hk, rfl, rfl, rfl, hn, hsc, hu, hsp, hg⟩ := hrel
    have HU := hid hu
    have Hsp := hid hsp
    have Hg := hid hg
    clear hu hsp hg
    by_cases hlt : k < 10
    · go_wp2_with fail
      refine (take_any p s sr 1 _ hs (by decide) (by decide) Hsp.out).mono ?_
      rintro e w1 ⟨rfl, hsp1, hg1⟩
      have HG1 := hid (grown_trans Hg.out hg1)
      have hb1 := spot_bad hsp1
      have Hsp1 := hid hsp1
      clear hg1 hsp1
      rcases takeP_one sr with ht | ⟨c, r, rfl, ht⟩
      · rw [ht] at hb1 Hsp1 ⊢
        have HF : Hid (uP 10 0 1 st = (0, none)) := by
          have := HU.out
          rw [show 10 - k = (9 - k) + 1 by omega] at this
          simp only [uP, ht] at this
          exact this.symm
        clear ht
        go_wp2
        go_ret
        rw [HF.out]
        exact ⟨rfl, Hsp1.out, HG1.out⟩
      · rw [ht] at hb1 Hsp1 ⊢
        have HF : Hid (uP 10 0 1 st = if c.toNat < 128 then ((n + sc * (c.toNat % 128)) % 18446744073709551616, some r) else uP (9 - k) ((n + sc * (c.toNat % 128)) % 18446744073709551616) (sc * 128 % 18446744073709551616) (some r)) := by
          have := HU.out
          rw [show 10 - k = (9 - k) + 1 by omega] at this
          simp only [uP, ht] at this
          exact this.symm
        have hcb := c.toNat_lt
        have Hn := hid hn
        have Hsc := hid hsc
        clear ht hn hsc
        simp only [isBad] at hb1
        have hcw := byte_u64 c
        by_cases hc : c.toNat < 128
        · have HF2 : Hid (uP 10 0 1 st = ((n + sc * (c.toNat % 128)) % 18446744073709551616, some r)) := by have := HF.out; rw [if_pos hc] at this; exact this
          have hci : (c.toNat : Int) < 128 := by omega
          clear HF hc
          go_wp2
          go_ret
          rw [HF2.out]
          exact ⟨ret_int (acc_eq n sc c.toNat), Hsp1.out, HG1.out⟩
        · have HF2 : Hid (uP 10 0 1 st = uP (9 - k) ((n + sc * (c.toNat % 128)) % 18446744073709551616) (sc * 128 % 18446744073709551616) (some r)) := by have := HF.out; rw [if_neg hc] at this; exact this
          have hci : (128 : Int) ≤ (c.toNat : Int) := by omega
          clear HF hc
          go_wp2
          go_roundw
          case rel => exact ⟨k + 1, _, _, _, by omega, by go_num, by rw [acc_eq], by rw [sc_eq], Nat.mod_lt _ (by decide), Nat.mod_lt _ (by decide), by rw [HF2.out, show 10 - (k + 1) = 9 - k by omega], Hsp1.out, HG1.out⟩
          case measure => simp [intOf]; omega
    · have hke : k = 10 := by omega
      subst hke
      have HF : Hid (uP 10 0 1 st = (0, none)) := by have := HU.out; rw [show 10 - 10 = 0 from rfl] at this; rw [← this]; rfl
      obtain ⟨at_, bad, hrow, hat, _⟩ := Hsp.out
      have f2 := (cells3 hrow).2 2
      have c2 := (cells3 hrow).1.2.2
      have Hrow := hid hrow
      clear hrow HU hn hsc
      go_wp2
      go_ret
      rw [HF.out]
      have hb := set_bad (v := .bool true) Hrow.out
      exact ⟨rfl, ⟨at_, true, hb.1, hat, rfl⟩, grown_trans Hg.out hb.2⟩

end Go.Proofs.Ythhpbhpfagoapaa
