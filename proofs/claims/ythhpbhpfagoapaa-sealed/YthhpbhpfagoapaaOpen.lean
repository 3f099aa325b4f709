/-
  What the program's and the document's opening do, by walks.
-/
import Derived.Test.YthhpbhpfagoapaaSeal
import Derived.Lib.Strings
namespace Go.Proofs.Ythhpbhpfagoapaa
open Go.RowKit
set_option linter.unusedVariables false

/-- The cipher of a body, and its tag. -/
def cipB (body : List UInt8) : List UInt8 := body.take (body.length - 2)
def endB (body : List UInt8) : List UInt8 := body.drop (body.length - 2)

/-- Does a body open? -/
def opensB (sec non ext body : List UInt8) : Bool := endB body == tagB sec non ext (cipB body)

theorem bodyB_stirB (sec non ext c : List UInt8) : bodyB sec non ext (stirB sec non c) = c ++ tagB sec non ext c := by
  unfold bodyB
  rw [stirB_stirB]

theorem body_opens (sec non ext body : List UInt8) : (bodyB sec non ext (stirB sec non (cipB body)) == body) = opensB sec non ext body := by
  rw [bodyB_stirB]
  have h : body = cipB body ++ endB body := (List.take_append_drop _ _).symm
  unfold opensB
  rw [Bool.eq_iff_iff]
  simp only [beq_iff_eq]
  constructor
  · intro e
    have := e.trans h
    exact (List.append_cancel_left this).symm
  · intro e
    rw [← e]; exact h.symm

set_option maxHeartbeats 1000000 in
theorem plain_short (sec non ext body : ByteArray) (w : World) (h : body.size < 2) :
    Calls Try.prog 30 #[.string sec, .string non, .string ext, .string body] w fun e w' =>
      e = .returned (.tuple #[strB [], .bool false]) ∧ w' = w := by
  go_enter Try.func30, Try.ntmps30
  go_wp2
  go_ret2
  exact ⟨rfl, rfl⟩

theorem toList_data (b : ByteArray) : b.toList = b.data.toList := ByteArray.toList_eq b

theorem len_data (b : ByteArray) : b.data.toList.length = b.size := by simp

theorem ext_cip (body : ByteArray) : (body.extract 0 (body.size - 2)).data.toList = cipB body.data.toList := by
  simp [cipB]

theorem ext_size (body : ByteArray) (hb : body.size ≤ 5002) : (body.extract 0 (body.size - 2)).size ≤ 5000 := by
  simp; omega

theorem cmp_of (sec non ext : List UInt8) (body : ByteArray) (h : 2 ≤ body.size) :
    (!(body.extract ((body.size : Int) - 2).toNat body.size).toList == tagB sec non ext (List.take (body.size - 2) body.data.toList)) = !opensB sec non ext body.data.toList := by
  have e1 : ((body.size : Int) - 2).toNat = body.size - 2 := by omega
  have e2 : (body.extract (body.size - 2) body.size).toList = endB body.data.toList := by
    unfold endB
    rw [len_data, Lib.extract_toList, List.take_of_length_le (by rw [List.length_drop, len_data]; omega)]
  rw [e1, e2]
  rfl

set_option maxHeartbeats 1000000 in
theorem plain_yes (sec non ext body : ByteArray) (w : World) (h : 2 ≤ body.size) (hb : body.size ≤ 5002) (h1 : sec.size ≤ 1000) (h2 : non.size ≤ 1000) (h3 : ext.size ≤ 5000)
    (ho : opensB sec.data.toList non.data.toList ext.data.toList body.data.toList = true) :
    Calls Try.prog 30 #[.string sec, .string non, .string ext, .string body] w fun e w' =>
      e = .returned (.tuple #[strB (stirB sec.data.toList non.data.toList (cipB body.data.toList)), .bool true]) ∧ Below w.heap.size w w' := by
  have hm : (1000 : Nat) ≤ maxLen := by decide
  have i1 : (2 : Int) ≤ (body.size : Int) := by omega
  have i2 : (body.size : Int) - 2 ≤ (body.size : Int) := by omega
  have i3 : (0 : Int) ≤ (body.size : Int) - 2 := by omega
  have hcmp := cmp_of sec.data.toList non.data.toList ext.data.toList body h
  rw [ho] at hcmp
  clear ho
  go_enter Try.func30, Try.ntmps30
  go_wp2_with fail
  go_region_with (go_at_call 48; refine (tag_any sec non ext _ _ (Nat.le_trans h1 hm) (Nat.le_trans h2 hm) h3 ?_).mono ?_; (simp; unfold maxLen; omega); rintro e w1 ⟨rfl, hb1⟩)
  all_goals
    go_wp2_with fail
    refine (mask_any sec non _ _ (Nat.le_trans h1 hm) (Nat.le_trans h2 hm) (ext_size body hb)).mono ?_
    rintro e w2 ⟨rfl, hb2⟩
    rw [ext_cip]
    go_wp2
    go_ret2
    exact ⟨rfl, (below_undrew hb1).trans (hb2.mono hb1.size)⟩

set_option maxHeartbeats 1000000 in
theorem plain_no (sec non ext body : ByteArray) (w : World) (h : 2 ≤ body.size) (hb : body.size ≤ 5002) (h1 : sec.size ≤ 1000) (h2 : non.size ≤ 1000) (h3 : ext.size ≤ 5000)
    (ho : opensB sec.data.toList non.data.toList ext.data.toList body.data.toList = false) :
    Calls Try.prog 30 #[.string sec, .string non, .string ext, .string body] w fun e w' =>
      e = .returned (.tuple #[strB [], .bool false]) ∧ Below w.heap.size w w' := by
  have hm : (1000 : Nat) ≤ maxLen := by decide
  have i1 : (2 : Int) ≤ (body.size : Int) := by omega
  have i2 : (body.size : Int) - 2 ≤ (body.size : Int) := by omega
  have i3 : (0 : Int) ≤ (body.size : Int) - 2 := by omega
  have hcmp := cmp_of sec.data.toList non.data.toList ext.data.toList body h
  rw [ho] at hcmp
  clear ho
  go_enter Try.func30, Try.ntmps30
  go_wp2_with fail
  go_region_with (go_at_call 48; refine (tag_any sec non ext _ _ (Nat.le_trans h1 hm) (Nat.le_trans h2 hm) h3 ?_).mono ?_; (simp; unfold maxLen; omega); rintro e w1 ⟨rfl, hb1⟩)
  all_goals
    go_wp2
    go_ret2
    exact ⟨rfl, below_undrew hb1⟩

set_option maxHeartbeats 1000000 in
theorem openRef_short (sec non ext body : ByteArray) (w : World) (h : body.size < 2) :
    Calls Try.prog 13 #[.string sec, .string non, .string ext, .string body] w fun e w' =>
      e = .returned (.tuple #[strB [], .bool false]) ∧ w' = w := by
  go_enter Try.func13, Try.ntmps13
  go_wp2
  go_ret2
  exact ⟨rfl, rfl⟩

theorem cipB_len (body : List UInt8) : (cipB body).length = body.length - 2 := by simp [cipB]

set_option maxHeartbeats 1000000 in
theorem openRef_any (sec non ext body : ByteArray) (w : World) (h : 2 ≤ body.size) (hb : body.size ≤ 5002) (h1 : sec.size ≤ 1000) (h2 : non.size ≤ 1000) (h3 : ext.size ≤ 5000) :
    Calls Try.prog 13 #[.string sec, .string non, .string ext, .string body] w fun e w' =>
      e = .returned (.tuple #[strB (stirB sec.data.toList non.data.toList (cipB body.data.toList)), .bool (opensB sec.data.toList non.data.toList ext.data.toList body.data.toList)]) ∧ Below w.heap.size w w' := by
  have i1 : (2 : Int) ≤ (body.size : Int) := by omega
  have i2 : (body.size : Int) - 2 ≤ (body.size : Int) := by omega
  have i3 : (0 : Int) ≤ (body.size : Int) - 2 := by omega
  have HO := hid (body_opens sec.data.toList non.data.toList ext.data.toList body.data.toList)
  have hl : (stirB sec.data.toList non.data.toList (cipB body.data.toList)).length ≤ 5000 := by rw [stirB_length, cipB_len, len_data]; omega
  go_enter Try.func13, Try.ntmps13
  go_wp2_with fail
  refine (stirred_any sec non _ _ h1 h2 (ext_size body hb)).mono ?_
  rintro e w1 ⟨rfl, hb1⟩
  rw [ext_cip]
  generalize hp : stirB sec.data.toList non.data.toList (cipB body.data.toList) = plain at *
  have HP := hid hp
  clear hp
  go_wp2_with fail
  refine (sealRef_any sec non ext ⟨plain.toArray⟩ _ h1 h2 h3 (by rw [strB_size]; exact hl)).mono ?_
  rintro e w2 ⟨rfl, hb2⟩
  have e0 : (⟨plain.toArray⟩ : ByteArray).data.toList = plain := by simp
  rw [e0]
  clear e0
  generalize hq : bodyB sec.data.toList non.data.toList ext.data.toList plain = bd at *
  have HQ := hid hq
  clear hq
  go_wp2
  go_ret2
  refine ⟨?_, hb1.trans (hb2.mono hb1.size)⟩
  show Ending.returned (.tuple #[strB plain, .bool (bd == body.toList)]) = _
  rw [HP.out, ← HO.out, toList_data]

set_option maxHeartbeats 1000000 in
theorem open_ok (sec non ext body : ByteArray) (w : World) (h1 : sec.size ≤ maxLen) (h2 : non.size ≤ maxLen) (h3 : ext.size ≤ maxLen) (h4 : body.size ≤ maxLen)
    (hz : sizedB sec.size non.size ext.size body.size 2 = 0) (h : 2 ≤ body.size) (ho : opensB sec.data.toList non.data.toList ext.data.toList body.data.toList = true) :
    Calls Try.prog 12 #[.string sec, .string non, .string ext, .string body] w fun e w' =>
      e = .returned (.tuple #[strB (stirB sec.data.toList non.data.toList (cipB body.data.toList)), .int .i64 0]) ∧ Below w.heap.size w w' := by
  obtain ⟨a1, a2, a3, a4⟩ := sized_zero hz
  have HA := hid a1
  have HB := hid a2
  have Ho := hid ho
  have hc : checkB sec.size non.size = 0 := by simp [checkB, a1, a2]
  have Hc := hid hc
  clear hz a1 a2 hc ho
  go_enter Try.func12, Try.ntmps12
  go_wp2_with fail
  refine (check_any sec non w h1 h2).mono ?_
  rintro e w1 ⟨rfl, rfl⟩
  rw [Hc.out]
  go_wp2_with fail
  refine (plain_yes sec non ext body _ h (by omega) (by rw [HA.out]; decide) (by rw [HB.out]; decide) a3 Ho.out).mono ?_
  rintro e w2 ⟨rfl, hb2⟩
  go_wp2
  go_ret2
  exact ⟨rfl, hb2⟩

set_option maxHeartbeats 1000000 in
theorem open_seal (sec non ext body : ByteArray) (w : World) (h1 : sec.size ≤ maxLen) (h2 : non.size ≤ maxLen) (h3 : ext.size ≤ maxLen) (h4 : body.size ≤ maxLen)
    (hz : sizedB sec.size non.size ext.size body.size 2 = 0) (hn : body.size < 2 ∨ opensB sec.data.toList non.data.toList ext.data.toList body.data.toList = false) :
    Calls Try.prog 12 #[.string sec, .string non, .string ext, .string body] w fun e w' =>
      e = .returned (.tuple #[strB [], .int .i64 4]) ∧ Below w.heap.size w w' := by
  obtain ⟨a1, a2, a3, a4⟩ := sized_zero hz
  have HA := hid a1
  have HB := hid a2
  have hc : checkB sec.size non.size = 0 := by simp [checkB, a1, a2]
  have Hc := hid hc
  have hp : Hid (∀ w, Calls Try.prog 30 #[.string sec, .string non, .string ext, .string body] w fun e w' => e = .returned (.tuple #[strB [], .bool false]) ∧ Below w.heap.size w w') := by
    intro w
    by_cases hs : body.size < 2
    · refine (plain_short sec non ext body w hs).mono ?_
      rintro e w' ⟨h, rfl⟩
      exact ⟨h, Below.refl _ _⟩
    · exact plain_no sec non ext body w (by omega) (by omega) (by omega) (by omega) a3 (hn.resolve_left hs)
  clear hz a1 a2 hc hn
  go_enter Try.func12, Try.ntmps12
  go_wp2_with fail
  refine (check_any sec non w h1 h2).mono ?_
  rintro e w1 ⟨rfl, rfl⟩
  rw [Hc.out]
  go_wp2_with fail
  refine (hp.out _).mono ?_
  rintro e w2 ⟨rfl, hb2⟩
  go_wp2
  go_ret2
  exact ⟨rfl, hb2⟩

set_option maxHeartbeats 1000000 in
/-- Open, of sizes that may not be. -/
theorem open_no (sec non ext plain : ByteArray) (w : World) (h1 : sec.size ≤ maxLen) (h2 : non.size ≤ maxLen) (h3 : ext.size ≤ maxLen) (h4 : plain.size ≤ maxLen)
    (hz : sizedB sec.size non.size ext.size plain.size 2 ≠ 0) :
    Calls Try.prog 12 #[.string sec, .string non, .string ext, .string plain] w fun e w' =>
      e = .returned (.tuple #[strB [], .int .i64 (sizedB sec.size non.size ext.size plain.size 2)]) ∧ w' = w := by
  by_cases hc : checkB sec.size non.size = 0
  · obtain ⟨a1, a2⟩ := check_zero hc
    have hb : 5000 < ext.size ∨ 5002 < plain.size := by
      unfold sizedB at hz; simp [a1, a2] at hz; omega
    have HE : Hid (sizedB sec.size non.size ext.size plain.size 2 = 3) := by
      simp [Hid, sizedB, a1, a2]; omega
    have Hc := hid hc
    clear hc a1 a2 hz
    unfold maxLen at h1 h2 h3 h4
    by_cases g3 : 5000 < ext.size
    · clear hb
      go_enter Try.func12, Try.ntmps12
      go_wp2_with fail
      refine (check_any sec non w h1 h2).mono ?_
      rintro e w1 ⟨rfl, rfl⟩
      rw [Hc.out]
      go_wp2
      go_ret2
      exact ⟨by rw [HE.out]; rfl, rfl⟩
    · have g4 : 5002 < plain.size := by omega
      clear hb
      go_enter Try.func12, Try.ntmps12
      go_wp2_with fail
      refine (check_any sec non w h1 h2).mono ?_
      rintro e w1 ⟨rfl, rfl⟩
      rw [Hc.out]
      go_wp2
      go_ret2
      exact ⟨by rw [HE.out]; rfl, rfl⟩
  · have HE := hid (sized_of_check sec.size non.size ext.size plain.size 2 hc)
    have hbn := check_bne hc
    clear hz hc
    go_enter Try.func12, Try.ntmps12
    go_wp2_with fail
    refine (check_any sec non w h1 h2).mono ?_
    rintro e w1 ⟨rfl, rfl⟩
    generalize checkB sec.size non.size = x at *
    go_wp2
    go_ret2
    exact ⟨by rw [HE.out]; rfl, rfl⟩

/-- The document's opening, in one. -/
def okB (sec non ext body : ByteArray) : Bool := decide (2 ≤ body.size) && opensB sec.data.toList non.data.toList ext.data.toList body.data.toList

set_option maxHeartbeats 1000000 in
/-- THE LAW Opens. -/
theorem opens_walk (a0 a1 a2 a3 : ByteArray) (w : World) (w0 : a0.size ≤ maxLen) (w1 : a1.size ≤ maxLen) (w2 : a2.size ≤ maxLen) (w3 : a3.size ≤ maxLen) :
    Calls Try.prog 4 #[.string a0, .string a1, .string a2, .string a3] w fun e w' => e = .returned (.bool true) ∧ Below w.heap.size w w' := by
  by_cases hz : sizedB a0.size a1.size a2.size a3.size 2 = 0
  · have Hz := hid hz
    obtain ⟨e1, e2, b3, b4⟩ := sized_zero hz
    have E1 : a0.size ≤ 1000 := by omega
    have E2 : a1.size ≤ 1000 := by omega
    clear hz e1 e2
    by_cases hs : a3.size < 2
    · go_enter Try.func4, Try.ntmps4
      go_wp2_with fail
      refine (open_seal a0 a1 a2 a3 w w0 w1 w2 w3 Hz.out (.inl hs)).mono ?_
      rintro e x1 ⟨rfl, hb1⟩
      go_wp2_with fail
      refine (sized_any a0 a1 a2 a3 2 _ (by decide) w0 w1 w2 w3).mono ?_
      rintro e x2 ⟨rfl, rfl⟩
      rw [Hz.out]
      go_wp2_with fail
      refine (openRef_short a0 a1 a2 a3 _ hs).mono ?_
      rintro e x3 ⟨rfl, rfl⟩
      go_wp2
      go_ret
      exact ⟨by simp, hb1⟩
    · have hs2 : 2 ≤ a3.size := by omega
      cases ho : opensB a0.data.toList a1.data.toList a2.data.toList a3.data.toList with
      | false =>
        have Ho := hid ho
        clear ho
        go_enter Try.func4, Try.ntmps4
        go_wp2_with fail
        refine (open_seal a0 a1 a2 a3 w w0 w1 w2 w3 Hz.out (.inr Ho.out)).mono ?_
        rintro e x1 ⟨rfl, hb1⟩
        go_wp2_with fail
        refine (sized_any a0 a1 a2 a3 2 _ (by decide) w0 w1 w2 w3).mono ?_
        rintro e x2 ⟨rfl, rfl⟩
        rw [Hz.out]
        go_wp2_with fail
        refine (openRef_any a0 a1 a2 a3 _ hs2 (by omega) E1 E2 b3).mono ?_
        rintro e x3 ⟨rfl, hb3⟩
        rw [Ho.out]
        generalize stirB a0.data.toList a1.data.toList (cipB a3.data.toList) = plain at *
        go_wp2
        go_ret
        exact ⟨by simp, hb1.trans (hb3.mono hb1.size)⟩
      | true =>
        have Ho := hid ho
        clear ho
        go_enter Try.func4, Try.ntmps4
        go_wp2_with fail
        refine (open_ok a0 a1 a2 a3 w w0 w1 w2 w3 Hz.out hs2 Ho.out).mono ?_
        rintro e x1 ⟨rfl, hb1⟩
        go_wp2_with fail
        refine (sized_any a0 a1 a2 a3 2 _ (by decide) w0 w1 w2 w3).mono ?_
        rintro e x2 ⟨rfl, rfl⟩
        rw [Hz.out]
        go_wp2_with fail
        refine (openRef_any a0 a1 a2 a3 _ hs2 (by omega) E1 E2 b3).mono ?_
        rintro e x3 ⟨rfl, hb3⟩
        rw [Ho.out]
        generalize stirB a0.data.toList a1.data.toList (cipB a3.data.toList) = plain at *
        go_wp2
        go_ret
        exact ⟨by simp, hb1.trans (hb3.mono hb1.size)⟩
  · have hzn := check_bne hz
    have Hz := hid hz
    clear hz
    go_enter Try.func4, Try.ntmps4
    go_wp2_with fail
    refine (open_no a0 a1 a2 a3 w w0 w1 w2 w3 Hz.out).mono ?_
    rintro e x1 ⟨rfl, rfl⟩
    go_wp2_with fail
    refine (sized_any a0 a1 a2 a3 2 _ (by decide) w0 w1 w2 w3).mono ?_
    rintro e x2 ⟨rfl, rfl⟩
    generalize sizedB a0.size a1.size a2.size a3.size 2 = z at *
    go_wp2
    go_ret
    exact ⟨by simp, Below.refl _ _⟩

end Go.Proofs.Ythhpbhpfagoapaa
