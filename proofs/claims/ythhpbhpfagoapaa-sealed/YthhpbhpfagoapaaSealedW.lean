/-
  The walk of cofferkeep's Sealed.
-/
import Derived.Test.YthhpbhpfagoapaaOpen
import Derived.Test.YthhpbhpfagoapaaKeep
import Derived.Deep.DeepCutAuto
namespace Go.Proofs.Ythhpbhpfagoapaa
open Go.RowKit
set_option linter.unusedVariables false
set_option maxRecDepth 100000

theorem out_zero (n : Nat) : outB 0 n = false := by
  have h : ∀ x : Int, bits .and .i64 0 x = 0 := by
    intro x
    show IntKind.i64.wrap ((BitVec.ofInt 64 0 &&& BitVec.ofInt 64 x).toNat : Nat) = 0
    simp
    decide
  unfold outB
  rw [h]
  rfl

theorem ring_zero (c : Int) : ringB c 0 5 = [(1, rawSecB c 1), (2, rawSecB c 2), (3, rawSecB c 3), (4, rawSecB c 4), (5, rawSecB c 5)] := by
  simp [ringB, out_zero]

/-- The whole ring: its first secret. -/
theorem ring0_any (c : Int) (w : World) (h0 : -9223372036854775808 ≤ c) (h1 : c ≤ 9223372036854775807) :
    Calls Try.prog 20 #[.int .i64 c, .int .i64 0] w fun e w' => ∃ g cap, e = .returned (.slice (some ⟨g, 0, none⟩) 5 cap) ∧ w'.cell? ⟨g, 1, none⟩ = some (strB (rawSecB c 1)) ∧ Below w.heap.size w w' := by
  refine (ring_any c 0 w h0 h1).mono ?_
  rintro e w' ⟨v, rfl, hown, hB⟩
  rw [ring_zero] at hown
  rcases hown.2 with ⟨_, h⟩ | ⟨g, cap, cur, rfl, _⟩
  · simp at h
  · refine ⟨g, cap, rfl, ?_, hB⟩
    rw [hown.cellAt 1 (by simp)]
    rfl

def strLen : Value → Nat
  | .string s => s.size
  | _ => 0

/-- Facts on bodies, without the program. -/
theorem cip_body (sec non ext p : List UInt8) : cipB (bodyB sec non ext p) = stirB sec non p := by
  unfold cipB
  rw [bodyB_length]
  unfold bodyB
  have h : p.length + 2 - 2 = (stirB sec non p).length := by rw [stirB_length]; omega
  rw [h, List.take_left]

theorem end_body (sec non ext p : List UInt8) : endB (bodyB sec non ext p) = tagB sec non ext (stirB sec non p) := by
  unfold endB
  rw [bodyB_length]
  unfold bodyB
  have h : p.length + 2 - 2 = (stirB sec non p).length := by rw [stirB_length]; omega
  rw [h, List.drop_left]

theorem opens_body (sec non ext p : List UInt8) : opensB sec non ext (bodyB sec non ext p) = true := by
  unfold opensB
  rw [cip_body, end_body]
  simp

theorem plain_body (sec non ext p : List UInt8) : stirB sec non (cipB (bodyB sec non ext p)) = p := by
  rw [cip_body, stirB_stirB]

theorem body_of_open (sec non ext b : List UInt8) (h : opensB sec non ext b = true) : bodyB sec non ext (stirB sec non (cipB b)) = b := by
  have := body_opens sec non ext b
  rw [h] at this
  simpa using this

theorem other_plain (sec non ext p b : List UInt8) (h : opensB sec non ext b = true) (hne : b ≠ bodyB sec non ext p) : stirB sec non (cipB b) ≠ p := by
  intro e
  apply hne
  rw [← e, body_of_open sec non ext b h]

/-- '[]byte(s)': the new row. -/
theorem conv_bytes (w : World) (s : ByteArray) : ∃ cap w', Sem.run Try.prog (convert 9 43 (.string s)) w = .ok (.slice (some ⟨w.heap.size, 0, none⟩) s.size cap) w' ∧
    (∀ j, j < s.size → w'.cell? ⟨w.heap.size, j, none⟩ = some (.int .u8 ((s.data.toList.getD j 0).toNat : Int))) ∧ (∀ j, j < s.size → w'.frozen? ⟨w.heap.size, j, none⟩ = false) ∧ Below w.heap.size w w' ∧ w'.heap.size = w.heap.size + 1 := by
  have hnew : ∀ (C : Array Value) (fr : Nat × Nat), (w.drew.alloc (.cells C 5 fr)).heap[w.heap.size]? = some (.cells C 5 fr) := by
    intro C fr
    show (w.heap.push (.cells C 5 fr))[w.heap.size]? = _
    simp
  refine ⟨_, _, run_bytes_of_string (P := Try.prog) w 9 43 5 s Try.underlying9 Try.underlying43 Try.underlying5, ?_, ?_, ?_, ?_⟩
  · intro j hj
    unfold World.cell?
    rw [hnew]
    simp [bytesRow, Array.getElem?_append, List.getD, hj]
  · intro j hj
    have hz : s.size ≤ (bytesRow s (grownCap w s.size 0 5)).size := by simp [bytesRow]
    unfold World.frozen?
    rw [hnew]
    simp
    omega
  · exact ((Below.refl _ _).drew).alloc (Nat.le_refl _) _
  · simp

/-- A byte of a row is written: what 'string(b)' then gives, there and later. -/
theorem conv_set (w4 : World) (g i cap n : Nat) (l : List UInt8) (u : UInt8) (hl : l.length = n) (hg : g < w4.heap.size)
    (hc : ∀ j, j < n → w4.cell? ⟨g, j, none⟩ = some (.int .u8 ((l.getD j 0).toNat : Int))) (hi : i < n) (W : World) (hW : Below w4.heap.size (w4.setCell ⟨g, i, none⟩ (.int .u8 (u.toNat : Int))) W) :
    Sem.run Try.prog (convert 43 9 (.slice (some ⟨g, 0, none⟩) n cap)) W = .ok (strB (l.set i u)) W := by
  have hn : (l.set i u).length = n := by simp [hl]
  rw [← hn]
  refine run_convert_bytes_back (P := Try.prog) _ 43 9 5 ⟨g, 0, none⟩ cap (l.set i u) Try.underlying43 Try.underlying5 Try.underlying9 ?_
  intro j hj
  have ha : (⟨g, 0, none⟩ : Addr).add j = ⟨g, j, none⟩ := by unfold Addr.add; split <;> simp_all
  rw [ha, hW.cell (p := ⟨g, j, none⟩) hg]
  have hjn : j < n := by rw [← hn]; exact hj
  by_cases hji : j = i
  · subst hji
    rw [World.cell?_setCell_same' _ _ _ (by rw [hc j hjn]; rfl)]
    simp
  · have h0 : (⟨g, i, none⟩ : Addr) ≠ ⟨g, j, none⟩ := by
      intro h
      simp only [Addr.mk.injEq, true_and, and_true] at h
      exact hji h.symm
    rw [World.cell?_setCell_other w4 _ _ _ h0, hc j hjn]
    have h1 : j < l.length := by omega
    have h2 : i ≠ j := fun h => hji h.symm
    simp [h2, List.getD, h1]

theorem sized_fit {a b c d m : Nat} (h1 : a = 8) (h2 : b = 4) (h3 : c ≤ 5000) (h4 : d ≤ 5000 + m) : sizedB a b c d m = 0 := by
  unfold sizedB
  rw [if_neg (by omega), if_neg (by omega), if_neg (by omega)]

theorem turned (b : UInt8) (p : Int) (h0 : 0 ≤ p) (h1 : p < 255) : ∃ u : UInt8, IntKind.u8.wrap ((b.toNat : Int) + IntKind.u8.wrap (IntKind.i64.wrap (1 + p))) = (u.toNat : Int) ∧ u ≠ b := by
  have hb := b.toNat_lt
  have e1 : IntKind.i64.wrap (1 + p) = 1 + p := IntWalk.i64_in _ ⟨by omega, by omega⟩
  have e2 : IntKind.u8.wrap (1 + p) = 1 + p := by rw [IntKind.wrap_u8]; omega
  have e3 : IntKind.u8.wrap ((b.toNat : Int) + (1 + p)) = ((b.toNat : Int) + (1 + p)) % 256 := by rw [IntKind.wrap_u8]
  rw [e1, e2, e3]
  refine ⟨UInt8.ofNat ((b.toNat + (1 + p.toNat)) % 256), ?_, ?_⟩
  · simp only [UInt8.toNat_ofNat']; omega
  · intro h
    have := congrArg UInt8.toNat h
    simp only [UInt8.toNat_ofNat'] at this
    omega

theorem set_ne (l : List UInt8) (i : Nat) (h : i < l.length) (u : UInt8) (hu : u ≠ l[i]) : l.set i u ≠ l := by
  intro e
  apply hu
  have : (l.set i u)[i]'(by simpa using h) = l[i] := by simp only [e]
  rw [← this]
  simp

theorem smk_data (l : List UInt8) : (⟨l.toArray⟩ : ByteArray).data.toList = l := rfl

theorem grow_less (m : ByteArray) (h : m.size < 4) : 4 - strLen (.string (m ++ ⟨#[110]⟩)) < 4 - strLen (.string m) := by
  simp only [strLen, ByteArray.size_append']
  show 4 - (m.size + 1) < 4 - m.size
  omega

set_option maxRecDepth 100000 in
set_option maxHeartbeats 2000000 in
theorem sealed_walk (c at_ by_ : Int) (nonce extra plain : ByteArray) (w : World) (c0 : -9223372036854775808 ≤ c) (c1 : c ≤ 9223372036854775807)
    (p0 : -9223372036854775808 ≤ at_) (p1 : at_ ≤ 9223372036854775807) (q0 : -9223372036854775808 ≤ by_) (q1 : by_ ≤ 9223372036854775807)
    (h1 : nonce.size ≤ maxLen) (h2 : extra.size ≤ maxLen) (h3 : plain.size ≤ maxLen) :
    Calls Try.prog 7 #[.int .i64 c, .string nonce, .string extra, .string plain, .int .i64 at_, .int .i64 by_] w fun e w' => e = .returned (.bool true) ∧ Below w.heap.size w w' := by
  unfold maxLen at h1 h2 h3
  go_enter Try.func7, Try.ntmps7
  go_wp2_with fail
  refine (ring0_any c _ c0 c1).mono ?_
  rintro e w1 ⟨g, cap, rfl, hcell, hB1⟩
  have hsl := rawSecB_length c 1
  have Hsl := hid hsl
  clear hsl
  generalize rawSecB c 1 = sec at *
  go_wp2_with fail
  go_loop [1] (fun v => ∃ m : ByteArray, v = .string m ∧ m.size ≤ 9223372036854775807) (fun v => 4 - strLen v)
  case atStart => exact ⟨nonce, rfl, h1⟩
  case round =>
    obtain ⟨m, rfl, hm⟩ := hrel
    by_cases hm4 : m.size < 4
    · go_wp2
      go_round
      case rel => exact ⟨m ++ ⟨#[110]⟩, rfl, by rw [ByteArray.size_append']; show m.size + 1 ≤ _; omega⟩
      case measure => exact grow_less m hm4
    · have i4 : (4 : Int) ≤ (m.size : Int) := by omega
      go_upto_if 38 with fail
      go_cut [2] (fun v wc => ∃ x : ByteArray, v = .string x ∧ x.size ≤ 300 ∧ w1 = wc)
      case first =>
        go_wp2
        · go_meet
          case rel => exact ⟨extra.extract 0 300, rfl, by simp; omega, rfl⟩
        · go_meet
          case rel => exact ⟨extra, rfl, by omega, rfl⟩
      case rest =>
        obtain ⟨x, rfl, hx, rfl⟩ := hcut
        go_upto_if 43 with fail
        go_cut [3] (fun v wc => ∃ y : ByteArray, v = .string y ∧ y.size ≤ 300 ∧ w1 = wc)
        case first =>
          go_wp2
          · go_meet
            case rel => exact ⟨plain.extract 0 300, rfl, by simp; omega, rfl⟩
          · go_meet
            case rel => exact ⟨plain, rfl, by omega, rfl⟩
        case rest =>
          obtain ⟨y, rfl, hy, rfl⟩ := hcut
          have hN : (m.extract 0 4).size = 4 := by simp; omega
          generalize m.extract 0 4 = N at *
          have HN := hid hN
          clear hN
          have hE1 : (⟨sec.toArray⟩ : ByteArray).size = 8 := by rw [strB_size]; exact Hsl.out
          have hz1 : sizedB (⟨sec.toArray⟩ : ByteArray).size N.size x.size y.size 0 = 0 := by
            rw [hE1, HN.out]; unfold sizedB; simp; omega
          have Hz1 := hid hz1
          have HE1 := hid hE1
          clear hz1 hE1
          have hx' : x.size ≤ maxLen := by unfold maxLen; omega
          have hy' : y.size ≤ maxLen := by unfold maxLen; omega
          have hN' : N.size ≤ maxLen := by rw [HN.out]; decide
          have hs' : (⟨sec.toArray⟩ : ByteArray).size ≤ maxLen := by rw [HE1.out]; decide
          go_wp2_with fail
          refine (seal_ok ⟨sec.toArray⟩ N x y _ hs' hN' hx' hy' Hz1.out).mono ?_
          rintro e w2 ⟨rfl, hB2⟩
          rw [smk_data]
          have HOp := hid (opens_body sec N.data.toList x.data.toList y.data.toList)
          have HPl := hid (plain_body sec N.data.toList x.data.toList y.data.toList)
          have hbl : (bodyB sec N.data.toList x.data.toList y.data.toList).length = y.size + 2 := by rw [bodyB_length, len_data]
          have HBl := hid hbl
          have HBo := hid (body_of_open sec N.data.toList x.data.toList)
          have HOt := hid (other_plain sec N.data.toList x.data.toList y.data.toList)
          clear hbl
          generalize bodyB sec N.data.toList x.data.toList y.data.toList = body at *
          have hE3 : (⟨body.toArray⟩ : ByteArray).size = y.size + 2 := by rw [strB_size]; exact HBl.out
          have HE3 := hid hE3
          have hz2 : sizedB (⟨sec.toArray⟩ : ByteArray).size N.size x.size (⟨body.toArray⟩ : ByteArray).size 2 = 0 := by
            rw [HE1.out, HN.out, hE3]; unfold sizedB; simp; omega
          have Hz2 := hid hz2
          clear hz2 hE3
          have hb' : (⟨body.toArray⟩ : ByteArray).size ≤ maxLen := by rw [HE3.out]; unfold maxLen; omega
          go_wp2_with fail
          refine (open_ok ⟨sec.toArray⟩ N x ⟨body.toArray⟩ _ hs' hN' hx' hb' Hz2.out (by rw [HE3.out]; omega) (by rw [smk_data, smk_data]; exact HOp.out)).mono ?_
          rintro e w3 ⟨rfl, hB3⟩
          rw [smk_data, smk_data, HPl.out]
          obtain ⟨bcap, w4, hcv, hcell4, hfr4, hB4, hz4⟩ := conv_bytes w3 ⟨body.toArray⟩
          have hlen : ((body.length : Int) != (y.size : Int) + 2) = false := by rw [HBl.out]; simp
          have hbl1 : 2 ≤ body.length := by rw [HBl.out]; omega
          have hbl2 : body.length ≤ 302 := by rw [HBl.out]; omega
          have Hcell4 := hid hcell4
          have Hfr4 := hid hfr4
          have hgz : w3.heap.size < w4.heap.size := by omega
          clear hcell4 hfr4 hz4
          go_wp2_with fail
          refine (pick_any at_ _ _ p0 p1 (by omega) (by omega)).mono ?_
          rintro e w4 ⟨rfl, rfl⟩
          obtain ⟨hi0, hi1⟩ := pickB_range at_ (body.length : Int) (by omega)
          obtain ⟨i, hi⟩ := Int.eq_ofNat_of_zero_le hi0
          rw [hi] at hi1 ⊢
          clear hi hi0
          have hil : i < body.length := by omega
          have hci : w4.cell? ⟨w3.heap.size, i, none⟩ = some (.int .u8 ((body.getD i 0).toNat : Int)) := Hcell4.out i (by rw [strB_size]; exact hil)
          have hfi : w4.frozen? ⟨w3.heap.size, i, none⟩ = false := Hfr4.out i (by rw [strB_size]; exact hil)
          generalize hg4 : w3.heap.size = g4 at *
          have Hg4 := hid hg4
          clear hcv hg4
          obtain ⟨ha0, ha1⟩ := pickB_range by_ 255 (by decide)
          have hbt := (body.getD i 0).toNat_lt
          go_wp2_with fail
          go_region_with (go_at_call 21; refine (pick_any by_ _ _ q0 q1 (by decide) (by decide)).mono ?_; rintro e w5 ⟨rfl, rfl⟩)
          all_goals
            obtain ⟨u, hu, hune⟩ := turned (body[i]'hil) (pickB by_ 255) ha0 (by omega)
            rw [hu]
            have HCV := hid (conv_set w4 g4 i bcap body.length body u rfl hgz (fun j hj => Hcell4.out j (by rw [strB_size]; exact hj)) hil)
            have hne : body.set i u ≠ body := set_ne body i hil u hune
            have hl2 : (body.set i u).length = body.length := by simp
            have HB5 : Hid (Below w.heap.size w (w4.setCell ⟨g4, i, none⟩ (.int .u8 (u.toNat : Int))).drew) := by
              have z1 := hB1.size
              have z2 := hB2.size
              have z3 := hB3.size
              have z4 := Hg4.out
              exact ((((hB1.trans (hB2.mono z1)).trans (hB3.mono (by omega))).trans (hB4.mono (by omega))).setCell (by show w.heap.size ≤ g4; omega) _).drew
            have HZ5 : Hid ((w4.setCell ⟨g4, i, none⟩ (.int .u8 (u.toNat : Int))).drew.heap.size = w4.heap.size) := by simp [Hid]
            have hcv1 := HCV.out (w4.setCell ⟨g4, i, none⟩ (.int .u8 (u.toNat : Int))).drew ((Below.refl _ _).drew)
            generalize body.set i u = B2 at *
            have Hne := hid hne
            have HL2 := hid hl2
            clear hne hl2 hu hune hci hfi
            have hE5 : (⟨B2.toArray⟩ : ByteArray).size = y.size + 2 := by rw [strB_size, HL2.out]; exact HBl.out
            have hz3 : sizedB (⟨sec.toArray⟩ : ByteArray).size N.size x.size (⟨B2.toArray⟩ : ByteArray).size 2 = 0 := by
              rw [HE1.out, HN.out, hE5]; unfold sizedB; simp; omega
            have Hz3 := hid hz3
            have HE5 := hid hE5
            clear hz3 hE5
            have hb2' : (⟨B2.toArray⟩ : ByteArray).size ≤ maxLen := by rw [HE5.out]; unfold maxLen; omega
            cases ho : opensB sec N.data.toList x.data.toList B2 with
            | false =>
              have Ho := hid ho
              clear ho
              go_wp2_with fail
              refine (open_seal ⟨sec.toArray⟩ N x ⟨B2.toArray⟩ _ hs' hN' hx' hb2' Hz3.out (.inr (by rw [smk_data, smk_data]; exact Ho.out))).mono ?_
              rintro e w6 ⟨rfl, hB6⟩
              go_wp2
              go_ret
              exact ⟨by simp, HB5.out.trans (hB6.mono HB5.out.size)⟩
            | true =>
              have Ho := hid ho
              clear ho
              go_wp2_with fail
              refine (open_ok ⟨sec.toArray⟩ N x ⟨B2.toArray⟩ _ hs' hN' hx' hb2' Hz3.out (by rw [HE5.out]; omega) (by rw [smk_data, smk_data]; exact Ho.out)).mono ?_
              rintro e w6 ⟨rfl, hB6⟩
              rw [smk_data, smk_data]
              have HU1 := hid (HBo.out B2 Ho.out)
              have HU2 := hid (HOt.out B2 Ho.out Hne.out)
              have HU3 : Hid ((stirB sec N.data.toList (cipB B2)).length ≤ 300) := by
                have h5 := HL2.out
                have h6 := HBl.out
                show (stirB sec N.data.toList (cipB B2)).length ≤ 300
                rw [stirB_length, cipB_len]; omega
              generalize stirB sec N.data.toList (cipB B2) = U at *
              have hu' : (⟨U.toArray⟩ : ByteArray).size ≤ maxLen := by rw [strB_size]; have := HU3.out; unfold maxLen; omega
              have hz4 : sizedB (⟨sec.toArray⟩ : ByteArray).size N.size x.size (⟨U.toArray⟩ : ByteArray).size 0 = 0 := by
                have h7 : U.length ≤ 300 := HU3.out
                exact sized_fit HE1.out HN.out (by omega) (by rw [strB_size]; omega)
              have Hz4 := hid hz4
              clear hz4
              go_wp2_with fail
              refine (seal_ok ⟨sec.toArray⟩ N x ⟨U.toArray⟩ _ hs' hN' hx' hu' Hz4.out).mono ?_
              rintro e w7 ⟨rfl, hB7⟩
              rw [smk_data, smk_data, HU1.out]
              have hcv2 := HCV.out w7 (below_undrew (((hB6.mono (by rw [HZ5.out]; exact Nat.le_refl _))).trans (hB7.mono (by have h8 := hB6.size; have h9 := HZ5.out; omega))))
              have huy : (U == y.toList) = false := by
                have h := HU2.out
                rw [toList_data]; simpa using h
              go_wp2
              go_ret
              exact ⟨by simp, (HB5.out.trans (hB6.mono HB5.out.size)).trans (hB7.mono (Nat.le_trans HB5.out.size hB6.size))⟩

end Go.Proofs.Ythhpbhpfagoapaa
