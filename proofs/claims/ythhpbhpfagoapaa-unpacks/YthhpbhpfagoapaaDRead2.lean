/-
  What the program's reading of counts, signed numbers, texts and steps does, by walks.
-/
import Derived.Test.YthhpbhpfagoapaaDNumber
namespace Go.Proofs.Ythhpbhpfagoapaa
open Go.RowKit
set_option linter.unusedVariables false
set_option linter.unusedSimpArgs false
set_option maxRecDepth 100000

/-- What a reading answers: something whose writing, if it stands there, is read; or it gives up, and nothing such stands there. -/
def Reads {α : Type} (dom : α → Prop) (enc : α → List UInt8) (val : α → Value) (p : Nat) (s rest : List UInt8) (w : World) (e : Ending) (w' : World) : Prop :=
  w.grownBy w' (some p) ∧ ((e = gaveUp ∧ ∀ a q, dom a → rest ≠ enc a ++ q) ∨ ∃ a r, dom a ∧ e = .returned (val a) ∧ RdAt w' p s r ∧ ∀ b q, dom b → rest = enc b ++ q → b = a ∧ q = r)

theorem uB_inj {n m : Nat} {r q : List UInt8} (hn : n < 18446744073709551616) (hm : m < 18446744073709551616) (h : uB n ++ r = uB m ++ q) : n = m ∧ r = q := by
  have h1 := uR_uB n r hn
  have h2 := uR_uB m q hm
  rw [h, h2] at h1
  simp only [Prod.mk.injEq, Option.some.injEq] at h1
  exact ⟨h1.1.symm, h1.2.symm⟩

theorem grown_refl (w : World) (q : Option Nat) : w.grownBy w q := ⟨rfl, rfl, rfl, Nat.le_refl _, fun _ _ _ => rfl⟩

set_option maxHeartbeats 1000000 in
theorem countR_any (p : Nat) (s rest : List UInt8) (most : Nat) (w : World) (hs : s.length ≤ maxLen) (hm : most ≤ 1000000) (hp : RdAt w p s rest) :
    Calls Try.prog 107 #[.pointer (some ⟨p, 0, none⟩), .int .i64 (most : Int)] w (Reads (fun n : Nat => n ≤ most) uB (fun n => .int .i64 (n : Int)) p s rest w) := by
  have Hs := hid hs
  have Hp := hid hp
  clear hs hp
  have hw1 : IntKind.u64.wrap (most : Int) = (most : Int) := i64_u64 (by omega) (by omega)
  go_enter Try.func107, Try.ntmps107
  go_wp2_with fail
  refine (numR_any p s rest _ Hs.out Hp.out).mono ?_
  rintro e w1 ⟨hg, ⟨rfl, hno⟩ | ⟨n, r, hn, hr, rfl, hrd⟩⟩
  · go_wp2
    exact ⟨rfl, hg, .inl ⟨rfl, fun a q ha => hno a q (by omega)⟩⟩
  · have Hr := hid hr
    have Hrd := hid hrd
    clear hr hrd
    by_cases hle : n ≤ most
    · have hi : (n : Int) ≤ (most : Int) := by omega
      have hw2 : IntKind.i64.wrap (n : Int) = (n : Int) := u64_i64 (by omega) (by omega)
      go_wp2_with fail
      refine (need_yes _).mono ?_
      rintro e w2 ⟨rfl, rfl⟩
      go_wp2
      go_ret
      exact ⟨hg, .inr ⟨n, r, hle, rfl, Hrd.out, fun b q hb hbq => by
        have := uB_inj hn (by omega) (Hr.out.symm.trans hbq)
        exact ⟨this.1.symm, this.2.symm⟩⟩⟩
    · have hi : decide ((n : Int) ≤ (most : Int)) = false := by simp; omega
      go_wp2_with fail
      refine (need_no _).mono ?_
      rintro e w2 ⟨rfl, rfl⟩
      go_wp2
      exact ⟨rfl, hg, .inl ⟨rfl, fun a q ha haq => by
        have := (uB_inj hn (by omega) (Hr.out.symm.trans haq)).1
        omega⟩⟩

/-- A whole number of 64 bits. -/
def inI (z : Int) : Prop := -9223372036854775808 ≤ z ∧ z ≤ 9223372036854775807

theorem zOf_in (n : Nat) (h : n < 18446744073709551616) : inI (zOf n) := by
  unfold zOf inI
  split <;> omega

set_option maxHeartbeats 1000000 in
theorem signedR_any (p : Nat) (s rest : List UInt8) (w : World) (hs : s.length ≤ maxLen) (hp : RdAt w p s rest) :
    Calls Try.prog 111 #[.pointer (some ⟨p, 0, none⟩)] w (Reads inI zB (fun z => .int .i64 z) p s rest w) := by
  have Hs := hid hs
  have Hp := hid hp
  clear hs hp
  go_enter Try.func111, Try.ntmps111
  go_wp2_with fail
  refine (numR_any p s rest _ Hs.out Hp.out).mono ?_
  rintro e w1 ⟨hg, ⟨rfl, hno⟩ | ⟨n, r, hn, hr, rfl, hrd⟩⟩
  · go_wp2
    exact ⟨rfl, hg, .inl ⟨rfl, fun a q ha => hno (zN a) q (zN_lt a ha.1 ha.2)⟩⟩
  · have Hr := hid hr
    have Hrd := hid hrd
    clear hr hrd
    have HU : Hid (∀ (b : Int) (q : List UInt8), inI b → rest = zB b ++ q → b = zOf n ∧ q = r) := by
      intro b q hb hbq
      have := uB_inj hn (zN_lt b hb.1 hb.2) (Hr.out.symm.trans hbq)
      exact ⟨by rw [this.1, zOf_zN], this.2.symm⟩
    by_cases hev : n % 2 = 0
    · have HZ : Hid (zOf n = (n : Int) / 2) := by simp [Hid, zOf, hev]
      have hb : ((n : Int) % 2 == 0) = true := by simp; omega
      have hw2 : IntKind.i64.wrap ((n : Int) / 2) = (n : Int) / 2 := u64_i64 (by omega) (by omega)
      clear hev
      go_wp2
      go_ret
      exact ⟨hg, .inr ⟨zOf n, r, zOf_in n hn, ret_int HZ.out.symm, Hrd.out, HU.out⟩⟩
    · have HZ : Hid (zOf n = -((n : Int) / 2) - 1) := by simp [Hid, zOf, hev]
      have hb : ((n : Int) % 2 == 0) = false := by simp; omega
      have hx := xor_max ((n : Int) / 2) (by omega) (by omega)
      have hw2 : IntKind.i64.wrap (18446744073709551615 - (n : Int) / 2) = -((n : Int) / 2) - 1 := by rw [IntKind.wrap_i64]; omega
      clear hev
      go_wp2
      go_ret
      exact ⟨hg, .inr ⟨zOf n, r, zOf_in n hn, ret_int (by rw [HZ.out]; unfold wrap64; omega), Hrd.out, HU.out⟩⟩

theorem str_mid (s : List UInt8) (a b : Nat) : (⟨s.toArray⟩ : ByteArray).extract a b = ⟨((s.drop a).take (b - a)).toArray⟩ := by
  rw [ByteArray.extract_mk]
  first | done | simp

/-- Join of texts that lie in a block. -/
theorem join_blk (ps : List (List UInt8)) (C : Array Value) (n : Nat) (w : World) (G : Nat) (h : w.heap[G]? = some (.cells C 9 (0, 0))) (hC : C = (strs ps).toArray) (hl : ps.length = n) (hn : n ≤ 1000) (hs : ps.flatten.length ≤ 1000000) :
    Calls Try.prog 47 #[.slice (some ⟨G, 0, none⟩) n n] w fun e w' => e = .returned (strB ps.flatten) ∧ Below w.heap.size w w' := by
  subst hl
  refine join_list ps G ps.length w hn hs ?_ ?_
  · rcases Nat.lt_or_ge G w.heap.size with h2 | h2
    · exact h2
    · rw [Array.getElem?_eq_none h2] at h; cases h
  · intro j hj
    rw [cell_of_row w G j C _ (0, 0) h, hC]
    simp [strs, hj]

theorem rd_below {w w' : World} {p : Nat} {s r : List UInt8} {q : Nat} (h : RdAt w p s r) (hb : Below q w w') (hp : p < q) : RdAt w' p s r := by
  obtain ⟨at_, h1, h2, h3⟩ := h
  exact ⟨at_, (hb.block p hp).trans h1, h2, h3⟩

theorem rd_lt {w : World} {p : Nat} {s r : List UInt8} (h : RdAt w p s r) : p < w.heap.size := by
  obtain ⟨at_, h1, _⟩ := h
  rcases Nat.lt_or_ge p w.heap.size with h2 | h2
  · exact h2
  · rw [Array.getElem?_eq_none h2] at h1; cases h1

theorem grown_below {a b c : World} {q : Option Nat} (h : a.grownBy b q) (hb : Below b.heap.size b c) : a.grownBy c q :=
  ⟨hb.os.trans h.os, hb.tape.trans h.tape, hb.output.trans h.output, Nat.le_trans h.size hb.size, fun i hi hne => (hb.block i (Nat.lt_of_lt_of_le hi h.size)).trans (h.block i hi hne)⟩

set_option maxHeartbeats 2000000 in
theorem takeR_any (p : Nat) (s rest : List UInt8) (n : Nat) (w : World) (hs : s.length ≤ maxLen) (hn : n ≤ 12) (hp : RdAt w p s rest) :
    Calls Try.prog 124 #[.pointer (some ⟨p, 0, none⟩), .int .i64 (n : Int)] w fun e w' => w.grownBy w' (some p) ∧
      ((rest.length < n ∧ e = gaveUp) ∨ (n ≤ rest.length ∧ e = .returned (strB (rest.take n)) ∧ RdAt w' p s (rest.drop n))) := by
  obtain ⟨at_, hrow, hat, rfl⟩ := hp
  obtain ⟨⟨c0, c1⟩, cf⟩ := cells2 hrow
  have f1 := cf 1
  have Hrow := hid hrow
  unfold maxLen at hs
  clear hrow cf
  have hz := strB_size s
  have hdl : (s.drop at_).length = s.length - at_ := List.length_drop
  have hw0 : IntKind.i64.wrap ((s.length : Int) - (at_ : Int)) = (s.length : Int) - (at_ : Int) := u64_i64 (by omega) (by omega)
  by_cases hlt : n ≤ s.length - at_
  · have hi : (n : Int) ≤ (s.length : Int) - (at_ : Int) := by omega
    go_enter Try.func124, Try.ntmps124
    go_wp2_with fail
    go_region_held3 (fun w' => w'.cell? ⟨p, 0, none⟩ = some (strB s) ∧ w'.cell? ⟨p, 1, none⟩ = some (.int .i64 (at_ : Int))) (exact ⟨c0, c1⟩)
      (first | (go_at_call 104; refine (need_yes _).mono ?_; rintro e w' ⟨rfl, rfl⟩))
    go_wp2_with fail
    obtain ⟨h1, h2⟩ := set2 (v := .int .i64 ((at_ : Int) + (n : Int))) Hrow.out
    have hplt : p < w.heap.size := World.block_lt_of_cell? w _ c0
    have h3 := h1
    obtain ⟨⟨d0, d1⟩, _⟩ := cells2 h3
    have hsz : (w.setCell ⟨p, 1, none⟩ (.int .i64 ((at_ : Int) + (n : Int)))).heap.size = w.heap.size := by simp
    have hplt1 : p < (w.setCell ⟨p, 1, none⟩ (.int .i64 ((at_ : Int) + (n : Int)))).heap.size := by rw [hsz]; exact hplt
    clear h3 c0 c1 f1 hsz
    generalize w.setCell _ _ = w1 at *
    have HRD : Hid (RdAt w1 p s ((s.drop at_).drop n)) := ⟨at_ + n, by simpa using h1, by omega, by rw [List.drop_drop]⟩
    have H2 := hid h2
    clear h1 h2
    have hq : (at_ : Int) + (n : Int) = ((at_ + n : Nat) : Int) := by omega
    rw [hq] at d1
    have hmid := str_mid s at_ (at_ + n)
    rw [Nat.add_sub_cancel_left] at hmid
    have hq1 : at_ + n ≤ s.length := by omega
    have hq2 : ((at_ + n : Nat) : Int) - (n : Int) = (at_ : Int) := by omega
    have hq3 : at_ ≤ at_ + n := by omega
    clear hq
    generalize at_ + n = q at *
    have hsub : IntKind.i64.wrap ((q : Int) - (n : Int)) = (at_ : Int) := by rw [IntKind.wrap_i64]; omega
    clear hq2
    have hk0 : (0 : Int) ≤ (at_ : Int) := by omega
    have hk1 : (at_ : Int) ≤ (q : Int) := by omega
    have hk2 : (q : Int) ≤ (s.length : Int) := by omega
    have Hll : Hid (((s.drop at_).take n).length ≤ 12) := by show _ ≤ _; rw [List.length_take]; omega
    generalize hT : (s.drop at_).take n = T at *
    have HT := hid hT
    clear hT
    go_region_held3 (fun w' => w'.cell? ⟨p, 0, none⟩ = some (strB s) ∧ w'.cell? ⟨p, 1, none⟩ = some (.int .i64 (q : Int))) (first | exact ⟨cell_alloc_keep _ d0, cell_alloc_keep _ d1⟩ | exact ⟨k0, k1⟩ | exact ⟨d0, d1⟩)
      (first | (go_at_call 47; refine (join_blk [T] #[strB T] 1 _ _ ?_ rfl rfl ?_ ?_).mono ?_; exact heap_alloc_new w1 _; decide; (have := Hll.out; simp; omega); rintro e w5 ⟨rfl, hb5⟩; have hb5' : Below w1.heap.size w1 w5 := below_alloc (below_undrew (below_undrew hb5)); have k0 := (hb5'.cell (p := ⟨p, 0, none⟩) hplt1).trans d0; have k1 := (hb5'.cell (p := ⟨p, 1, none⟩) hplt1).trans d1))
    have HF := hid (rd_below HRD.out hb5' hplt1)
    have HG := hid (grown_below H2.out hb5')
    clear k0 k1 d0 d1 hb5 hb5'
    go_wp2
    go_ret
    exact ⟨HG.out, .inr ⟨by omega, ret_str HT.out.symm, HF.out⟩⟩
  · have hi : decide ((n : Int) ≤ (s.length : Int) - (at_ : Int)) = false := by simp; omega
    go_enter Try.func124, Try.ntmps124
    go_wp2_with fail
    refine wp_region_held_drew (S := fun w' => w'.cell? ⟨p, 0, none⟩ = some (strB s) ∧ w'.cell? ⟨p, 1, none⟩ = some (.int .i64 (at_ : Int))) (by kernel_rfl) ?_ (fun hHeld => ?_)
    · exact ⟨c0, c1⟩
    refine wpAnyH_take (i := 0) (oi := _) (v := .int .i64 (n : Int)) rfl (by kernel_rfl) (by kernel_rfl) (by kernel_rfl) (fun _ _ _ h => h) (Or.inl ⟨by rfl, fun w hSw => ?_⟩) (by assumption) ?_
    · try dsimp only at hSw
      go_simp
    simp only [List.getElem_toArray, List.getElem_cons_zero, List.getElem_cons_succ, Act.put, List.setIfInBounds_toArray, List.set_cons_zero, List.set_cons_succ]
    refine wpAnyH_take (i := 1) (oi := _) (v := .pointer (some ⟨p, 0, none⟩)) rfl (by kernel_rfl) (by kernel_rfl) (by kernel_rfl) (fun _ _ _ h => h) (Or.inl ⟨by rfl, fun w hSw => ?_⟩) (by assumption) ?_
    · try dsimp only at hSw
      go_simp
    simp only [List.getElem_toArray, List.getElem_cons_zero, List.getElem_cons_succ, Act.put, List.setIfInBounds_toArray, List.set_cons_zero, List.set_cons_succ]
    refine wpAnyH_take (i := 2) (oi := _) (v := .pointer (some ⟨p, 0, none⟩)) rfl (by kernel_rfl) (by kernel_rfl) (by kernel_rfl) (fun _ _ _ h => h) (Or.inl ⟨by rfl, fun w hSw => ?_⟩) (by assumption) ?_
    · try dsimp only at hSw
      go_simp
    simp only [List.getElem_toArray, List.getElem_cons_zero, List.getElem_cons_succ, Act.put, List.setIfInBounds_toArray, List.set_cons_zero, List.set_cons_succ]
    refine wpAnyH_take (i := 3) (oi := _) (v := .pointer (some ⟨p, 0, none⟩)) rfl (by kernel_rfl) (by kernel_rfl) (by kernel_rfl) (fun _ _ _ h => h) (Or.inl ⟨by rfl, fun w hSw => ?_⟩) (by assumption) ?_
    · try dsimp only at hSw
      go_simp
    simp only [List.getElem_toArray, List.getElem_cons_zero, List.getElem_cons_succ, Act.put, List.setIfInBounds_toArray, List.set_cons_zero, List.set_cons_succ]
    refine wpAnyH_take (i := 4) (oi := _) (v := strB s) rfl (by kernel_rfl) (by kernel_rfl) (by kernel_rfl) (fun _ _ _ h => h) (Or.inl ⟨by rfl, fun w hSw => ?_⟩) (by assumption) ?_
    · try dsimp only at hSw
      go_simp
    simp only [List.getElem_toArray, List.getElem_cons_zero, List.getElem_cons_succ, Act.put, List.setIfInBounds_toArray, List.set_cons_zero, List.set_cons_succ]
    refine wpAnyH_take (i := 5) (oi := _) (v := .int .i64 (s.length : Int)) rfl (by kernel_rfl) (by kernel_rfl) (by kernel_rfl) (fun _ _ _ h => h) (Or.inl ⟨by rfl, fun w hSw => ?_⟩) (by assumption) ?_
    · try dsimp only at hSw
      go_simp
    simp only [List.getElem_toArray, List.getElem_cons_zero, List.getElem_cons_succ, Act.put, List.setIfInBounds_toArray, List.set_cons_zero, List.set_cons_succ]
    refine wpAnyH_take (i := 6) (oi := _) (v := .pointer (some ⟨p, 0, none⟩)) rfl (by kernel_rfl) (by kernel_rfl) (by kernel_rfl) (fun _ _ _ h => h) (Or.inl ⟨by rfl, fun w hSw => ?_⟩) (by assumption) ?_
    · try dsimp only at hSw
      go_simp
    simp only [List.getElem_toArray, List.getElem_cons_zero, List.getElem_cons_succ, Act.put, List.setIfInBounds_toArray, List.set_cons_zero, List.set_cons_succ]
    refine wpAnyH_take (i := 7) (oi := _) (v := .pointer (some ⟨p, 0, none⟩)) rfl (by kernel_rfl) (by kernel_rfl) (by kernel_rfl) (fun _ _ _ h => h) (Or.inl ⟨by rfl, fun w hSw => ?_⟩) (by assumption) ?_
    · try dsimp only at hSw
      go_simp
    simp only [List.getElem_toArray, List.getElem_cons_zero, List.getElem_cons_succ, Act.put, List.setIfInBounds_toArray, List.set_cons_zero, List.set_cons_succ]
    refine wpAnyH_take (i := 8) (oi := _) (v := .pointer (some ⟨p, 1, none⟩)) rfl (by kernel_rfl) (by kernel_rfl) (by kernel_rfl) (fun _ _ _ h => h) (Or.inl ⟨by rfl, fun w hSw => ?_⟩) (by assumption) ?_
    · try dsimp only at hSw
      go_simp
    simp only [List.getElem_toArray, List.getElem_cons_zero, List.getElem_cons_succ, Act.put, List.setIfInBounds_toArray, List.set_cons_zero, List.set_cons_succ]
    refine wpAnyH_take (i := 9) (oi := _) (v := .int .i64 (at_ : Int)) rfl (by kernel_rfl) (by kernel_rfl) (by kernel_rfl) (fun _ _ _ h => h) (Or.inl ⟨by rfl, fun w hSw => ?_⟩) (by assumption) ?_
    · try dsimp only at hSw
      go_simp
    simp only [List.getElem_toArray, List.getElem_cons_zero, List.getElem_cons_succ, Act.put, List.setIfInBounds_toArray, List.set_cons_zero, List.set_cons_succ]
    refine wpAnyH_take (i := 10) (oi := _) (v := .int .i64 ((s.length : Int) - (at_ : Int))) rfl (by kernel_rfl) (by kernel_rfl) (by kernel_rfl) (fun _ _ _ h => h) (Or.inl ⟨by rfl, fun w hSw => ?_⟩) (by assumption) ?_
    · try dsimp only at hSw
      go_simp
    simp only [List.getElem_toArray, List.getElem_cons_zero, List.getElem_cons_succ, Act.put, List.setIfInBounds_toArray, List.set_cons_zero, List.set_cons_succ]
    refine wpAnyH_take (i := 11) (oi := _) (v := .bool false) rfl (by kernel_rfl) (by kernel_rfl) (by kernel_rfl) (fun _ _ _ h => h) (Or.inl ⟨by rfl, fun w hSw => ?_⟩) (by assumption) ?_
    · try dsimp only at hSw
      go_simp
    simp only [List.getElem_toArray, List.getElem_cons_zero, List.getElem_cons_succ, Act.put, List.setIfInBounds_toArray, List.set_cons_zero, List.set_cons_succ]
    refine wpAnyH_ready (rs := [12]) (by kernel_rfl) (by simp) ?_
    refine AllReadyH.cons (o := _) rfl (fun K hK => ?_) AllReadyH.nil
    simp only [List.getElem_toArray, List.getElem_cons_zero, List.getElem_cons_succ]
    go_simp
    go_at_call 104
    refine (need_no _).mono ?_
    rintro e w' ⟨rfl, rfl⟩
    exact ⟨rfl, ⟨rfl, rfl, rfl, Nat.le_refl _, fun _ _ _ => rfl⟩, .inl ⟨by omega, rfl⟩⟩

set_option maxHeartbeats 1000000 in
theorem textR_any (p : Nat) (s rest : List UInt8) (most : Nat) (w : World) (hs : s.length ≤ maxLen) (hm : most ≤ 12) (hp : RdAt w p s rest) :
    Calls Try.prog 114 #[.pointer (some ⟨p, 0, none⟩), .int .i64 (most : Int)] w (Reads (fun t : List UInt8 => t.length ≤ most) xB strB p s rest w) := by
  have Hs := hid hs
  have Hp := hid hp
  clear hs hp
  go_enter Try.func114, Try.ntmps114
  go_wp2_with fail
  refine (countR_any p s rest most _ Hs.out (by omega) Hp.out).mono ?_
  rintro e w1 ⟨hg, ⟨rfl, hno⟩ | ⟨n, r, hn, rfl, hrd, hu⟩⟩
  · go_wp2
    exact ⟨rfl, hg, .inl ⟨rfl, fun a q ha h => hno a.length (a ++ q) ha (by rw [h, xB, List.append_assoc])⟩⟩
  · have Hu := hid hu
    clear hu
    go_wp2_with fail
    refine (takeR_any p s r n _ Hs.out (by omega) hrd).mono ?_
    rintro e w2 ⟨hg2, ⟨hlen, rfl⟩ | ⟨hlen, rfl, hrd2⟩⟩
    · go_wp2
      refine ⟨rfl, grown_trans hg hg2, .inl ⟨rfl, fun a q ha h => ?_⟩⟩
      obtain ⟨h1, h2⟩ := Hu.out a.length (a ++ q) ha (by rw [h, xB, List.append_assoc])
      rw [← h2, List.length_append] at hlen
      omega
    · go_wp2
      go_ret
      refine ⟨grown_trans hg hg2, .inr ⟨r.take n, r.drop n, by show (r.take n).length ≤ most; rw [List.length_take]; omega, rfl, hrd2, fun b q hb h => ?_⟩⟩
      obtain ⟨h1, h2⟩ := Hu.out b.length (b ++ q) hb (by rw [h, xB, List.append_assoc])
      subst h1 h2
      simp

theorem readText_any (p : Nat) (s rest : List UInt8) (w : World) (hs : s.length ≤ maxLen) (hp : RdAt w p s rest) :
    Calls Try.prog 92 #[.pointer (some ⟨p, 0, none⟩)] w (Reads (fun t : List UInt8 => t.length ≤ 12) xB strB p s rest w) := by
  have Hs := hid hs
  have Hp := hid hp
  clear hs hp
  go_enter Try.func92, Try.ntmps92
  go_wp2_with fail
  refine (textR_any p s rest 12 _ Hs.out (by omega) Hp.out).mono ?_
  rintro e w1 ⟨hg, ⟨rfl, hno⟩ | ⟨t, r, hn, rfl, hrd, hu⟩⟩
  · go_wp2
    exact ⟨rfl, hg, .inl ⟨rfl, hno⟩⟩
  · have Hu := hid hu
    clear hu
    go_wp2
    go_ret
    exact ⟨hg, .inr ⟨t, r, hn, rfl, hrd, Hu.out⟩⟩

theorem wrap_on (a v : Int) (ha : inI a) (hv : inI v) : wrap64 (a + wrap64 (v - a)) = v := by
  obtain ⟨h1, h2⟩ := ha
  obtain ⟨h3, h4⟩ := hv
  unfold wrap64
  omega

theorem wrap_in (n : Int) : inI (wrap64 n) := wrap64_range n

set_option maxHeartbeats 1000000 in
theorem readNumStep_any (p : Nat) (s rest : List UInt8) (a : Int) (w : World) (hs : s.length ≤ maxLen) (ha : inI a) (hp : RdAt w p s rest) :
    Calls Try.prog 80 #[.pointer (some ⟨p, 0, none⟩), .int .i64 a] w (Reads inI (fun v => zB (wrap64 (v - a))) (fun v => .int .i64 v) p s rest w) := by
  have Hs := hid hs
  have Hp := hid hp
  have Ha := hid ha
  clear hs hp ha
  go_enter Try.func80, Try.ntmps80
  go_wp2_with fail
  refine (signedR_any p s rest _ Hs.out Hp.out).mono ?_
  rintro e w1 ⟨hg, ⟨rfl, hno⟩ | ⟨z, r, hz, rfl, hrd, hu⟩⟩
  · go_wp2
    exact ⟨rfl, hg, .inl ⟨rfl, fun v q hv h => hno _ q (wrap_in _) h⟩⟩
  · have Hu := hid hu
    clear hu
    go_wp2
    go_ret
    refine ⟨hg, .inr ⟨wrap64 (a + z), r, wrap_in _, rfl, hrd, fun v q hv h => ?_⟩⟩
    obtain ⟨h1, h2⟩ := Hu.out _ q (wrap_in _) h
    exact ⟨by rw [← h1, wrap_on a v Ha.out hv], h2⟩

end Go.Proofs.Ythhpbhpfagoapaa
