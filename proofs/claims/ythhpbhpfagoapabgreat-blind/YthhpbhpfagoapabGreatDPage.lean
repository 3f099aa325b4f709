
/-
  What the program's pages do, by walks.
-/
import Derived.Test.YthhpbhpfagoapabGreatDShortI
import Derived.Test.YthhpbhpfagoapabGreatDShortT
namespace Go.Proofs.YthhpbhpfagoapabGreat
open Go.RowKit
set_option linter.unusedVariables false
set_option maxRecDepth 100000

theorem Tryz.infoInt : (Tryz.prog.info? 3).map (fun i => (i.zero, i.size, i.bytes)) = some (some (.int .i64 0), 1, 8) := by kernel_rfl

theorem numVal (c : CellB) (w : World) :
    Calls Tryz.prog 151 #[cellV c] w fun e w' => e = .returned (.int .i64 c.int) ∧ Below w.heap.size w w' := by
  go_enter Tryz.func151, Tryz.ntmps151
  go_wp2
  go_ret
  exact ⟨rfl, (Below.refl _ _).alloc (Nat.le_refl _) _⟩

theorem txtVal (c : CellB) (w : World) :
    Calls Tryz.prog 165 #[cellV c] w fun e w' => e = .returned (strB c.text) ∧ Below w.heap.size w w' := by
  go_enter Tryz.func165, Tryz.ntmps165
  go_wp2
  go_ret
  exact ⟨rfl, (Below.refl _ _).alloc (Nat.le_refl _) _⟩

/-- Numbers, texts as cells. -/
def ints (l : List CellB) : List Value := l.map fun c => .int .i64 c.int
def strsT (l : List CellB) : List Value := strs (texts l)

theorem valuesB_len (l : List CellB) : (valuesB l).length ≤ l.length := List.length_filter_le _ _

theorem valuesB_step (l : List CellB) (k : Nat) (h : k < l.length) : valuesB (l.take (k + 1)) = valuesB (l.take k) ++ (if (l[k]).null = true then [] else [l[k]]) := by
  rw [List.take_succ_eq_append_getElem h]
  unfold valuesB
  rw [List.filter_append]
  congr 1
  cases hn : (l[k]).null <;> simp [hn]

theorem ints_len {w : World} {base n : Nat} {v : Value} {xs : List Value} (h : w.ownsRow base 3 1 v n xs) (w' : World) :
    Sem.run Tryz.prog (Builtin.len_ #[22] 3 #[v]) w' = .ok (.int .i64 (n : Int)) w' := by
  rcases h.2 with ⟨rfl, rfl⟩ | ⟨g, cap, cur, rfl, _⟩
  · exact run_len_slice (P := Tryz.prog) w' 22 3 _ _ _ (by rw [Tryz.underlying22]; rfl)
  · exact run_len_slice (P := Tryz.prog) w' 22 3 _ _ _ (by rw [Tryz.underlying22]; rfl)

theorem strsT_len {w : World} {base n : Nat} {v : Value} {xs : List Value} (h : w.ownsRow base 9 1 v n xs) (w' : World) :
    Sem.run Tryz.prog (Builtin.len_ #[163] 3 #[v]) w' = .ok (.int .i64 (n : Int)) w' := own_len h w'

theorem ints_lie {w : World} {base n : Nat} {v : Value} {D : List CellB} (h : w.ownsRow base 3 1 v n (ints D)) (hD : D ≠ []) : ∃ b cap, v = .slice (some ⟨b, 0, none⟩) D.length cap ∧ IntsLie w b D := by
  have hl : D.length = n := by simpa [ints] using h.1
  rcases h.2 with ⟨rfl, rfl⟩ | ⟨g, cap, cur, rfl, _⟩
  · exact absurd (List.eq_nil_of_length_eq_zero hl) hD
  · refine ⟨g, cap, by rw [hl], (h.lt g rfl).2, fun j hj => ?_⟩
    rw [h.cellAt j (by omega)]
    simp [ints, hj]

theorem strsT_lie {w : World} {base n : Nat} {v : Value} {D : List CellB} (h : w.ownsRow base 9 1 v n (strsT D)) (hD : D ≠ []) : ∃ b cap, v = .slice (some ⟨b, 0, none⟩) D.length cap ∧ TextsLie w b D := own_texts h hD

set_option maxHeartbeats 4000000 in
theorem pageI (g : Nat) (a : Option Addr) (cap : Nat) (l : List CellB) (w : World) (hn : l.length ≤ 60) (hsm : ∀ c ∈ l, smallC c) (hl : Lies w a l) (hg : g < w.heap.size) (hw : NumW w g) :
    Calls Tryz.prog 135 #[numC g, .slice a l.length cap] w fun e w' => e = .returned (strB (pageB 0 l)) ∧ Below w.heap.size w w' := by
  obtain ⟨i0, hi, hz0, hz1, hz2⟩ := info_parts Tryz.infoInt
  have Hsm := hid hsm
  have Hl := hid hl
  have Hw := hid hw
  have hni : (l.length : Int) ≤ 60 := by omega
  clear hsm hl hw
  go_enter Tryz.func135, Tryz.ntmps135
  go_wp2
  obtain ⟨hb0, hs0, hc0⟩ := boxed w #[.slice (some ⟨g, 0, none⟩) 3 3, fnV 151, fnV 152, fnV 153, fnV 154, fnV 155, fnV 156] 205
  have Hc : Hid (BoxI _ g w.heap.size) := ⟨hc0 0, hc0 1, hc0 2, hc0 3, hc0 4, hc0 5, hc0 6⟩
  have Hl0 := hid (Hl.out.later hb0)
  have Hw0 := hid (Hw.out.later hg hb0)
  have Hb0 := hid hb0
  have hs1 := Nat.lt_of_lt_of_eq (Nat.lt_succ_self w.heap.size) hs0.symm
  have hg0 := Nat.lt_of_lt_of_le hg hb0.size
  clear hc0 hb0 hs0
  generalize w.alloc _ = w0 at *
  go_loopw [5, 10] (fun v i wr => ∃ k : Nat, k ≤ l.length ∧ i = .int .i64 (k : Int) ∧ wr.ownsRow w0.heap.size 3 1 v (valuesB (l.take k)).length (ints (valuesB (l.take k))) ∧ Below w0.heap.size w0 wr)
    (fun _ i _ => l.length - (intOf i).toNat)
  case atStart => exact ⟨0, Nat.zero_le _, rfl, World.ownsRow_nil _ _ _ _, Below.refl _ _⟩
  case round =>
    obtain ⟨k, hkl, rfl, hown, hB⟩ := hrel
    have hvl := valuesB_len (l.take k)
    rw [List.length_take] at hvl
    by_cases hlt : k < l.length
    · obtain ⟨b, off, rfl, hbw, hcell⟩ := (Hl0.out.later hB).at_ (List.ne_nil_of_length_pos (by omega))
      obtain ⟨g1, g2, g3⟩ := hcell k hlt
      clear hcell
      have hcf := (hB.cell (p := ⟨w.heap.size, 1, none⟩) hs1).trans Hc.out.2.1
      have hwr : w.heap.size < wr.heap.size := Nat.lt_of_lt_of_le hs1 hB.size
      cases hnl : (l[k]).null with
      | true =>
        have HV : Hid (valuesB (l.take (k + 1)) = valuesB (l.take k)) := by
          show valuesB (l.take (k + 1)) = _
          rw [valuesB_step l k hlt, hnl]; simp
        rw [hnl] at g1
        clear hnl
        have HOw := hid (hown.alloc (Obj.cells #[.bool true, .int .i64 (l[k]).int, strB (l[k]).text] 34))
        have HB1 := hid (hB.alloc hB.size (Obj.cells #[.bool true, .int .i64 (l[k]).int, strB (l[k]).text] 34))
        clear hown hB
        go_wp2
        go_roundw
        case rel => exact ⟨k + 1, by omega, by go_num, by rw [HV.out]; exact HOw.out, HB1.out⟩
        case measure => simp [intOf]; omega
      | false =>
        have HV : Hid (valuesB (l.take (k + 1)) = valuesB (l.take k) ++ [l[k]]) := by
          show valuesB (l.take (k + 1)) = _
          rw [valuesB_step l k hlt, hnl]; simp
        rw [hnl] at g1
        clear hnl
        generalize valuesB (l.take k) = V at *
        have hown1 := hown.alloc (Obj.cells #[.bool false, .int .i64 (l[k]).int, strB (l[k]).text] 34)
        have hB1 := hB.alloc hB.size (Obj.cells #[.bool false, .int .i64 (l[k]).int, strB (l[k]).text] 34)
        have hcf1 := cell_alloc_keep (Obj.cells #[.bool false, .int .i64 (l[k]).int, strB (l[k]).text] 34) hcf
        clear hown hB
        go_wp2_with fail
        refine (numVal ⟨false, (l[k]).int, (l[k]).text⟩ _).mono ?_
        rintro e w2 ⟨rfl, hb2⟩
        have hown2 := own_after hown1 hb2
        have hB2 := hB1.trans (hb2.mono hB1.size)
        clear hown1 hb2 hB1 g1 g2 g3 hcf hcf1
        go_wp2_with (at_builtin; refine wpList_append_own _ rfl (.tmp 17) (.tmp 22) 22 rfl w0.heap.size 3 i0 (.int .i64 0) 1 8 Tryz.underlying22 hi hz0 hz1 hz2 rfl (by decide) _ _ _ rfl (hown2.alloc _) ⟨_, 0, none⟩ 1 1 [.int .i64 (l[k]).int] rfl rfl ?c1 ?c2 ?c3 ?c4 ?c5 ?_)
        case c1 => exact cell_laid w2 #[.int .i64 (l[k]).int] 3
        case c2 => intro u hu; simp at hu; subst hu; rfl
        case c3 => unfold maxLen; omega
        case c4 => omega
        case c5 => have := hB2.size; simp; omega
        intro v3 w3 hown3 hgr3 _
        have HO3 := hid hown3
        have HB3 := hid ((hB2.alloc hB2.size _).grown hgr3 (by have := hB2.size; simp; omega) (fun k hk => (hown2.lt k hk).1))
        clear hown2 hown3 hgr3 hB2
        go_wp2
        go_roundw
        case rel => exact ⟨k + 1, by omega, by go_num, by rw [HV.out, show (V ++ [l[k]]).length = V.length + 1 by simp, show ints (V ++ [l[k]]) = ints V ++ [.int .i64 (l[k]).int] by simp [ints]]; exact HO3.out, HB3.out⟩
        case measure => simp [intOf]; omega
    · have hke : k = l.length := by omega
      subst hke
      rw [List.take_length] at hown hvl
      have hln := ints_len hown
      have Hlr := hid (Hl0.out.later hB)
      by_cases hv0 : valuesB l = []
      · have HP : Hid (pageB 0 l = headB l) := by
          show pageB 0 l = _
          rw [pageB, if_pos hv0]
        have hv1 : (valuesB l).length = 0 := by rw [hv0]; rfl
        rw [hv1] at hln
        have hln2 := hln wr
        clear hln hv0 hv1 hown
        go_wp2_with fail
        refine (runs_any a cap l _ hn Hlr.out).mono ?_
        rintro e w2 ⟨rfl, hb2⟩
        go_wp2
        go_ret
        have hz := Hb0.out.size
        have hBB := Hb0.out.trans (hB.mono hz)
        exact ⟨ret_str HP.out.symm, hBB.trans (hb2.mono hBB.size)⟩
      · have HP : Hid (headB l ++ bestTo 0 (valuesB l) 3 = pageB 0 l) := by
          show _ = pageB 0 l
          rw [pageB, if_neg hv0]
        have hln2 := hln wr
        have hvp : (((valuesB l).length : Int) == 0) = false := by
          have := List.length_pos_iff.2 hv0
          simp; omega
        have HSm : Hid (Small (valuesB l)) := ⟨fun c hc => Hsm.out c (List.mem_filter.1 hc).1, by omega, hv0⟩
        obtain ⟨bv, cv, rfl, hvl2⟩ := ints_lie hown hv0
        have Hvl := hid hvl2
        have hbx := boxI_later Hc.out hB hs1
        have Hbx := hid hbx
        have hwr : w.heap.size < wr.heap.size := Nat.lt_of_lt_of_le hs1 hB.size
        have hgr : g < wr.heap.size := Nat.lt_of_lt_of_le hg0 hB.size
        have Hwr := hid (Hw0.out.later hg0 hB)
        have hh := headB_len l hn
        have hbt := bestTo_len 0 (valuesB l) HSm.out.small HSm.out.few 3
        have HU : Hid (∀ w', Lies w' a l → Calls Tryz.prog 157 #[.slice a l.length cap] w' fun e w2 => e = .returned (strB (headB l)) ∧ Below w'.heap.size w' w2) := fun w' h => runs_any a cap l w' hn h
        have HE : Hid (∀ w', IntsLie w' bv (valuesB l) → g < w'.heap.size → NumW w' g → Calls Tryz.prog 158 #[numC g, .slice (some ⟨bv, 0, none⟩) (valuesB l).length cv] w' fun e w2 => e = .returned (strB (bestTo 0 (valuesB l) 3)) ∧ Below w'.heap.size w' w2) := fun w' h h1 h2 => shortI g bv cv (valuesB l) w' HSm.out h h1 h2
        clear hln hv0 hown hvl2 HSm
        generalize headB l = H at *
        generalize bestTo 0 (valuesB l) 3 = S3 at *
        generalize (valuesB l) = V at *
        obtain ⟨x0, x1, x2, x3, x4, x5, x6⟩ := hbx
        go_wp2_with fail
        go_region_held3 (fun w' => w'.cell? ⟨w.heap.size, 0, none⟩ = some (.slice (some ⟨g, 0, none⟩) 3 3) ∧ w'.cell? ⟨w.heap.size, 1, none⟩ = some (fnV 151) ∧ w'.cell? ⟨w.heap.size, 2, none⟩ = some (fnV 152) ∧ w'.cell? ⟨w.heap.size, 3, none⟩ = some (fnV 153) ∧ w'.cell? ⟨w.heap.size, 4, none⟩ = some (fnV 154) ∧ w'.cell? ⟨w.heap.size, 5, none⟩ = some (fnV 155) ∧ w'.cell? ⟨w.heap.size, 6, none⟩ = some (fnV 156))
          (first | exact boxI_alloc _ X4 | exact X6 | exact X4 | exact X3 | exact Hbx.out)
          (first
            | (go_at_call 157; refine (HU.out _ (Hlr.out.later (below_self_drew _))).mono ?_; rintro e w3 ⟨rfl, hb3⟩; have hb3' := below_undrew hb3; have X3 := boxI_later Hbx.out hb3' hwr)
            | (go_at_call 158; refine (HE.out _ (Hvl.out.later hb3') (Nat.lt_of_lt_of_le hgr hb3'.size) (Hwr.out.later hgr hb3')).mono ?_; rintro e w4 ⟨rfl, hb4⟩; have X4 := boxI_later X3 hb4 (Nat.lt_of_lt_of_le hwr hb3'.size))
            | (go_at_call 93; refine (join_at [H, S3] #[strB H, strB S3] 2 _ _ ?_ rfl rfl ?_ ?_).mono ?_; (first | rfl | simp); decide; (simp; omega); rintro e w6 ⟨rfl, hb6⟩; have X6 := boxI_later X4 hb6 (Nat.lt_of_lt_of_le hwr (Nat.le_trans hb3'.size hb4.size))))
        have hz := Hb0.out.size
        have hBB := Hb0.out.trans (hB.mono hz)
        have hB3 := hBB.trans (hb3'.mono hBB.size)
        have hB4 := hB3.trans (hb4.mono hB3.size)
        have HB6 := hid (hB4.trans (hb6.mono hB4.size))
        clear X3 X4 X6 x0 x1 x2 x3 x4 x5 x6 hb3 hb3' hb4 hb6 hB hz hBB hB3 hB4
        go_wp2
        go_ret
        exact ⟨ret_str HP.out, HB6.out⟩

set_option maxHeartbeats 4000000 in
theorem pageT (g : Nat) (a : Option Addr) (cap : Nat) (l : List CellB) (w : World) (hn : l.length ≤ 60) (hsm : ∀ c ∈ l, smallC c) (hl : Lies w a l) (hg : g < w.heap.size) (hw : TxtW w g) :
    Calls Tryz.prog 137 #[txtC g, .slice a l.length cap] w fun e w' => e = .returned (strB (pageB 1 l)) ∧ Below w.heap.size w w' := by
  obtain ⟨i0, hi, hz0, hz1, hz2⟩ := info_parts Tryz.infoStr
  have Hsm := hid hsm
  have Hl := hid hl
  have Hw := hid hw
  have hni : (l.length : Int) ≤ 60 := by omega
  clear hsm hl hw
  go_enter Tryz.func137, Tryz.ntmps137
  go_wp2
  obtain ⟨hb0, hs0, hc0⟩ := boxed w #[.slice (some ⟨g, 0, none⟩) 3 3, fnV 165, fnV 166, fnV 115, fnV 167, fnV 168, fnV 169] 214
  have Hc : Hid (BoxT _ g w.heap.size) := ⟨hc0 0, hc0 1, hc0 2, hc0 3, hc0 4, hc0 5, hc0 6⟩
  have Hl0 := hid (Hl.out.later hb0)
  have Hw0 := hid (Hw.out.later hg hb0)
  have Hb0 := hid hb0
  have hs1 := Nat.lt_of_lt_of_eq (Nat.lt_succ_self w.heap.size) hs0.symm
  have hg0 := Nat.lt_of_lt_of_le hg hb0.size
  clear hc0 hb0 hs0
  generalize w.alloc _ = w0 at *
  go_loopw [5, 10] (fun v i wr => ∃ k : Nat, k ≤ l.length ∧ i = .int .i64 (k : Int) ∧ wr.ownsRow w0.heap.size 9 1 v (valuesB (l.take k)).length (strsT (valuesB (l.take k))) ∧ Below w0.heap.size w0 wr)
    (fun _ i _ => l.length - (intOf i).toNat)
  case atStart => exact ⟨0, Nat.zero_le _, rfl, World.ownsRow_nil _ _ _ _, Below.refl _ _⟩
  case round =>
    obtain ⟨k, hkl, rfl, hown, hB⟩ := hrel
    have hvl := valuesB_len (l.take k)
    rw [List.length_take] at hvl
    by_cases hlt : k < l.length
    · obtain ⟨b, off, rfl, hbw, hcell⟩ := (Hl0.out.later hB).at_ (List.ne_nil_of_length_pos (by omega))
      obtain ⟨g1, g2, g3⟩ := hcell k hlt
      clear hcell
      have hcf := (hB.cell (p := ⟨w.heap.size, 1, none⟩) hs1).trans Hc.out.2.1
      have hwr : w.heap.size < wr.heap.size := Nat.lt_of_lt_of_le hs1 hB.size
      cases hnl : (l[k]).null with
      | true =>
        have HV : Hid (valuesB (l.take (k + 1)) = valuesB (l.take k)) := by
          show valuesB (l.take (k + 1)) = _
          rw [valuesB_step l k hlt, hnl]; simp
        rw [hnl] at g1
        clear hnl
        have HOw := hid (hown.alloc (Obj.cells #[.bool true, .int .i64 (l[k]).int, strB (l[k]).text] 34))
        have HB1 := hid (hB.alloc hB.size (Obj.cells #[.bool true, .int .i64 (l[k]).int, strB (l[k]).text] 34))
        clear hown hB
        go_wp2
        go_roundw
        case rel => exact ⟨k + 1, by omega, by go_num, by rw [HV.out]; exact HOw.out, HB1.out⟩
        case measure => simp [intOf]; omega
      | false =>
        have HV : Hid (valuesB (l.take (k + 1)) = valuesB (l.take k) ++ [l[k]]) := by
          show valuesB (l.take (k + 1)) = _
          rw [valuesB_step l k hlt, hnl]; simp
        rw [hnl] at g1
        clear hnl
        generalize valuesB (l.take k) = V at *
        have hown1 := hown.alloc (Obj.cells #[.bool false, .int .i64 (l[k]).int, strB (l[k]).text] 34)
        have hB1 := hB.alloc hB.size (Obj.cells #[.bool false, .int .i64 (l[k]).int, strB (l[k]).text] 34)
        have hcf1 := cell_alloc_keep (Obj.cells #[.bool false, .int .i64 (l[k]).int, strB (l[k]).text] 34) hcf
        clear hown hB
        go_wp2_with fail
        refine (txtVal ⟨false, (l[k]).int, (l[k]).text⟩ _).mono ?_
        rintro e w2 ⟨rfl, hb2⟩
        have hown2 := own_after hown1 hb2
        have hB2 := hB1.trans (hb2.mono hB1.size)
        clear hown1 hb2 hB1 g1 g2 g3 hcf hcf1
        go_wp2_with (at_builtin; refine wpList_append_own _ rfl (.tmp 17) (.tmp 22) 163 rfl w0.heap.size 9 i0 (.string ⟨#[]⟩) 1 16 Tryz.underlying163 hi hz0 hz1 hz2 rfl (by decide) _ _ _ rfl (hown2.alloc _) ⟨_, 0, none⟩ 1 1 [strB (l[k]).text] rfl rfl ?c1 ?c2 ?c3 ?c4 ?c5 ?_)
        case c1 => exact cell_laid w2 #[strB (l[k]).text] 9
        case c2 => intro u hu; simp at hu; subst hu; rfl
        case c3 => unfold maxLen; omega
        case c4 => omega
        case c5 => have := hB2.size; simp; omega
        intro v3 w3 hown3 hgr3 _
        have HO3 := hid hown3
        have HB3 := hid ((hB2.alloc hB2.size _).grown hgr3 (by have := hB2.size; simp; omega) (fun k hk => (hown2.lt k hk).1))
        clear hown2 hown3 hgr3 hB2
        go_wp2
        go_roundw
        case rel => exact ⟨k + 1, by omega, by go_num, by rw [HV.out, show (V ++ [l[k]]).length = V.length + 1 by simp, show strsT (V ++ [l[k]]) = strsT V ++ [strB (l[k]).text] by simp [strsT, strs, texts]]; exact HO3.out, HB3.out⟩
        case measure => simp [intOf]; omega
    · have hke : k = l.length := by omega
      subst hke
      rw [List.take_length] at hown hvl
      have hln := strsT_len hown
      have Hlr := hid (Hl0.out.later hB)
      by_cases hv0 : valuesB l = []
      · have HP : Hid (pageB 1 l = headB l) := by
          show pageB 1 l = _
          rw [pageB, if_pos hv0]
        have hv1 : (valuesB l).length = 0 := by rw [hv0]; rfl
        rw [hv1] at hln
        have hln2 := hln wr
        clear hln hv0 hv1 hown
        go_wp2_with fail
        refine (runs_any a cap l _ hn Hlr.out).mono ?_
        rintro e w2 ⟨rfl, hb2⟩
        go_wp2
        go_ret
        have hz := Hb0.out.size
        have hBB := Hb0.out.trans (hB.mono hz)
        exact ⟨ret_str HP.out.symm, hBB.trans (hb2.mono hBB.size)⟩
      · have HP : Hid (headB l ++ bestTo 1 (valuesB l) 3 = pageB 1 l) := by
          show _ = pageB 1 l
          rw [pageB, if_neg hv0]
        have hln2 := hln wr
        have hvp : (((valuesB l).length : Int) == 0) = false := by
          have := List.length_pos_iff.2 hv0
          simp; omega
        have HSm : Hid (Small (valuesB l)) := ⟨fun c hc => Hsm.out c (List.mem_filter.1 hc).1, by omega, hv0⟩
        obtain ⟨bv, cv, rfl, hvl2⟩ := strsT_lie hown hv0
        have Hvl := hid hvl2
        have hbx := boxT_later Hc.out hB hs1
        have Hbx := hid hbx
        have hwr : w.heap.size < wr.heap.size := Nat.lt_of_lt_of_le hs1 hB.size
        have hgr : g < wr.heap.size := Nat.lt_of_lt_of_le hg0 hB.size
        have Hwr := hid (Hw0.out.later hg0 hB)
        have hh := headB_len l hn
        have hbt := bestTo_len 1 (valuesB l) HSm.out.small HSm.out.few 3
        have HU : Hid (∀ w', Lies w' a l → Calls Tryz.prog 157 #[.slice a l.length cap] w' fun e w2 => e = .returned (strB (headB l)) ∧ Below w'.heap.size w' w2) := fun w' h => runs_any a cap l w' hn h
        have HE : Hid (∀ w', TextsLie w' bv (valuesB l) → g < w'.heap.size → TxtW w' g → Calls Tryz.prog 170 #[txtC g, .slice (some ⟨bv, 0, none⟩) (valuesB l).length cv] w' fun e w2 => e = .returned (strB (bestTo 1 (valuesB l) 3)) ∧ Below w'.heap.size w' w2) := fun w' h h1 h2 => shortT g bv cv (valuesB l) w' HSm.out h h1 h2
        clear hln hv0 hown hvl2 HSm
        generalize headB l = H at *
        generalize bestTo 1 (valuesB l) 3 = S3 at *
        generalize (valuesB l) = V at *
        obtain ⟨x0, x1, x2, x3, x4, x5, x6⟩ := hbx
        go_wp2_with fail
        go_region_held3 (fun w' => w'.cell? ⟨w.heap.size, 0, none⟩ = some (.slice (some ⟨g, 0, none⟩) 3 3) ∧ w'.cell? ⟨w.heap.size, 1, none⟩ = some (fnV 165) ∧ w'.cell? ⟨w.heap.size, 2, none⟩ = some (fnV 166) ∧ w'.cell? ⟨w.heap.size, 3, none⟩ = some (fnV 115) ∧ w'.cell? ⟨w.heap.size, 4, none⟩ = some (fnV 167) ∧ w'.cell? ⟨w.heap.size, 5, none⟩ = some (fnV 168) ∧ w'.cell? ⟨w.heap.size, 6, none⟩ = some (fnV 169))
          (first | exact boxT_alloc _ X4 | exact X6 | exact X4 | exact X3 | exact Hbx.out)
          (first
            | (go_at_call 157; refine (HU.out _ (Hlr.out.later (below_self_drew _))).mono ?_; rintro e w3 ⟨rfl, hb3⟩; have hb3' := below_undrew hb3; have X3 := boxT_later Hbx.out hb3' hwr)
            | (go_at_call 170; refine (HE.out _ (Hvl.out.later hb3') (Nat.lt_of_lt_of_le hgr hb3'.size) (Hwr.out.later hgr hb3')).mono ?_; rintro e w4 ⟨rfl, hb4⟩; have X4 := boxT_later X3 hb4 (Nat.lt_of_lt_of_le hwr hb3'.size))
            | (go_at_call 93; refine (join_at [H, S3] #[strB H, strB S3] 2 _ _ ?_ rfl rfl ?_ ?_).mono ?_; (first | rfl | simp); decide; (simp; omega); rintro e w6 ⟨rfl, hb6⟩; have X6 := boxT_later X4 hb6 (Nat.lt_of_lt_of_le hwr (Nat.le_trans hb3'.size hb4.size))))
        have hz := Hb0.out.size
        have hBB := Hb0.out.trans (hB.mono hz)
        have hB3 := hBB.trans (hb3'.mono hBB.size)
        have hB4 := hB3.trans (hb4.mono hB3.size)
        have HB6 := hid (hB4.trans (hb6.mono hB4.size))
        clear X3 X4 X6 x0 x1 x2 x3 x4 x5 x6 hb3 hb3' hb4 hb6 hB hz hBB hB3 hB4
        go_wp2
        go_ret
        exact ⟨ret_str HP.out, HB6.out⟩

set_option maxHeartbeats 1000000 in
theorem page_does (kind : Int) (a : Option Addr) (cap : Nat) (l : List CellB) (w : World) (hk : kind = 0 ∨ kind = 1) (hn : l.length ≤ 60) (hsm : ∀ c ∈ l, smallC c) (hl : Lies w a l) :
    Calls Tryz.prog 122 #[.int .i64 kind, .slice a l.length cap] w fun e w' => e = .returned (strB (pageB kind l)) ∧ Below w.heap.size w w' := by
  have Hsm := hid hsm
  have Hl := hid hl
  clear hsm hl
  rcases hk with rfl | rfl
  · go_enter Tryz.func122, Tryz.ntmps122
    go_wp2_with fail
    refine (numbers_any w).mono ?_
    rintro e w1 ⟨g, rfl, hg, hw, hb1⟩
    have Hw := hid hw
    clear hw
    go_wp2_with fail
    refine (pageI g a cap l _ hn Hsm.out (Hl.out.later hb1) hg Hw.out).mono ?_
    rintro e w2 ⟨rfl, hb2⟩
    go_wp2
    go_ret
    exact ⟨rfl, hb1.trans (hb2.mono hb1.size)⟩
  · go_enter Tryz.func122, Tryz.ntmps122
    go_wp2_with fail
    refine (texts_any w).mono ?_
    rintro e w1 ⟨g, rfl, hg, hw, hb1⟩
    have Hw := hid hw
    clear hw
    go_wp2_with fail
    refine (pageT g a cap l _ hn Hsm.out (Hl.out.later hb1) hg Hw.out).mono ?_
    rintro e w2 ⟨rfl, hb2⟩
    go_wp2
    go_ret
    exact ⟨rfl, hb1.trans (hb2.mono hb1.size)⟩

end Go.Proofs.YthhpbhpfagoapabGreat
