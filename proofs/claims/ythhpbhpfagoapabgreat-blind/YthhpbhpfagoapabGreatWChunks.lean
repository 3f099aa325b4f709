
/-
  What the program's press does with all chunks, by a walk.
-/
import Derived.Test.YthhpbhpfagoapabGreatWChunk
import Derived.Test.YthhpbhpfagoapabGreatVSmall
namespace Go.Proofs.YthhpbhpfagoapabGreat
open Go.RowKit
set_option linter.unusedVariables false
set_option linter.unusedSimpArgs false
set_option maxRecDepth 100000

/-- A row that is younger than a may grow. -/
theorem KeptT.above {T : List TypeId} {B : Nat} {a b c : World} {row : Option Nat} (h : KeptT T B a b) (hg : b.grownBy c row) (hB : B ≤ a.heap.size) (hr : ∀ k, row = some k → a.heap.size ≤ k) : KeptT T B a c := by
  have hbl : ∀ k, k < a.heap.size → c.heap[k]? = b.heap[k]? := fun k hk => hg.block k (Nat.lt_of_lt_of_le hk h.size) (fun e => by have := hr k e.symm; omega)
  refine ⟨hg.os.trans h.os, hg.tape.trans h.tape, hg.output.trans h.output, Nat.le_trans h.size hg.size, fun k hk => (hbl k (by omega)).trans (h.block k hk), fun k o hk ho => ?_⟩
  exact (hbl k (Array.getElem?_eq_some_iff.1 hk).1).trans (h.other k o hk ho)

set_option maxHeartbeats 1000000 in
theorem prows_any (q : Nat) (ta : Option Addr) (tcap : Nat) (rv : Value) (j : JobB) (st : StB) (B : Nat) (w : World) (h1 : 0 < j.table.length) (hl : LiesT w ta j.table) (hp : PressAt w B q (.slice ta j.table.length tcap) rv j st) :
    Calls Tryz.prog 66 #[.pointer (some ⟨q, 0, none⟩)] w fun e w' => e = .returned (.int .i64 (rowsB j.table : Int)) ∧ w' = w := by
  obtain ⟨ov, lv, hrow, _⟩ := hp
  have c0 := (press_cells hrow).1.1
  obtain ⟨b, off, rfl, hbw, hcell⟩ := hl.at_ (List.ne_nil_of_length_pos (by omega))
  obtain ⟨_, _, _, v0, f4, ca0, cap0, rfl, hcc0, _⟩ := hcell 0 h1
  simp only [Nat.zero_mul, Nat.add_zero] at f4
  have h0i : (0 : Int) < (j.table.length : Int) := by omega
  have HR := hid (rowsB_eq h1)
  clear hcell hrow
  go_enter Tryz.func66, Tryz.ntmps66
  go_wp2
  go_ret
  exact ⟨ret_int (by rw [HR.out]), rfl⟩

theorem Tryz.infoIntW : (Tryz.prog.info? 3).map (fun i => (i.zero, i.size, i.bytes)) = some (some (.int .i64 0), 1, 8) := by kernel_rfl

theorem placesC_snoc (ps : List Nat) (n : Nat) : placesC (ps ++ [n]) = placesC ps ++ [.int .i64 (n : Int)] := by simp [placesC]

set_option maxHeartbeats 8000000 in
theorem pchunks_any (q : Nat) (ta : Option Addr) (tcap : Nat) (ra : Option Addr) (rcap : Nat) (r : List KeyB) (j : JobB) (st : StB) (w0 w : World) (hL : Laid w0 ta tcap ra rcap j r) (hb : Below w0.heap.size w0 w)
    (hs : st.out.length ≤ 4) (hg : st.log.length = 0) (hp : PressAt w w0.heap.size q (.slice ta j.table.length tcap) (.slice ra r.length rcap) j st) :
    Calls Tryz.prog 64 #[.pointer (some ⟨q, 0, none⟩)] w
      fun e w' => ∃ v, e = .returned v ∧ w'.ownsRow w.heap.size 3 1 v (placesB j r st true (spotsJ j)).length (placesC (placesB j r st true (spotsJ j))) ∧
        PressAt w' w0.heap.size q (.slice ta j.table.length tcap) (.slice ra r.length rcap) j (spotsSt j r st (spotsJ j)) ∧ KeptT pressT w0.heap.size w w' := by
  obtain ⟨i0, hi, hz0, hz1, hz2⟩ := info_parts Tryz.infoIntW
  have Hp := hid hp
  have HL := hid hL
  have Hb := hid hb
  have h1 := hL.good.table.few.1
  have hC6 := hL.good.table.few.2
  obtain ⟨⟨hG1, hG6⟩, ⟨hP1, hP6⟩, _⟩ := hL.good.sizes
  have hR := hL.good.table.rows
  have hplan := hL.good.plan
  simp only [planOkB, Bool.and_eq_true, decide_eq_true_eq] at hplan
  obtain ⟨G, hG⟩ : ∃ G : Nat, j.plan.group = (G : Int) := ⟨j.plan.group.toNat, by omega⟩
  have hGG : j.plan.group.toNat = G := by omega
  have HGG := hid hGG
  have HSJ : Hid (spotsJ j = spotsTo (rowsB j.table) j.table.length G j.plan.page.toNat (cntN (rowsB j.table) G)) := by show _ = _; unfold spotsJ spotsB; rw [hGG]
  rw [hGG] at hG1 hG6
  obtain ⟨ov, lv, hrow, hBq, _⟩ := hp
  have c1 := (press_cells hrow).1.2.1
  rw [hG] at c1
  have Hrw := hid (prows_any q ta tcap (.slice ra r.length rcap) j st w0.heap.size)
  have Hsl := hid (spotsSt_len (r := r) hL.good.table)
  generalize hRR : rowsB j.table = R at *
  have HRR := hid hRR
  generalize hPP : j.plan.page.toNat = P at *
  have HPP := hid hPP
  clear hL hb hplan hG hGG hRR hPP
  go_enter Tryz.func64, Tryz.ntmps64
  go_wp2_with fail
  have hq : q < w.heap.size := (Array.getElem?_eq_some_iff.1 hrow).1
  go_region_held3 (fun w' => w'.cell? ⟨q, 1, none⟩ = some (.int .i64 (G : Int)))
    (first | exact (hb2.cell (p := ⟨q, 1, none⟩) hq).trans c1 | exact c1)
    (first
      | (go_at_call 66; refine (Hrw.out _ (by omega) ((HL.out.table.later Hb.out).later (self_drew _)) (Hp.out.later (self_drew _))).mono ?_; rintro e w1 ⟨rfl, rfl⟩)
      | (go_at_call 95; refine (cut_any R G _ (by omega) hG1 (by omega)).mono ?_; rintro e w2 ⟨sv, rfl, hsp, hb2⟩; replace hb2 := below_undrew hb2; obtain ⟨sa, sc, rfl⟩ := own_slice hsp))
  have hsp2 : w2.ownsRow w.heap.size 169 2 (.slice sa (cntN R G) sc) (cntN R G) (spansC R G (cntN R G)) := hsp
  have Hsp := hid hsp2
  have HP2 := hid (Hp.out.later hb2)
  have HK2 := hid (Below.keptT (T := pressT) hb2 Hb.out.size)
  have hcle := cnt_le (n := R) hG1
  have HCL := hid (fun k => cnt_lt (n := R) (size := G) (i := k) hG1)
  clear hsp hsp2 hb2 c1 hrow hq
  generalize cntN R G = CN at *
  go_wp2_with fail
  go_loopw [3, 17] (fun v i wr => ∃ k : Nat, k ≤ CN ∧ i = .int .i64 (k : Int) ∧ PressAt wr w0.heap.size q (.slice ta j.table.length tcap) (.slice ra r.length rcap) j (spotsSt j r st (spotsTo R j.table.length G P k)) ∧ wr.ownsRow w.heap.size 3 1 v (placesB j r st true (spotsTo R j.table.length G P k)).length (placesC (placesB j r st true (spotsTo R j.table.length G P k))) ∧ wr.ownsRow w.heap.size 169 2 (.slice sa CN sc) CN (spansC R G CN) ∧ KeptT pressT w0.heap.size w wr) (fun _ i _ => CN - (intOf i).toNat)
  case atStart => exact ⟨0, Nat.zero_le _, rfl, HP2.out, World.ownsRow_nil _ _ _ _, Hsp.out, HK2.out⟩
  case round =>
    clear HP2 Hsp HK2 Hp
    obtain ⟨k, hkl, rfl, hpr, hown, hsp, hK⟩ := hrel
    have Hpr := hid hpr
    have Hown := hid hown
    have Hsp := hid hsp
    have hBw0 := Hb.out.trans hK.below
    clear hpr hown hsp
    by_cases hlt : k < CN
    · have hki : (k : Int) < (CN : Int) := by omega
      obtain ⟨sg, rfl, hsg, s1, s2⟩ := spans_at Hsp.out hlt
      have hkG : k * G < R := (HCL.out k).1 hlt
      have hprx := Hpr.out
      obtain ⟨ov, lv, hrow, hBq, _⟩ := hprx
      have c0 := (press_cells hrow).1.1
      have hq : q < wr.heap.size := (Array.getElem?_eq_some_iff.1 hrow).1
      have HCH : Hid (∀ c (st' : StB) (w' : World), Below w0.heap.size w0 w' → st'.out.length ≤ 80000000 → st'.log.length ≤ 22000 → c < j.table.length → PressAt w' w0.heap.size q (.slice ta j.table.length tcap) (.slice ra r.length rcap) j st' →
          Calls Tryz.prog 96 #[.pointer (some ⟨q, 0, none⟩), .int .i64 (k : Int), .int .i64 (c : Int), .agg #[.int .i64 ((k * G : Nat) : Int), .int .i64 ((min (k * G + G) R : Nat) : Int)]] w'
            fun e w2 => e = .returned (.tuple #[]) ∧ PressAt w2 w0.heap.size q (.slice ta j.table.length tcap) (.slice ra r.length rcap) j (spotsSt j r st' (chunkSpots R G P k c)) ∧ KeptT pressT w0.heap.size w' w2) := by
        intro c st' w' hw' ho hlg hc hp'
        have := pchunk_any q ta tcap ra rcap r j st' k c w0 w' HL.out hw' ho hlg (by rw [HGG.out, HRR.out]; exact hkG) hc hp'
        rw [HGG.out, HRR.out, HPP.out] at this
        exact this
      have HSG := hid (spots_succ R j.table.length G P k)
      have hml := metaLast_to R j.table.length G P k
      generalize hkG0 : k * G = kG at *
      generalize hE0 : min (kG + G) R = E at *
      have HSP : Hid (∀ s ∈ spotsTo R j.table.length G P k, s.c < j.table.length ∧ s.many ≤ 60) := fun s hs2 => ⟨(to_small s hs2).1, by have := (to_small s hs2).2; omega⟩
      have hsl3 := spots_len R j.table.length G P k (by omega) hG6 hC6
      have Hml := hid hml
      clear hkG0 hE0 hkG hml
      go_wp2_with fail
      obtain ⟨hbx, hsx, _, hhx⟩ := boxedW wr #[.int .i64 (kG : Int), .int .i64 (E : Int)] 169
      have HKx := hid (hK.trans (Below.keptT hbx (by have := hBw0.size; omega)))
      have Hhx := hid hhx
      have Hprx := hid (Hpr.out.later hbx)
      have Hownx := hid (own_after Hown.out hbx)
      have Hspx := hid (own_after Hsp.out hbx)
      clear s1 s2 hbx hK hsg hhx hBw0 c0 hrow
      generalize wr.alloc _ = wx at *
      generalize wr.heap.size = bq at *
      go_loopw [3, 28] (fun v i w3 => ∃ c : Nat, c ≤ j.table.length ∧ i = .int .i64 (c : Int) ∧ PressAt w3 w0.heap.size q (.slice ta j.table.length tcap) (.slice ra r.length rcap) j (spotsSt j r st (spotsTo R j.table.length G P k ++ groupSpots R G P k c)) ∧ w3.ownsRow w.heap.size 3 1 v (placesB j r st true (spotsTo R j.table.length G P k ++ groupSpots R G P k c)).length (placesC (placesB j r st true (spotsTo R j.table.length G P k ++ groupSpots R G P k c))) ∧ w3.ownsRow w.heap.size 169 2 (.slice (some ⟨sg, 0, none⟩) CN sc) CN (spansC R G CN) ∧ w3.heap[bq]? = some (.cells #[.int .i64 (kG : Int), .int .i64 (E : Int)] 169 (0, 0)) ∧ KeptT pressT w0.heap.size w w3) (fun _ i _ => j.table.length - (intOf i).toNat)
      case atStart => exact ⟨0, Nat.zero_le _, rfl, by simpa [groupSpots] using Hprx.out, by simpa [groupSpots] using Hownx.out, Hspx.out, Hhx.out, HKx.out⟩
      case round =>
        clear Hprx Hownx Hspx Hhx HKx Hpr Hown Hsp
        obtain ⟨c, hcl, rfl, hpr, hown, hsp, hbx, hK⟩ := hrel
        have Hpr := hid hpr
        have Hsp := hid hsp
        have Hbx := hid hbx
        have hBw0 := Hb.out.trans hK.below
        have hgs : ∀ s ∈ spotsTo R j.table.length G P k ++ groupSpots R G P k c, s.c < j.table.length ∧ s.many ≤ 60 := by
          intro s hs2
          rcases List.mem_append.1 hs2 with h | h
          · exact HSP.out s h
          · exact ⟨by have := (group_small s h).1; omega, by have := (group_small s h).2; omega⟩
        have hlk := Hsl.out (spotsTo R j.table.length G P k ++ groupSpots R G P k c) st hgs
        have hgl := group_len R G P k c (by omega) hG6
        rw [List.length_append] at hlk
        have Hpl : Hid ((placesB j r st true (spotsTo R j.table.length G P k ++ groupSpots R G P k c)).length ≤ 366) := by
          show _ ≤ _
          have e1 := places_to_len j r st R j.table.length G P k
          rw [placesB_append, List.length_append, e1, Hml.out, places_group_len]
          have : k * j.table.length ≤ 60 * 6 := Nat.mul_le_mul (by omega) hC6
          omega
        clear hpr hsp hbx hgs
        by_cases hlc : c < j.table.length
        · have hci : (c : Int) < (j.table.length : Int) := by omega
          have HPS : Hid (placesB j r st true (spotsTo R j.table.length G P k ++ groupSpots R G P k (c + 1)) = placesB j r st true (spotsTo R j.table.length G P k ++ groupSpots R G P k c) ++ [(spotsSt j r st (spotsTo R j.table.length G P k ++ groupSpots R G P k c)).out.length]) := by
            show _ = _
            rw [group_succ, ← List.append_assoc, placesB_append (l := spotsTo R j.table.length G P k ++ groupSpots R G P k c)]
            have hm2 : metaLast true (spotsTo R j.table.length G P k ++ groupSpots R G P k c) = true := by rw [metaLast_append, Hml.out, metaLast_group]
            rw [hm2, places_chunk]
          have HSS : Hid (spotsSt j r st (spotsTo R j.table.length G P k ++ groupSpots R G P k (c + 1)) = spotsSt j r (spotsSt j r st (spotsTo R j.table.length G P k ++ groupSpots R G P k c)) (chunkSpots R G P k c)) := by
            show _ = _
            rw [group_succ, ← List.append_assoc, spotsSt_append]
          have hplx := Hpl.out
          generalize spotsSt j r st (spotsTo R j.table.length G P k ++ groupSpots R G P k c) = st1 at *
          generalize placesB j r st true (spotsTo R j.table.length G P k ++ groupSpots R G P k c) = pl1 at *
          have hprx := Hpr.out
          obtain ⟨ov, lv, hrow, hBq, hout, hlog⟩ := hprx
          obtain ⟨oa, oc, rfl⟩ := own_slice hout
          have c8 := (press_cells hrow).1.2.2.2.2.2.2.1
          have hrb := hBw0.size
          have hrw := hK.size
          clear hrow hout hlog
          go_wp2_with (at_builtin; refine wpList_append_own _ rfl (.tmp 31) (.tmp 37) 22 rfl w.heap.size 3 i0 (.int .i64 0) 1 8 Tryz.underlying22 hi hz0 hz1 hz2 rfl (by decide) _ _ _ rfl (hown.alloc _) ⟨_, 0, none⟩ 1 1 [.int .i64 (st1.out.length : Int)] rfl rfl ?c1 ?c2 ?c3 ?c4 ?c5 ?_)
          case c1 => exact cell_laid wr #[.int .i64 (st1.out.length : Int)] 3
          case c2 => intro u hu; simp at hu; subst hu; rfl
          case c3 => unfold maxLen; omega
          case c4 => omega
          case c5 => simp; omega
          intro v3 w4 hown4 hgr4 _
          have hpr4 : PressAt w4 w0.heap.size q (.slice ta j.table.length tcap) (.slice ra r.length rcap) j st1 := by
            obtain ⟨ov', lv', h1', h2', h3', h4'⟩ := Hpr.out.later ((Below.refl _ _).alloc (Nat.le_refl _) (.cells #[.int .i64 (st1.out.length : Int)] 3))
            exact ⟨ov', lv', heap_grown_keep hgr4 (hown.alloc _) h1' (by decide), h2', h3'.kept hgr4 (own_apart h3' (hown.alloc _) (by decide)), h4'.kept hgr4 (own_apart h4' (hown.alloc _) (by decide))⟩
          have hoa := hown.alloc (.cells #[.int .i64 (st1.out.length : Int)] 3)
          have hsp4 := (Hsp.out.alloc (.cells #[.int .i64 (st1.out.length : Int)] 3)).kept hgr4 (own_apart (Hsp.out.alloc (.cells #[.int .i64 (st1.out.length : Int)] 3)) hoa (by decide))
          have hbx4 := heap_grown_keep hgr4 hoa (heap_alloc_keep _ Hbx.out) (by decide)
          have hK4 : KeptT pressT w0.heap.size w w4 := (hK.alloc hrb _).above hgr4 Hb.out.size (fun k hk => (hown.lt k hk).1)
          have hB4 := Hb.out.trans hK4.below
          have HO4 : Hid (w4.ownsRow w.heap.size 3 1 v3 (placesB j r st true (spotsTo R j.table.length G P k ++ groupSpots R G P k (c + 1))).length (placesC (placesB j r st true (spotsTo R j.table.length G P k ++ groupSpots R G P k (c + 1))))) := by
            show World.ownsRow _ _ _ _ _ _ _
            rw [HPS.out, placesC_snoc, List.length_append]
            exact hown4
          obtain ⟨y0, y1⟩ := box2 hbx4
          have Hbx4 := hid hbx4
          have Hsp4 := hid hsp4
          have Hpr4 := hid hpr4
          clear hown hgr4 hown4 hoa hsp4 hbx4 hpr4 c8 hK
          go_wp2_with fail
          refine (HCH.out c st1 w4 hB4 (by omega) (by omega) hlc Hpr4.out).mono ?_
          rintro e w5 ⟨rfl, hp5, hk5⟩
          have HP5 := hid hp5
          have HK5 := hid (hK4.trans hk5)
          have HS5 := hid (hk5.owns Hsp4.out (by decide))
          have HX5 := hid (hk5.row Hbx4.out (by decide))
          have HO5 := hid (hk5.owns HO4.out (by decide))
          clear hp5 hk5 y0 y1 hK4 hB4
          go_wp2
          go_roundw
          case rel => exact ⟨c + 1, by omega, by go_num, by rw [HSS.out]; exact HP5.out, HO5.out, HS5.out, HX5.out, HK5.out⟩
          case measure => simp [intOf]; omega
        · have hce : c = j.table.length := by omega
          subst hce
          have HO := hid hown
          have HK := hid hK
          clear hown hK
          go_wp2
          go_roundw
          case rel => exact ⟨k + 1, by omega, by go_num, by rw [HSG.out]; exact Hpr.out, by rw [HSG.out]; exact HO.out, Hsp.out, HK.out⟩
          case measure => simp [intOf]; omega
    · have hke : k = CN := by omega
      subst hke
      go_wp2
      go_ret
      exact ⟨_, rfl, by rw [HSJ.out]; exact Hown.out, by rw [HSJ.out]; exact Hpr.out, hK⟩

end Go.Proofs.YthhpbhpfagoapabGreat
