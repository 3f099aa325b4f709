
/-
  What the program's press does with the footer part, by a walk.
-/
import Derived.Test.YthhpbhpfagoapabGreatWChunks
namespace Go.Proofs.YthhpbhpfagoapabGreat
open Go.RowKit
set_option linter.unusedVariables false
set_option linter.unusedSimpArgs false
set_option maxRecDepth 100000

theorem text_j (j : JobB) (r : List KeyB) (hJ : GoodJ j r) (a : Option Addr) (cap : Nat) (pv : Value) (places : List Nat) (base : Nat) (w : World) (hps : places.length ≤ 360) (hpb : ∀ x ∈ places, x ≤ 80000000)
    (hl : LiesT w a j.table) (hpl : w.ownsRow base 3 1 pv places.length (placesC places)) :
    Calls Tryz.prog 97 #[.agg #[.int .i64 (rowsB j.table : Int), .int .i64 j.plan.group, .int .i64 j.plan.page, .int .i64 j.plan.foot, .bool j.plan.told, .slice a j.table.length cap, pv]] w
      fun e w' => e = .returned (strB (footerB (rowsB j.table) j.plan j.table places)) ∧ Below w.heap.size w w' := by
  have hplan := hJ.plan
  simp only [planOkB, Bool.and_eq_true, decide_eq_true_eq] at hplan
  have hR := hJ.table.rows
  have h6 := hJ.table.few.2
  have h := text_does (rowsB j.table) j.plan.group.toNat j.plan.page.toNat j.plan.foot.toNat j.plan.told a cap j.table pv places base w hR (by omega) (by omega) (by omega) h6 hps hpb (by
    intro c hc
    obtain ⟨k, hk, rfl⟩ := List.mem_iff_getElem.1 hc
    obtain ⟨a1, a2, a3, a4⟩ := hJ.table.head k hk
    exact ⟨(name_len a1).2, by omega, a3, a4⟩) hl hpl
  have e1 : ((j.plan.group.toNat : Nat) : Int) = j.plan.group := by omega
  have e2 : ((j.plan.page.toNat : Nat) : Int) = j.plan.page := by omega
  have e3 : ((j.plan.foot.toNat : Nat) : Int) = j.plan.foot := by omega
  rw [e1, e2, e3] at h
  exact h

theorem joins_one (s : List UInt8) (G : Nat) (w : World) (hs : s.length ≤ 100000) (h : w.heap[G]? = some (.cells #[strB s] 9 (0, 0))) : Joins w (.slice (some ⟨G, 0, none⟩) 1 1) s := by
  intro w' hw
  have h' := heap_later hw h
  have := join_list [s] G 1 w' (by simp) (by simp; omega) (Array.getElem?_eq_some_iff.1 h').1 (by
    intro i hi
    have h0 : i = 0 := by simpa using hi
    subst h0
    rw [cell_of_heap h']
    rfl)
  simpa using this

theorem box_foot {w : World} {b q : Nat} {x0 x1 x2 x3 x4 x5 x6 : Value} {t : TypeId} {tv rv ov lv : Value} {j : JobB} (h : w.heap[b]? = some (.cells #[x0, x1, x2, x3, x4, x5, x6] t (0, 0))) (hp : w.heap[q]? = some (.cells (pressC tv rv ov lv j) 131 (0, 0))) :
    w.cell? ⟨b, 0, none⟩ = some x0 ∧ w.cell? ⟨b, 1, none⟩ = some x1 ∧ w.cell? ⟨b, 2, none⟩ = some x2 ∧ w.cell? ⟨b, 3, none⟩ = some x3 ∧ w.cell? ⟨b, 4, none⟩ = some x4 ∧ w.cell? ⟨b, 5, none⟩ = some x5 ∧ w.cell? ⟨b, 6, none⟩ = some x6 ∧ w.cell? ⟨q, 5, none⟩ = some (strB j.pre) :=
  ⟨by rw [cell_of_heap h]; rfl, by rw [cell_of_heap h]; rfl, by rw [cell_of_heap h]; rfl, by rw [cell_of_heap h]; rfl, by rw [cell_of_heap h]; rfl, by rw [cell_of_heap h]; rfl, by rw [cell_of_heap h]; rfl, (press_cells hp).1.2.2.2.1⟩

theorem end_len (j : JobB) (r : List KeyB) (f : List UInt8) (st : StB) (hf : f.length ≤ 3900) : st.out.length ≤ (endSt j r f st).out.length ∧ (endSt j r f st).out.length ≤ st.out.length + 4000 := by
  unfold endSt
  split
  · have h1 := (seal_len j.draw (secretB r j.plan.foot) (boundB j.pre 83 0 0 0 ++ f) [] (openSt f st)).1
    have h2 := open_len f st
    rw [h1, h2]
    simp only [List.length_nil]
    omega
  · have h1 := (seal_len j.draw (secretB r j.plan.foot) (boundB j.pre 70 0 0 0) f st).1
    omega

set_option maxHeartbeats 8000000 in
theorem pend_any (q : Nat) (ta : Option Addr) (tcap : Nat) (ra : Option Addr) (rcap : Nat) (r : List KeyB) (j : JobB) (st : StB) (pv : Value) (places : List Nat) (base : Nat) (w0 w : World) (hL : Laid w0 ta tcap ra rcap j r) (hb : Below w0.heap.size w0 w)
    (hs : st.out.length ≤ 80000000) (hg : st.log.length ≤ 22000) (hps : places.length ≤ 360) (hpb : ∀ x ∈ places, x ≤ 80000000) (hfl : (footerB (rowsB j.table) j.plan j.table places).length ≤ 3900)
    (hpl : w.ownsRow base 3 1 pv places.length (placesC places))
    (hp : PressAt w w0.heap.size q (.slice ta j.table.length tcap) (.slice ra r.length rcap) j st) :
    Calls Tryz.prog 65 #[.pointer (some ⟨q, 0, none⟩), .agg #[.int .i64 (rowsB j.table : Int), .int .i64 j.plan.group, .int .i64 j.plan.page, .int .i64 j.plan.foot, .bool j.plan.told, .slice ta j.table.length tcap, pv]] w
      fun e w' => e = .returned (.tuple #[]) ∧ PressAt w' w0.heap.size q (.slice ta j.table.length tcap) (.slice ra r.length rcap) j ⟨(endSt j r (footerB (rowsB j.table) j.plan j.table places) st).out ++ (twoB (((endSt j r (footerB (rowsB j.table) j.plan j.table places) st).out.length - st.out.length : Nat) : Int) ++ [67, 70]), (endSt j r (footerB (rowsB j.table) j.plan j.table places) st).log⟩ ∧ KeptT pressT w0.heap.size w w' := by
  have Hp := hid hp
  have HL := hid hL
  have Hb := hid hb
  have HTX : Hid (∀ w', Below w.heap.size w w' → Calls Tryz.prog 97 #[.agg #[.int .i64 (rowsB j.table : Int), .int .i64 j.plan.group, .int .i64 j.plan.page, .int .i64 j.plan.foot, .bool j.plan.told, .slice ta j.table.length tcap, pv]] w'
      fun e w2 => e = .returned (strB (footerB (rowsB j.table) j.plan j.table places)) ∧ Below w'.heap.size w' w2) := fun w' hw => text_j j r hL.good ta tcap pv places base w' hps hpb ((hL.table.later hb).later hw) (own_after hpl hw)
  obtain ⟨pa, pc, rfl, _⟩ := places_at hpl
  generalize hFF : footerB (rowsB j.table) j.plan j.table places = f at *
  have hel := end_len j r f st hfl
  have HES : Hid (endSt j r f st = if j.plan.told = true then sealSt j.draw (secretB r j.plan.foot) (boundB j.pre 83 0 0 0 ++ f) [] (openSt f st) else sealSt j.draw (secretB r j.plan.foot) (boundB j.pre 70 0 0 0) f st) := rfl
  have hbl1 := bound_len j.pre 83 0 0 0 hL.good.pre
  have hbl2 := bound_len j.pre 70 0 0 0 hL.good.pre
  have hopl := open_len f st
  obtain ⟨ov, lv, hrow, hBq, hout, hlog⟩ := hp
  obtain ⟨oa, oc, rfl⟩ := own_slice hout
  have c8 := (press_cells hrow).1.2.2.2.2.2.2.1
  have hq : q < w.heap.size := (Array.getElem?_eq_some_iff.1 hrow).1
  have Hrow := hid hrow
  have Hsec := hid (hL.secret j.plan.foot)
  clear hFF hpl hrow hout hlog hL hb hpb
  go_enter Tryz.func65, Tryz.ntmps65
  go_wp2_with fail
  obtain ⟨hbx, hsx, _, hhx⟩ := boxedW w #[.int .i64 (rowsB j.table : Int), .int .i64 j.plan.group, .int .i64 j.plan.page, .int .i64 j.plan.foot, .bool j.plan.told, .slice ta j.table.length tcap, .slice pa places.length pc] 79
  have Hbx := hid hbx
  have hrx := heap_later hbx Hrow.out
  clear hbx c8
  generalize w.alloc _ = wx at *
  go_region_held3 (fun w' => w'.cell? ⟨w.heap.size, 0, none⟩ = some (.int .i64 (rowsB j.table : Int)) ∧ w'.cell? ⟨w.heap.size, 1, none⟩ = some (.int .i64 j.plan.group) ∧ w'.cell? ⟨w.heap.size, 2, none⟩ = some (.int .i64 j.plan.page) ∧ w'.cell? ⟨w.heap.size, 3, none⟩ = some (.int .i64 j.plan.foot) ∧ w'.cell? ⟨w.heap.size, 4, none⟩ = some (.bool j.plan.told) ∧ w'.cell? ⟨w.heap.size, 5, none⟩ = some (.slice ta j.table.length tcap) ∧ w'.cell? ⟨w.heap.size, 6, none⟩ = some (.slice pa places.length pc) ∧ w'.cell? ⟨q, 5, none⟩ = some (strB j.pre))
    (first | exact box_foot Y1 Z1 | exact box_foot hhx hrx)
    (first
      | (go_at_call 97; refine (HTX.out _ Hbx.out.drew).mono ?_; rintro e w1 ⟨rfl, hb1⟩; replace hb1 := below_undrew hb1; have Y1 := heap_later hb1 hhx; have Z1 := heap_later hb1 hrx))
  have hB1 := Hbx.out.trans (hb1.mono Hbx.out.size)
  have hBw1 := Hb.out.trans (hB1.mono Hb.out.size)
  have Hp1 := hid (Hp.out.later hB1)
  have HK1 := hid (Below.keptT (T := pressT) hB1 Hb.out.size)
  have y4 := (box_foot Y1 Z1).2.2.2.2.1
  have Hr1 := hid (HL.out.ring.later hBw1)
  clear Y1 Z1 hhx hrx hb1
  go_simp
  have hfin : ∀ (w3 : World), PressAt w3 w0.heap.size q (.slice ta j.table.length tcap) (.slice ra r.length rcap) j (endSt j r f st) → KeptT pressT w0.heap.size w w3 → True := fun _ _ _ => trivial
  clear hfin
  cases htd : j.plan.told with
  | true =>
    have HES2 : Hid (endSt j r f st = sealSt j.draw (secretB r j.plan.foot) (boundB j.pre 83 0 0 0 ++ f) [] (openSt f st)) := by show _ = _; rw [HES.out, htd]; rfl
    clear HES y4
    go_wp2_with fail
    refine (popen_any w0.heap.size q (.slice ta j.table.length tcap) (.slice ra r.length rcap) j st f w1 (by omega) (by omega) hBw1.size Hp1.out).mono ?_
    rintro e w2 ⟨rfl, hp2, hk2⟩
    have Hp2 := hid hp2
    have hBw2 := hBw1.trans hk2.below
    have HK2 := hid (HK1.out.trans hk2)
    clear hp2 hk2 htd
    go_wp2_with fail
    obtain ⟨hb3, _, _, hh3⟩ := boxedW w2 #[strB f] 9
    have hJ3 := joins_one f w2.heap.size _ (by omega) hh3
    have hBw3 := hBw2.trans (hb3.mono hBw2.size)
    have Hp3 := hid (Hp2.out.later hb3)
    have HK3 := hid (HK2.out.trans (Below.keptT (T := pressT) hb3 hBw2.size))
    clear hb3 hh3
    generalize w2.alloc _ = w3 at *
    refine (extra_any 83 0 0 0 j.pre (.slice (some ⟨w2.heap.size, 0, none⟩) 1 1) f w3 (by decide) (by decide) (by decide) HL.out.good.pre (by omega) hJ3).mono ?_
    rintro e w4 ⟨rfl, hb4⟩
    have hBw4 := hBw3.trans (hb4.mono hBw3.size)
    have Hp4 := hid (Hp3.out.later hb4)
    have HK4 := hid (HK3.out.trans (Below.keptT (T := pressT) hb4 hBw3.size))
    have hexl : (boundB j.pre 83 0 0 0 ++ f).length ≤ 5000 := by rw [List.length_append]; omega
    generalize boundB j.pre 83 0 0 0 ++ f = ex at *
    clear hb4 hJ3
    go_wp2_with fail
    refine (pseal_any w0.heap.size q (.slice ta j.table.length tcap) ra rcap r j (openSt f st) j.plan.foot [] ex w4 (by rw [hopl]; omega) (by simp only [openSt]; omega) (by decide) hexl HL.out.good.draw.1 HL.out.good.draw.2 Hsec.out HL.out.len (HL.out.ring.later hBw4) hBw4.size Hp4.out).mono ?_
    rintro e w5 ⟨rfl, hp5, hk5⟩
    rw [← HES2.out] at hp5
    have HK5 := hid (HK4.out.trans hk5)
    have hBw5 := hBw4.trans hk5.below
    have Hp5 := hid hp5
    obtain ⟨ov5, lv5, hrow5, _, hout5, _⟩ := hp5
    obtain ⟨oa5, oc5, rfl⟩ := own_slice hout5
    have c8 := (press_cells hrow5).1.2.2.2.2.2.2.1
    clear hrow5 hout5 hk5 HES2
    generalize hS5 : endSt j r f st = st5 at *
    have HS5 := hid hS5
    clear hS5
    obtain ⟨he1, he2⟩ := hel
    have hsub : IntKind.i64.wrap ((st5.out.length : Int) - (st.out.length : Int)) = ((st5.out.length - st.out.length : Nat) : Int) := by rw [IntKind.wrap_i64]; omega
    go_wp2_with fail
    refine (two_any ((st5.out.length - st.out.length : Nat) : Int) w5 (by omega) (by omega)).mono ?_
    rintro e w6 ⟨rfl, hb6⟩
    have hBw6 := hBw5.trans (hb6.mono hBw5.size)
    have h2c : (twoB ((st5.out.length - st.out.length : Nat) : Int)).length ≤ 2 := Nat.le_of_eq (twoB_length _)
    generalize hTT : twoB ((st5.out.length - st.out.length : Nat) : Int) = TT at *
    have HTT := hid hTT
    clear hTT
    clear hsub c8
    go_wp2_with fail
    obtain ⟨hb7, _, _, hh7⟩ := boxedW w6 #[strB TT, strB [67, 70]] 9
    have hBw7 := hBw6.trans (hb7.mono hBw6.size)
    refine (pwrite_any w0.heap.size q w6.heap.size 2 (.slice ta j.table.length tcap) (.slice ra r.length rcap) j st5 [TT, [67, 70]] _ rfl (by decide) (by simp; omega) hBw7.size ((Hp5.out.later hb6).later hb7) hh7).mono ?_
    rintro e w8 ⟨rfl, hp8, hk8⟩
    have HK8 := hid (((HK5.out.trans (Below.keptT (T := pressT) hb6 hBw5.size)).trans (Below.keptT (T := pressT) hb7 hBw6.size)).trans hk8)
    have HP8 := hid hp8
    clear hp8 hk8 hb6 hb7 hh7
    go_wp2
    go_end0
    exact ⟨rfl, by rw [HS5.out, HTT.out]; simpa using HP8.out, HK8.out⟩
  | false =>
    have HES2 : Hid (endSt j r f st = sealSt j.draw (secretB r j.plan.foot) (boundB j.pre 70 0 0 0) f st) := by show _ = _; rw [HES.out, htd]; rfl
    clear HES y4
    go_wp2_with fail
    refine (extra_any 70 0 0 0 j.pre (.slice none 0 0) [] w1 (by decide) (by decide) (by decide) HL.out.good.pre (by decide) (joins_none w1)).mono ?_
    rw [List.append_nil]
    rintro e w4 ⟨rfl, hb4⟩
    have hBw4 := hBw1.trans (hb4.mono hBw1.size)
    have Hp4 := hid (Hp1.out.later hb4)
    have HK4 := hid (HK1.out.trans (Below.keptT (T := pressT) hb4 hBw1.size))
    generalize boundB j.pre 70 0 0 0 = ex at *
    clear hb4 htd
    go_wp2_with fail
    refine (pseal_any w0.heap.size q (.slice ta j.table.length tcap) ra rcap r j st j.plan.foot f ex w4 (by omega) (by omega) (by omega) (by omega) HL.out.good.draw.1 HL.out.good.draw.2 Hsec.out HL.out.len (HL.out.ring.later hBw4) hBw4.size Hp4.out).mono ?_
    rintro e w5 ⟨rfl, hp5, hk5⟩
    rw [← HES2.out] at hp5
    have HK5 := hid (HK4.out.trans hk5)
    have hBw5 := hBw4.trans hk5.below
    have Hp5 := hid hp5
    obtain ⟨ov5, lv5, hrow5, _, hout5, _⟩ := hp5
    obtain ⟨oa5, oc5, rfl⟩ := own_slice hout5
    have c8 := (press_cells hrow5).1.2.2.2.2.2.2.1
    clear hrow5 hout5 hk5 HES2
    generalize hS5 : endSt j r f st = st5 at *
    have HS5 := hid hS5
    clear hS5
    obtain ⟨he1, he2⟩ := hel
    have hsub : IntKind.i64.wrap ((st5.out.length : Int) - (st.out.length : Int)) = ((st5.out.length - st.out.length : Nat) : Int) := by rw [IntKind.wrap_i64]; omega
    go_wp2_with fail
    refine (two_any ((st5.out.length - st.out.length : Nat) : Int) w5 (by omega) (by omega)).mono ?_
    rintro e w6 ⟨rfl, hb6⟩
    have hBw6 := hBw5.trans (hb6.mono hBw5.size)
    have h2c : (twoB ((st5.out.length - st.out.length : Nat) : Int)).length ≤ 2 := Nat.le_of_eq (twoB_length _)
    generalize hTT : twoB ((st5.out.length - st.out.length : Nat) : Int) = TT at *
    have HTT := hid hTT
    clear hTT
    clear hsub c8
    go_wp2_with fail
    obtain ⟨hb7, _, _, hh7⟩ := boxedW w6 #[strB TT, strB [67, 70]] 9
    have hBw7 := hBw6.trans (hb7.mono hBw6.size)
    refine (pwrite_any w0.heap.size q w6.heap.size 2 (.slice ta j.table.length tcap) (.slice ra r.length rcap) j st5 [TT, [67, 70]] _ rfl (by decide) (by simp; omega) hBw7.size ((Hp5.out.later hb6).later hb7) hh7).mono ?_
    rintro e w8 ⟨rfl, hp8, hk8⟩
    have HK8 := hid (((HK5.out.trans (Below.keptT (T := pressT) hb6 hBw5.size)).trans (Below.keptT (T := pressT) hb7 hBw6.size)).trans hk8)
    have HP8 := hid hp8
    clear hp8 hk8 hb6 hb7 hh7
    go_wp2
    go_end0
    exact ⟨rfl, by rw [HS5.out, HTT.out]; simpa using HP8.out, HK8.out⟩

end Go.Proofs.YthhpbhpfagoapabGreat
