/-
  Proved: the law Packed, for every input: whatever kind and raw numbers are handed over, the call returns true, and each argument reads behind the call as it read before. No conditions.
-/
import Derived.Test.YthhpbhpfagoapaaKPack
import Derived.Test.YthhpbhpfagoapaaDPack
import Derived.Test.YthhpbhpfagoapaaRCells
import Derived.ProofKit
import Derived.OpenShut
import Derived.Deep.Slices
import Derived.Deep.Strs
import Derived.SizedLaws
import Derived.Test.YthhpbhpfagoapaaRows
import Derived.ChangeSlices
import Derived.WalkKit
import Derived.ShutString
namespace Go.Proofs.Ythhpbhpfagoapaa
open Go.RowKit
set_option linter.unusedVariables false
set_option linter.unusedSimpArgs false
set_option maxRecDepth 100000

theorem unpackL (kind : Int) (s : List UInt8) (w : World) (h0 : -9223372036854775808 ≤ kind) (h1 : kind ≤ 9223372036854775807) (hs : s.length ≤ 100000) :
    Calls Try.prog 23 #[.int .i64 kind, strB s] w fun e w' => ∃ v, e = .returned (.tuple #[v, .int .i64 (errU (unpageB kind s))]) ∧ PageAns w' v (unpageB kind s) ∧ Below w.heap.size w w' := by
  have h := unpack_does kind ⟨s.toArray⟩ w h0 h1 (by rw [strB_size]; unfold maxLen; omega)
  exact h

theorem unpackMore (kind : Int) (s : List UInt8) (w : World) (h0 : -9223372036854775808 ≤ kind) (h1 : kind ≤ 9223372036854775807) (hs : s.length ≤ 1000) (hn : unpageB kind (s ++ [0]) = none) :
    Calls Try.prog 23 #[.int .i64 kind, .string (⟨s.toArray⟩ ++ ⟨#[0]⟩)] w fun e w' => (∃ a c, e = .returned (.tuple #[.slice a 0 c, .int .i64 6])) ∧ Below w.heap.size w w' := by
  have e1 : (⟨s.toArray⟩ ++ ⟨#[0]⟩ : ByteArray) = ⟨(s ++ [0]).toArray⟩ := app_str s [0]
  rw [e1]
  refine (unpackL kind (s ++ [0]) w h0 h1 (by rw [List.length_append, List.length_singleton]; omega)).mono ?_
  rintro e w' ⟨v, he, ha, hb⟩
  rw [hn] at he ha
  obtain ⟨a, c, rfl⟩ := ha
  exact ⟨⟨a, c, he⟩, hb⟩

theorem unpackNone (kind : Int) (s : List UInt8) (w : World) (h0 : -9223372036854775808 ≤ kind) (h1 : kind ≤ 9223372036854775807) (hs : s.length ≤ 1000) (hn : unpageB kind s = none) :
    Calls Try.prog 23 #[.int .i64 kind, strB s] w fun e w' => (∃ a c, e = .returned (.tuple #[.slice a 0 c, .int .i64 6])) ∧ Below w.heap.size w w' := by
  refine (unpackL kind s w h0 h1 (by omega)).mono ?_
  rintro e w' ⟨v, he, ha, hb⟩
  rw [hn] at he ha
  obtain ⟨a, c, rfl⟩ := ha
  exact ⟨⟨a, c, he⟩, hb⟩

set_option maxHeartbeats 4000000 in
theorem packed_walk (kind : Int) (a : Option Addr) (cap : Nat) (raw : List Int) (w : World) (h0 : -9223372036854775808 ≤ kind) (h1 : kind ≤ 9223372036854775807) (hm : raw.length ≤ 140737488351232) (hr : ∀ x ∈ raw, inI x)
    (hl : raw ≠ [] → ∃ b off, a = some ⟨b, off, none⟩ ∧ b < w.heap.size ∧ ∀ j (h : j < raw.length), w.cell? ⟨b, off + j, none⟩ = some (.int .i64 raw[j])) :
    Calls Try.prog 8 #[.int .i64 kind, .slice a raw.length cap] w fun e w' => e = .returned (.bool true) ∧ Below w.heap.size w w' := by
  obtain ⟨i1, hi1, hy0, hy1, hy2⟩ := info_parts Try.infoCell
  obtain ⟨hp0, hp1⟩ := pickB_range kind 2 (by decide)
  have Hr := hid hr
  have Hl := hid hl
  clear hr hl
  go_enter Try.func8, Try.ntmps8
  go_wp2_with fail
  refine (pick_any kind _ _ h0 h1 (by decide) (by decide)).mono ?_
  rintro e w1 ⟨rfl, rfl⟩
  generalize pickB kind 2 = K at *
  have HK : Hid (K = 0 ∨ K = 1) := by show _ ∨ _; omega
  go_wp2_with fail
  go_loopw [5, 6, 7] (fun v p i wr => ∃ (L : List CellB), L.length ≤ raw.length ∧ L.length ≤ 60 ∧ i = .int .i64 (L.length : Int) ∧ p = .int .i64 (plainK K L : Int) ∧ plainK K L ≤ 13 * L.length ∧ (∀ x ∈ L, fitsB K x = true ∧ smallC x) ∧ wr.ownsRow w1.heap.size 48 3 v L.length (cellsC L) ∧ Below w1.heap.size w1 wr) (fun _ _ i _ => 61 - (intOf i).toNat)
  case atStart => exact ⟨[], Nat.zero_le _, Nat.zero_le _, rfl, rfl, Nat.zero_le _, (fun c h => nomatch_mem h), World.ownsRow_nil _ _ _ _, Below.refl _ _⟩
  case round =>
    obtain ⟨L, hL1, hL2, rfl, rfl, hpl, hok, hown, hB⟩ := hrel
    have Hok := hid hok
    clear hok
    by_cases hlt : L.length < raw.length ∧ L.length < 60
    · have hi1' : (L.length : Int) < (raw.length : Int) := by omega
      have hi2' : (L.length : Int) < 60 := by omega
      obtain ⟨b, off, rfl, hbw, hcell⟩ := Hl.out (List.ne_nil_of_length_pos (by omega))
      have hck := (hB.cell (p := ⟨b, off + L.length, none⟩) hbw).trans (hcell L.length hlt.1)
      have hx := Hr.out raw[L.length] (List.getElem_mem hlt.1)
      clear hcell
      generalize raw[L.length] = c at *
      go_wp2_with fail
      refine (cellK K c _ HK.out hx.1 hx.2).mono ?_
      rintro e w2 ⟨x, hfx, hsx, rfl, hb2⟩
      have hown2 := own_after hown hb2
      have hB2 := hB.trans (hb2.mono hB.size)
      have Hfx := hid hfx
      have Hsx := hid hsx
      have htx := hsx.2.2
      clear hown hb2 hB hck hfx hsx
      obtain ⟨xn, xi, xt⟩ := x
      simp only at htx
      have hown3 := hown2.alloc (Obj.cells #[.bool xn, .int .i64 xi, strB xt] 48)
      have hB3 := hB2.alloc hB2.size (Obj.cells #[.bool xn, .int .i64 xi, strB xt] 48)
      have hz2 := hB2.size
      go_wp2_with (at_builtin; refine wpList_append_own _ rfl (.tmp 36) (.tmp 38) 30 rfl w1.heap.size 48 i1 (.agg #[.bool false, .int .i64 0, .string ⟨#[]⟩]) 3 32 Try.underlying30 hi1 hy0 hy1 hy2 rfl (by decide) _ _ _ rfl (hown3.alloc _) ⟨_, 0, none⟩ 1 1 [.bool xn, .int .i64 xi, strB xt] rfl rfl ?c1 ?c2 ?c3 ?c4 ?c5 ?_)
      case c1 =>
        have h := cell_laid (w2.alloc (Obj.cells #[.bool xn, .int .i64 xi, strB xt] 48)) #[.bool xn, .int .i64 xi, strB xt] 48
        rw [show (w2.alloc (Obj.cells #[.bool xn, .int .i64 xi, strB xt] 48)).heap.size = w2.heap.size + 1 by simp] at h
        exact h
      case c2 => intro u hu; simp at hu; rcases hu with rfl | rfl | rfl <;> rfl
      case c3 => unfold maxLen; omega
      case c4 => omega
      case c5 => simp; omega
      intro v3 w5 hown5 hgr5 _
      have hne5 : some w2.heap.size ≠ Value.ownBlock _ := fun he => by have := (hown2.lt _ he.symm).2; omega
      have q0 : w5.cell? ⟨w2.heap.size, 0, none⟩ = some (.bool xn) := (hgr5.cell_far ⟨w2.heap.size, 0, none⟩ (by simp; omega) hne5).trans (cell_alloc_keep _ (World.cell?_alloc_mark ..))
      have q2 : w5.cell? ⟨w2.heap.size, 2, none⟩ = some (strB xt) := (hgr5.cell_far ⟨w2.heap.size, 2, none⟩ (by simp; omega) hne5).trans (cell_alloc_keep _ (World.cell?_alloc_mark ..))
      have HB5 := hid ((hB3.alloc hB3.size _).grown hgr5 (by simp; omega) (fun k hk => (hown2.lt k hk).1))
      have HO5 : Hid (w5.ownsRow w1.heap.size 48 3 v3 (L ++ [(⟨xn, xi, xt⟩ : CellB)]).length (cellsC (L ++ [⟨xn, xi, xt⟩]))) := by
        show w5.ownsRow _ _ _ _ _ _
        rw [cellsC_append1, List.length_append]
        exact hown5
      have HLN : Hid ((L ++ [(⟨xn, xi, xt⟩ : CellB)]).length = L.length + 1) := by simp [Hid]
      have HPL := hid (plainK_snoc K L ⟨xn, xi, xt⟩)
      have HOKS : Hid (∀ x ∈ L ++ [(⟨xn, xi, xt⟩ : CellB)], fitsB K x = true ∧ smallC x) := by
        intro y hy
        rcases List.mem_append.1 hy with h | h
        · exact Hok.out y h
        · simp only [List.mem_cons, List.not_mem_nil, or_false] at h
          subst h
          exact ⟨Hfx.out, Hsx.out⟩
      have hsz := strB_size xt
      clear hown2 hown3 hown5 hgr5 hB2 hB3 hne5
      cases xn with
      | true =>
        go_wp2
        go_roundw
        case rel => exact ⟨L ++ [⟨true, xi, xt⟩], by rw [HLN.out]; omega, by rw [HLN.out]; omega, by rw [HLN.out]; go_num, by rw [HPL.out]; simp, by rw [HPL.out, HLN.out]; simp; omega, HOKS.out, HO5.out, HB5.out⟩
        case measure => simp [intOf]; omega
      | false =>
        rcases HK.out with hk0 | hk1
        · subst hk0
          go_wp2
          go_roundw
          case rel => exact ⟨L ++ [⟨false, xi, xt⟩], by rw [HLN.out]; omega, by rw [HLN.out]; omega, by rw [HLN.out]; go_num, by rw [HPL.out]; simp, by rw [HPL.out, HLN.out]; simp; omega, HOKS.out, HO5.out, HB5.out⟩
          case measure => simp [intOf]; omega
        · subst hk1
          go_wp2
          go_roundw
          case rel => exact ⟨L ++ [⟨false, xi, xt⟩], by rw [HLN.out]; omega, by rw [HLN.out]; omega, by rw [HLN.out]; go_num, by rw [HPL.out]; simp; omega, by rw [HPL.out, HLN.out]; simp; omega, HOKS.out, HO5.out, HB5.out⟩
          case measure => simp [intOf]; omega
    · go_upto_region 5 with fail
      go_cut [27] (fun t wd => t = .bool false ∧ wd = wr)
      case first =>
        by_cases hlr : L.length < raw.length
        · have hi1' : (L.length : Int) < (raw.length : Int) := by omega
          have hi2' : decide ((L.length : Int) < 60) = false := by simp; omega
          go_wp2
          go_meet
          case rel => exact ⟨rfl, rfl⟩
        · have hi1' : decide ((L.length : Int) < (raw.length : Int)) = false := by simp; omega
          go_wp2
          go_meet
          case rel => exact ⟨rfl, rfl⟩
      case rest =>
        obtain ⟨rfl, rfl⟩ := hcut
        clear hlt
        have hokc : ∀ c ∈ L, okC c := fun c hc => ⟨(Hok.out c hc).2.1, (Hok.out c hc).2.2.1, by have := (Hok.out c hc).2.2.2; unfold maxLen; omega⟩
        obtain ⟨a8, c8, rfl, hlies⟩ := own_liesC hown rfl hokc
        have hcap8 : L.length ≤ c8 := by
          rcases hown.2 with ⟨h, h2⟩ | ⟨g, cp, cur, h, _, _, h3, _⟩
          · simp only [Value.slice.injEq] at h; omega
          · simp only [Value.slice.injEq] at h; omega
        have Hlies := hid hlies
        have HRG : Hid (∀ c ∈ L, rangeC c) := fun c hc => ⟨(Hok.out c hc).2.1, (Hok.out c hc).2.2.1⟩
        have HCK : Hid (cellsOkB K L = true) := by
          show cellsOkB K L = true
          unfold cellsOkB
          simp only [Bool.and_eq_true, Bool.or_eq_true, decide_eq_true_eq, List.all_eq_true]
          exact ⟨⟨HK.out, hL2⟩, fun c hc => (Hok.out c hc).1⟩
        have HPS := hid (page_short K L HK.out hL2 (fun c hc => (Hok.out c hc).2))
        have HPN := hid (page_ne K L)
        have HU := hid (unpage_page K L HCK.out HRG.out)
        have HUM := hid (unpage_more K L 0 HCK.out HRG.out)
        have HUL := hid (unpage_less K L HCK.out HRG.out)
        have HPA : Hid (packS K L = pageB K L ∧ packE K L = 0) := ⟨by simp [packS, HCK.out], by simp [packE, HCK.out]⟩
        clear hown hlies hokc
        go_wp2_with fail
        refine (pack_does K a8 c8 L _ (by omega) (by omega) (by omega) hcap8 Hlies.out).mono ?_
        rintro e w3 ⟨rfl, hb3⟩
        rw [HPA.out.1, HPA.out.2]
        have HB3 := hid (hB.trans (hb3.mono hB.size))
        have Hlies3 := hid (Hlies.out.later hb3)
        generalize pageB K L = s at *
        have hs1 : s.length ≤ 1000 := by have := HPS.out; omega
        clear hB hb3
        go_wp2_with fail
        refine (unpack_does K ⟨s.toArray⟩ _ (by omega) (by omega) (by rw [strB_size]; unfold maxLen; omega)).mono ?_
        rintro e w4 ⟨v4, rfl, hans4, hb4⟩
        rw [mk_data, HU.out] at hans4 ⊢
        obtain ⟨a4, c4, rfl, hlies4⟩ := hans4
        have HB4 := hid (HB3.out.trans (hb4.mono HB3.out.size))
        have Hlies34 := hid (Hlies3.out.later hb4)
        have Hlies4 := hid hlies4
        clear hb4 hlies4
        simp only [errU]
        go_wp2_with fail
        refine (sameK a8 a4 c8 c4 L _ (by unfold maxLen; omega) Hlies34.out Hlies4.out).mono ?_
        rintro e w5 ⟨rfl, hb5⟩
        have HB5 := hid (HB4.out.trans (hb5.mono HB4.out.size))
        clear hb5
        have hse : (s == []) = false := by simpa using HPN.out
        have hsz := strB_size s
        have hcmp : decide ((1 : Int) + (L.length : Int) + 1 + 1 + (plainK K L : Int) < (s.length : Int)) = false := by have := HPS.out; simp; omega
        go_wp2_with fail
        refine (unpackMore K s _ (by omega) (by omega) hs1 HUM.out).mono ?_
        rintro e w6 ⟨⟨a6, c6, rfl⟩, hb6⟩
        have HB6 := hid (HB5.out.trans (hb6.mono HB5.out.size))
        have hsp := List.length_pos_iff.2 HPN.out
        have hst := str_pre s (s.length - 1)
        have hsub : IntKind.i64.wrap ((s.length : Int) - 1) = ((s.length - 1 : Nat) : Int) := by rw [IntKind.wrap_i64]; omega
        have hsub2 : (s.length : Int) - 1 = ((s.length - 1 : Nat) : Int) := by omega
        have HL2 : Hid (unpageB K (s.take (s.length - 1)) = none) := by
          refine HUL.out (s.take (s.length - 1)) (s.getLast HPN.out) ?_
          have h := List.dropLast_concat_getLast HPN.out
          rw [List.dropLast_eq_take] at h
          exact h.symm
        have Htl : Hid ((s.take (s.length - 1)).length ≤ 1000) := by show _ ≤ _; rw [List.length_take]; omega
        generalize hTT : s.take (s.length - 1) = T at *
        clear hTT hb6 hsub2
        go_wp2_with fail
        refine (unpackNone K T _ (by omega) (by omega) Htl.out HL2.out).mono ?_
        rintro e w7 ⟨⟨a7, c7, rfl⟩, hb7⟩
        have HB7 := hid (HB6.out.trans (hb7.mono HB6.out.size))
        clear hb7
        go_wp2
        go_ret
        exact ⟨rfl, HB7.out⟩

end Go.Proofs.Ythhpbhpfagoapaa

namespace Go.Proofs.Ythhpbhpfagoapaa
open Go.ChangeShapes Go.WideShapes Go.ChangeAt Go.RowKit Go.Deep
set_option linter.unusedVariables false
set_option maxRecDepth 100000

theorem lt_of_cell {w : World} {b o : Nat} {v : Value} (h : w.cell? ⟨b, o, none⟩ = some v) : b < w.heap.size := by
  rcases Nat.lt_or_ge b w.heap.size with h1 | h1
  · exact h1
  · simp [World.cell?, Array.getElem?_eq_none h1] at h

theorem wf_range {x : Int} (h : (Lit.int .i64 x).wf = true) : -9223372036854775808 ≤ x ∧ x ≤ 9223372036854775807 := by
  simp [Lit.wf, IntKind.min, IntKind.max, IntKind.signed, IntKind.bits] at h
  exact ⟨by omega, by omega⟩

theorem Try.cellsCell : Try.prog.cellsOf 48 = 3 := by kernel_rfl
theorem Try.cellsBool : Try.prog.cellsOf 4 = 1 := by kernel_rfl
theorem Try.cellsInt : Try.prog.cellsOf 3 = 1 := by kernel_rfl
theorem Try.cellsString : Try.prog.cellsOf 9 = 1 := by kernel_rfl

/-- One cell, read. -/
theorem open_cell {H : Type} {enc : TypeId × Value → H} {W : World} {base : Nat} {spare : Nat → Bool} {held : Bool} {fuel : Nat} {cs : List Value} {x : DataW H × List MemPlace}
    (h : DataW.trod enc Try.prog W base spare held fuel 48 cs = some x) : ∃ c : CellB, okC c ∧ cs = [.bool c.null, .int .i64 c.int, strB c.text] := by
  obtain ⟨y0, y1, y2, n, hx, hlen, h0, h1, h2⟩ := trod_struct3 Try.underlying48 h
  rw [Try.cellsCell] at hlen
  match cs, hlen with
  | [c0, c1, c2], _ =>
    simp only [Try.cellsBool, Try.cellsInt, Try.cellsString] at h0 h1 h2
    obtain ⟨b, e0, _⟩ := DataW.trod_bool Try.underlying4 h0
    obtain ⟨i, e1, _, wi⟩ := DataW.trod_int Try.underlying3 h1
    obtain ⟨s, e2, _, ws⟩ := DataW.trod_string Try.underlying9 h2
    simp at e0 e1 e2
    subst e0 e1 e2
    obtain ⟨i0, i1⟩ := wf_range wi
    refine ⟨⟨b, i, s.data.toList⟩, ⟨i0, i1, by simpa using ws⟩, ?_⟩
    obtain ⟨⟨t⟩⟩ := s
    rfl

/-- A list of cells, read. -/
theorem open_cells {H : Type} {enc : TypeId × Value → H} {W : World} {fuel len cap : Nat} {a : Option Addr} {x : DataW H × List MemPlace}
    (h : DataW.trod enc Try.prog W 0 (fun _ => true) true fuel 30 [.slice a len cap] = some x) :
    ∃ l : List CellB, l.length = len ∧ len ≤ cap ∧ cap ≤ maxLen ∧ Lies W a l ∧ (len = 0 ∨ ∃ es sp, x.1 = .slice es sp ∧ es.length + sp.length = cap) := by
  rcases open_slice Try.underlying30 h with ⟨hcs, _⟩ | ⟨a', len', cap', m, n, D, Pl, hcs, _, hl, hm, hmm, rfl, hx⟩
  · simp at hcs
    obtain ⟨rfl, rfl, rfl⟩ := hcs
    exact ⟨[], rfl, Nat.le_refl _, by decide, ⟨by simp, fun h => absurd rfl h⟩, .inl rfl⟩
  · simp at hcs
    obtain ⟨rfl, rfl, rfl⟩ := hcs
    simp only [if_true] at hmm
    subst hmm
    rw [Try.cellsCell] at hx
    have each : ∀ i, i < len → ∃ c : CellB, okC c ∧ W.cell? (a'.add (i * 3)) = some (.bool c.null) ∧ W.cell? (a'.add (i * 3 + 1)) = some (.int .i64 c.int) ∧ W.cell? (a'.add (i * 3 + 2)) = some (strB c.text) := by
      intro i hi
      obtain ⟨cs', h1, h2⟩ := hx i (by omega)
      obtain ⟨c, hok, rfl⟩ := open_cell h2
      obtain ⟨_, _, hcell⟩ := World.cells?_some h1
      have e0 := hcell 0 (by omega)
      have e1 := hcell 1 (by omega)
      have e2 := hcell 2 (by omega)
      rw [add_add] at e0 e1 e2
      exact ⟨c, hok, by simpa using e0, by simpa using e1, by simpa using e2⟩
    have inh : Inhabited CellB := ⟨⟨false, 0, []⟩⟩
    obtain ⟨f, hf⟩ := choose_lt each
    refine ⟨(List.range len).map f, by simp, hl, hm, ⟨?_, ?_⟩, .inr ⟨_, _, rfl, by simp; omega⟩⟩
    · intro c hc
      simp only [List.mem_map, List.mem_range] at hc
      obtain ⟨i, hi, rfl⟩ := hc
      exact (hf i hi).1
    · intro hne
      have hp : 0 < len := by
        rcases Nat.eq_zero_or_pos len with h0 | h0
        · subst h0; simp at hne
        · exact h0
      obtain ⟨b, off, spot⟩ := a'
      have hspot : spot = none := by simpa [Addr.add] using World.cell?_spot (hf 0 hp).2.1
      subst hspot
      have hb : b < W.heap.size := by
        have := (hf 0 hp).2.1
        rw [add_plain] at this
        exact lt_of_cell this
      refine ⟨b, off, rfl, hb, fun j hj => ?_⟩
      have hj' : j < len := by simpa using hj
      obtain ⟨_, g1, g2, g3⟩ := hf j hj'
      rw [add_plain] at g1 g2 g3
      simp only [List.getElem_map, List.getElem_range]
      exact ⟨g1, g2, g3⟩

end Go.Proofs.Ythhpbhpfagoapaa

namespace Go.Proofs.Ythhpbhpfagoapaa
namespace packed
open Go.ChangeShapes Go.WideShapes Go.ChangeAt Go.RowKit
set_option linter.unusedVariables false
set_option maxRecDepth 100000

theorem own : ownKnob Try.prog.godebug = none := by kernel_rfl
theorem laidOut : laidOutB Try.prog = true := by kernel_rfl
theorem cellsInt1 : Try.prog.cellsOf 3 = 1 := by kernel_rfl
theorem bytesInt : Try.prog.bytesOf 3 = 8 := by kernel_rfl

/-- A list of numbers, opened. -/
theorem open_raw {H : Type} {enc : TypeId × Value → H} {W : World} {fuel len cap : Nat} {a : Option Addr} {x : DataW H × List MemPlace}
    (h : DataW.trod enc Try.prog W 0 (fun _ => true) true fuel 46 [.slice a len cap] = some x) :
    ∃ raw : List Int, raw.length = len ∧ (∀ z ∈ raw, inI z) ∧ (raw ≠ [] → ∃ b off, a = some ⟨b, off, none⟩ ∧ b < W.heap.size ∧ ∀ j (h : j < raw.length), W.cell? ⟨b, off + j, none⟩ = some (.int .i64 raw[j])) ∧ (len = 0 ∨ ∃ es sp, x.1 = .slice es sp ∧ es.length + sp.length = cap ∧ len ≤ cap) := by
  rcases open_ints Try.underlying46 Try.underlying3 cellsInt1 h with ⟨hcs, hx⟩ | ⟨a', len', cap', zs, hcs, _, hl, hm, hz, hx, hcell, hwz⟩
  · simp at hcs
    obtain ⟨rfl, rfl, rfl⟩ := hcs
    exact ⟨[], rfl, by simp, fun h => absurd rfl h, .inl rfl⟩
  · simp at hcs
    obtain ⟨rfl, rfl, rfl⟩ := hcs
    simp only [if_true] at hz
    refine ⟨zs.take len, by simp; omega, fun z hz2 => wf_range (hwz z (List.mem_of_mem_take hz2)), fun hne => ?_, .inr ⟨_, _, by rw [hx], by simp [ChangeShapes.lits]; omega, hl⟩⟩
    have hp : 0 < len := by
      rcases Nat.eq_zero_or_pos len with h0 | h0
      · subst h0; simp at hne
      · exact h0
    obtain ⟨b, off, spot⟩ := a'
    have c0 := hcell 0 (by omega)
    have hspot : spot = none := by simpa [Addr.add] using World.cell?_spot c0
    subst hspot
    refine ⟨b, off, rfl, ?_, fun j hj => ?_⟩
    · rw [add_plain] at c0
      exact lt_of_cell c0
    · have hj' : j < len := by simp at hj; omega
      have cj := hcell j (by omega)
      rw [add_plain] at cj
      rw [cj, List.getElem_take, List.getD, List.getElem?_eq_getElem (by omega)]
      rfl

set_option maxRecDepth 100000 in
theorem lifted (os : Os) (started : os.Started) (H : Type) (enc : TypeId × Value → H) :
    ReturnsInHanded {} Try.checked os 8 .any (Rows.packedSpec.pre6 enc Try.prog Try.f8 Rows.packedRow.domain false) (Rows.packedSpec.post enc Try.prog Try.f8 false true false false) := by
  refine returnsInHanded_of_change_sized (C := Try.checked) own started (by kernel_rfl) Try.func8
    (ChangeSpec.witness6 (enc := enc) (C := Try.checked) false ⟨#[], #[.int .i64 0, .slice none 0 0], []⟩ 8 (by kernel_rfl) (by kernel_rfl) (by kernel_rfl) (by kernel_rfl)) ?_
  intro W base args ds gs before hval0 hW hcnd hsz0 _
  have hval : ∀ (j : Nat) t v, Try.f8.params[j]? = some t → args[j]? = some v → Value.okWide Try.prog W .any base t v := hval0
  have hsz : (DataW.weightsEach Try.prog (Try.f8.params.toList ++ Rows.packedSpec.plain.varTypes Try.prog) (ds ++ gs)).all (· ≤ reachBytes) = true := hsz0
  have hW' := hW
  obtain ⟨p, q, hA0, hV, rfl, hfz, hnd⟩ := hW
  have hA : DataW.TrodAll enc Try.prog W 0 (fun _ => true) true Try.f8.params.toList args.toList ds p := hA0
  rw [Try.params8] at hA hval hsz
  obtain ⟨v0, vs0, d0, ds0, p0, q0, hargs, rfl, rfl, h0, r0⟩ := trodAll_cons hA
  obtain ⟨v1, vs1, d1, ds1, p1, q1, rfl, rfl, rfl, h1, r1⟩ := trodAll_cons r0
  obtain ⟨rfl, rfl, rfl⟩ := trodAll_nil r1
  obtain rfl : args = #[v0, v1] := by cases args; simp_all
  obtain ⟨rfl, rfl⟩ := trodVars_none hV
  obtain ⟨a0, rfl, rfl, rfl, w0⟩ := open_int Try.underlying3 (hval 0 3 v0 rfl rfl) h0
  obtain ⟨a1, len1, cap1, rfl⟩ := okWide_slice Try.underlying46 (hval 1 46 v1 rfl rfl)
  have k1 := h1
  have lt1 : ∀ x ∈ p1, x.block < W.heap.size := by obtain ⟨m, hm⟩ := k1; exact DataW.trod_lt m _ _ _ hm
  obtain ⟨raw, hlen, hin, hcell, hbulk⟩ : ∃ raw : List Int, raw.length = len1 ∧ (∀ z ∈ raw, inI z) ∧ (raw ≠ [] → ∃ b off, a1 = some ⟨b, off, none⟩ ∧ b < W.heap.size ∧ ∀ j (h : j < raw.length), W.cell? ⟨b, off + j, none⟩ = some (.int .i64 raw[j])) ∧ (len1 = 0 ∨ ∃ es sp, d1 = .slice es sp ∧ es.length + sp.length = cap1 ∧ len1 ≤ cap1) := by
    obtain ⟨fuel, hf⟩ := h1
    exact open_raw hf
  have hm : raw.length ≤ 140737488351232 := by
    rcases hbulk with h | ⟨es, sp, rfl, hc, hl⟩
    · omega
    · have := sized_slice hsz (j := 1) (t := 46) (e := 3) rfl rfl Try.underlying46
      rw [bytesInt, hc] at this
      simp only [reachBytes] at this
      omega
  obtain ⟨x0, y0⟩ := wf_range w0
  clear hA0 hval0 hsz0
  subst hlen
  refine (packed_walk a0 a1 cap1 raw W x0 y0 hm hin hcell).mono fun e W' ⟨he, bel⟩ => ?_
  subst he
  exact ⟨_, rfl, _, _, _, [], _, [], hW', trodAll_mk1 (shut_bool Try.underlying4 _), (trodAll_cons_mk (shut_int Try.underlying3 w0) (trodAll_cons_mk (Below.trod laidOut (by kernel_rfl) (of_decide_eq_true (by kernel_rfl)) k1 bel lt1) trodAll_mk0)), rfl, bel.frame _, fun h => by cases h⟩

theorem over : Rows.packedRow.holds Try.pinned (OpenSpec.ofChange Rows.packedSpec) :=
  OpenClaim.holds_of_wide 8 Try.f8 rfl rfl rfl rfl rfl rfl rfl ⟨rfl, rfl, rfl, rfl, rfl⟩ rfl rfl rfl rfl rfl (by kernel_rfl) Try.func8 (by kernel_rfl)
    (of_decide_eq_true (by kernel_rfl)) (by unfold Func.isWrapper; first | (rw [if_pos (by decide +kernel)]; kernel_rfl) | (rw [if_neg (by decide +kernel)]; exact ⟨rfl, rfl⟩))
    (fun os started H enc _ => lifted os started H enc)

end packed

/-- THE STATEMENT. -/
theorem packed_holds : Rows.PackedSaid := packed.over
#print axioms packed_holds
end Go.Proofs.Ythhpbhpfagoapaa
