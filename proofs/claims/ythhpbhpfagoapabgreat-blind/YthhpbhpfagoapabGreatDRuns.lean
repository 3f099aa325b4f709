
/-
  What the program's steps of texts and runs of cells do, by walks.
-/
import Derived.Test.YthhpbhpfagoapabGreatDPages
namespace Go.Proofs.YthhpbhpfagoapabGreat
open Go.RowKit
set_option linter.unusedVariables false
set_option maxRecDepth 100000

theorem Tryz.infoStr : (Tryz.prog.info? 9).map (fun i => (i.zero, i.size, i.bytes)) = some (some (.string ⟨#[]⟩), 1, 16) := by kernel_rfl

theorem own_after {W W' : World} {base e size n : Nat} {v : Value} {xs : List Value} (h : W.ownsRow base e size v n xs) (hb : Below W.heap.size W W') : W'.ownsRow base e size v n xs :=
  h.kept (bgrown hb) (Classical.em _)

theorem strs_append (a b : List (List UInt8)) : strs (a ++ b) = strs a ++ strs b := by simp [strs]

theorem strs_length (a : List (List UInt8)) : (strs a).length = a.length := by simp [strs]

theorem strs_push {w wr w2 : World} {v v2 : Value} {n k : Nat} {ps qs : List (List UInt8)} (o : Obj) (hk : k = n + qs.length) (hB : Below w.heap.size w wr) (hown : wr.ownsRow w.heap.size 9 1 v n (strs ps))
    (h2 : w2.ownsRow w.heap.size 9 1 v2 k (strs ps ++ strs qs)) (hg : (wr.alloc o).grownBy w2 v.ownBlock) :
    w2.ownsRow w.heap.size 9 1 v2 k (strs (ps ++ qs)) ∧ Below w.heap.size w w2 := by
  rw [strs_append]
  exact ⟨h2, (hB.alloc hB.size o).grown hg (by have := hB.size; simp; omega) (fun k hk => (hown.lt k hk).1)⟩

theorem count_eq (n : Int) (m : Nat) (w : World) (h : n = (m : Int)) (hn : m ≤ 9223372036854775807) :
    Calls Tryz.prog 123 #[.int .i64 n] w fun e w' => e = .returned (strB (uB m)) ∧ Below w.heap.size w w' := by
  subst h
  exact count_any m w hn

theorem str_drop (s : List UInt8) (k : Nat) : (⟨s.toArray⟩ : ByteArray).extract k s.length = ⟨(s.drop k).toArray⟩ := by
  rw [ByteArray.extract_mk]
  congr 1
  simp [List.take_of_length_le]

def bitOf : Value → Nat
  | .bool true => 0
  | _ => 1

theorem below_undrew4 {w w1 w2 w3 w4 : World} (hb1 : Below w.heap.size w w1) (hb2 : Below w1.drew.heap.size w1.drew w2) (hb3 : Below w2.heap.size w2 w3) (hb4 : Below w3.heap.size w3 w4) : Below w.heap.size w w4 := by
  have h2 : Below w1.heap.size w1 w2 := below_undrew hb2
  have h12 := hb1.trans (h2.mono hb1.size)
  have h13 := h12.trans (hb3.mono h12.size)
  exact h13.trans (hb4.mono h13.size)

set_option maxHeartbeats 2000000 in
theorem textStep_any (s t : List UInt8) (w : World) (h1 : s.length ≤ 12) (h2 : t.length ≤ 12) :
    Calls Tryz.prog 168 #[strB s, strB t] w fun e w' => e = .returned (strB (uB (sharedB s t) ++ xB (t.drop (sharedB s t)))) ∧ Below w.heap.size w w' := by
  have hs := strB_size s
  have ht := strB_size t
  obtain ⟨hle1, hle2⟩ := sharedB_le s t
  go_enter Tryz.func168, Tryz.ntmps168
  go_wp2_with fail
  refine (common_any s t _ h1 h2).mono ?_
  rintro e w1 ⟨rfl, hb1⟩
  generalize hsh : sharedB s t = sh at *
  have Hsh := hid hsh
  clear hsh
  have hd := str_drop t sh
  have hx : (xB (t.drop sh)).length ≤ 22 := xB_len _ (by rw [List.length_drop]; omega)
  have hu := uB_len10 sh (by omega)
  go_wp2_with fail
  go_region_with (first
    | (go_at_call 123; refine (count_any sh _ (by omega)).mono ?_; rintro e w2 ⟨rfl, hb2⟩)
    | (go_at_call 115; refine (text_any (t.drop sh) _ (by rw [List.length_drop]; omega)).mono ?_; rintro e w3 ⟨rfl, hb3⟩)
    | (go_at_call 93; refine (join_lit [uB sh, xB (t.drop sh)] _ 2 _ rfl rfl (by decide) (by simp; omega)).mono ?_; rintro e w4 ⟨rfl, hb4⟩))
  all_goals
    go_wp2
    go_ret
    exact ⟨ret_str (by rw [Hsh.out]), below_undrew4 hb1 hb2 hb3 hb4⟩

set_option maxHeartbeats 2000000 in
theorem runs_any (a : Option Addr) (cap : Nat) (l : List CellB) (w : World) (hn : l.length ≤ 60) (hl : Lies w a l) :
    Calls Tryz.prog 157 #[.slice a l.length cap] w fun e w' => e = .returned (strB (headB l)) ∧ Below w.heap.size w w' := by
  obtain ⟨i0, hi, hz0, hz1, hz2⟩ := info_parts Tryz.infoStr
  have Hl := hid hl
  have hni : (l.length : Int) ≤ 60 := by omega
  have hlen := headB_len l hn
  clear hl
  go_enter Tryz.func157, Tryz.ntmps157
  go_wp2_with fail
  refine (count_any l.length _ (by omega)).mono ?_
  rintro e w1 ⟨rfl, hb1⟩
  go_wp2_with fail
  go_loopw [3, 4, 5] (fun v b i wr => ∃ (ps : List (List UInt8)) (nb : Bool) (k : Nat), b = .bool nb ∧ i = .int .i64 (k : Int) ∧ k ≤ l.length ∧ wr.ownsRow w.heap.size 9 1 v ps.length (strs ps) ∧ ps ≠ [] ∧ ps.flatten ++ restRuns nb (l.drop k) = headB l ∧ ((k = 0 ∧ nb = false ∧ ps.length = 1) ∨ ((∀ h : k < l.length, (l[k]).null = nb) ∧ ps.length ≤ k + 2)) ∧ Below w.heap.size w wr)
    (fun _ b i _ => 2 * (l.length - (intOf i).toNat) + bitOf b)
  case atStart =>
    exact ⟨[uB l.length], false, 0, rfl, rfl, Nat.zero_le _, ⟨by simp [strs], .inr ⟨w1.heap.size, 1, _, rfl, hb1.size, heap_alloc_new w1 _, Nat.le_refl _, by decide, rfl, rfl⟩⟩, by simp, by simp [headB], .inl ⟨rfl, rfl, rfl⟩, hb1.alloc hb1.size _⟩
  case round =>
    clear hb1
    obtain ⟨ps, nb, k, rfl, rfl, hkl, hown, hps, hfl, hinv, hB⟩ := hrel
    have Hps := hid hps
    have Hfl := hid hfl
    clear hps
    have hfl2 : ps.flatten.length ≤ 1000 := by
      have := congrArg List.length hfl
      rw [List.length_append] at this
      omega
    clear hfl
    have hpl : ps.length ≤ k + 2 := by rcases hinv with ⟨h, _, h2⟩ | ⟨_, h2⟩ <;> omega
    have Hinv := hid hinv
    clear hinv
    by_cases hlt : k < l.length
    · have hrl := rowB_le nb (l.drop k)
      rw [List.length_drop] at hrl
      have HRL := hid (rowB_lt nb (l.drop k))
      have HRE := hid (rowB_end nb (l.drop k))
      have HST : Hid (restRuns nb (l.drop k) = uB (rowB nb (l.drop k)) ++ restRuns (!nb) (l.drop (k + rowB nb (l.drop k)))) := by
        show restRuns nb (l.drop k) = _
        rw [restRuns_step nb (l.drop k) (by simp; omega), List.drop_drop]
      generalize rowB nb (l.drop k) = r at *
      have hki : (k : Int) < (l.length : Int) := by omega
      obtain ⟨b, off, rfl, hbw, hcell⟩ := (Hl.out.later hB).at_ (List.ne_nil_of_length_pos (by omega))
      have Hcell := hid hcell
      clear hcell
      go_wp2_with fail
      go_loopw [6] (fun i wi => ∃ m : Nat, m ≤ r ∧ i = .int .i64 ((k + m : Nat) : Int) ∧ wi = wr) (fun i _ => 100 - (intOf i).toNat)
      case atStart => exact ⟨0, Nat.zero_le _, rfl, rfl⟩
      case round =>
        obtain ⟨m, hm, rfl, rfl⟩ := hrel
        by_cases hmr : m < r
        · have hkm : k + m < l.length := by omega
          obtain ⟨g1, _, _⟩ := Hcell.out (k + m) hkm
          have hnb : (l[k + m]).null = nb := by
            obtain ⟨_, h2⟩ := HRL.out m hmr
            rw [List.getElem_drop] at h2
            exact h2
          rw [hnb] at g1
          have hkmi : ((k + m : Nat) : Int) < (l.length : Int) := by omega
          generalize hkm2 : k + m = q at *
          have Hkm2 := hid hkm2
          clear hkm2 hnb
          go_wp2
          go_roundw
          case rel => exact ⟨m + 1, by omega, by rw [← Nat.add_assoc, Hkm2.out]; go_num, trivial⟩
          case measure => simp [intOf]; omega
        · have hmr2 : m = r := by omega
          subst hmr2
          go_upto_region 7 with fail
          go_cut [30] (fun t wd => t = .bool false ∧ wd = wr)
          case first =>
            by_cases hend : k + m < l.length
            · obtain ⟨g1, _, _⟩ := Hcell.out (k + m) hend
              have hnb : (l[k + m]).null = !nb := by
                have h2 := HRE.out (by rw [List.length_drop]; omega)
                rw [List.getElem_drop] at h2
                exact h2
              rw [hnb] at g1
              have hkmi : ((k + m : Nat) : Int) < (l.length : Int) := by omega
              generalize k + m = q at *
              have hbb : ((!nb) == nb) = false := by cases nb <;> rfl
              go_wp2
              go_meet
              case rel => exact ⟨rfl, rfl⟩
            · have hkmi : decide (((k + m : Nat) : Int) < (l.length : Int)) = false := by simp; omega
              generalize k + m = q at *
              go_wp2
              go_meet
              case rel => exact ⟨rfl, rfl⟩
          case rest =>
            obtain ⟨rfl, rfl⟩ := hcut
            go_wp2_with fail
            refine (count_eq _ m _ (by omega) (by omega)).mono ?_
            rintro e w2 ⟨rfl, hb2⟩
            have hown2 := own_after hown hb2
            have hB2 := hB.trans (hb2.mono hB.size)
            have hu := uB_len10 m (by omega)
            clear hown hb2 hB
            have HX : Hid (ps.flatten ++ uB m ++ restRuns (!nb) (l.drop (k + m)) = headB l) := by
              show _ = _
              rw [← Hfl.out, HST.out, List.append_assoc]
            go_wp2_with (at_builtin; refine wpList_append_own _ rfl (.tmp 33) (.tmp 38) 163 rfl w.heap.size 9 i0 (.string ⟨#[]⟩) 1 16 Tryz.underlying163 hi hz0 hz1 hz2 rfl (by decide) _ _ _ rfl (hown2.alloc _) ⟨_, 0, none⟩ 1 1 [strB (uB m)] rfl rfl ?c1 ?c2 ?c3 ?c4 ?c5 ?_)
            case c1 => exact cell_laid w2 #[strB (uB m)] 9
            case c2 => intro u hu; simp at hu; subst hu; rfl
            case c3 => unfold maxLen; omega
            case c4 => omega
            case c5 => have := hB2.size; simp; omega
            intro v3 w3 hown3 hgr3 _
            have HR := hid (strs_push (qs := [uB m]) _ rfl hB2 hown2 hown3 hgr3)
            clear hown2 hown3 hgr3 hB2
            go_wp2
            go_roundw
            case rel =>
              refine ⟨ps ++ [uB m], !nb, k + m, rfl, rfl, by omega, by simpa using HR.out.1, by simp, ?_, .inr ⟨?_, ?_⟩, HR.out.2⟩
              · rw [List.flatten_append]; simpa using HX.out
              · intro h
                have h2 := HRE.out (by rw [List.length_drop]; omega)
                rw [List.getElem_drop] at h2
                exact h2
              · rcases Hinv.out with ⟨h, h1, h2⟩ | ⟨h1, h2⟩
                · simp; omega
                · have : 0 < m := by
                    rcases Nat.eq_zero_or_pos m with h0 | h0
                    · subst h0
                      have h3 := HRE.out (by rw [List.length_drop]; omega)
                      rw [List.getElem_drop] at h3
                      have h4 := h1 hlt
                      simp only [Nat.add_zero] at h3
                      rw [h4] at h3
                      cases nb <;> simp at h3
                    · exact h0
                  simp; omega
            case measure =>
              rcases Nat.eq_zero_or_pos m with h0 | h0
              · subst h0
                have hnbf : nb = false := by
                  rcases Hinv.out with ⟨h, h1, h2⟩ | ⟨h1, h2⟩
                  · exact h1
                  · exfalso
                    have h3 := HRE.out (by rw [List.length_drop]; omega)
                    rw [List.getElem_drop] at h3
                    have h4 := h1 hlt
                    simp only [Nat.add_zero] at h3
                    rw [h4] at h3
                    cases nb <;> simp at h3
                subst hnbf
                simp [intOf, bitOf]
              · cases nb <;> simp [intOf, bitOf] <;> omega
    · have hke : k = l.length := by omega
      subst hke
      have HF : Hid (ps.flatten = headB l) := by
        show ps.flatten = headB l
        have := Hfl.out
        rw [List.drop_length] at this
        simpa [restRuns] using this
      have hki : decide ((l.length : Int) < (l.length : Int)) = false := by simp
      go_wp2_with fail
      refine (join_own ps w.heap.size ps.length _ _ hown Hps.out (by omega) (by omega)).mono ?_
      rintro e w2 ⟨rfl, hb2⟩
      go_wp2
      go_ret
      exact ⟨ret_str HF.out, hB.trans (hb2.mono hB.size)⟩

end Go.Proofs.YthhpbhpfagoapabGreat
