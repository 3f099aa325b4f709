/-
  What the program's reading of way 3 does, by a walk: texts by their places among the different ones.
-/
import Derived.Test.YthhpbhpfagoapaaDReadRows
namespace Go.Proofs.Ythhpbhpfagoapaa
open Go.RowKit
set_option linter.unusedVariables false
set_option linter.unusedSimpArgs false
set_option maxRecDepth 100000

theorem boxT_grown {w w' : World} {g B p : Nat} (h : BoxT w g B) (hg : w.grownBy w' (some p)) (hB : B < w.heap.size) (hne : B ≠ p) : BoxT w' g B := by
  have k : ∀ j, w'.cell? ⟨B, j, none⟩ = w.cell? ⟨B, j, none⟩ := fun j => hg.cell_far ⟨B, j, none⟩ hB (by intro h; simp at h; exact hne h)
  obtain ⟨h0, h1, h2, h3, h4, h5, h6⟩ := h
  exact ⟨(k 0).trans h0, (k 1).trans h1, (k 2).trans h2, (k 3).trans h3, (k 4).trans h4, (k 5).trans h5, (k 6).trans h6⟩

theorem prev_last (l : List CellB) (i : Nat) (h : i ≤ l.length) : prevB l i = lastOr cellD (l.take i) := by
  cases i with
  | zero => rfl
  | succ i =>
    rw [List.take_succ_eq_append_getElem (by omega), lastOr_snoc]
    unfold prevB
    rw [if_neg (by omega)]
    exact nthB_at l i (by omega)

/-- Steps, written by what a value is and the one ahead. -/
theorem steps_enc (n : Nat) (st : CellB → CellB → List UInt8) (l : List CellB) (h : ∀ i, i < l.length → stepB n l i = st (prevB l i) (nthB l i)) : ∀ k, k ≤ l.length → stepsTo n l k = encG st cellD (l.take k) := by
  intro k
  induction k with
  | zero => intro _; rfl
  | succ k ih =>
    intro hk
    rw [stepsTo, ih (by omega), List.take_succ_eq_append_getElem (by omega), encG_append, h k (by omega), prev_last l k (by omega), nthB_at l k (by omega)]
    simp [encG]

theorem way_enc (n : Nat) (hn : n ≠ 3) (st : CellB → CellB → List UInt8) (l : List CellB) (h : ∀ i, i < l.length → stepB n l i = st (prevB l i) (nthB l i)) : wayB n l = encG st cellD l := by
  have := steps_enc n st l h l.length (Nat.le_refl _)
  rw [List.take_length] at this
  simp [wayB, hn, this]

def domT (count : Nat) (l : List CellB) : Prop := l.length = count ∧ ∀ c ∈ l, okT c

theorem way3_enc (l : List CellB) : wayB 3 l = uB (diffB l).length ++ (encG eachStT cellD (diffB l) ++ stepsTo 3 l l.length) := by
  have h5 : wayB 5 (diffB l) = encG eachStT cellD (diffB l) := way_enc 5 (by decide) eachStT (diffB l) (fun i hi => rfl)
  have h6 : stepsTo 5 (diffB l) (diffB l).length = encG eachStT cellD (diffB l) := by rw [← h5]; simp [wayB]
  simp only [wayB, if_true, words_steps, h6, List.append_assoc]

/-- Places are read up to acc; r is left. -/
def LeftP (count : Nat) (rest : List UInt8) (X : List CellB) (r0 : List UInt8) (acc : List CellB) (r : List UInt8) : Prop :=
  ∀ l2 q, domT count l2 → rest = wayB 3 l2 ++ q → diffB l2 = X ∧ r0 = stepsTo 3 l2 l2.length ++ q ∧ l2.take acc.length = acc ∧ r0 = stepsTo 3 l2 acc.length ++ r

theorem leftP_next {count : Nat} {rest r0 r : List UInt8} {X acc : List CellB} (h : LeftP count rest X r0 acc r) (hlt : acc.length < count) (l2 : List CellB) (q : List UInt8) (hd : domT count l2) (hr : rest = wayB 3 l2 ++ q) :
    ∃ (j : Nat) (m : List UInt8), ∃ hj : j < X.length, r = uB j ++ m ∧ l2.take (acc.length + 1) = acc ++ [⟨false, 0, (X[j]).text⟩] ∧ r0 = stepsTo 3 l2 (acc.length + 1) ++ m := by
  obtain ⟨h1, h2, h3, h4⟩ := h l2 q hd hr
  have hk : acc.length < l2.length := by rw [hd.1]; exact hlt
  generalize hkk : acc.length = k at *
  subst h1
  obtain ⟨c, hc, hct⟩ := diffB_has l2 k hk
  obtain ⟨hj, hjt⟩ := firstB_at (diffB l2) (l2[k]).text ⟨c, hc, hct⟩
  obtain ⟨m0, hm0⟩ := stepsTo_pre 3 l2 (k + 1) (l2.length - (k + 1))
  rw [show k + 1 + (l2.length - (k + 1)) = l2.length by omega] at hm0
  have hs : stepsTo 3 l2 (k + 1) = stepsTo 3 l2 k ++ uB (firstB (diffB l2) (l2[k]).text) := by
    rw [stepsTo]; simp only [stepB, nthB_at l2 k hk]
  refine ⟨firstB (diffB l2) (l2[k]).text, m0 ++ q, hj, ?_, ?_, ?_⟩
  · have e1 : stepsTo 3 l2 k ++ r = stepsTo 3 l2 k ++ (uB (firstB (diffB l2) (l2[k]).text) ++ (m0 ++ q)) := by
      rw [← h4, h2, hm0, hs]; simp only [List.append_assoc]
    exact List.append_cancel_left e1
  · rw [List.take_succ_eq_append_getElem hk, h3, hjt]
    congr 2
    obtain ⟨o1, o2, _⟩ := hd.2 l2[k] (List.getElem_mem hk)
    generalize l2[k] = c at *
    obtain ⟨cn, ci, ct⟩ := c
    simp only at o1 o2
    subst o1 o2
    rfl
  · rw [h2, hm0, List.append_assoc]

set_option maxHeartbeats 4000000 in
theorem readPlacesT (g p count : Nat) (s rest : List UInt8) (w : World) (hs : s.length ≤ maxLen) (hc : count ≤ 60) (hc1 : 1 ≤ count) (hp : RdAt w p s rest) :
    Calls Try.prog 86 #[txtC g, .pointer (some ⟨p, 0, none⟩), .int .i64 (count : Int)] w (ReadsRow 9 strsT (domT count) (wayB 3) p s rest w) := by
  obtain ⟨i0, hi, hz0, hz1, hz2⟩ := info_parts Try.infoStr
  have Hs := hid hs
  have Hp := hid hp
  have hplt := rd_lt hp
  clear hs hp
  go_enter Try.func86, Try.ntmps86
  go_wp2_with fail
  obtain ⟨hb0, hs0, hc0⟩ := boxed w #[.slice (some ⟨g, 0, none⟩) 3 3, fnV 89, fnV 90, fnV 91, fnV 92, fnV 93, fnV 94] 84
  have Hc : Hid (BoxT _ g w.heap.size) := ⟨hc0 0, hc0 1, hc0 2, hc0 3, hc0 4, hc0 5, hc0 6⟩
  have Hp0 := hid (rd_below Hp.out hb0 hplt)
  have Hb0 := hid hb0
  have hs1 := Nat.lt_of_lt_of_eq (Nat.lt_succ_self w.heap.size) hs0.symm
  have hplt0 := Nat.lt_of_lt_of_le hplt hb0.size
  have hpne : w.heap.size ≠ p := by omega
  clear hc0 hb0 hs0
  generalize w.alloc _ = w0 at *
  refine wp_region_held_drew (S := fun w' => w'.cell? ⟨w.heap.size, 0, none⟩ = some (.slice (some ⟨g, 0, none⟩) 3 3) ∧ w'.cell? ⟨w.heap.size, 1, none⟩ = some (fnV 89) ∧ w'.cell? ⟨w.heap.size, 2, none⟩ = some (fnV 90) ∧ w'.cell? ⟨w.heap.size, 3, none⟩ = some (fnV 91) ∧ w'.cell? ⟨w.heap.size, 4, none⟩ = some (fnV 92) ∧ w'.cell? ⟨w.heap.size, 5, none⟩ = some (fnV 93) ∧ w'.cell? ⟨w.heap.size, 6, none⟩ = some (fnV 94)) (by kernel_rfl) Hc.out (fun hHeld => ?_)
  refine wpAnyH_take (i := 0) (oi := _) (v := txtC g) rfl (by kernel_rfl) (by kernel_rfl) (by kernel_rfl) (fun _ _ _ h => h) (Or.inl ⟨by rfl, fun w hSw => ?_⟩) (by assumption) ?_
  · try dsimp only at hSw
    go_simp
  simp only [List.getElem_toArray, List.getElem_cons_zero, List.getElem_cons_succ, Act.put, List.setIfInBounds_toArray, List.set_cons_zero, List.set_cons_succ]
  refine wpAnyH_take (i := 1) (oi := _) (v := .pointer (some ⟨p, 0, none⟩)) rfl (by kernel_rfl) (by kernel_rfl) (by kernel_rfl) (fun _ _ _ h => h) (Or.inl ⟨by rfl, fun w hSw => ?_⟩) (by assumption) ?_
  · try dsimp only at hSw
    go_simp
  simp only [List.getElem_toArray, List.getElem_cons_zero, List.getElem_cons_succ, Act.put, List.setIfInBounds_toArray, List.set_cons_zero, List.set_cons_succ]
  refine wpAnyH_take (i := 2) (oi := _) (v := .pointer (some ⟨p, 0, none⟩)) rfl (by kernel_rfl) (by kernel_rfl) (by kernel_rfl) (fun _ _ _ h => h) (Or.inl ⟨by rfl, fun w hSw => ?_⟩) (by assumption) ?_
  · try dsimp only at hSw
    go_simp
  simp only [List.getElem_toArray, List.getElem_cons_zero, List.getElem_cons_succ, Act.put, List.setIfInBounds_toArray, List.set_cons_zero, List.set_cons_succ]
  refine wpAnyH_take (i := 3) (oi := _) (v := .int .i64 (count : Int)) rfl (by kernel_rfl) (by kernel_rfl) (by kernel_rfl) (fun _ _ _ h => h) (Or.inl ⟨by rfl, fun w hSw => ?_⟩) (by assumption) ?_
  · try dsimp only at hSw
    go_simp
  simp only [List.getElem_toArray, List.getElem_cons_zero, List.getElem_cons_succ, Act.put, List.setIfInBounds_toArray, List.set_cons_zero, List.set_cons_succ]
  refine wpAnyH_ready (rs := [4]) (by kernel_rfl) (by simp) ?_
  refine AllReadyH.cons (o := _) rfl (fun K hK => ?_) AllReadyH.nil
  simp only [List.getElem_toArray, List.getElem_cons_zero, List.getElem_cons_succ]
  go_simp
  go_at_call 107
  refine (countR_any p s rest count w0.drew Hs.out (by omega) (show RdAt w0.drew p s rest from Hp0.out)).mono ?_
  rintro e w1 ⟨hg1, ⟨rfl, hno⟩ | ⟨n, r1, hn, rfl, hrd1, hu1⟩⟩
  · refine ⟨rfl, grown_trans (grown_below (grown_refl w _) Hb0.out) (grown_undrew hg1), .inl ⟨rfl, fun l2 q hl2 h => ?_⟩⟩
    rw [way3_enc, List.append_assoc] at h
    exact hno _ _ (by show _ ≤ count; rw [← hl2.1]; exact diffTo_len l2 l2.length) h
  · have Hg1 := hid (grown_undrew hg1)
    have Hu1 := hid hu1
    have hn1 : n ≤ count := hn
    have Hbx1 := hid (boxT_grown Hc.out Hg1.out hs1 hpne)
    clear hg1 hu1
    try go_wp2_with fail
    refine hK.out _ _ Hbx1.out (fun hHeld => ?_)
    clear hK K
    try simp only [List.getElem_toArray, List.getElem_cons_zero, List.getElem_cons_succ, Act.put, List.setIfInBounds_toArray, List.set_cons_zero, List.set_cons_succ]
    refine wpAnyH_ready (rs := [5]) (by kernel_rfl) (by simp) ?_
    refine AllReadyH.cons (o := _) rfl (fun K hK => ?_) AllReadyH.nil
    simp only [List.getElem_toArray, List.getElem_cons_zero, List.getElem_cons_succ]
    go_simp
    go_at_call 84
    refine (readEachT g p n s r1 w1 Hs.out (by omega) hrd1).mono ?_
    rintro e w2 ⟨hg2, ⟨rfl, hno⟩ | ⟨X, r0, vX, hX, rfl, hownX, hrd2, hu2⟩⟩
    · refine ⟨rfl, grown_trans (grown_below (grown_refl w _) Hb0.out) (grown_trans Hg1.out hg2), .inl ⟨rfl, fun l2 q hl2 h => ?_⟩⟩
      rw [way3_enc, List.append_assoc, List.append_assoc] at h
      obtain ⟨e1, e2⟩ := Hu1.out _ _ (by show _ ≤ count; rw [← hl2.1]; exact diffTo_len l2 l2.length) h
      exact hno (diffB l2) _ ⟨e1, fun c hc => hl2.2 c (diffTo_mem l2 l2.length (Nat.le_refl _) c hc)⟩ e2.symm
    · have HG2 := hid (grown_trans Hg1.out hg2)
      have Hbx2 := hid (boxT_grown Hc.out HG2.out hs1 hpne)
      have Hu2 := hid hu2
      have HX := hid hX
      have hXl : X.length = n := hX.1
      have Hrd2 := hid hrd2
      have hp1 := rd_lt hrd1
      have HL0 : Hid (LeftP count rest X r0 [] r0) := by
        intro l2 q hl2 h
        rw [way3_enc, List.append_assoc, List.append_assoc] at h
        obtain ⟨e1, e2⟩ := Hu1.out _ _ (by show _ ≤ count; rw [← hl2.1]; exact diffTo_len l2 l2.length) h
        obtain ⟨e3, e4⟩ := Hu2.out (diffB l2) _ ⟨e1, fun c hc => hl2.2 c (diffTo_mem l2 l2.length (Nat.le_refl _) c hc)⟩ e2.symm
        exact ⟨e3, e4.symm, rfl, rfl⟩
      clear hg2 hu2 hX hrd2
      try go_wp2_with fail
      refine hK.out _ _ Hbx2.out (fun hHeld => ?_)
      clear hK K
      try simp only [List.getElem_toArray, List.getElem_cons_zero, List.getElem_cons_succ, Act.put, List.setIfInBounds_toArray, List.set_cons_zero, List.set_cons_succ]
      refine wpAnyH_ready (rs := [6]) (by kernel_rfl) (by simp) ?_
      refine AllReadyH.cons (o := _) rfl (fun K hK => ?_) AllReadyH.nil
      simp only [List.getElem_toArray, List.getElem_cons_zero, List.getElem_cons_succ]
      go_simp
      try go_wp2_with fail
      refine hK.out _ _ Hbx2.out (fun hHeld => ?_)
      clear hK K
      try simp only [List.getElem_toArray, List.getElem_cons_zero, List.getElem_cons_succ, Act.put, List.setIfInBounds_toArray, List.set_cons_zero, List.set_cons_succ]
      refine wpAnyH_done (by kernel_rfl) ?_ _
      clear hHeld
      by_cases hX0 : X = []
      · have hXz : X.length = 0 := by rw [hX0]; rfl
        have HX0 := hid hX0
        rw [hXz] at hownX
        have hln := own_len hownX w2
        clear hX0 hXz hXl
        go_wp2_with fail
        refine (need_no _).mono ?_
        rintro e w3 ⟨rfl, rfl⟩
        go_wp2
        refine ⟨rfl, grown_trans (grown_below (grown_refl w _) Hb0.out) HG2.out, .inl ⟨rfl, fun l2 q hl2 h => ?_⟩⟩
        obtain ⟨e1, _⟩ := HL0.out l2 q hl2 h
        obtain ⟨c, hc2, _⟩ := diffB_has l2 0 (by rw [hl2.1]; omega)
        rw [e1, HX0.out] at hc2
        cases hc2
      · have hXp := List.length_pos_iff.2 hX0
        have hXi : (0 : Int) < (X.length : Int) := by omega
        have hX60 : X.length ≤ 60 := by omega
        have hbX : ∀ b cap, vX = .slice (some ⟨b, 0, none⟩) X.length cap → w1.heap.size ≤ b := by
          intro b cap hv
          exact (hownX.lt b (by rw [hv]; rfl)).1
        obtain ⟨bX, capX, rfl, hlie⟩ := own_texts hownX hX0
        have hbX1 := hbX bX capX rfl
        have Hlie := hid hlie
        have hbX2 := hlie.lt
        have hbXp : bX ≠ p := by omega
        have hp2 := rd_lt Hrd2.out
        have hsubX : IntKind.i64.wrap ((X.length : Int) - 1) = ((X.length - 1 : Nat) : Int) := by rw [IntKind.wrap_i64]; omega
        clear hownX hbX hlie hX0 hXl
        go_wp2_with fail
        refine (need_yes _).mono ?_
        rintro e w3 ⟨rfl, rfl⟩
        go_wp2_with fail
        obtain ⟨W3, rfl⟩ : ∃ W3, W3 = w3 := ⟨_, rfl⟩
        go_loopw [8, 20] (fun v i wr => ∃ (acc : List CellB) (r : List UInt8), acc.length ≤ count ∧ i = .int .i64 (acc.length : Int) ∧ (∀ c ∈ acc, okT c) ∧ wr.ownsRow W3.heap.size 9 1 v acc.length (strsT acc) ∧ RdAt wr p s r ∧ W3.grownBy wr (some p) ∧ LeftP count rest X r0 acc r)
          (fun _ i _ => count - (intOf i).toNat)
        case atStart => exact ⟨[], r0, Nat.zero_le _, rfl, (fun c h => nomatch_mem h), World.ownsRow_nil _ _ _ _, Hrd2.out, grown_refl _ _, HL0.out⟩
        case round =>
          obtain ⟨acc, r, hac, rfl, hok, hown, hrd, hg, hleft⟩ := hrel
          have Hok := hid hok
          have Hleft := hid hleft
          have Hg := hid hg
          clear hok hleft
          by_cases hlt : acc.length < count
          · have hi1 : (acc.length : Int) < (count : Int) := by omega
            go_wp2_with fail
            refine (countR_eq p s r _ (X.length - 1) _ (by omega) Hs.out (by omega) hrd).mono ?_
            rintro e w4 ⟨hg4, ⟨rfl, hno⟩ | ⟨j, r4, hj, rfl, hrd4, hu4⟩⟩
            · go_wp2
              refine ⟨rfl, grown_trans (grown_below (grown_refl w _) Hb0.out) (grown_trans HG2.out (grown_trans Hg.out hg4)), .inl ⟨rfl, fun l2 q hl2 h => ?_⟩⟩
              obtain ⟨jj, m, hjj, k1, _⟩ := leftP_next Hleft.out hlt l2 q hl2 h
              exact hno jj m (by show _ ≤ _; omega) k1
            · have hj1 : j ≤ X.length - 1 := hj
              have hjX : j < X.length := by omega
              have hji : (j : Int) < (X.length : Int) := by omega
              have Hu4 := hid hu4
              have hown4 := keep_row hown hp2 hg4
              have hG4 := grown_trans Hg.out hg4
              have hcell := (hG4.cell_far ⟨bX, j, none⟩ hbX2 (by intro h; simp at h; exact hbXp h)).trans (Hlie.out.cell j hjX)
              have hoX := HX.out.2 X[j] (List.getElem_mem hjX)
              have HoX := hid hoX
              clear hown hrd hu4 hg4 hg hoX
              generalize hx : (X[j]).text = x at *
              have Hx := hid hx
              clear hx
              go_wp2_with (at_builtin; refine wpList_append_own _ rfl (.tmp 22) (.tmp 31) 98 rfl W3.heap.size 9 i0 (.string ⟨#[]⟩) 1 16 Try.underlying98 hi hz0 hz1 hz2 rfl (by decide) _ _ _ rfl (hown4.alloc _) ⟨_, 0, none⟩ 1 1 [strB x] rfl rfl ?c1 ?c2 ?c3 ?c4 ?c5 ?_)
              case c1 => exact cell_laid w4 #[strB x] 9
              case c2 => intro u hu; simp at hu; subst hu; rfl
              case c3 => unfold maxLen; omega
              case c4 => omega
              case c5 => have := hG4.size; simp; omega
              intro v5 w5 hown5 hgr5 _
              have HR := hid (rd_append hrd4 hp2 hG4 hown4 hgr5)
              have HO5 := hid hown5
              clear hown4 hown5 hgr5 hG4 hrd4 hcell
              go_wp2
              go_roundw
              case rel =>
                refine ⟨acc ++ [⟨false, 0, x⟩], r4, by simp; omega, by simp, ?_, ?_, HR.out.1, HR.out.2, ?_⟩
                · intro c hc
                  rcases List.mem_append.1 hc with h | h
                  · exact Hok.out c h
                  · simp only [List.mem_cons, List.not_mem_nil, or_false] at h
                    subst h
                    exact ⟨rfl, rfl, by rw [← Hx.out]; exact HoX.out.2.2⟩
                · rw [show (acc ++ [(⟨false, 0, x⟩ : CellB)]).length = acc.length + 1 by simp, show strsT (acc ++ [⟨false, 0, x⟩]) = strsT acc ++ [strB x] by simp [strsT, strs, texts]]
                  exact HO5.out
                · intro l2 q hl2 h
                  obtain ⟨jj, m, hjj, k1, k2, k3⟩ := leftP_next Hleft.out hlt l2 q hl2 h
                  obtain ⟨e1, e2⟩ := Hu4.out jj m (by show _ ≤ _; omega) k1
                  subst e1 e2
                  obtain ⟨f1, f2, _⟩ := Hleft.out l2 q hl2 h
                  rw [show (acc ++ [(⟨false, 0, x⟩ : CellB)]).length = acc.length + 1 by simp]
                  exact ⟨f1, f2, by rw [k2, Hx.out], k3⟩
              case measure => simp [intOf]; omega
          · have hke : acc.length = count := by omega
            have Hke := hid hke
            have Hown := hid hown
            have Hrd := hid hrd
            have hi1 : decide ((acc.length : Int) < (count : Int)) = false := by simp; omega
            clear hg hown hrd hke
            go_wp2
            go_ret
            refine ⟨grown_trans (grown_below (grown_refl w _) Hb0.out) (grown_trans HG2.out Hg.out), .inr ⟨acc, r, _, ⟨Hke.out, Hok.out⟩, rfl, ownsRow_base Hown.out (Nat.le_trans Hb0.out.size HG2.out.size), Hrd.out, fun l2 q hl2 h => ?_⟩⟩
            obtain ⟨e1, e2, e3, e4⟩ := Hleft.out l2 q hl2 h
            rw [Hke.out, ← hl2.1, List.take_length] at e3
            subst e3
            refine ⟨rfl, ?_⟩
            exact List.append_cancel_left (e2.symm.trans e4)

end Go.Proofs.Ythhpbhpfagoapaa
