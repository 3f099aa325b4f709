/-
  Proved: every Unpack, of any kind and any bytes, answers as the document says: the cells of the page, or ErrPage; no condition.
-/
import Derived.Test.YtijeolmmoffdfaaRows
import Derived.Test.YtijeolmmoffdfaaDUnpack
import Derived.Test.YtijeolmmoffdfaaOpenCells
import Derived.WalkKit
import Derived.ProofKit
import Derived.OpenShut
import Derived.ShutString
import Derived.Test.YtijeolmmoffdfaaRGuess
import Derived.Deep.LoopGhost
import Derived.Deep.CutBlock
import Derived.Maps.AppendAt
import Derived.Test.YtijeolmmoffdfaaLUnpacks
import Derived.Test.YtijeolmmoffdfaaRPage
import Derived.Test.YtijeolmmoffdfaaLPacks
namespace Go.Proofs.Ytijeolmmoffdfaa
namespace unpacks
open Go.ChangeShapes Go.WideShapes Go.ChangeAt Go.RowKit
open Go.ChangeMaps (open_string shut_string)
set_option linter.unusedVariables false
set_option maxRecDepth 100000

theorem own : ownKnob Try.prog.godebug = none := by kernel_rfl

set_option maxRecDepth 100000 in
theorem lifted (hr : UnpageDoes) (os : Os) (started : os.Started) (H : Type) (enc : TypeId × Value → H) :
    ReturnsInHanded {} Try.checked os 6 .any (Rows.unpacksSpec.pre6 enc Try.prog Try.f6 Rows.unpacksRow.domain false) (Rows.unpacksSpec.post enc Try.prog Try.f6 false true false false) := by
  refine returnsInHanded_of_change (C := Try.checked) own started (by kernel_rfl) Try.func6
    (ChangeSpec.witness6 (enc := enc) (C := Try.checked) false ⟨#[], #[.int .i64 0, .string ByteArray.empty], []⟩ 8 (by kernel_rfl) (by kernel_rfl) (by kernel_rfl) (by kernel_rfl)) ?_
  intro W base args ds gs before hval0 hW hcnd _
  have hval : ∀ (j : Nat) t v, Try.f6.params[j]? = some t → args[j]? = some v → Value.okWide Try.prog W .any base t v := hval0
  have hW' := hW
  obtain ⟨p, q, hA0, hV, rfl, hfz, hnd⟩ := hW
  have hA : DataW.TrodAll enc Try.prog W 0 (fun _ => true) true Try.f6.params.toList args.toList ds p := hA0
  rw [Try.params6] at hA hval
  obtain ⟨v0, vs0, d0, ds0, p0, q0, hargs, rfl, rfl, h0, r0⟩ := trodAll_cons hA
  obtain ⟨v1, vs1, d1, ds1, p1, q1, rfl, rfl, rfl, h1, r1⟩ := trodAll_cons r0
  obtain ⟨rfl, rfl, rfl⟩ := trodAll_nil r1
  obtain rfl : args = #[v0, v1] := by cases args; simp_all
  obtain ⟨rfl, rfl⟩ := trodVars_none hV
  obtain ⟨a0, rfl, rfl, rfl, w0⟩ := open_int Try.underlying3 (hval 0 3 v0 rfl rfl) h0
  obtain ⟨a1, rfl, rfl, rfl, w1⟩ := open_string Try.underlying9 (hval 1 9 v1 rfl rfl) h1
  obtain ⟨x0, y0⟩ := wf_range w0
  clear hA0 hval0
  simp only [List.append_nil] at hW'
  refine (unpacks_walk unpack_does hr a0 a1 W x0 y0 w1).mono fun e W' ⟨he, bel⟩ => ?_
  subst he
  exact ⟨_, rfl, _, _, _, [], [], [], hW', trodAll_mk1 (shut_bool Try.underlying4 _), (trodAll_cons_mk (shut_int Try.underlying3 w0) (trodAll_cons_mk (shut_string Try.underlying9 w1) trodAll_mk0)), rfl, bel.frame _, fun h => by cases h⟩

theorem over (hr : UnpageDoes) : Rows.unpacksRow.holds Try.pinned (OpenSpec.ofChange Rows.unpacksSpec) :=
  OpenClaim.holds_of_wide 6 Try.f6 rfl rfl rfl rfl rfl rfl rfl ⟨rfl, rfl, rfl, rfl, rfl⟩ rfl rfl rfl rfl rfl (by kernel_rfl) Try.func6 (by kernel_rfl)
    (of_decide_eq_true (by kernel_rfl)) (by unfold Func.isWrapper; first | (rw [if_pos (by decide +kernel)]; kernel_rfl) | (rw [if_neg (by decide +kernel)]; exact ⟨rfl, rfl⟩))
    (fun os started H enc _ => lifted hr os started H enc)

end unpacks
end Go.Proofs.Ytijeolmmoffdfaa

namespace Go.Proofs.Ytijeolmmoffdfaa
open Go.RowKit
set_option linter.unusedVariables false
set_option maxRecDepth 100000

set_option maxRecDepth 100000 in
set_option maxHeartbeats 4000000 in
theorem guessed_walk (p : Nat) (s : List UInt8) (st : Option (List UInt8)) (kind : Int) (n : Nat) (w : World) (hs : s.length ≤ maxLen) (hpw : p < w.heap.size) (hn : n ≤ 60) (hk : kind = 0 ∨ kind = 1) (hp : SpotAt w p s st) :
    Calls Try.prog 62 #[.pointer (some ⟨p, 0, none⟩), .int .i64 kind, .int .i64 (n : Int)] w fun e w' => ∃ v, e = .returned v ∧
      w'.ownsRow w.heap.size 48 3 v (guessR kind n st).1.length (cellsC (guessR kind n st).1) ∧ (∀ c ∈ (guessR kind n st).1, okC c) ∧ SpotAt w' p s (guessR kind n st).2 ∧ w.grownBy w' (some p) := by
  have Hp := hid hp
  clear hp
  obtain ⟨i0, hi0, hz0, hz1, hz2⟩ := info_parts Try.infoString
  obtain ⟨i1, hi1, hy0, hy1, hy2⟩ := info_parts Try.infoCell
  go_enter Try.func62, Try.ntmps62
  go_wp2_with fail
  refine (take_any p s st 1 _ hs (by decide) (by decide) Hp.out).mono ?_
  rintro e w1 ⟨rfl, hsp1, hg1⟩
  have Hg1 := hid hg1
  have Hsp1 := hid hsp1
  have hb1 := spot_bad hsp1
  clear hg1 hsp1
  rcases takeP_one st with ht | ⟨c, r, rfl, ht⟩
  · have HG : Hid (guessR kind n st = ([], none)) := by simp only [Hid, guessR, ht]
    rw [ht] at hb1 Hsp1 ⊢
    simp only [isBad] at hb1
    clear ht
    go_wp2
    go_ret
    rw [HG.out]
    exact ⟨_, rfl, World.ownsRow_nil _ _ _ _, by simp, Hsp1.out, Hg1.out⟩
  · have HG := hid (guessR_cons kind n c r)
    rw [ht] at hb1 Hsp1 ⊢
    simp only [isBad] at hb1
    clear ht
    have hcw : ((⟨#[c]⟩ : ByteArray)[0]'(by simp [ByteArray.size])) = c := rfl
    have hcb := c.toNat_lt
    go_upto_region 7 with fail
    go_cut [33] (fun t wc => t = .bool (decide (kind = 1 ∧ c.toNat = 3)) ∧ w1 = wc)
    case first =>
      rcases hk with rfl | rfl
      · go_wp2_with fail
        go_meet
        case rel => exact ⟨rfl, rfl⟩
      · by_cases hc3 : c.toNat = 3
        · have hci : ((c.toNat : Int) == 3) = true := by simp; omega
          have Hc3 := hid hc3
          clear hc3
          go_wp2_with fail
          go_meet
          case rel => exact ⟨by simp [Hc3.out], rfl⟩
        · have hci : ((c.toNat : Int) == 3) = false := by simp; omega
          go_wp2_with fail
          go_meet
          case rel => exact ⟨by simp [hc3], rfl⟩
    case rest =>
      obtain ⟨rfl, rfl⟩ := hcut
      go_upto_if 33 with fail
      go_cut [8, 11, 12, 13] (fun wv _ _ _ wc => ∃ (words : List (List UInt8)) (stw : Option (List UInt8)), wc.ownsRow w.heap.size 9 1 wv words.length (wordsC words) ∧ (∀ x ∈ words, x.length ≤ 12) ∧ words.length ≤ 60 ∧ SpotAt wc p s stw ∧ w.grownBy wc (some p) ∧ guessR kind n (some (c :: r)) = guessF kind c.toNat words n (n + 1) [] cellD stw)
      case first =>
        by_cases hw3 : kind = 1 ∧ c.toNat = 3
        · have HG2 : Hid (guessR kind n (some (c :: r)) = guessF kind c.toNat (wordsR (fewR 60 (some r)).1 (fewR 60 (some r)).2).1 n (n + 1) [] cellD (wordsR (fewR 60 (some r)).1 (fewR 60 (some r)).2).2) := by
            have := HG.out
            rw [if_pos hw3] at this
            rw [hw3.2]
            exact this
          have hd3 : decide (kind = 1 ∧ c.toNat = 3) = true := by simp [hw3]
          rw [hd3]
          clear hw3 hd3 HG
          go_wp2_with fail
          refine (few_any p s (some r) 60 _ hs (by decide) (by decide) Hsp1.out).mono ?_
          rintro e w2 ⟨rfl, hsp2, hg2⟩
          have HG3 := hid (grown_trans Hg1.out hg2)
          have Hsp2 := hid hsp2
          have hfl := fewR_le 60 (some r)
          have e60 : (60 : Int).toNat = 60 := rfl
          rw [e60] at Hsp2 ⊢
          clear hsp2 hg2 e60
          generalize fewR 60 (some r) = fw at *
          obtain ⟨k, sw⟩ := fw
          simp only at hfl Hsp2 HG2 ⊢
          go_wp2_with fail
          go_loopw [8, 12, 13] (fun wv i _ wr => ∃ (j : Nat) (words : List (List UInt8)) (sr : Option (List UInt8)), j ≤ k ∧ i = .int .i64 (j : Int) ∧ wr.ownsRow w.heap.size 9 1 wv words.length (wordsC words) ∧ words.length = j ∧ (∀ x ∈ words, x.length ≤ 12) ∧ SpotAt wr p s sr ∧ w.grownBy wr (some p) ∧ words ++ (wordsR (k - j) sr).1 = (wordsR k sw).1 ∧ (wordsR (k - j) sr).2 = (wordsR k sw).2)
            (fun _ i _ _ => k - (intOf i).toNat)
          case atStart => exact ⟨0, [], sw, Nat.zero_le _, rfl, World.ownsRow_nil _ _ _ _, rfl, by simp, Hsp2.out, HG3.out, by simp, by simp⟩
          case round =>
            obtain ⟨j, words, sr, hj, rfl, hown, hwl, hw12, hsp, hg, he1, he2⟩ := hrel
            have Hsp := hid hsp
            have Hg := hid hg
            have He1 := hid he1
            have He2 := hid he2
            have Hwl := hid hwl
            have Hw12 := hid hw12
            clear hsp hg he1 he2 hwl hw12
            by_cases hlt : j < k
            · go_wp2_with fail
              refine (xS_any p s sr 12 _ hs (by decide) (by decide) Hsp.out).mono ?_
              rintro e w3 ⟨rfl, hsp3, hg3⟩
              have e12 : (12 : Int).toNat = 12 := rfl
              rw [e12] at hsp3 ⊢
              have hx12 := xR_len 12 sr
              have HS := hid (wordsR_step hlt He1.out He2.out)
              clear e12
              have hown3 := keep_row hown hpw hg3
              have Hsp3 := hid hsp3
              have Hg3 := hid (grown_trans Hg.out hg3)
              have hz3 := Hg3.out.size
              have hwk : words.length < k := by have := Hwl.out; omega
              clear hown hsp3 hg3
              generalize xR 12 sr = x at *
              go_wp2_with (at_builtin; refine wpList_append_own _ rfl (.tmp 43) (.tmp 45) 98 rfl w.heap.size 9 i0 (.string ⟨#[]⟩) 1 16 Try.underlying98 hi0 hz0 hz1 hz2 rfl (by decide) _ _ _ rfl (hown3.alloc _) ⟨_, 0, none⟩ 1 1 [strB x.1] rfl rfl ?c1 ?c2 ?c3 ?c4 ?c5 ?_)
              case c1 => exact cell_laid w3 #[strB x.1] 9
              case c2 => intro u hu; simp at hu; subst hu; rfl
              case c3 => unfold maxLen; omega
              case c4 => omega
              case c5 => simp; omega
              intro v4 w4 hl4 hg4 _
              have HR := hid (grow_word hpw hown3 hl4 hg4 Hsp3.out Hg3.out)
              clear hl4 hg4 hown3
              go_wp2
              go_roundw
              case rel => exact ⟨j + 1, _, _, by omega, by go_num, HR.out.1, by have := Hwl.out; simp; omega, by
                intro y hy
                rcases List.mem_append.1 hy with hy | hy
                · exact Hw12.out y hy
                · simp at hy; subst hy; exact hx12, HR.out.2.1, HR.out.2.2, HS.out.1, HS.out.2⟩
              case measure => simp [intOf]; omega
            · have hjk : j = k := by omega
              subst hjk
              have HE : Hid (words = (wordsR j sw).1 ∧ sr = (wordsR j sw).2) := by
                have h1 := He1.out
                have h2 := He2.out
                rw [Nat.sub_self] at h1 h2
                simp only [wordsR, List.append_nil] at h1 h2
                exact ⟨h1, h2⟩
              go_wp2_with fail
              go_meet
              case rel => exact ⟨words, sr, hown, Hw12.out, by have := Hwl.out; omega, Hsp.out, Hg.out, by rw [HG2.out, HE.out.1, HE.out.2]⟩
        · have HG2 : Hid (guessR kind n (some (c :: r)) = guessF kind c.toNat [] n (n + 1) [] cellD (some r)) := by
            have := HG.out
            rw [if_neg hw3] at this
            exact this
          have hd3 : decide (kind = 1 ∧ c.toNat = 3) = false := by simp only [decide_eq_false_iff_not]; exact hw3
          rw [hd3]
          clear hw3 hd3 HG
          go_wp2_with fail
          go_meet
          case rel => exact ⟨[], some r, World.ownsRow_nil _ _ _ _, by simp, by simp, Hsp1.out, Hg1.out, HG2.out⟩
      case rest =>
        obtain ⟨words, stw, hwords, hwl, hwn, hsp, hg, hGs⟩ := hcut
        have HGs := hid hGs
        have Hsp := hid hsp
        have Hg := hid hg
        have hzc := hg.size
        have Hwl := hid hwl
        clear hGs hsp hg hwl hb1 hcw HG Hsp1 Hg1
        go_wp2_with fail
        have HW : ∃ o : Obj, o = Obj.cells #[Value.bool false, Value.int IntKind.i64 0, Value.string { data := #[] }] 48 ∧ True := ⟨_, rfl, trivial⟩
        have HA := hid (guess_start (n := n) hpw Hsp.out Hg.out)
        have Hwo := hid (hwords.alloc (Obj.cells #[Value.bool false, Value.int IntKind.i64 0, Value.string { data := #[] }] 48))
        have HAz : Hid (wc.heap.size < (wc.alloc (Obj.cells #[Value.bool false, Value.int IntKind.i64 0, Value.string { data := #[] }] 48)).heap.size) := by simp [Hid]
        clear HW hwords
        generalize c.toNat = e at *
        generalize wc.heap.size = g14 at *
        go_loopg [7, 15, 16, 17, 18] (n + 1) (fun gk lv _ _ _ _ wr => ∃ (l : List CellB) (last : CellB) (str : Option (List UInt8)), Guess w wr p g14 s str lv l last ∧ wr.ownsRow w.heap.size 9 1 u8 words.length (wordsC words) ∧ l.length ≤ n ∧ g14 < wr.heap.size ∧ guessF kind e words n gk l last str = guessF kind e words n (n + 1) [] cellD stw ∧ (str.isSome = true → n + 1 ≤ gk + l.length))
        case atStart => exact ⟨[], cellD, stw, HA.out, Hwo.out, Nat.zero_le _, HAz.out, rfl, fun _ => by simp⟩
        case round =>
          obtain ⟨l, last, str, hG, hwr, hln, hgz, hgf, hfu⟩ := hrel
          have HG := hid hG
          have Hwr := hid hwr
          have Hgf := hid hgf
          have Hfu := hid hfu
          obtain ⟨a, cap, rfl, _, _⟩ := own_lies hG.row hG.ok
          have hp14 : p < g14 := by omega
          obtain ⟨hbad, hbf⟩ := spot_isBad hG.spot
          clear hG hwr hgf hfu HA Hwo HAz
          by_cases hgo : l.length < n ∧ str.isSome = true
          · obtain ⟨hlt, hsome⟩ := hgo
            obtain ⟨r0, rfl⟩ := Option.isSome_iff_exists.1 hsome
            simp only [isBad] at hbad
            have Hfu2 : Hid (n + 1 ≤ gk + l.length) := Hfu.out rfl
            clear hsome Hfu
            go_upto_block 4 with fail
            have hpr : p < wr.heap.size := Nat.lt_of_lt_of_le hpw HG.out.grown.size
            have HG15 : ∃ g15, g15 = wr.heap.size := ⟨_, rfl⟩
            obtain ⟨g15, hg15⟩ := HG15
            have HP := hid (guess_pre hg15 hpr hgz HG.out Hwr.out)
            rw [← hg15] at hpr hgz
            rw [← hg15]
            have Hg15 := hid hg15
            clear hg15 hbad hbf
            generalize wr.alloc (Obj.cells #[Value.bool false, Value.int IntKind.i64 0, Value.string { data := #[] }] 48) = wa at *
            have HSl := hid (stepG_fits kind e words n l.length last (some r0) hlt)
            have HSz := hid (stepG_zero kind e words n l.length last (some r0))
            have HSo := hid (stepG_ok kind e words n l.length last (some r0) Hwl.out (by have := HG.out.lastLen; omega))
            go_cut [16, 17] (fun tv _ wc2 => tv = .int .i64 ((stepG kind e words n l.length last (some r0)).2.1 : Int) ∧ Block3 wc2 g15 (stepG kind e words n l.length last (some r0)).1 ∧ SpotAt wc2 p s (stepG kind e words n l.length last (some r0)).2.2 ∧ wr.grownBy wc2 (some p))
            case first =>
              have hb15 := HP.out.newAt
              obtain ⟨⟨n0, n1, n2⟩, nf⟩ := cells3 hb15
              clear nf
              rcases hk with rfl | rfl
              · by_cases h0 : e = 0
                · subst h0
                  have HS : Hid (stepG 0 0 words n l.length last (some r0) = (⟨false, (bR (some r0)).1, []⟩, 1, (bR (some r0)).2)) := by simp [Hid, stepG]
                  go_wp2_with fail
                  refine (bS_any p s (some r0) _ hs HP.out.spot).mono ?_
                  rintro e5 w5 ⟨rfl, hsp5, hg5⟩
                  have hb5 := hb15.kept hg5 (by have := HP.out.size; omega) (by omega)
                  obtain ⟨⟨m0, m1, m2⟩, mf⟩ := cells3 hb5
                  have mf1 := mf 1
                  have Hsp5 := hid hsp5
                  have Hg5 := hid (grown_trans HP.out.grown hg5)
                  have Hb5 := hid hb5
                  clear hsp5 hg5 hb5 mf n0 n1 n2
                  generalize bR (some r0) = br at *
                  go_wp2_with fail
                  go_meet
                  case rel =>
                    rw [HS.out]
                    have := guess_int (x := br.1) Hg15.out hpr Hb5.out Hsp5.out Hg5.out
                    exact ⟨rfl, this.1, this.2.1, this.2.2⟩
                · have q0 : ((e : Int) == 0) = false := by simp; omega
                  by_cases h1 : e = 1
                  · have HS : Hid (stepG 0 e words n l.length last (some r0) = (⟨false, wrap64 (last.int + zOf (uR (some r0)).1), []⟩, 1, (uR (some r0)).2)) := by simp [Hid, stepG, h1]
                    have q1 : ((e : Int) == 1) = true := by simp; omega
                    clear h0 h1
                    obtain ⟨⟨_, k1, _⟩, _⟩ := cells3 HP.out.lastAt
                    have hz15 := HP.out.size
                    have HZ := hid (fun W (hW : SpotAt W p s (some r0)) => zS_any p s (some r0) W hs hW)
                    have Hsp0 := hid HP.out.spot
                    have Hb15 := hid hb15
                    have Hl14 := hid HP.out.lastAt
                    have Hgw := hid HP.out.grown
                    clear n0 n1 n2 hb15
                    generalize uR (some r0) = ur at *
                    go_wp2_with fail
                    go_region_with (go_at_call 100; refine (HZ.out _ ?_).mono ?_; exact spot_drew Hsp0.out; rintro e5 w5 ⟨rfl, hsp5, hg5⟩; have Hg6 := hid (grown_trans Hgw.out (grown_undrew hg5)); have Hb5 := hid (Hb15.out.kept (grown_undrew hg5) (by omega) (by omega)); have Hsp5 := hid hsp5; have x1 := (cells3 (Hl14.out.kept (grown_undrew hg5) (by omega) (by omega))).1.2.1; have x2 := (cells3 Hb5.out).1.2.1; have x3 := (cells3 Hb5.out).2 1; clear hsp5 hg5)
                    all_goals
                      go_wp2_with fail
                      go_meet
                      case rel =>
                        rw [HS.out]
                        rw [show IntKind.i64.wrap (last.int + zOf ur.1) = wrap64 (last.int + zOf ur.1) from IntWalk.i64_left _]
                        have := guess_int (x := wrap64 (last.int + zOf ur.1)) Hg15.out hpr Hb5.out Hsp5.out Hg6.out
                        exact ⟨rfl, this.1, this.2.1, this.2.2⟩
                  · have q1 : ((e : Int) == 1) = false := by simp; omega
                    by_cases h2 : e = 2
                    · have HS : Hid (stepG 0 e words n l.length last (some r0) = (⟨false, zOf (uR (fewR (n - l.length) (some r0)).2).1, []⟩, (fewR (n - l.length) (some r0)).1, if (fewR (n - l.length) (some r0)).1 = 0 then none else (uR (fewR (n - l.length) (some r0)).2).2)) := by simp [Hid, stepG, h2]
                      have q2 : ((e : Int) == 2) = true := by simp; omega
                      clear h0 h1 h2
                      have hpz := HP.out.size
                      go_wp2_with fail
                      refine (few_any p s (some r0) _ _ hs (by omega) (by omega) HP.out.spot).mono ?_
                      rintro e5 w5 ⟨rfl, hsp5, hg5⟩
                      have e12 : ((n : Int) - (l.length : Int)).toNat = n - l.length := by omega
                      rw [e12] at hsp5 ⊢
                      have hfl := fewR_le (n - l.length) (some r0)
                      have hb5 := hb15.kept hg5 (by have := HP.out.size; omega) (by omega)
                      have hz5 := hg5.size
                      have Hsp5 := hid hsp5
                      have Hg5 := hid (grown_trans HP.out.grown hg5)
                      have Hb5 := hid hb5
                      clear hsp5 hg5 hb5 n0 n1 n2 e12
                      generalize fewR (n - l.length) (some r0) = fr at *
                      obtain ⟨times, st5⟩ := fr
                      simp only at hfl Hsp5 HS ⊢
                      go_wp2_with fail
                      refine (zS_any p s st5 _ hs Hsp5.out).mono ?_
                      rintro e6 w6 ⟨rfl, hsp6, hg6⟩
                      have hb6 := Hb5.out.kept hg6 (by omega) (by omega)
                      obtain ⟨⟨m0, m1, m2⟩, mf⟩ := cells3 hb6
                      have mf1 := mf 1
                      have Hsp6 := hid hsp6
                      have Hg6 := hid (grown_trans Hg5.out hg6)
                      have Hb6 := hid hb6
                      obtain ⟨k1, k2⟩ := spot_isBad hsp6
                      clear hsp6 hg6 hb6 mf
                      generalize uR st5 = ur at *
                      obtain ⟨un, st6⟩ := ur
                      simp only at HS Hsp6 k1 k2 ⊢
                      have HI := hid (guess_int (x := zOf un) Hg15.out hpr Hb6.out Hsp6.out Hg6.out)
                      have hp15 : p ≠ g15 := by omega
                      have hps : g15 ≠ p := by omega
                      cases hib : isBad st6 with
                      | true =>
                        rw [hib] at k1
                        have HS6 : Hid (st6 = none) := by
                          cases st6 with
                          | none => rfl
                          | some x => simp [isBad] at hib
                        have HB := hid (guess_bad true (fun _ => rfl) hpr HI.out.1 HI.out.2.1 HI.out.2.2)
                        clear hib
                        go_wp2_with fail
                        go_meet
                        case rel =>
                          rw [HS.out]
                          have hB := HB.out
                          rw [HS6.out]
                          refine ⟨rfl, hB.1, ?_, hB.2.2⟩
                          have h2 := hB.2.1
                          simp only [if_true] at h2
                          simpa using h2
                      | false =>
                        rw [hib] at k1
                        by_cases ht0 : times = 0
                        · have q5 : ((times : Int) == 0) = true := by simp; omega
                          have HB := hid (guess_bad true (fun _ => rfl) hpr HI.out.1 HI.out.2.1 HI.out.2.2)
                          have Ht0 := hid ht0
                          clear hib ht0
                          go_wp2_with fail
                          go_meet
                          case rel =>
                            rw [HS.out]
                            have hB := HB.out
                            refine ⟨rfl, hB.1, ?_, hB.2.2⟩
                            have h2 := hB.2.1
                            simp only [if_true] at h2
                            simpa [Ht0.out] using h2
                        · have q5 : ((times : Int) == 0) = false := by simp; omega
                          have HB := hid (guess_bad false (fun h => by rw [hib] at h; exact absurd h (by decide)) hpr HI.out.1 HI.out.2.1 HI.out.2.2)
                          have Ht0 := hid ht0
                          clear hib ht0
                          go_wp2_with fail
                          go_meet
                          case rel =>
                            rw [HS.out]
                            have hB := HB.out
                            refine ⟨rfl, hB.1, ?_, hB.2.2⟩
                            have h2 := hB.2.1
                            simp only [Bool.false_eq_true, if_false] at h2
                            simpa [Ht0.out] using h2
                    · have HS : Hid (stepG 0 e words n l.length last (some r0) = (⟨false, 0, []⟩, 1, none)) := by simp [Hid, stepG, h0, h1, h2]
                      have q2 : ((e : Int) == 2) = false := by simp; omega
                      clear h0 h1 h2
                      clear n0 n1 n2
                      obtain ⟨c2, f2⟩ := spot_isBad HP.out.spot
                      go_wp2_with fail
                      go_meet
                      case rel =>
                        rw [HS.out]
                        have := guess_bad true (fun _ => rfl) hpr hb15 HP.out.spot HP.out.grown
                        exact ⟨rfl, this.1, this.2.1, this.2.2⟩
              · by_cases h0 : e = 0
                · have HS : Hid (stepG 1 e words n l.length last (some r0) = (⟨false, 0, (xR 12 (some r0)).1⟩, 1, (xR 12 (some r0)).2)) := by simp [Hid, stepG, h0]
                  have q0 : ((e : Int) == 0) = true := by simp; omega
                  clear h0
                  go_wp2_with fail
                  refine (xS_any p s (some r0) 12 _ hs (by decide) (by decide) HP.out.spot).mono ?_
                  rintro e5 w5 ⟨rfl, hsp5, hg5⟩
                  have e12 : (12 : Int).toNat = 12 := rfl
                  rw [e12] at hsp5 ⊢
                  clear e12
                  have hb5 := hb15.kept hg5 (by have := HP.out.size; omega) (by omega)
                  obtain ⟨⟨m0, m1, m2⟩, mf⟩ := cells3 hb5
                  have mf2 := mf 2
                  have Hsp5 := hid hsp5
                  have Hg5 := hid (grown_trans HP.out.grown hg5)
                  have Hb5 := hid hb5
                  clear hsp5 hg5 hb5 mf n0 n1 n2
                  generalize xR 12 (some r0) = xr at *
                  go_wp2_with fail
                  go_meet
                  case rel =>
                    rw [HS.out]
                    have := guess_text (x := xr.1) rfl Hg15.out hpr Hb5.out Hsp5.out Hg5.out
                    exact ⟨rfl, this.1, this.2.1, this.2.2⟩
                · have q0 : ((e : Int) == 0) = false := by simp; omega
                  by_cases h3 : e = 3
                  · have q3 : ((e : Int) == 3) = true := by simp; omega
                    have q4 : ((e : Int) == 4) = false := by simp; omega
                    by_cases hw0 : words = []
                    · have HS : Hid (stepG 1 e words n l.length last (some r0) = (⟨false, 0, []⟩, 1, none)) := by simp [Hid, stepG, h3, hw0]
                      clear h0 h3
                      subst hw0
                      clear n0 n1 n2
                      obtain ⟨c2, f2⟩ := spot_isBad HP.out.spot
                      have hu8 : u8 = .slice none 0 0 ∨ ∃ g cap, u8 = .slice (some ⟨g, 0, none⟩) 0 cap := by
                        rcases HP.out.words.2 with ⟨h, _⟩ | ⟨g, cap, cur, h, _⟩
                        · exact .inl h
                        · exact .inr ⟨g, cap, h⟩
                      rcases hu8 with rfl | ⟨g, cap, rfl⟩
                      all_goals
                        go_wp2_with fail
                        go_meet
                        case rel =>
                          rw [HS.out]
                          have := guess_bad true (fun _ => rfl) hpr hb15 HP.out.spot HP.out.grown
                          exact ⟨rfl, this.1, this.2.1, this.2.2⟩
                    · have HS : Hid (stepG 1 e words n l.length last (some r0) = (⟨false, 0, words.getD (fewR (words.length - 1) (some r0)).1 []⟩, 1, (fewR (words.length - 1) (some r0)).2)) := by simp [Hid, stepG, h3, hw0]
                      clear h0 h3
                      have hwl1 : 0 < words.length := List.length_pos_iff.2 hw0
                      have hwe := HP.out.words
                      obtain ⟨ua, ucap, rfl, hcw⟩ := words_at hwe hwl1
                      have hpz := HP.out.size
                      go_wp2_with fail
                      refine (few_any p s (some r0) _ _ hs (by omega) (by omega) HP.out.spot).mono ?_
                      rintro e5 w5 ⟨rfl, hsp5, hg5⟩
                      have e12 : ((words.length : Int) - 1).toNat = words.length - 1 := by omega
                      rw [e12] at hsp5 ⊢
                      have hfl := fewR_le (words.length - 1) (some r0)
                      have hb5 := hb15.kept hg5 (by have := HP.out.size; omega) (by omega)
                      obtain ⟨⟨m0, m1, m2⟩, mf⟩ := cells3 hb5
                      have mf2 := mf 2
                      have Hsp5 := hid hsp5
                      have Hg5 := hid (grown_trans HP.out.grown hg5)
                      have Hb5 := hid hb5
                      have Hw5 := hid (keep_row hwe hpw hg5)
                      clear hsp5 hg5 hb5 mf n0 n1 n2 e12 hwe hcw hw0
                      generalize fewR (words.length - 1) (some r0) = fr at *
                      obtain ⟨fk, st5⟩ := fr
                      simp only at hfl Hsp5 HS ⊢
                      have hfk : fk < words.length := by omega
                      have HWd : Hid (words.getD fk [] = words[fk]) := by simp [Hid, hfk]
                      have hcell := words_cell Hw5.out fk hfk
                      generalize words[fk] = wd at *
                      have hfi : (fk : Int) < (words.length : Int) := by omega
                      go_wp2_with fail
                      go_meet
                      case rel =>
                        rw [HS.out]
                        have := guess_text (x := wd) rfl Hg15.out hpr Hb5.out Hsp5.out Hg5.out
                        rw [HWd.out]
                        exact ⟨rfl, this.1, this.2.1, this.2.2⟩
                  · have q3 : ((e : Int) == 3) = false := by simp; omega
                    by_cases h4 : e = 4
                    · have q4 : ((e : Int) == 4) = true := by simp; omega
                      have HS : Hid (stepG 1 e words n l.length last (some r0) = (⟨false, 0, last.text.take (fewR last.text.length (some r0)).1 ++ (xR 12 (fewR last.text.length (some r0)).2).1⟩, 1, (xR 12 (fewR last.text.length (some r0)).2).2)) := by simp [Hid, stepG, h4]
                      clear h0 h3 h4
                      obtain ⟨⟨_, _, k1⟩, _⟩ := cells3 HP.out.lastAt
                      have hpz := HP.out.size
                      have hll := HG.out.lastLen
                      have hll2 : last.text.length ≤ 720 := by omega
                      go_wp2_with fail
                      refine (few_any p s (some r0) _ _ hs (by omega) (by omega) HP.out.spot).mono ?_
                      rintro e5 w5 ⟨rfl, hsp5, hg5⟩
                      have e12 : (last.text.length : Int).toNat = last.text.length := Int.toNat_natCast _
                      rw [e12] at hsp5 ⊢
                      have hfl := fewR_le last.text.length (some r0)
                      have hb5 := hb15.kept hg5 (by omega) (by omega)
                      have hl5 := HP.out.lastAt.kept hg5 (by omega) (by omega)
                      have hz5 := hg5.size
                      have Hsp5 := hid hsp5
                      have Hg5 := hid (grown_trans HP.out.grown hg5)
                      have Hb5 := hid hb5
                      have Hl5 := hid hl5
                      have y1 := (cells3 hl5).1.2.2
                      clear hsp5 hg5 hb5 n0 n1 n2 e12 hl5 k1
                      generalize fewR last.text.length (some r0) = fr at *
                      obtain ⟨fk, st5⟩ := fr
                      simp only at hfl Hsp5 HS ⊢
                      have HX := hid (fun W (hW : SpotAt W p s st5) => xS_any p s st5 12 W hs (by decide) (by decide) hW)
                      have hx12 := xR_len 12 st5
                      have e12 : (12 : Int).toNat = 12 := rfl
                      rw [e12] at HX
                      clear e12
                      generalize xR 12 st5 = xr at *
                      have hfi : (fk : Int) ≤ (last.text.length : Int) := by omega
                      have hq1 : ¬ (9223372036854775807 < (last.text.take fk).length + xr.1.length) := by rw [List.length_take]; omega
                      go_wp2_with fail
                      go_region_with (go_at_call 98; refine (HX.out _ ?_).mono ?_; exact spot_drew Hsp5.out; rintro e6 w6 ⟨rfl, hsp6, hg6⟩; have Hg6 := hid (grown_trans Hg5.out (grown_undrew hg6)); have Hb6 := hid (Hb5.out.kept (grown_undrew hg6) (by omega) (by omega)); have Hsp6 := hid hsp6; have x1 := (cells3 (Hl5.out.kept (grown_undrew hg6) (by omega) (by omega))).1.2.2; have x2 := (cells3 Hb6.out).1.2.2; have x3 := (cells3 Hb6.out).2 2; clear hsp6 hg6)
                      all_goals
                        go_wp2_with fail
                        go_meet
                        case rel =>
                          rw [HS.out]
                          have := guess_text (str_take last.text xr.1 fk) Hg15.out hpr Hb6.out Hsp6.out Hg6.out
                          exact ⟨rfl, this.1, this.2.1, this.2.2⟩
                    · have q4 : ((e : Int) == 4) = false := by simp; omega
                      have HS : Hid (stepG 1 e words n l.length last (some r0) = (⟨false, 0, []⟩, 1, none)) := by simp [Hid, stepG, h0, h3, h4]
                      clear h0 h3 h4
                      clear n0 n1 n2
                      obtain ⟨c2, f2⟩ := spot_isBad HP.out.spot
                      go_wp2_with fail
                      go_meet
                      case rel =>
                        rw [HS.out]
                        have := guess_bad true (fun _ => rfl) hpr hb15 HP.out.spot HP.out.grown
                        exact ⟨rfl, this.1, this.2.1, this.2.2⟩
            case rest =>
              obtain ⟨rfl, hb2, hsp2, hgr2⟩ := hcut
              have HR2 := hid (guess_mid Hg15.out hpr hgz hp14 hpw HG.out Hwr.out hb2 hsp2 hgr2)
              have Hgf2 : Hid (guessF kind e words n (gk - 1) (l ++ List.replicate (stepG kind e words n l.length last (some r0)).2.1 (stepG kind e words n l.length last (some r0)).1) (stepG kind e words n l.length last (some r0)).1 (stepG kind e words n l.length last (some r0)).2.2 = guessF kind e words n (n + 1) [] cellD stw) := by
                have h1 := Hgf.out
                obtain ⟨f, rfl⟩ : ∃ f, gk = f + 1 := ⟨gk - 1, by have := Hfu2.out; omega⟩
                rw [guessF, if_pos ⟨hlt, rfl⟩] at h1
                exact h1
              generalize stepG kind e words n l.length last (some r0) = S at *
              obtain ⟨v, times, st2⟩ := S
              simp only at HSl HSo HSz HR2 Hgf2 hb2 ⊢
              obtain ⟨vn, vi, vt⟩ := v
              obtain ⟨⟨d0, d1, d2⟩, df⟩ := cells3 hb2
              simp only at d0 d1 d2
              obtain ⟨y0, y1, y2⟩ := (cells3 HR2.out.last).1
              have e0 := (cells3 HR2.out.last).2 0
              have e1 := (cells3 HR2.out.last).2 1
              have e2 := (cells3 HR2.out.last).2 2
              clear hb2 hsp2 hgr2 HP df
              have HM := hid (guess_set hgz hp14 hzc HR2.out)
              clear HR2
              go_wp2_with fail
              clear y0 y1 y2 e0 e1 e2 d0 d1 d2
              go_loopw [7, 18] (fun lv i w3 => ∃ k : Nat, k ≤ times ∧ i = .int .i64 (k : Int) ∧ GuessMid w w3 p g14 g15 s st2 lv u8 (l ++ List.replicate k ⟨vn, vi, vt⟩) ⟨vn, vi, vt⟩ ⟨vn, vi, vt⟩ words)
                (fun _ i _ => times - (intOf i).toNat)
              case atStart => exact ⟨0, Nat.zero_le _, rfl, HM.out⟩
              case round =>
                obtain ⟨k, hkt, rfl, hm⟩ := hrel
                have Hm := hid hm
                obtain ⟨⟨d0, d1, d2⟩, df⟩ := cells3 hm.new
                simp only at d0 d1 d2
                have hzw := hm.lt
                have hrow := hm.row
                clear hm HM df
                have hlr : (l ++ List.replicate k (⟨vn, vi, vt⟩ : CellB)).length ≤ 60 := by
                  have := HSl.out.1
                  rw [List.length_append, List.length_replicate]; omega
                have ht60 : times ≤ 60 := by have := HSl.out.1; omega
                by_cases hkl : k < times
                · go_wp2_with (at_builtin; refine wpList_append_own_at _ rfl (.tmp 170) (.tmp 172) 30 rfl (g14 + 1) 48 i1 (.agg #[.bool false, .int .i64 0, .string ⟨#[]⟩]) 3 32 Try.underlying30 hi1 hy0 hy1 hy2 rfl (by decide) _ _ _ rfl (hrow.alloc _) ⟨_, 0, none⟩ 1 1 [.bool vn, .int .i64 vi, strB vt] rfl rfl ?c1 ?c2 ?c3 ?c4 ?c5 ?_)
                  case c1 => exact cell_laid _ #[.bool vn, .int .i64 vi, strB vt] 48
                  case c2 => intro u hu; simp at hu; rcases hu with rfl | rfl | rfl <;> rfl
                  case c3 => unfold maxLen; omega
                  case c4 => omega
                  case c5 => simp; omega
                  intro v4 w4 hl4 hg4 _ ha4
                  have HR := hid (guess_more hgz hp14 hzc Hm.out (by rw [List.length_append, List.length_replicate]; exact hl4) hg4 ha4)
                  clear hl4 hg4 ha4 hrow Hm d0 d1 d2
                  go_wp2
                  go_roundw
                  case rel => exact ⟨k + 1, by omega, by go_num, HR.out⟩
                  case measure => simp [intOf]; omega
                · have hke : k = times := by omega
                  subst hke
                  have HN := hid (guess_next hn hln HG.out.lastLen HG.out.ok Hm.out HSl.out.1 (by have := HSz.out; simp only at this ⊢; omega) HSo.out.1 HSo.out.2)
                  clear hrow hkl
                  go_wp2_with fail
                  go_roundg (gk - 1)
                  case measure => have := Hfu2.out; omega
                  case rel => exact ⟨_, _, _, HN.out, Hm.out.words, by have := HSl.out.1; rw [List.length_append, List.length_replicate]; omega, by omega, Hgf2.out, fun hso => by have h1 := HSl.out.2 hso; have h2 := Hfu2.out; rw [List.length_append, List.length_replicate]; omega⟩
          · have HE : Hid (guessR kind n (some (c :: r)) = (l, str)) := by
              rw [Hid, HGs.out, ← Hgf.out]
              exact guessF_stop _ _ _ _ _ _ _ _ hgo
            by_cases hlt : l.length < n
            · have hb2 : isBad str = true := by
                cases str with
                | none => rfl
                | some x => exact absurd ⟨hlt, rfl⟩ hgo
              rw [hb2] at hbad
              clear hgo hb2 hbf
              go_wp2
              go_ret
              rw [HE.out]
              exact ⟨_, rfl, ownsRow_base HG.out.row (by omega), HG.out.ok, HG.out.spot, HG.out.grown⟩
            · have hle : n ≤ l.length := by omega
              clear hgo hbf hlt
              go_wp2
              go_ret
              rw [HE.out]
              exact ⟨_, rfl, ownsRow_base HG.out.row (by omega), HG.out.ok, HG.out.spot, HG.out.grown⟩

end Go.Proofs.Ytijeolmmoffdfaa

namespace Go.Proofs.Ytijeolmmoffdfaa
open Go.RowKit
set_option linter.unusedVariables false
set_option maxRecDepth 100000

def flagC (b : Bool) : CellB := ⟨b, 0, []⟩

/-- The runs so far. -/
structure Runs (w1 wr : World) (p : Nat) (s : List UInt8) (st : Option (List UInt8)) (lv : Value) (fl : List Bool) : Prop where
  row : wr.ownsRow w1.heap.size 48 3 lv fl.length (cellsC (fl.map flagC))
  spot : SpotAt wr p s st
  grown : w1.grownBy wr (some p)

theorem flag_ok (fl : List Bool) : ∀ c ∈ fl.map flagC, okC c := by
  intro c hc
  obtain ⟨b, _, rfl⟩ := List.mem_map.1 hc
  exact ⟨by simp [flagC], by simp [flagC], by simp [flagC]⟩

theorem runs_more {w1 w3 w4 : World} {p k : Nat} {s : List UInt8} {st : Option (List UInt8)} {lv lv' : Value} {fl : List Bool} {b : Bool} {o : Obj} (hp : p < w1.heap.size) (h : Runs w1 w3 p s st lv (fl ++ List.replicate k b))
    (hl : w4.ownsRow w1.heap.size 48 3 lv' ((fl ++ List.replicate k b).length + 1) (cellsC ((fl ++ List.replicate k b).map flagC) ++ [.bool b, .int .i64 0, strB []])) (hg : (w3.alloc o).grownBy w4 lv.ownBlock) :
    Runs w1 w4 p s st lv' (fl ++ List.replicate (k + 1) b) := by
  have hz := h.grown.size
  have hb : ∀ j, lv.ownBlock = some j → w1.heap.size ≤ j := fun j hj => (h.row.lt j hj).1
  rw [replicate_snoc]
  generalize fl ++ List.replicate k b = f' at *
  refine ⟨?_, ?_, ?_⟩
  · rw [List.map_append, List.map_singleton, cellsC_snoc, List.length_append]; exact hl
  · exact spot_kept (spot_alloc h.spot (by omega) o) (by simp; omega) hg (fun j hj => by have := hb j hj; omega)
  · exact grown_own (grown_alloc h.grown o) hg hb

theorem runsF_stop (n f : Nat) (l : List Bool) (b : Bool) (st : Option (List UInt8)) (h : ¬ (l.length < n ∧ st.isSome = true)) : runsF n f l b st = (l, st) := by
  cases f with
  | zero => rfl
  | succ f => rw [runsF, if_neg h]

theorem count_more (fl : List Bool) (k : Nat) : countB (fl ++ List.replicate k false) = countB fl + k ∧ countB (fl ++ List.replicate k true) = countB fl := by
  unfold countB
  rw [List.filter_append, List.filter_append, List.length_append, List.length_append, List.filter_replicate, List.filter_replicate]
  simp

theorem count_le (fl : List Bool) : countB fl ≤ fl.length := List.length_filter_le _ _

theorem unpage_kind {kind : Int} (h : ¬ (kind = 0 ∨ kind = 1)) (page : List UInt8) : unpageB kind page = none := by
  cases hx : unpageB kind page with
  | none => rfl
  | some l =>
    have := (unpage_some hx).1
    unfold cellsOkB at this
    simp only [Bool.and_eq_true, decide_eq_true_eq] at this
    exact absurd (by simpa using this.1.1) h

theorem rgrown_below {w w1 w2 : World} {p : Nat} (h1 : Below w.heap.size w w1) (hg : w1.grownBy w2 (some p)) (hp : w.heap.size ≤ p) : Below w.heap.size w w2 :=
  h1.grown hg h1.size (fun k hk => by simp at hk; omega)

theorem fillB_append (a b : List Bool) : ∀ (v : List CellB), fillB (a ++ b) v = fillB a v ++ fillB b (v.drop (countB a)) := by
  induction a with
  | nil => intro v; simp [fillB, countB]
  | cons x a ih =>
    intro v
    cases x with
    | true =>
      have hc : countB (true :: a) = countB a := by simp [countB]
      simp only [List.cons_append, fillB, hc]
      rw [ih]
    | false =>
      have hc : countB (false :: a) = countB a + 1 := by simp [countB]
      cases v with
      | nil =>
        simp only [List.cons_append, fillB, hc]
        rw [ih]
        simp
      | cons c v =>
        simp only [List.cons_append, fillB, hc]
        rw [ih]
        simp

theorem fillB_length (a : List Bool) : ∀ (v : List CellB), (fillB a v).length = a.length := by
  induction a with
  | nil => intro v; rfl
  | cons x a ih =>
    intro v
    cases x with
    | true => simp [fillB, ih]
    | false => cases v <;> simp [fillB, ih]

theorem fillB_zero (a : List Bool) (h : countB a = 0) (v : List CellB) : fillB a v = a.map flagC := by
  induction a with
  | nil => rfl
  | cons x a ih =>
    cases x with
    | true =>
      have hc : countB (true :: a) = countB a := by simp [countB]
      rw [hc] at h
      simp only [fillB, List.map_cons, ih h]
      rfl
    | false =>
      have hc : countB (false :: a) = countB a + 1 := by simp [countB]
      omega

theorem count_take_lt (fl : List Bool) (k : Nat) (hk : k < fl.length) (hf : fl[k] = false) : countB (fl.take k) < countB fl ∧ countB (fl.take (k + 1)) = countB (fl.take k) + 1 := by
  have h1 : fl.take (k + 1) = fl.take k ++ [fl[k]] := List.take_succ_eq_append_getElem hk
  have h2 : countB (fl.take (k + 1)) = countB (fl.take k) + 1 := by
    rw [h1, hf]
    exact (count_more (fl.take k) 1).1
  have h3 : countB (fl.take (k + 1)) + countB (fl.drop (k + 1)) = countB fl := by
    unfold countB
    rw [← List.length_append, ← List.filter_append, List.take_append_drop]
  exact ⟨by omega, h2⟩

theorem count_take_same (fl : List Bool) (k : Nat) (hk : k < fl.length) (hf : fl[k] = true) : countB (fl.take (k + 1)) = countB (fl.take k) := by
  rw [List.take_succ_eq_append_getElem hk, hf]
  exact (count_more (fl.take k) 1).2

/-- The list, filled up to k. -/
def midL (fl : List Bool) (v : List CellB) (k : Nat) : List CellB := fillB (fl.take k) v ++ (fl.drop k).map flagC

theorem mid_length (fl : List Bool) (v : List CellB) (k : Nat) : (midL fl v k).length = fl.length := by
  unfold midL
  rw [List.length_append, fillB_length, List.length_map, List.length_take, List.length_drop]; omega

theorem mid_zero (fl : List Bool) (v : List CellB) : midL fl v 0 = fl.map flagC := by simp [midL, fillB]

theorem mid_all (fl : List Bool) (v : List CellB) : midL fl v fl.length = fillB fl v := by simp [midL]

theorem mid_at (fl : List Bool) (v : List CellB) (k : Nat) (hk : k < fl.length) : (midL fl v k)[k]? = some (flagC fl[k]) := by
  unfold midL
  rw [List.getElem?_append_right (by rw [fillB_length, List.length_take]; omega), fillB_length, List.length_take, Nat.min_eq_left (by omega), Nat.sub_self, List.getElem?_map, List.getElem?_drop]
  simp [hk]

theorem mid_true (fl : List Bool) (v : List CellB) (k : Nat) (hk : k < fl.length) (hf : fl[k] = true) : midL fl v (k + 1) = midL fl v k := by
  unfold midL
  rw [List.take_succ_eq_append_getElem hk, fillB_append, List.drop_eq_getElem_cons hk, hf]
  simp [fillB, flagC]

theorem mid_false (fl : List Bool) (v : List CellB) (k : Nat) (hk : k < fl.length) (hf : fl[k] = false) (hv : countB (fl.take k) < v.length) : midL fl v (k + 1) = (midL fl v k).set k v[countB (fl.take k)] := by
  unfold midL
  rw [List.take_succ_eq_append_getElem hk, fillB_append, List.drop_eq_getElem_cons hk, hf]
  rw [List.set_append_right _ _ (by rw [fillB_length, List.length_take]; omega)]
  rw [List.drop_eq_getElem_cons hv]
  simp [fillB, fillB_length, Nat.min_eq_left (Nat.le_of_lt hk)]

theorem cellsC_set (l : List CellB) : ∀ (k : Nat) (c : CellB), k < l.length → (((cellsC l).set (k * 3) (.bool c.null)).set (k * 3 + 1) (.int .i64 c.int)).set (k * 3 + 2) (strB c.text) = cellsC (l.set k c) := by
  induction l with
  | nil => intro k c h; simp at h
  | cons x l ih =>
    intro k c h
    have e : ∀ y : CellB, ∀ m : List CellB, cellsC (y :: m) = .bool y.null :: .int .i64 y.int :: strB y.text :: cellsC m := by intro y m; simp [cellsC]
    cases k with
    | zero => simp [e]
    | succ k =>
      rw [e, List.set_cons_succ, e, ← ih k c (by simpa using h)]
      rw [show (k + 1) * 3 = k * 3 + 3 by omega]
      simp [List.set_cons_succ]

/-- A cell is put into an owned list. -/
theorem own_set {w : World} {B g cap : Nat} {l : List CellB} {c : CellB} {k : Nat} (h : w.ownsRow B 48 3 (.slice (some ⟨g, 0, none⟩) l.length cap) l.length (cellsC l)) (hk : k < l.length) :
    (((w.setCell ⟨g, k * 3, none⟩ (.bool c.null)).setCell ⟨g, k * 3 + 1, none⟩ (.int .i64 c.int)).setCell ⟨g, k * 3 + 2, none⟩ (strB c.text)).ownsRow B 48 3 (.slice (some ⟨g, 0, none⟩) l.length cap) l.length (cellsC (l.set k c)) := by
  rw [← cellsC_set l k c hk]
  exact (((h.stored _ _).1.stored _ _).1.stored _ _).1

theorem rfill_ok (a : List Bool) : ∀ (v : List CellB), (∀ c ∈ v, okC c) → ∀ c ∈ fillB a v, okC c := by
  induction a with
  | nil => intro v _ c hc; simp [fillB] at hc
  | cons x a ih =>
    intro v hv c hc
    have hz : ∀ b : Bool, okC ⟨b, 0, []⟩ := fun b => ⟨by simp, by simp, by simp⟩
    cases x with
    | true =>
      simp only [fillB, List.mem_cons] at hc
      rcases hc with rfl | hc
      · exact hz true
      · exact ih v hv c hc
    | false =>
      cases v with
      | nil =>
        simp only [fillB, List.mem_cons] at hc
        rcases hc with rfl | hc
        · exact hz _
        · exact ih _ hv c hc
      | cons y v =>
        simp only [fillB, List.mem_cons] at hc
        rcases hc with rfl | hc
        · exact hv _ (by simp)
        · exact ih v (fun z hz => hv z (by simp [hz])) c hc

/-- A cell of an owned list. -/
theorem own_at {w : World} {B g cap n : Nat} {l : List CellB} (h : w.ownsRow B 48 3 (.slice (some ⟨g, 0, none⟩) n cap) n (cellsC l)) (hn : l.length = n) (k : Nat) (hk : k < n) (c : CellB) (hc : l[k]? = some c) :
    w.cell? ⟨g, k * 3, none⟩ = some (.bool c.null) ∧ w.cell? ⟨g, k * 3 + 1, none⟩ = some (.int .i64 c.int) ∧ w.cell? ⟨g, k * 3 + 2, none⟩ = some (strB c.text) ∧ w.frozen? ⟨g, k * 3, none⟩ = false ∧ w.frozen? ⟨g, k * 3 + 1, none⟩ = false ∧ w.frozen? ⟨g, k * 3 + 2, none⟩ = false := by
  have hk2 : k < l.length := by omega
  obtain ⟨h1, h2, h3⟩ := cellsC_at l k hk2
  have hcl : l[k] = c := by rw [List.getElem?_eq_getElem hk2] at hc; exact Option.some.inj hc
  rw [hcl] at h1 h2 h3
  exact ⟨by rw [h.cellAt (k * 3) (by omega)]; exact h1, by rw [h.cellAt (k * 3 + 1) (by omega)]; exact h2, by rw [h.cellAt (k * 3 + 2) (by omega)]; exact h3, h.frozenAt _, h.frozenAt _, h.frozenAt _⟩

theorem spot_new (w : World) (s : List UInt8) : SpotAt (w.alloc (Obj.cells #[strB s, Value.int IntKind.i64 0, Value.bool false] 92)) w.heap.size s (some s) := by
  refine ⟨0, false, ?_, Nat.zero_le _, by simp⟩
  rw [World.alloc]
  simp

theorem own_set_grown (w : World) (g i j k : Nat) (a b c : Value) : w.grownBy (((w.setCell ⟨g, i, none⟩ a).setCell ⟨g, j, none⟩ b).setCell ⟨g, k, none⟩ c) (some g) := by
  refine ⟨rfl, rfl, rfl, by simp, fun m _ hm => ?_⟩
  have hne : m ≠ g := fun e => hm (by rw [e])
  rw [heap_setCell_other _ ⟨g, k, none⟩ m c hne, heap_setCell_other _ ⟨g, j, none⟩ m b hne, heap_setCell_other _ ⟨g, i, none⟩ m a hne]

end Go.Proofs.Ytijeolmmoffdfaa

namespace Go.Proofs.Ytijeolmmoffdfaa
open Go.RowKit
set_option linter.unusedVariables false
set_option maxRecDepth 100000

set_option maxRecDepth 100000 in
set_option maxHeartbeats 4000000 in
theorem unpage_in (kind : Int) (s : List UInt8) (w : World) (hk : kind = 0 ∨ kind = 1) (hs : s.length ≤ maxLen) :
    Calls Try.prog 41 #[.int .i64 kind, strB s] w fun e w' => ∃ v, e = .returned (.tuple #[v, .bool (unpageB kind s).isSome]) ∧ PageAns w' v (unpageB kind s) ∧ Below w.heap.size w w' := by
  obtain ⟨i1, hi1, hy0, hy1, hy2⟩ := info_parts Try.infoCell
  go_enter Try.func41, Try.ntmps41
  go_upto_region 1 with fail
  go_cut [23] (fun t wc => t = .bool false ∧ w = wc)
  case first =>
    have hkk : (kind != 0) = false ∨ (kind != 0) = true ∧ (kind != 1) = false := by rcases hk with rfl | rfl <;> simp
    rcases hkk with hk0 | ⟨hk0, hk1⟩
    · go_wp2_with fail
      go_meet
      case rel => exact ⟨rfl, rfl⟩
    · go_wp2_with fail
      go_meet
      case rel => exact ⟨rfl, rfl⟩
  case rest =>
    obtain ⟨rfl, rfl⟩ := hcut
    go_wp2_with fail
    have hsp1 := spot_new w s
    have HB1 := hid ((Below.refl w.heap.size w).alloc (Nat.le_refl _) (Obj.cells #[strB s, Value.int IntKind.i64 0, Value.bool false] 92))
    have hz1 : w.heap.size < (w.alloc (Obj.cells #[strB s, Value.int IntKind.i64 0, Value.bool false] 92)).heap.size := by simp
    generalize w.alloc (Obj.cells #[strB s, Value.int IntKind.i64 0, Value.bool false] 92) = w1 at *
    obtain ⟨p, hpe⟩ : ∃ p, p = w.heap.size := ⟨_, rfl⟩
    rw [← hpe] at hsp1 hz1 ⊢
    have Hpe := hid hpe
    clear hpe
    refine (few_any p s (some s) 60 _ hs (by decide) (by decide) hsp1).mono ?_
    rintro e w2 ⟨rfl, hsp2, hg2⟩
    have e60 : (60 : Int).toNat = 60 := rfl
    rw [e60] at hsp2 ⊢
    have hn := fewR_le 60 (some s)
    have HU : Hid (∃ n st2, fewR 60 (some s) = (n, st2)) := ⟨_, _, rfl⟩
    have HR0 : Hid (Runs w1 w2 p s (fewR 60 (some s)).2 (.slice none 0 0) []) := ⟨World.ownsRow_nil _ _ _ _, hsp2, hg2⟩
    obtain ⟨n, st2, hfe⟩ := HU.out
    rw [hfe] at hn HR0 ⊢
    have Hfe := hid hfe
    simp only at hn HR0 ⊢
    clear e60 hsp1 hsp2 hg2 HU hfe
    go_upto_block 0 with fail
    go_cut [8, 9, 10, 11, 12, 13] (fun lv cv _ _ _ _ wc => ∃ (fl : List Bool) (st3 : Option (List UInt8)), cv = .int .i64 (countB fl : Int) ∧ Runs w1 wc p s st3 lv fl ∧ fl.length ≤ n ∧ runsF n 200 [] false st2 = (fl, st3))
    case first =>
      go_wp2_with fail
      go_loopw [8, 9, 10, 11, 12, 13] (fun lv cv bv rv _ _ wr => ∃ (R : Nat) (fl : List Bool) (b : Bool) (str : Option (List UInt8)), R ≤ 200 ∧ rv = .int .i64 (R : Int) ∧ cv = .int .i64 (countB fl : Int) ∧ bv = .bool b ∧ Runs w1 wr p s str lv fl ∧ fl.length ≤ n ∧ runsF n (200 - R) fl b str = runsF n 200 [] false st2)
        (fun _ _ _ rv _ _ _ => 200 - (intOf rv).toNat)
      case atStart => exact ⟨0, [], false, st2, by omega, rfl, rfl, rfl, HR0.out, Nat.zero_le _, rfl⟩
      case round =>
        obtain ⟨R, fl, b, str, hR, rfl, rfl, rfl, hr, hfn, hrun⟩ := hrel
        obtain ⟨a, cap, rfl, _, _⟩ := own_lies hr.row (flag_ok fl)
        rw [List.length_map] at *
        obtain ⟨hbad, hbf⟩ := spot_isBad hr.spot
        have Hr := hid hr
        have Hrun := hid hrun
        clear hr hrun hbf
        have hcl := count_le fl
        by_cases hgo : fl.length < n ∧ R < 200 ∧ str.isSome = true
        · obtain ⟨hlt, hR2, hso⟩ := hgo
          obtain ⟨r0, rfl⟩ := Option.isSome_iff_exists.1 hso
          simp only [isBad] at hbad
          clear hso
          go_wp2_with fail
          refine (few_any p s (some r0) _ _ hs (by omega) (by omega) Hr.out.spot).mono ?_
          rintro e w3 ⟨rfl, hsp3, hg3⟩
          have e12 : ((n : Int) - (fl.length : Int)).toNat = n - fl.length := by omega
          rw [e12] at hsp3 ⊢
          have hfl := fewR_le (n - fl.length) (some r0)
          have Hrun2 : Hid (runsF n (200 - (R + 1)) (fl ++ List.replicate (fewR (n - fl.length) (some r0)).1 b) (!b) (fewR (n - fl.length) (some r0)).2 = runsF n 200 [] false st2) := by
            have h1 := Hrun.out
            rw [show 200 - R = (200 - (R + 1)) + 1 by omega, runsF, if_pos ⟨hlt, rfl⟩] at h1
            exact h1
          have HR3 : Hid (Runs w1 w3 p s (fewR (n - fl.length) (some r0)).2 (.slice a fl.length cap) (fl ++ List.replicate 0 b)) := by
            rw [List.replicate_zero, List.append_nil]
            exact ⟨keep_row Hr.out.row hz1 hg3, hsp3, grown_trans Hr.out.grown hg3⟩
          clear hsp3 hg3 Hr Hrun e12 hbad
          generalize fewR (n - fl.length) (some r0) = fr at *
          obtain ⟨k, st3⟩ := fr
          simp only at hfl Hrun2 HR3 ⊢
          go_wp2_with fail
          go_loopw [8, 13] (fun lv i w3 => ∃ j : Nat, j ≤ k ∧ i = .int .i64 (j : Int) ∧ Runs w1 w3 p s st3 lv (fl ++ List.replicate j b)) (fun _ i _ => k - (intOf i).toNat)
          case atStart => exact ⟨0, Nat.zero_le _, rfl, HR3.out⟩
          case round =>
            obtain ⟨j, hjk, rfl, hm⟩ := hrel
            have Hm := hid hm
            have hrow := hm.row
            have hzw := hm.grown.size
            clear hm HR3
            have hlr : (fl ++ List.replicate j b).length ≤ 60 := by rw [List.length_append, List.length_replicate]; omega
            by_cases hjl : j < k
            · go_wp2_with (at_builtin; refine wpList_append_own _ rfl (.tmp 57) (.tmp 60) 30 rfl w1.heap.size 48 i1 (.agg #[.bool false, .int .i64 0, .string ⟨#[]⟩]) 3 32 Try.underlying30 hi1 hy0 hy1 hy2 rfl (by decide) _ _ _ rfl (hrow.alloc _) ⟨_, 0, none⟩ 1 1 [.bool b, .int .i64 0, .string ⟨#[]⟩] rfl rfl ?c1 ?c2 ?c3 ?c4 ?c5 ?_)
              case c1 => exact cell_laid _ #[.bool b, .int .i64 0, .string ⟨#[]⟩] 48
              case c2 => intro u hu; simp at hu; rcases hu with rfl | rfl | rfl <;> rfl
              case c3 => unfold maxLen; omega
              case c4 => omega
              case c5 => simp; omega
              intro v4 w4 hl4 hg4 _
              have HR := hid (runs_more hz1 Hm.out (by rw [List.length_append, List.length_replicate, List.map_append, List.map_replicate]; exact hl4) hg4)
              clear hl4 hg4 hrow Hm
              go_wp2
              go_roundw
              case rel => exact ⟨j + 1, by omega, by go_num, HR.out⟩
              case measure => simp [intOf]; omega
            · have hje : j = k := by omega
              subst hje
              clear hjl hrow
              cases b with
              | true =>
                have HC : Hid (countB (fl ++ List.replicate j true) = countB fl) := (count_more fl j).2
                go_wp2_with fail
                go_roundw
                case rel => exact ⟨R + 1, _, false, _, by omega, by go_num, by rw [HC.out], rfl, Hm.out, by rw [List.length_append, List.length_replicate]; omega, Hrun2.out⟩
                case measure => simp [intOf]; omega
              | false =>
                have HC : Hid (countB (fl ++ List.replicate j false) = countB fl + j) := (count_more fl j).1
                go_wp2_with fail
                go_roundw
                case rel => exact ⟨R + 1, _, true, _, by omega, by go_num, by rw [HC.out]; go_num, rfl, Hm.out, by rw [List.length_append, List.length_replicate]; omega, Hrun2.out⟩
                case measure => simp [intOf]; omega
        · have HE : Hid (runsF n 200 [] false st2 = (fl, str)) := by
            rw [Hid, ← Hrun.out]
            by_cases hR3 : R < 200
            · exact runsF_stop _ _ _ _ _ (fun h => hgo ⟨h.1, hR3, h.2⟩)
            · rw [show 200 - R = 0 by omega]; rfl
          by_cases hlt : fl.length < n
          · by_cases hR3 : R < 200
            · have hb2 : isBad str = true := by
                cases str with
                | none => rfl
                | some x => exact absurd ⟨hlt, hR3, rfl⟩ hgo
              rw [hb2] at hbad
              clear hgo hb2
              go_wp2_with fail
              go_meet
              case rel => exact ⟨fl, str, rfl, Hr.out, hfn, HE.out⟩
            · have hR4 : R = 200 := by omega
              subst hR4
              clear hgo hR3 hbad
              go_wp2_with fail
              go_meet
              case rel => exact ⟨fl, str, rfl, Hr.out, hfn, HE.out⟩
          · have hle : n ≤ fl.length := by omega
            clear hgo hlt hbad
            go_wp2_with fail
            go_meet
            case rel => exact ⟨fl, str, rfl, Hr.out, hfn, HE.out⟩
    case rest =>
      obtain ⟨fl, st3, rfl, hr, hfn, hrun⟩ := hcut
      obtain ⟨a, cap, hlv, -, -⟩ := own_lies hr.row (flag_ok fl)
      rw [List.length_map] at hlv
      subst hlv
      obtain ⟨hbad, hbf⟩ := spot_isBad hr.spot
      have Hr := hid hr
      have Hrun := hid hrun
      have HB3 := hid (rgrown_below HB1.out hr.grown (Nat.le_of_eq Hpe.out.symm))
      clear hr hrun hbf HR0
      have hcl := count_le fl
      by_cases hno : st3 = none ∨ fl.length ≠ n
      · have HN : Hid (unpageB kind s = none) := by
          simp only [Hid, unpageB, cellsR, Hfe.out, Hrun.out]
          rw [if_pos hno]
        by_cases hb3 : st3 = none
        · subst hb3
          simp only [isBad] at hbad
          clear hno
          go_wp2_with fail
          go_ret2
          rw [HN.out]
          exact ⟨_, rfl, ⟨none, 0, rfl⟩, HB3.out⟩
        · have hb4 : isBad st3 = false := by
            cases st3 with
            | none => exact absurd rfl hb3
            | some x => rfl
          have hne : ((fl.length : Int) != (n : Int)) = true := by
            have : fl.length ≠ n := hno.resolve_left hb3
            simp; omega
          rw [hb4] at hbad
          clear hno hb3 hb4
          go_wp2
          go_ret2
          rw [HN.out]
          exact ⟨_, rfl, ⟨none, 0, rfl⟩, HB3.out⟩
      · have hno1 : st3 ≠ none := fun h => hno (.inl h)
        have hno2 : fl.length = n := Classical.byContradiction fun h => hno (.inr h)
        have hb4 : isBad st3 = false := by
          cases st3 with
          | none => exact absurd rfl hno1
          | some x => rfl
        subst hno2
        have hne : ((fl.length : Int) != (fl.length : Int)) = false := by simp
        rw [hb4] at hbad
        clear hno1 hb4
        go_upto_if 80 with fail
        go_cut [14, 15, 16] (fun _ _ _ wx => ∃ L : List CellB, L.length = fl.length ∧ (∀ c ∈ L, okC c) ∧ wx.ownsRow w1.heap.size 48 3 (.slice a fl.length cap) fl.length (cellsC L) ∧ Below w.heap.size w wx ∧ cellsR kind s = some L)
        case first =>
          have HC : Hid (cellsR kind s = if countB fl = 0 then some (fillB fl []) else if (guessR kind (countB fl) st3).2 = none ∨ (guessR kind (countB fl) st3).1.length ≠ countB fl then none else some (fillB fl (guessR kind (countB fl) st3).1)) := by
            simp only [Hid, cellsR, Hfe.out, Hrun.out]
            rw [if_neg hno]
          clear hno
          by_cases hc0 : countB fl = 0
          · have hcz : (countB fl : Int) = 0 := by omega
            have HE : Hid (cellsR kind s = some (fl.map flagC)) := by
              rw [Hid, HC.out, if_pos hc0, fillB_zero fl hc0]
            clear hc0
            go_wp2_with fail
            go_meet
            case rel => exact ⟨_, by simp, flag_ok fl, Hr.out.row, HB3.out, HE.out⟩
          · have hcp : (0 : Int) < (countB fl : Int) := by omega
            have hpc : p < wc.heap.size := Nat.lt_of_lt_of_le hz1 Hr.out.grown.size
            have hcn : countB fl ≤ 60 := by omega
            go_wp2_with fail
            refine (guessed_walk p s st3 kind (countB fl) _ hs hpc hcn hk Hr.out.spot).mono ?_
            rintro e w5 ⟨v5, rfl, hrow5, hok5, hsp5, hg5⟩
            have HC2 := HC.out
            rw [if_neg hc0] at HC2
            generalize guessR kind (countB fl) st3 = gr at *
            obtain ⟨V, st5⟩ := gr
            simp only at hrow5 hok5 hsp5 HC2
            have HC3 := hid HC2
            clear HC HC2 hc0
            obtain ⟨a5, cap5, rfl, -, -⟩ := own_lies hrow5 hok5
            obtain ⟨hbad5, -⟩ := spot_isBad hsp5
            have HW5 := hid hrow5
            have HO5 := hid hok5
            have HB5 := hid (HB3.out.grown hg5 HB3.out.size (fun k hk => by simp at hk; have := Hpe.out; omega))
            have HR5 := hid (keep_row Hr.out.row hz1 hg5)
            have hz5 := hg5.size
            clear hrow5 hok5 hsp5 hg5 hbad
            by_cases hno5 : st5 = none ∨ V.length ≠ countB fl
            · have HN : Hid (unpageB kind s = none) := by
                have h1 := HC3.out
                rw [if_pos hno5] at h1
                simp only [Hid, unpageB, h1]
              by_cases hb3 : st5 = none
              · subst hb3
                simp only [isBad] at hbad5
                clear hno5
                go_wp2_with fail
                go_ret2
                rw [HN.out]
                exact ⟨_, rfl, ⟨none, 0, rfl⟩, HB5.out⟩
              · have hb4 : isBad st5 = false := by
                  cases st5 with
                  | none => exact absurd rfl hb3
                  | some x => rfl
                have hne5 : ((V.length : Int) != (countB fl : Int)) = true := by
                  have : V.length ≠ countB fl := hno5.resolve_left hb3
                  simp; omega
                rw [hb4] at hbad5
                clear hno5 hb3 hb4
                go_wp2_with fail
                go_ret2
                rw [HN.out]
                exact ⟨_, rfl, ⟨none, 0, rfl⟩, HB5.out⟩
            · have hV1 : st5 ≠ none := fun h => hno5 (.inl h)
              have hV2 : V.length = countB fl := Classical.byContradiction fun h => hno5 (.inr h)
              have HE : Hid (cellsR kind s = some (fillB fl V)) := by
                have h1 := HC3.out
                rw [if_neg hno5] at h1
                exact h1
              have hb4 : isBad st5 = false := by
                cases st5 with
                | none => exact absurd rfl hV1
                | some x => rfl
              have hne5 : ((V.length : Int) != (countB fl : Int)) = false := by simp; omega
              rw [hb4] at hbad5
              have HV2 := hid hV2
              clear hno5 hV1 hb4 HC3 hV2
              go_upto_block 4 with fail
              obtain ⟨g, rfl, hgB⟩ : ∃ g, a = some ⟨g, 0, none⟩ ∧ w1.heap.size ≤ g := by
                rcases HR5.out.2 with ⟨h1, h2⟩ | ⟨g, c, cur, h1, h2, h3⟩
                · omega
                · simp only [Value.slice.injEq] at h1
                  exact ⟨g, h1.1, h2⟩
              have hgc : g < wc.heap.size := (Hr.out.row.lt g rfl).2
              clear hbad5 hne5
              go_wp2_with fail
              go_loopw [15, 16] (fun av i wr => ∃ k : Nat, k ≤ fl.length ∧ i = .int .i64 (k : Int) ∧ av = .int .i64 (countB (fl.take k) : Int) ∧ wr.ownsRow w1.heap.size 48 3 (.slice (some ⟨g, 0, none⟩) fl.length cap) fl.length (cellsC (midL fl V k)) ∧ wr.ownsRow wc.heap.size 48 3 (.slice a5 V.length cap5) V.length (cellsC V) ∧ Below w.heap.size w wr)
                (fun _ i _ => fl.length - (intOf i).toNat)
              case atStart => exact ⟨0, Nat.zero_le _, rfl, rfl, by rw [mid_zero]; exact HR5.out, HW5.out, HB5.out⟩
              case round =>
                obtain ⟨k, hkn, rfl, rfl, hrw, hvw, hB⟩ := hrel
                have Hrw := hid hrw
                have Hvw := hid hvw
                have HB := hid hB
                clear hrw hvw hB
                by_cases hlt : k < fl.length
                · have hrow := Hrw.out
                  obtain ⟨c1, c2, c3, f1, f2, f3⟩ := own_at hrow (by rw [mid_length]) k hlt (flagC fl[k]) (mid_at fl V k hlt)
                  cases hfk : fl[k] with
                  | true =>
                    rw [hfk] at c1 c2 c3
                    simp only [flagC] at c1 c2 c3
                    have HM : Hid (midL fl V (k + 1) = midL fl V k) := mid_true fl V k hlt hfk
                    have HA : Hid (countB (fl.take (k + 1)) = countB (fl.take k)) := count_take_same fl k hlt hfk
                    clear hrow hfk c2 c3 f1 f2 f3
                    go_wp2_with fail
                    go_roundw
                    case rel => exact ⟨k + 1, by omega, by go_num, by rw [HA.out], by rw [HM.out]; exact Hrw.out, Hvw.out, HB.out⟩
                    case measure => simp [intOf]; omega
                  | false =>
                    rw [hfk] at c1 c2 c3
                    simp only [flagC] at c1 c2 c3
                    obtain ⟨ht1, ht2⟩ := count_take_lt fl k hlt hfk
                    have HA := hid ht2
                    have hat : countB (fl.take k) < V.length := by rw [HV2.out]; exact ht1
                    have HM : Hid (midL fl V (k + 1) = (midL fl V k).set k (V[countB (fl.take k)]'hat)) := mid_false fl V k hlt hfk hat
                    obtain ⟨g5, rfl, hg5⟩ : ∃ g5, a5 = some ⟨g5, 0, none⟩ ∧ wc.heap.size ≤ g5 := by
                      rcases Hvw.out.2 with ⟨h1, h2⟩ | ⟨g, c, cur, h1, h2, h3⟩
                      · omega
                      · simp only [Value.slice.injEq] at h1
                        exact ⟨g, h1.1, h2⟩
                    obtain ⟨d1, d2, d3, -, -, -⟩ := own_at Hvw.out rfl (countB (fl.take k)) hat _ (List.getElem?_eq_getElem hat)
                    have hat6 : countB (fl.take k) ≤ 60 := by have := HV2.out; omega
                    generalize hatd : countB (fl.take k) = at_ at *
                    have hati : (at_ : Int) < (V.length : Int) := by omega
                    clear hrow hfk ht1 ht2
                    have HS : Hid ((((wr.setCell ⟨g, k * 3, none⟩ (.bool (V[at_]).null)).setCell ⟨g, k * 3 + 1, none⟩ (.int .i64 (V[at_]).int)).setCell ⟨g, k * 3 + 2, none⟩ (strB (V[at_]).text)).ownsRow w1.heap.size 48 3 (.slice (some ⟨g, 0, none⟩) fl.length cap) fl.length (cellsC (midL fl V (k + 1)))) := by
                      have h := own_set (l := midL fl V k) (c := V[at_]) (k := k) (by rw [mid_length]; exact Hrw.out) (by rw [mid_length]; exact hlt)
                      rw [mid_length] at h
                      rw [Hid, HM.out]
                      exact h
                    have HG := hid (own_set_grown wr g (k * 3) (k * 3 + 1) (k * 3 + 2) (.bool (V[at_]).null) (.int .i64 (V[at_]).int) (strB (V[at_]).text))
                    have HV : Hid ((((wr.setCell ⟨g, k * 3, none⟩ (.bool (V[at_]).null)).setCell ⟨g, k * 3 + 1, none⟩ (.int .i64 (V[at_]).int)).setCell ⟨g, k * 3 + 2, none⟩ (strB (V[at_]).text)).ownsRow wc.heap.size 48 3 (.slice (some ⟨g5, 0, none⟩) V.length cap5) V.length (cellsC V)) :=
                      Hvw.out.kept HG.out (.inr (by simp only [Value.ownBlock, ne_eq, Option.some.injEq]; omega))
                    have HB8 := hid (HB.out.grown HG.out HB.out.size (fun j hj => by simp at hj; have := HB1.out.size; omega))
                    go_wp2_with fail
                    go_roundw
                    case rel => exact ⟨k + 1, by omega, by go_num, by rw [HA.out]; go_num, HS.out, HV.out, HB8.out⟩
                    case measure => simp [intOf]; omega
                · have hke : k = fl.length := by omega
                  subst hke
                  go_wp2_with fail
                  go_meet
                  case rel => exact ⟨fillB fl V, fillB_length _ _, rfill_ok fl V HO5.out, by rw [← mid_all]; exact Hrw.out, HB.out, HE.out⟩
        case rest =>
          obtain ⟨L, hLn, hokL, hrowL, hBL, hcl2⟩ := hcut
          obtain ⟨a2, cap2, hav, -, hlies⟩ := own_lies hrowL hokL
          have HL := hid hlies
          have HB9 := hid hBL
          have HU : Hid (unpageB kind s = if cellsOkB kind L = true ∧ pageB kind L = s then some L else none) := by simp only [Hid, unpageB, hcl2]
          have hL60 : L.length ≤ 60 := by omega
          obtain ⟨rfl, hcc, rfl⟩ : a = a2 ∧ fl.length = L.length ∧ cap = cap2 := by simpa using hav
          have HOK := hid hokL
          rw [hcc]
          clear hav hrowL hokL hlies hBL hcl2 hno hne hcc hLn hfn hcl
          go_wp2_with fail
          refine (cells_any kind a cap L _ (by unfold maxLen; omega) HL.out).mono ?_
          rintro e w6 ⟨rfl, hb6⟩
          have HL6 := hid (HL.out.later hb6)
          have HB6 := hid (HB9.out.trans (hb6.mono HB9.out.size))
          clear hb6
          cases hok : cellsOkB kind L with
          | false =>
            have HN : Hid (unpageB kind s = none) := by
              rw [Hid, HU.out, if_neg (by simp [hok])]
            clear hok
            go_wp2_with fail
            go_ret2
            rw [HN.out]
            exact ⟨_, rfl, ⟨none, 0, rfl⟩, HB6.out⟩
          | true =>
            have hsm := (ok_small hok HOK.out).1
            have HV : Hid (Vals w6 a L) := ⟨HL6.out, hsm, hL60⟩
            have HU2 : Hid (unpageB kind s = if pageB kind L = s then some L else none) := by
              rw [Hid, HU.out, hok]; simp
            clear hok hsm
            go_wp2_with fail
            refine (page_any kind a cap L _ HV.out).mono ?_
            rintro e w7 ⟨rfl, hb7⟩
            have HL7 := hid (HL6.out.later hb7)
            have HB7 := hid (HB6.out.trans (hb7.mono HB6.out.size))
            clear hb7
            by_cases heq : pageB kind L = s
            · have HS9 : Hid (unpageB kind s = some L) := by rw [Hid, HU2.out, if_pos heq]
              rw [heq]
              clear HU2 HU heq
              go_wp2_with fail
              go_ret2
              rw [HS9.out]
              exact ⟨_, rfl, ⟨a, cap, rfl, HL7.out⟩, HB7.out⟩
            · have HN : Hid (unpageB kind s = none) := by rw [Hid, HU2.out, if_neg heq]
              have hbn : (pageB kind L == s) = false := by simp [heq]
              clear HU2 HU heq
              generalize pageB kind L = pg at *
              go_wp2_with fail
              go_ret2
              rw [HN.out]
              exact ⟨_, rfl, ⟨none, 0, rfl⟩, HB7.out⟩

set_option maxHeartbeats 1000000 in
theorem unpage_does : UnpageDoes := by
  intro kind page w h0 h1 hs
  by_cases hk : kind = 0 ∨ kind = 1
  · have hp : (Value.string page) = strB page.data.toList := by simp [strB]
    rw [hp]
    exact unpage_in kind page.data.toList w hk (by have : page.data.toList.length = page.size := rfl
                                                   omega)
  · have HN := hid (unpage_kind hk page.data.toList)
    have hk0 : (kind != 0) = true := by simp; omega
    have hk1 : (kind != 1) = true := by simp; omega
    clear hk
    go_enter Try.func41, Try.ntmps41
    go_wp2_with fail
    go_ret2
    rw [HN.out]
    exact ⟨_, rfl, ⟨none, 0, rfl⟩, Below.refl _ _⟩

end Go.Proofs.Ytijeolmmoffdfaa

namespace Go.Proofs.Ytijeolmmoffdfaa

theorem unpacks_holds : Rows.UnpacksSaid := unpacks.over unpage_does

#print axioms unpacks_holds

end Go.Proofs.Ytijeolmmoffdfaa
