/-
  Proved: the law Packs, for every input: whatever kind and cells are handed over, the call returns true, and each argument reads behind the call as it read before. No conditions.
-/
import Derived.Test.YthhpbhpfagoapaaRows
import Derived.Test.YthhpbhpfagoapaaLPacks
import Derived.Test.YthhpbhpfagoapaaOpenCells
import Derived.Test.YthhpbhpfagoapaaDPack
import Derived.WalkKit
import Derived.ProofKit
import Derived.OpenShut
import Derived.ShutString
namespace Go.Proofs.Ythhpbhpfagoapaa
namespace packs
open Go.ChangeShapes Go.WideShapes Go.ChangeAt Go.RowKit
set_option linter.unusedVariables false
set_option maxRecDepth 100000

theorem own : ownKnob Try.prog.godebug = none := by kernel_rfl
theorem laidOut : laidOutB Try.prog = true := by kernel_rfl
theorem bytesCell : Try.prog.bytesOf 48 = 32 := by kernel_rfl

set_option maxRecDepth 100000 in
theorem lifted (os : Os) (started : os.Started) (H : Type) (enc : TypeId × Value → H) :
    ReturnsInHanded {} Try.checked os 5 .any (Rows.packsSpec.pre6 enc Try.prog Try.f5 Rows.packsRow.domain false) (Rows.packsSpec.post enc Try.prog Try.f5 false true false false) := by
  refine returnsInHanded_of_change_sized (C := Try.checked) own started (by kernel_rfl) Try.func5
    (ChangeSpec.witness6 (enc := enc) (C := Try.checked) false ⟨#[], #[.int .i64 0, .slice none 0 0], []⟩ 8 (by kernel_rfl) (by kernel_rfl) (by kernel_rfl) (by kernel_rfl)) ?_
  intro W base args ds gs before hval0 hW hcnd hsz0 _
  have hval : ∀ (j : Nat) t v, Try.f5.params[j]? = some t → args[j]? = some v → Value.okWide Try.prog W .any base t v := hval0
  have hsz : (DataW.weightsEach Try.prog (Try.f5.params.toList ++ Rows.packsSpec.plain.varTypes Try.prog) (ds ++ gs)).all (· ≤ reachBytes) = true := hsz0
  have hW' := hW
  obtain ⟨p, q, hA0, hV, rfl, hfz, hnd⟩ := hW
  have hA : DataW.TrodAll enc Try.prog W 0 (fun _ => true) true Try.f5.params.toList args.toList ds p := hA0
  rw [Try.params5] at hA hval hsz
  obtain ⟨v0, vs0, d0, ds0, p0, q0, hargs, rfl, rfl, h0, r0⟩ := trodAll_cons hA
  obtain ⟨v1, vs1, d1, ds1, p1, q1, rfl, rfl, rfl, h1, r1⟩ := trodAll_cons r0
  obtain ⟨rfl, rfl, rfl⟩ := trodAll_nil r1
  obtain rfl : args = #[v0, v1] := by cases args; simp_all
  obtain ⟨rfl, rfl⟩ := trodVars_none hV
  obtain ⟨a0, rfl, rfl, rfl, w0⟩ := open_int Try.underlying3 (hval 0 3 v0 rfl rfl) h0
  obtain ⟨a1, len1, cap1, rfl⟩ := okWide_slice Try.underlying30 (hval 1 30 v1 rfl rfl)
  have k1 := h1
  have lt1 : ∀ x ∈ p1, x.block < W.heap.size := by obtain ⟨m, hm⟩ := k1; exact DataW.trod_lt m _ _ _ hm
  obtain ⟨l, hlen, hlc, hcm, hl, hbulk⟩ : ∃ l : List CellB, l.length = len1 ∧ len1 ≤ cap1 ∧ cap1 ≤ maxLen ∧ Lies W a1 l ∧ (len1 = 0 ∨ ∃ es sp, d1 = .slice es sp ∧ es.length + sp.length = cap1) := by
    obtain ⟨fuel, hf⟩ := h1
    exact open_cells hf
  have hm : l.length * 32 ≤ 140737488351232 := by
    rcases hbulk with h | ⟨es, sp, rfl, hc⟩
    · omega
    · have := sized_slice hsz (j := 1) (t := 30) (e := 48) rfl rfl Try.underlying30
      rw [bytesCell, hc] at this
      simp only [reachBytes] at this
      omega
  obtain ⟨x0, y0⟩ := wf_range w0
  clear hA0 hval0 hsz0
  subst hlen
  refine (packs_walk pack_does a0 a1 cap1 l W x0 y0 hm hl).mono fun e W' ⟨he, bel⟩ => ?_
  subst he
  exact ⟨_, rfl, _, _, _, [], _, [], hW', trodAll_mk1 (shut_bool Try.underlying4 _), (trodAll_cons_mk (shut_int Try.underlying3 w0) (trodAll_cons_mk (Below.trod laidOut (by kernel_rfl) (of_decide_eq_true (by kernel_rfl)) k1 bel lt1) trodAll_mk0)), rfl, bel.frame _, fun h => by cases h⟩

theorem over : Rows.packsRow.holds Try.pinned (OpenSpec.ofChange Rows.packsSpec) :=
  OpenClaim.holds_of_wide 5 Try.f5 rfl rfl rfl rfl rfl rfl rfl ⟨rfl, rfl, rfl, rfl, rfl⟩ rfl rfl rfl rfl rfl (by kernel_rfl) Try.func5 (by kernel_rfl)
    (of_decide_eq_true (by kernel_rfl)) (by unfold Func.isWrapper; first | (rw [if_pos (by decide +kernel)]; kernel_rfl) | (rw [if_neg (by decide +kernel)]; exact ⟨rfl, rfl⟩))
    (fun os started H enc _ => lifted os started H enc)

end packs

/-- THE STATEMENT. -/
theorem packs_holds : Rows.PacksSaid := packs.over
#print axioms packs_holds
end Go.Proofs.Ythhpbhpfagoapaa
