/-
  No cell of these rows narrows 'for every input' (looked for: loops, veiled, ifaces, maps, wideKeys, modest, calm, conditions, laid).
  DERIVED. THE GIVEN ROWS OF THIS SEAT. 3 by the template 'for every input the law returns true; each argument reads behind the call as it read before'; 0 by the template 'total and deterministic' (their statements: YthhpbhpfagoapabGreatTotals.lean).
  GIVEN WITH THE SEED: the statements are not yours to turn. If you find one false, say at which input.
  Laid BY PROGRAM, IN A SANDBOX (cutbox-rows.mjs): the forced cells as the released guide's own fill.sh prints them over the translation dbce54b91a2cba9e… (all of the seat's roots in one cut). By AI agents, Wed Nov 11 2026. No macro, syntax, notation, axiom, sorry.
-/
import Derived.Test.YthhpbhpfagoapabGreatChecked
import GoSem.Claim
import GoSem.ClaimJoined
import GoSem.ClaimMapViews
import Derived.JoinedTies
import Derived.KernelRfl
namespace Go.Proofs.YthhpbhpfagoapabGreat
/- THE CELL 'sum', in the pinned program and in every row, IS THE sha256 OF THE DUMP (.gsa) THAT YthhpbhpfagoapabGreatProg.lean LOADS. Nothing in Lean hashes anything: it is a label: what it is worth is what the hold of that sum in a sandbox is worth. -/
noncomputable def Tryz.pinned : Pinned := { name := "ythhpbhpfagoapabgreat", sum := "dbce54b91a2cba9efb74498ddb40f18caadea2537d4cde52a9965bc554df9596", checked := Tryz.checked }
namespace Rows
def none {H : Type} : Left H := { results := [], args := [] }

/-- 'cofferkeep.Blind': WHATEVER THE INPUT: true; the input reads as it did. -/
def blindSpec : ChangeSpec := { name := "blind", fn := fun _ => fun
  | [d1, d2, d3, d4, d5] => { results := [.lit (.bool true)], args := [d1, d2, d3, d4, d5] }
  | _ => none }
def blindRow : OpenClaim := { program := "ythhpbhpfagoapabgreat", sum := "dbce54b91a2cba9efb74498ddb40f18caadea2537d4cde52a9965bc554df9596", func := "coffer/cofferkeep.Blind", spec := "blind", unfollowed := true, recurses := true, apart := false }
def BlindSaid : Prop := blindRow.holds Tryz.pinned (OpenSpec.ofChange blindSpec)

/-- ITS FALSE NEIGHBOUR: 'it returns false'. Refute it at one input. -/
def blindWrong : ChangeSpec := { name := "blind", fn := fun _ => fun
  | [d1, d2, d3, d4, d5] => { results := [.lit (.bool false)], args := [d1, d2, d3, d4, d5] }
  | _ => none }
def BlindWrongFalsely : Prop := blindRow.holds Tryz.pinned (OpenSpec.ofChange blindWrong)

/-- 'cofferkeep.Whole': WHATEVER THE INPUT: true; the input reads as it did. -/
def wholeSpec : ChangeSpec := { name := "whole", fn := fun _ => fun
  | [d1, d2, d3, d4, d5, d6] => { results := [.lit (.bool true)], args := [d1, d2, d3, d4, d5, d6] }
  | _ => none }
def wholeRow : OpenClaim := { program := "ythhpbhpfagoapabgreat", sum := "dbce54b91a2cba9efb74498ddb40f18caadea2537d4cde52a9965bc554df9596", func := "coffer/cofferkeep.Whole", spec := "whole", unfollowed := true, recurses := true, apart := false }
def WholeSaid : Prop := wholeRow.holds Tryz.pinned (OpenSpec.ofChange wholeSpec)

/-- ITS FALSE NEIGHBOUR: 'it returns false'. Refute it at one input. -/
def wholeWrong : ChangeSpec := { name := "whole", fn := fun _ => fun
  | [d1, d2, d3, d4, d5, d6] => { results := [.lit (.bool false)], args := [d1, d2, d3, d4, d5, d6] }
  | _ => none }
def WholeWrongFalsely : Prop := wholeRow.holds Tryz.pinned (OpenSpec.ofChange wholeWrong)

/-- 'cofferkeep.Taken': WHATEVER THE INPUT: true; the input reads as it did. -/
def takenSpec : ChangeSpec := { name := "taken", fn := fun _ => fun
  | [d1, d2, d3, d4] => { results := [.lit (.bool true)], args := [d1, d2, d3, d4] }
  | _ => none }
def takenRow : OpenClaim := { program := "ythhpbhpfagoapabgreat", sum := "dbce54b91a2cba9efb74498ddb40f18caadea2537d4cde52a9965bc554df9596", func := "coffer/cofferkeep.Taken", spec := "taken", unfollowed := true, recurses := true, apart := false }
def TakenSaid : Prop := takenRow.holds Tryz.pinned (OpenSpec.ofChange takenSpec)

/-- ITS FALSE NEIGHBOUR: 'it returns false'. Refute it at one input. -/
def takenWrong : ChangeSpec := { name := "taken", fn := fun _ => fun
  | [d1, d2, d3, d4] => { results := [.lit (.bool false)], args := [d1, d2, d3, d4] }
  | _ => none }
def TakenWrongFalsely : Prop := takenRow.holds Tryz.pinned (OpenSpec.ofChange takenWrong)

/- THE SECOND FORM. 'bulk': how many values and letters a reading holds, each counted each time it is reached (what is shared counts as often as it is met; a slice's spare places count too). A statement '..UptoSaid' is the law's where the arguments, and the package variables that the reading takes, are together of bulk at most 1048576: NARROWER than '..Said'. Prove '..Said' where nothing that the law and all that it calls make is longer than what came in: it says more and counts as full. Else prove '..UptoSaid'. A law counts once. -/
mutual
def uptoBulk {H : Type} : DataW H → Nat
  | .lit (.string bytes) => bytes.length + 1
  | .lit _ => 1
  | .nil => 1
  | .ptr d => uptoBulk d + 1
  | .slice elems spare => uptoBulkAll elems + uptoBulkAll spare + 1
  | .agg parts => uptoBulkAll parts + 1
  | .iface _ d => uptoBulk d + 1
  | .map entries => uptoBulkEntries entries + 1
  | .held _ => 1
def uptoBulkAll {H : Type} : List (DataW H) → Nat
  | [] => 0
  | d :: r => uptoBulk d + uptoBulkAll r
def uptoBulkEntries {H : Type} : List (Lit × DataW H) → Nat
  | [] => 0
  | x :: r => uptoBulkEntry x + uptoBulkEntries r
def uptoBulkEntry {H : Type} : Lit × DataW H → Nat
  | (.string bytes, d) => bytes.length + uptoBulk d + 1
  | (_, d) => uptoBulk d + 1
 end
def uptoSmall : (H : Type) → List (DataW H) → Bool := fun _ ds => decide (uptoBulkAll ds ≤ 1048576)
def OpenSpec.upto (s : _root_.Go.ChangeSpec) : _root_.Go.OpenSpec := { _root_.Go.OpenSpec.ofChange s with cond := some uptoSmall }

/-- 'cofferkeep.Blind', WHERE WHAT IT READS IS OF BULK AT MOST 1048576: true; the input reads as it did. -/
def blindUptoRow : OpenClaim := { program := "ythhpbhpfagoapabgreat", sum := "dbce54b91a2cba9efb74498ddb40f18caadea2537d4cde52a9965bc554df9596", func := "coffer/cofferkeep.Blind", spec := "blind", unfollowed := true, recurses := true, apart := false, narrowed := true }
def BlindUptoSaid : Prop := blindUptoRow.holds Tryz.pinned (OpenSpec.upto blindSpec)

/-- 'cofferkeep.Whole', WHERE WHAT IT READS IS OF BULK AT MOST 1048576: true; the input reads as it did. -/
def wholeUptoRow : OpenClaim := { program := "ythhpbhpfagoapabgreat", sum := "dbce54b91a2cba9efb74498ddb40f18caadea2537d4cde52a9965bc554df9596", func := "coffer/cofferkeep.Whole", spec := "whole", unfollowed := true, recurses := true, apart := false, narrowed := true }
def WholeUptoSaid : Prop := wholeUptoRow.holds Tryz.pinned (OpenSpec.upto wholeSpec)

/-- 'cofferkeep.Taken', WHERE WHAT IT READS IS OF BULK AT MOST 1048576: true; the input reads as it did. -/
def takenUptoRow : OpenClaim := { program := "ythhpbhpfagoapabgreat", sum := "dbce54b91a2cba9efb74498ddb40f18caadea2537d4cde52a9965bc554df9596", func := "coffer/cofferkeep.Taken", spec := "taken", unfollowed := true, recurses := true, apart := false, narrowed := true }
def TakenUptoSaid : Prop := takenUptoRow.holds Tryz.pinned (OpenSpec.upto takenSpec)

end Rows
end Go.Proofs.YthhpbhpfagoapabGreat
