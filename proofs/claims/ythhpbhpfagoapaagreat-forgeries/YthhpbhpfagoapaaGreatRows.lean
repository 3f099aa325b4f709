/-
  No cell of these rows narrows 'for every input' (looked for: loops, veiled, ifaces, maps, wideKeys, modest, calm, conditions, laid).
  DERIVED. THE GIVEN ROWS OF THIS SEAT. 6 by the template 'for every input the law returns true; each argument reads behind the call as it read before'; 0 by the template 'total and deterministic' (their statements: YthhpbhpfagoapaaGreatTotals.lean).
  GIVEN WITH THE SEED: the statements are not yours to turn. If you find one false, say at which input.
  Laid BY PROGRAM, IN A SANDBOX (cutbox-rows.mjs): the forced cells as the released guide's own fill.sh prints them over the translation 5648c6ddc21c0f66… (all of the seat's roots in one cut). By AI agents, Wed Nov 11 2026. No macro, syntax, notation, axiom, sorry.
-/
import Derived.Test.YthhpbhpfagoapaaGreatChecked
import GoSem.Claim
import GoSem.ClaimJoined
import GoSem.ClaimMapViews
import Derived.JoinedTies
import Derived.KernelRfl
namespace Go.Proofs.YthhpbhpfagoapaaGreat
/- THE CELL 'sum', in the pinned program and in every row, IS THE sha256 OF THE DUMP (.gsa) THAT YthhpbhpfagoapaaGreatProg.lean LOADS. Nothing in Lean hashes anything: it is a label: what it is worth is what the hold of that sum in a sandbox is worth. -/
noncomputable def Tryz.pinned : Pinned := { name := "ythhpbhpfagoapaagreat", sum := "5648c6ddc21c0f6684e8cf2c0e576d1dad9bf6771b2fd4b4017fea381b6cfbd2", checked := Tryz.checked }
namespace Rows
def none {H : Type} : Left H := { results := [], args := [] }

/-- 'cofferlaw.Writes': WHATEVER THE INPUT: true; the input reads as it did. -/
def writesSpec : ChangeSpec := { name := "writes", fn := fun _ => fun
  | [d1, d2] => { results := [.lit (.bool true)], args := [d1, d2] }
  | _ => none }
def writesRow : OpenClaim := { program := "ythhpbhpfagoapaagreat", sum := "5648c6ddc21c0f6684e8cf2c0e576d1dad9bf6771b2fd4b4017fea381b6cfbd2", func := "coffer/cofferlaw.Writes", spec := "writes", unfollowed := true, recurses := true, apart := false }
def WritesSaid : Prop := writesRow.holds Tryz.pinned (OpenSpec.ofChange writesSpec)

/-- ITS FALSE NEIGHBOUR: 'it returns false'. Refute it at one input. -/
def writesWrong : ChangeSpec := { name := "writes", fn := fun _ => fun
  | [d1, d2] => { results := [.lit (.bool false)], args := [d1, d2] }
  | _ => none }
def WritesWrongFalsely : Prop := writesRow.holds Tryz.pinned (OpenSpec.ofChange writesWrong)

/-- 'cofferlaw.Reads': WHATEVER THE INPUT: true; the input reads as it did. -/
def readsSpec : ChangeSpec := { name := "reads", fn := fun _ => fun
  | [d1, d2, d3, d4] => { results := [.lit (.bool true)], args := [d1, d2, d3, d4] }
  | _ => none }
def readsRow : OpenClaim := { program := "ythhpbhpfagoapaagreat", sum := "5648c6ddc21c0f6684e8cf2c0e576d1dad9bf6771b2fd4b4017fea381b6cfbd2", func := "coffer/cofferlaw.Reads", spec := "reads", unfollowed := true, recurses := true, apart := false }
def ReadsSaid : Prop := readsRow.holds Tryz.pinned (OpenSpec.ofChange readsSpec)

/-- ITS FALSE NEIGHBOUR: 'it returns false'. Refute it at one input. -/
def readsWrong : ChangeSpec := { name := "reads", fn := fun _ => fun
  | [d1, d2, d3, d4] => { results := [.lit (.bool false)], args := [d1, d2, d3, d4] }
  | _ => none }
def ReadsWrongFalsely : Prop := readsRow.holds Tryz.pinned (OpenSpec.ofChange readsWrong)

/-- 'cofferlaw.Forgeries': WHATEVER THE INPUT: true; the input reads as it did. -/
def forgeriesSpec : ChangeSpec := { name := "forgeries", fn := fun _ => fun
  | [d1, d2, d3, d4] => { results := [.lit (.bool true)], args := [d1, d2, d3, d4] }
  | _ => none }
def forgeriesRow : OpenClaim := { program := "ythhpbhpfagoapaagreat", sum := "5648c6ddc21c0f6684e8cf2c0e576d1dad9bf6771b2fd4b4017fea381b6cfbd2", func := "coffer/cofferlaw.Forgeries", spec := "forgeries", unfollowed := true, recurses := true, apart := false }
def ForgeriesSaid : Prop := forgeriesRow.holds Tryz.pinned (OpenSpec.ofChange forgeriesSpec)

/-- ITS FALSE NEIGHBOUR: 'it returns false'. Refute it at one input. -/
def forgeriesWrong : ChangeSpec := { name := "forgeries", fn := fun _ => fun
  | [d1, d2, d3, d4] => { results := [.lit (.bool false)], args := [d1, d2, d3, d4] }
  | _ => none }
def ForgeriesWrongFalsely : Prop := forgeriesRow.holds Tryz.pinned (OpenSpec.ofChange forgeriesWrong)

/-- 'cofferlaw.All': WHATEVER THE INPUT: true; the input reads as it did. -/
def allSpec : ChangeSpec := { name := "all", fn := fun _ => fun
  | [d] => { results := [.lit (.bool true)], args := [d] }
  | _ => none }
def allRow : OpenClaim := { program := "ythhpbhpfagoapaagreat", sum := "5648c6ddc21c0f6684e8cf2c0e576d1dad9bf6771b2fd4b4017fea381b6cfbd2", func := "coffer/cofferlaw.All", spec := "all", unfollowed := true, recurses := true, apart := false }
def AllSaid : Prop := allRow.holds Tryz.pinned (OpenSpec.ofChange allSpec)

/-- ITS FALSE NEIGHBOUR: 'it returns false'. Refute it at one input. -/
def allWrong : ChangeSpec := { name := "all", fn := fun _ => fun
  | [d] => { results := [.lit (.bool false)], args := [d] }
  | _ => none }
def AllWrongFalsely : Prop := allRow.holds Tryz.pinned (OpenSpec.ofChange allWrong)

/-- 'cofferkeep.Known': WHATEVER THE INPUT: true; the input reads as it did. -/
def knownSpec : ChangeSpec := { name := "known", fn := fun _ => fun
  | [d] => { results := [.lit (.bool true)], args := [d] }
  | _ => none }
def knownRow : OpenClaim := { program := "ythhpbhpfagoapaagreat", sum := "5648c6ddc21c0f6684e8cf2c0e576d1dad9bf6771b2fd4b4017fea381b6cfbd2", func := "coffer/cofferkeep.Known", spec := "known", unfollowed := true, recurses := true, apart := false }
def KnownSaid : Prop := knownRow.holds Tryz.pinned (OpenSpec.ofChange knownSpec)

/-- ITS FALSE NEIGHBOUR: 'it returns false'. Refute it at one input. -/
def knownWrong : ChangeSpec := { name := "known", fn := fun _ => fun
  | [d] => { results := [.lit (.bool false)], args := [d] }
  | _ => none }
def KnownWrongFalsely : Prop := knownRow.holds Tryz.pinned (OpenSpec.ofChange knownWrong)

/-- 'cofferkeep.Kept': WHATEVER THE INPUT: true; the input reads as it did. -/
def keptSpec : ChangeSpec := { name := "kept", fn := fun _ => fun
  | [d1, d2, d3, d4, d5] => { results := [.lit (.bool true)], args := [d1, d2, d3, d4, d5] }
  | _ => none }
def keptRow : OpenClaim := { program := "ythhpbhpfagoapaagreat", sum := "5648c6ddc21c0f6684e8cf2c0e576d1dad9bf6771b2fd4b4017fea381b6cfbd2", func := "coffer/cofferkeep.Kept", spec := "kept", unfollowed := true, recurses := true, apart := false }
def KeptSaid : Prop := keptRow.holds Tryz.pinned (OpenSpec.ofChange keptSpec)

/-- ITS FALSE NEIGHBOUR: 'it returns false'. Refute it at one input. -/
def keptWrong : ChangeSpec := { name := "kept", fn := fun _ => fun
  | [d1, d2, d3, d4, d5] => { results := [.lit (.bool false)], args := [d1, d2, d3, d4, d5] }
  | _ => none }
def KeptWrongFalsely : Prop := keptRow.holds Tryz.pinned (OpenSpec.ofChange keptWrong)

/- THE SECOND FORM. 'bulk': how many values and letters a reading holds, each counted each time it is reached (what is shared counts as often as it is met; a slice's spare places count too). A statement '..UptoSaid' is the law's where the arguments, and the package variables that the reading takes, are together of bulk at most 1048576: NARROWER than '..Said'. Prove '..Said' where nothing that the law and all that it calls make is longer than what came in: it says more and counts as full. Else prove '..UptoSaid'. A law counts once. -/
mutual
def uptoBulk {H : Type} : DataW H → Nat
  | .lit (.string bytes) => bytes.length + 1
  | .lit _ => 1
  | .nil => 1
  | .ptr d => uptoBulk d + 1
  | .slice elems spare => uptoBulkAll elems + uptoBulkAll spare + 1
  | .agg parts => uptoBulkAll parts + 1
  | .iface _ d => uptoBulk d + 1
  | .map entries => uptoBulkEntries entries + 1
  | .held _ => 1
def uptoBulkAll {H : Type} : List (DataW H) → Nat
  | [] => 0
  | d :: r => uptoBulk d + uptoBulkAll r
def uptoBulkEntries {H : Type} : List (Lit × DataW H) → Nat
  | [] => 0
  | x :: r => uptoBulkEntry x + uptoBulkEntries r
def uptoBulkEntry {H : Type} : Lit × DataW H → Nat
  | (.string bytes, d) => bytes.length + uptoBulk d + 1
  | (_, d) => uptoBulk d + 1
 end
def uptoSmall : (H : Type) → List (DataW H) → Bool := fun _ ds => decide (uptoBulkAll ds ≤ 1048576)
def OpenSpec.upto (s : _root_.Go.ChangeSpec) : _root_.Go.OpenSpec := { _root_.Go.OpenSpec.ofChange s with cond := some uptoSmall }

/-- 'cofferlaw.Writes', WHERE WHAT IT READS IS OF BULK AT MOST 1048576: true; the input reads as it did. -/
def writesUptoRow : OpenClaim := { program := "ythhpbhpfagoapaagreat", sum := "5648c6ddc21c0f6684e8cf2c0e576d1dad9bf6771b2fd4b4017fea381b6cfbd2", func := "coffer/cofferlaw.Writes", spec := "writes", unfollowed := true, recurses := true, apart := false, narrowed := true }
def WritesUptoSaid : Prop := writesUptoRow.holds Tryz.pinned (OpenSpec.upto writesSpec)

/-- 'cofferlaw.Reads', WHERE WHAT IT READS IS OF BULK AT MOST 1048576: true; the input reads as it did. -/
def readsUptoRow : OpenClaim := { program := "ythhpbhpfagoapaagreat", sum := "5648c6ddc21c0f6684e8cf2c0e576d1dad9bf6771b2fd4b4017fea381b6cfbd2", func := "coffer/cofferlaw.Reads", spec := "reads", unfollowed := true, recurses := true, apart := false, narrowed := true }
def ReadsUptoSaid : Prop := readsUptoRow.holds Tryz.pinned (OpenSpec.upto readsSpec)

/-- 'cofferlaw.Forgeries', WHERE WHAT IT READS IS OF BULK AT MOST 1048576: true; the input reads as it did. -/
def forgeriesUptoRow : OpenClaim := { program := "ythhpbhpfagoapaagreat", sum := "5648c6ddc21c0f6684e8cf2c0e576d1dad9bf6771b2fd4b4017fea381b6cfbd2", func := "coffer/cofferlaw.Forgeries", spec := "forgeries", unfollowed := true, recurses := true, apart := false, narrowed := true }
def ForgeriesUptoSaid : Prop := forgeriesUptoRow.holds Tryz.pinned (OpenSpec.upto forgeriesSpec)

/-- 'cofferlaw.All', WHERE WHAT IT READS IS OF BULK AT MOST 1048576: true; the input reads as it did. -/
def allUptoRow : OpenClaim := { program := "ythhpbhpfagoapaagreat", sum := "5648c6ddc21c0f6684e8cf2c0e576d1dad9bf6771b2fd4b4017fea381b6cfbd2", func := "coffer/cofferlaw.All", spec := "all", unfollowed := true, recurses := true, apart := false, narrowed := true }
def AllUptoSaid : Prop := allUptoRow.holds Tryz.pinned (OpenSpec.upto allSpec)

/-- 'cofferkeep.Known', WHERE WHAT IT READS IS OF BULK AT MOST 1048576: true; the input reads as it did. -/
def knownUptoRow : OpenClaim := { program := "ythhpbhpfagoapaagreat", sum := "5648c6ddc21c0f6684e8cf2c0e576d1dad9bf6771b2fd4b4017fea381b6cfbd2", func := "coffer/cofferkeep.Known", spec := "known", unfollowed := true, recurses := true, apart := false, narrowed := true }
def KnownUptoSaid : Prop := knownUptoRow.holds Tryz.pinned (OpenSpec.upto knownSpec)

/-- 'cofferkeep.Kept', WHERE WHAT IT READS IS OF BULK AT MOST 1048576: true; the input reads as it did. -/
def keptUptoRow : OpenClaim := { program := "ythhpbhpfagoapaagreat", sum := "5648c6ddc21c0f6684e8cf2c0e576d1dad9bf6771b2fd4b4017fea381b6cfbd2", func := "coffer/cofferkeep.Kept", spec := "kept", unfollowed := true, recurses := true, apart := false, narrowed := true }
def KeptUptoSaid : Prop := keptUptoRow.holds Tryz.pinned (OpenSpec.upto keptSpec)

end Rows
end Go.Proofs.YthhpbhpfagoapaaGreat
