import Derived.Test.YthhpbhpfagoapaaGreatJAK
import Derived.BigQuiet
import Derived.Deep.QuietTactic
import Derived.WalkSmall
import Derived.OwnWalk
namespace Go.Proofs.YthhpbhpfagoapaaGreat
set_option linter.unusedVariables false
set_option linter.unusedSimpArgs false
set_option maxRecDepth 100000
set_option maxHeartbeats 16000000
open Go.RowKit
def letterB (b:UInt8):Bool:=decide (97≤b.toNat) && decide (b.toNat≤122)
theorem nameOk_eq (s:List UInt8):nameOkB s=(s.all letterB && (decide (1≤s.length) && decide (s.length≤8))):=rfl
theorem headsTo_no {t:List ColB} {k:Nat} (hk:k < t.length) (h:(headOkB t[k] && !hasNameB (t.take k) (t[k]).name)=false):headsOkB t=false:=by
 cases hh:headsOkB t with
 | false=>rfl
 | true =>
  simp only [headsOkB,Bool.and_eq_true] at hh
  obtain ⟨h1,h2⟩:=headsTo_at hh.1 (Nat.le_refl _) k hk
  rw [h1,h2] at h
  cases h
theorem headsTo_succ {t:List ColB} {k:Nat} (hk:k < t.length) (h:headsTo t k=true):headsTo t (k+1)=(headOkB t[k] && !hasNameB (t.take k) (t[k]).name):=by
 simp only [headsTo,h,Bool.true_and]
 rw [List.getElem?_eq_getElem hk]
theorem hasName_succ {t:List ColB} {k m:Nat} (hm:m < t.length) (hk:m < k) (s:List UInt8):hasNameB ((t.take k).take (m+1)) s=(hasNameB ((t.take k).take m) s || (t[m]).name == s):=by
 have hl:m < (t.take k).length:=by rw [List.length_take];omega
 rw [List.take_succ_eq_append_getElem hl]
 simp [hasNameB]
end Go.Proofs.YthhpbhpfagoapaaGreat
