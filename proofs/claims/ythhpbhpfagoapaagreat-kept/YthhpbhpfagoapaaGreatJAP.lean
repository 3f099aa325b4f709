import Derived.Test.YthhpbhpfagoapaaGreatJAM
import Derived.Test.YthhpbhpfagoapaaGreatJAS
import Derived.Test.YthhpbhpfagoapaaGreatJAL
import Derived.Lib.Strings
namespace Go.Proofs.YthhpbhpfagoapaaGreat
set_option linter.unusedVariables false
set_option linter.unusedSimpArgs false
set_option maxRecDepth 100000
set_option maxHeartbeats 16000000
open Go.RowKit
section
def DG (w:World) (v:Value):Option (List CellB)→Prop
 | none=>∃ a cap,v=.slice a 0 cap
 | some l=>∃ a cap,v=.slice a l.length cap∧Lies w a l
def LB:Option (List CellB)→Int
 | none=>6
 | some _=>0
def Do:Prop:=∀ (kind:Int) (page:ByteArray) (w:World),-9223372036854775808≤kind→kind≤9223372036854775807→page.size≤maxLen →
 Calls Tryz.prog 24 #[.int .i64 kind,.string page] w fun e w'=>∃ v,e=.returned (.tuple #[v,.int .i64 (LB (xf kind page.data.toList))])∧DG w' v (xf kind page.data.toList)∧Below w.heap.size w w'
end
section
def Ih (body:List UInt8):List UInt8:=body.take (body.length - 2)
def Se (body:List UInt8):List UInt8:=body.drop (body.length - 2)
def KC (sec non ext body:List UInt8):Bool:=Se body == GU sec non ext (Ih body)
theorem Io (sec non ext c:List UInt8):xV sec non ext (zo sec non c)=c++GU sec non ext c:=by
 unfold xV
 rw [VF]
theorem Ng (sec non ext body:List UInt8):(xV sec non ext (zo sec non (Ih body)) == body)=KC sec non ext body:=by
 rw [Io]
 have h:body=Ih body++Se body:=(List.take_append_drop _ _).symm
 unfold KC
 rw [Bool.eq_iff_iff]
 simp only [beq_iff_eq]
 constructor
 ·intro e
  have:=e.trans h
  exact (List.append_cancel_left this).symm
 ·intro e
  rw [← e];exact h.symm
theorem EW (sec non ext body:ByteArray) (w:World) (h:body.size < 2) :
  Calls Tryz.prog 180 #[.string sec,.string non,.string ext,.string body] w fun e w' =>
   e=.returned (.tuple #[strB [],.bool false])∧w'=w:=by
 go_enter Tryz.func180,Tryz.ntmps180
 go_wp2
 go_ret2
 exact ⟨rfl,rfl⟩
theorem IA (b:ByteArray):b.data.toList.length=b.size:=by simp
theorem Sw (body:ByteArray):(body.extract 0 (body.size - 2)).data.toList=Ih body.data.toList:=by
 simp [Ih]
theorem Pe (body:ByteArray) (hb:body.size≤5002):(body.extract 0 (body.size - 2)).size≤5000:=by
 simp;omega
theorem Tr (sec non ext:List UInt8) (body:ByteArray) (h:2≤body.size) :
  (!(body.extract ((body.size:Int) - 2).toNat body.size).toList == GU sec non ext (List.take (body.size - 2) body.data.toList))=!KC sec non ext body.data.toList:=by
 have e1:((body.size:Int) - 2).toNat=body.size - 2:=by omega
 have e2:(body.extract (body.size - 2) body.size).toList=Se body.data.toList:=by
  unfold Se
  rw [IA,Lib.extract_toList,List.take_of_length_le (by rw [List.length_drop,IA];omega)]
 rw [e1,e2]
 rfl
theorem Mq (sec non ext body:ByteArray) (w:World) (h:2≤body.size) (hb:body.size≤5002) (h1:sec.size≤1000) (h2:non.size≤1000) (h3:ext.size≤5000)
  (ho:KC sec.data.toList non.data.toList ext.data.toList body.data.toList=true) :
  Calls Tryz.prog 180 #[.string sec,.string non,.string ext,.string body] w fun e w' =>
   e=.returned (.tuple #[strB (zo sec.data.toList non.data.toList (Ih body.data.toList)),.bool true])∧Below w.heap.size w w':=by
 have hm:(1000:Nat)≤maxLen:=by decide
 have i1:(2:Int)≤(body.size:Int):=by omega
 have i2:(body.size:Int) - 2≤(body.size:Int):=by omega
 have i3:(0:Int)≤(body.size:Int) - 2:=by omega
 have hcmp:=Tr sec.data.toList non.data.toList ext.data.toList body h
 rw [ho] at hcmp
 clear ho
 go_enter Tryz.func180,Tryz.ntmps180
 go_wp2_with fail
 go_region_with (go_at_call 239;refine (YB sec non ext _ _ (Nat.le_trans h1 hm) (Nat.le_trans h2 hm) h3 ?_).mono ?_;(simp;unfold maxLen;omega);rintro e w1 ⟨rfl,hb1⟩)
 all_goals
  go_wp2_with fail
  refine (IQ sec non _ _ (Nat.le_trans h1 hm) (Nat.le_trans h2 hm) (Pe body hb)).mono ?_
  rintro e w2 ⟨rfl,hb2⟩
  rw [Sw]
  go_wp2
  go_ret2
  exact ⟨rfl,(ji hb1).trans (hb2.mono hb1.size)⟩
theorem Tl (sec non ext body:ByteArray) (w:World) (h:2≤body.size) (hb:body.size≤5002) (h1:sec.size≤1000) (h2:non.size≤1000) (h3:ext.size≤5000)
  (ho:KC sec.data.toList non.data.toList ext.data.toList body.data.toList=false) :
  Calls Tryz.prog 180 #[.string sec,.string non,.string ext,.string body] w fun e w' =>
   e=.returned (.tuple #[strB [],.bool false])∧Below w.heap.size w w':=by
 have hm:(1000:Nat)≤maxLen:=by decide
 have i1:(2:Int)≤(body.size:Int):=by omega
 have i2:(body.size:Int) - 2≤(body.size:Int):=by omega
 have i3:(0:Int)≤(body.size:Int) - 2:=by omega
 have hcmp:=Tr sec.data.toList non.data.toList ext.data.toList body h
 rw [ho] at hcmp
 clear ho
 go_enter Tryz.func180,Tryz.ntmps180
 go_wp2_with fail
 go_region_with (go_at_call 239;refine (YB sec non ext _ _ (Nat.le_trans h1 hm) (Nat.le_trans h2 hm) h3 ?_).mono ?_;(simp;unfold maxLen;omega);rintro e w1 ⟨rfl,hb1⟩)
 all_goals
  go_wp2
  go_ret2
  exact ⟨rfl,ji hb1⟩
end
end Go.Proofs.YthhpbhpfagoapaaGreat
