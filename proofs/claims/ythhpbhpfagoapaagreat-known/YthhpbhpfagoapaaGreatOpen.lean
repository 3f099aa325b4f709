import Derived.Test.YthhpbhpfagoapaaGreatJAG
import Derived.Lib.Strings
namespace Go.Proofs.YthhpbhpfagoapaaGreat
set_option linter.unusedVariables false
set_option linter.unusedSimpArgs false
set_option maxRecDepth 100000
set_option maxHeartbeats 16000000
open Go.RowKit
def cipB (body:List UInt8):List UInt8:=body.take (body.length - 2)
def endB (body:List UInt8):List UInt8:=body.drop (body.length - 2)
def opensB (sec non ext body:List UInt8):Bool:=endB body == tagB sec non ext (cipB body)
theorem bodyB_stirB (sec non ext c:List UInt8):bodyB sec non ext (stirB sec non c)=c++tagB sec non ext c:=by
 unfold bodyB
 rw [stirB_stirB]
theorem body_opens (sec non ext body:List UInt8):(bodyB sec non ext (stirB sec non (cipB body)) == body)=opensB sec non ext body:=by
 rw [bodyB_stirB]
 have h:body=cipB body++endB body:=(List.take_append_drop _ _).symm
 unfold opensB
 rw [Bool.eq_iff_iff]
 simp only [beq_iff_eq]
 constructor
 ·intro e
  have:=e.trans h
  exact (List.append_cancel_left this).symm
 ·intro e
  rw [← e];exact h.symm
theorem plain_short (sec non ext body:ByteArray) (w:World) (h:body.size < 2) :
  Calls Tryz.prog 180 #[.string sec,.string non,.string ext,.string body] w fun e w' =>
   e=.returned (.tuple #[strB [],.bool false])∧w'=w:=by
 go_enter Tryz.func180,Tryz.ntmps180
 go_wp2
 go_ret2
 exact ⟨rfl,rfl⟩
theorem len_data (b:ByteArray):b.data.toList.length=b.size:=by simp
theorem ext_cip (body:ByteArray):(body.extract 0 (body.size - 2)).data.toList=cipB body.data.toList:=by
 simp [cipB]
theorem ext_size (body:ByteArray) (hb:body.size≤5002):(body.extract 0 (body.size - 2)).size≤5000:=by
 simp;omega
theorem cmp_of (sec non ext:List UInt8) (body:ByteArray) (h:2≤body.size) :
  (!(body.extract ((body.size:Int) - 2).toNat body.size).toList == tagB sec non ext (List.take (body.size - 2) body.data.toList))=!opensB sec non ext body.data.toList:=by
 have e1:((body.size:Int) - 2).toNat=body.size - 2:=by omega
 have e2:(body.extract (body.size - 2) body.size).toList=endB body.data.toList:=by
  unfold endB
  rw [len_data,Lib.extract_toList,List.take_of_length_le (by rw [List.length_drop,len_data];omega)]
 rw [e1,e2]
 rfl
theorem plain_yes (sec non ext body:ByteArray) (w:World) (h:2≤body.size) (hb:body.size≤5002) (h1:sec.size≤1000) (h2:non.size≤1000) (h3:ext.size≤5000)
  (ho:opensB sec.data.toList non.data.toList ext.data.toList body.data.toList=true) :
  Calls Tryz.prog 180 #[.string sec,.string non,.string ext,.string body] w fun e w' =>
   e=.returned (.tuple #[strB (stirB sec.data.toList non.data.toList (cipB body.data.toList)),.bool true])∧Below w.heap.size w w':=by
 have hm:(1000:Nat)≤maxLen:=by decide
 have i1:(2:Int)≤(body.size:Int):=by omega
 have i2:(body.size:Int) - 2≤(body.size:Int):=by omega
 have i3:(0:Int)≤(body.size:Int) - 2:=by omega
 have hcmp:=cmp_of sec.data.toList non.data.toList ext.data.toList body h
 rw [ho] at hcmp
 clear ho
 go_enter Tryz.func180,Tryz.ntmps180
 go_wp2_with fail
 go_region_with (go_at_call 239;refine (tag_any sec non ext _ _ (Nat.le_trans h1 hm) (Nat.le_trans h2 hm) h3 ?_).mono ?_;(simp;unfold maxLen;omega);rintro e w1 ⟨rfl,hb1⟩)
 all_goals
  go_wp2_with fail
  refine (mask_any sec non _ _ (Nat.le_trans h1 hm) (Nat.le_trans h2 hm) (ext_size body hb)).mono ?_
  rintro e w2 ⟨rfl,hb2⟩
  rw [ext_cip]
  go_wp2
  go_ret2
  exact ⟨rfl,(below_undrew hb1).trans (hb2.mono hb1.size)⟩
theorem plain_no (sec non ext body:ByteArray) (w:World) (h:2≤body.size) (hb:body.size≤5002) (h1:sec.size≤1000) (h2:non.size≤1000) (h3:ext.size≤5000)
  (ho:opensB sec.data.toList non.data.toList ext.data.toList body.data.toList=false) :
  Calls Tryz.prog 180 #[.string sec,.string non,.string ext,.string body] w fun e w' =>
   e=.returned (.tuple #[strB [],.bool false])∧Below w.heap.size w w':=by
 have hm:(1000:Nat)≤maxLen:=by decide
 have i1:(2:Int)≤(body.size:Int):=by omega
 have i2:(body.size:Int) - 2≤(body.size:Int):=by omega
 have i3:(0:Int)≤(body.size:Int) - 2:=by omega
 have hcmp:=cmp_of sec.data.toList non.data.toList ext.data.toList body h
 rw [ho] at hcmp
 clear ho
 go_enter Tryz.func180,Tryz.ntmps180
 go_wp2_with fail
 go_region_with (go_at_call 239;refine (tag_any sec non ext _ _ (Nat.le_trans h1 hm) (Nat.le_trans h2 hm) h3 ?_).mono ?_;(simp;unfold maxLen;omega);rintro e w1 ⟨rfl,hb1⟩)
 all_goals
  go_wp2
  go_ret2
  exact ⟨rfl,below_undrew hb1⟩
end Go.Proofs.YthhpbhpfagoapaaGreat
