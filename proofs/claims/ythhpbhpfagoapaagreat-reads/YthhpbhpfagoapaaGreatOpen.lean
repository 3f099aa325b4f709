import Derived.Test.YthhpbhpfagoapaaGreatJAM
import Derived.Lib.Strings
namespace Go.Proofs.YthhpbhpfagoapaaGreat
set_option linter.unusedVariables false
set_option linter.unusedSimpArgs false
set_option maxRecDepth 100000
set_option maxHeartbeats 16000000
open Go.RowKit
def Ua (body:List UInt8):List UInt8:=body.take (body.length - 2)
def PK (body:List UInt8):List UInt8:=body.drop (body.length - 2)
def Zd (sec non ext body:List UInt8):Bool:=PK body == Rg sec non ext (Ua body)
theorem IU (sec non ext c:List UInt8):Xi sec non ext (zl sec non c)=c++Rg sec non ext c:=by
 unfold Xi
 rw [ID]
theorem ZJ (sec non ext body:List UInt8):(Xi sec non ext (zl sec non (Ua body)) == body)=Zd sec non ext body:=by
 rw [IU]
 have h:body=Ua body++PK body:=(List.take_append_drop _ _).symm
 unfold Zd
 rw [Bool.eq_iff_iff]
 simp only [beq_iff_eq]
 constructor
 ·intro e
  have:=e.trans h
  exact (List.append_cancel_left this).symm
 ·intro e
  rw [← e];exact h.symm
theorem Iw (sec non ext body:ByteArray) (w:World) (h:body.size < 2) :
  Calls Tryz.prog 180 #[.string sec,.string non,.string ext,.string body] w fun e w' =>
   e=.returned (.tuple #[strB [],.bool false])∧w'=w:=by
 go_enter Tryz.func180,Tryz.ntmps180
 go_wp2
 go_ret2
 exact ⟨rfl,rfl⟩
theorem Em (b:ByteArray):b.toList=b.data.toList:=ByteArray.toList_eq b
theorem Ra (b:ByteArray):b.data.toList.length=b.size:=by simp
theorem DL (body:ByteArray):(body.extract 0 (body.size - 2)).data.toList=Ua body.data.toList:=by
 simp [Ua]
theorem EB (body:ByteArray) (hb:body.size≤5002):(body.extract 0 (body.size - 2)).size≤5000:=by
 simp;omega
theorem TE (sec non ext:List UInt8) (body:ByteArray) (h:2≤body.size) :
  (!(body.extract ((body.size:Int) - 2).toNat body.size).toList == Rg sec non ext (List.take (body.size - 2) body.data.toList))=!Zd sec non ext body.data.toList:=by
 have e1:((body.size:Int) - 2).toNat=body.size - 2:=by omega
 have e2:(body.extract (body.size - 2) body.size).toList=PK body.data.toList:=by
  unfold PK
  rw [Ra,Lib.extract_toList,List.take_of_length_le (by rw [List.length_drop,Ra];omega)]
 rw [e1,e2]
 rfl
theorem Mi (sec non ext body:ByteArray) (w:World) (h:2≤body.size) (hb:body.size≤5002) (h1:sec.size≤1000) (h2:non.size≤1000) (h3:ext.size≤5000)
  (ho:Zd sec.data.toList non.data.toList ext.data.toList body.data.toList=true) :
  Calls Tryz.prog 180 #[.string sec,.string non,.string ext,.string body] w fun e w' =>
   e=.returned (.tuple #[strB (zl sec.data.toList non.data.toList (Ua body.data.toList)),.bool true])∧Below w.heap.size w w':=by
 have hm:(1000:Nat)≤maxLen:=by decide
 have i1:(2:Int)≤(body.size:Int):=by omega
 have i2:(body.size:Int) - 2≤(body.size:Int):=by omega
 have i3:(0:Int)≤(body.size:Int) - 2:=by omega
 have hcmp:=TE sec.data.toList non.data.toList ext.data.toList body h
 rw [ho] at hcmp
 clear ho
 go_enter Tryz.func180,Tryz.ntmps180
 go_wp2_with fail
 go_region_with (go_at_call 239;refine (DJ sec non ext _ _ (Nat.le_trans h1 hm) (Nat.le_trans h2 hm) h3 ?_).mono ?_;(simp;unfold maxLen;omega);rintro e w1 ⟨rfl,hb1⟩)
 all_goals
  go_wp2_with fail
  refine (Pf sec non _ _ (Nat.le_trans h1 hm) (Nat.le_trans h2 hm) (EB body hb)).mono ?_
  rintro e w2 ⟨rfl,hb2⟩
  rw [DL]
  go_wp2
  go_ret2
  exact ⟨rfl,(ji hb1).trans (hb2.mono hb1.size)⟩
theorem Te (sec non ext body:ByteArray) (w:World) (h:2≤body.size) (hb:body.size≤5002) (h1:sec.size≤1000) (h2:non.size≤1000) (h3:ext.size≤5000)
  (ho:Zd sec.data.toList non.data.toList ext.data.toList body.data.toList=false) :
  Calls Tryz.prog 180 #[.string sec,.string non,.string ext,.string body] w fun e w' =>
   e=.returned (.tuple #[strB [],.bool false])∧Below w.heap.size w w':=by
 have hm:(1000:Nat)≤maxLen:=by decide
 have i1:(2:Int)≤(body.size:Int):=by omega
 have i2:(body.size:Int) - 2≤(body.size:Int):=by omega
 have i3:(0:Int)≤(body.size:Int) - 2:=by omega
 have hcmp:=TE sec.data.toList non.data.toList ext.data.toList body h
 rw [ho] at hcmp
 clear ho
 go_enter Tryz.func180,Tryz.ntmps180
 go_wp2_with fail
 go_region_with (go_at_call 239;refine (DJ sec non ext _ _ (Nat.le_trans h1 hm) (Nat.le_trans h2 hm) h3 ?_).mono ?_;(simp;unfold maxLen;omega);rintro e w1 ⟨rfl,hb1⟩)
 all_goals
  go_wp2
  go_ret2
  exact ⟨rfl,ji hb1⟩
theorem Re (sec non ext body:ByteArray) (w:World) (h:body.size < 2) :
  Calls Tryz.prog 120 #[.string sec,.string non,.string ext,.string body] w fun e w' =>
   e=.returned (.tuple #[strB [],.bool false])∧w'=w:=by
 go_enter Tryz.func120,Tryz.ntmps120
 go_wp2
 go_ret2
 exact ⟨rfl,rfl⟩
theorem Tg (body:List UInt8):(Ua body).length=body.length - 2:=by simp [Ua]
theorem IV (sec non ext body:ByteArray) (w:World) (h:2≤body.size) (hb:body.size≤5002) (h1:sec.size≤1000) (h2:non.size≤1000) (h3:ext.size≤5000) :
  Calls Tryz.prog 120 #[.string sec,.string non,.string ext,.string body] w fun e w' =>
   e=.returned (.tuple #[strB (zl sec.data.toList non.data.toList (Ua body.data.toList)),.bool (Zd sec.data.toList non.data.toList ext.data.toList body.data.toList)])∧Below w.heap.size w w':=by
 have i1:(2:Int)≤(body.size:Int):=by omega
 have i2:(body.size:Int) - 2≤(body.size:Int):=by omega
 have i3:(0:Int)≤(body.size:Int) - 2:=by omega
 have HO:=hid (ZJ sec.data.toList non.data.toList ext.data.toList body.data.toList)
 have hl:(zl sec.data.toList non.data.toList (Ua body.data.toList)).length≤5000:=by rw [zE,Tg,Ra];omega
 go_enter Tryz.func120,Tryz.ntmps120
 go_wp2_with fail
 refine (VT sec non _ _ h1 h2 (EB body hb)).mono ?_
 rintro e w1 ⟨rfl,hb1⟩
 rw [DL]
 generalize hp:zl sec.data.toList non.data.toList (Ua body.data.toList)=plain at *
 have HP:=hid hp
 clear hp
 go_wp2_with fail
 refine (Ey sec non ext ⟨plain.toArray⟩ _ h1 h2 h3 (by rw [jK];exact hl)).mono ?_
 rintro e w2 ⟨rfl,hb2⟩
 have e0:(⟨plain.toArray⟩:ByteArray).data.toList=plain:=by simp
 rw [e0]
 clear e0
 generalize hq:Xi sec.data.toList non.data.toList ext.data.toList plain=bd at *
 have HQ:=hid hq
 clear hq
 go_wp2
 go_ret2
 refine ⟨?_,hb1.trans (hb2.mono hb1.size)⟩
 show Ending.returned (.tuple #[strB plain,.bool (bd == body.toList)])=_
 rw [HP.out,← HO.out,Em]
end Go.Proofs.YthhpbhpfagoapaaGreat
