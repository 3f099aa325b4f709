import Derived.Test.YthhpbhpfagoapaaGreatJAK
import Derived.Lib.Strings
namespace Go.Proofs.YthhpbhpfagoapaaGreat
set_option linter.unusedVariables false
set_option linter.unusedSimpArgs false
set_option maxRecDepth 100000
set_option maxHeartbeats 16000000
open Go.RowKit
def Uf (body:List UInt8):List UInt8:=body.take (body.length - 2)
def Sr (body:List UInt8):List UInt8:=body.drop (body.length - 2)
def Zg (sec non ext body:List UInt8):Bool:=Sr body == Rn sec non ext (Uf body)
theorem Is (sec non ext c:List UInt8):Xh sec non ext (zm sec non c)=c++Rn sec non ext c:=by
 unfold Xh
 rw [ER]
theorem ZB (sec non ext body:List UInt8):(Xh sec non ext (zm sec non (Uf body)) == body)=Zg sec non ext body:=by
 rw [Is]
 have h:body=Uf body++Sr body:=(List.take_append_drop _ _).symm
 unfold Zg
 rw [Bool.eq_iff_iff]
 simp only [beq_iff_eq]
 constructor
 ·intro e
  have:=e.trans h
  exact (List.append_cancel_left this).symm
 ·intro e
  rw [← e];exact h.symm
theorem EH (sec non ext body:ByteArray) (w:World) (h:body.size < 2) :
  Calls Tryz.prog 180 #[.string sec,.string non,.string ext,.string body] w fun e w' =>
   e=.returned (.tuple #[strB [],.bool false])∧w'=w:=by
 go_enter Tryz.func180,Tryz.ntmps180
 go_wp2
 go_ret2
 exact ⟨rfl,rfl⟩
theorem IW (b:ByteArray):b.toList=b.data.toList:=ByteArray.toList_eq b
theorem Nt (b:ByteArray):b.data.toList.length=b.size:=by simp
theorem DG (body:ByteArray):(body.extract 0 (body.size - 2)).data.toList=Uf body.data.toList:=by
 simp [Uf]
theorem EE (body:ByteArray) (hb:body.size≤5002):(body.extract 0 (body.size - 2)).size≤5000:=by
 simp;omega
theorem Ph (sec non ext:List UInt8) (body:ByteArray) (h:2≤body.size) :
  (!(body.extract ((body.size:Int) - 2).toNat body.size).toList == Rn sec non ext (List.take (body.size - 2) body.data.toList))=!Zg sec non ext body.data.toList:=by
 have e1:((body.size:Int) - 2).toNat=body.size - 2:=by omega
 have e2:(body.extract (body.size - 2) body.size).toList=Sr body.data.toList:=by
  unfold Sr
  rw [Nt,Lib.extract_toList,List.take_of_length_le (by rw [List.length_drop,Nt];omega)]
 rw [e1,e2]
 rfl
theorem Mr (sec non ext body:ByteArray) (w:World) (h:2≤body.size) (hb:body.size≤5002) (h1:sec.size≤1000) (h2:non.size≤1000) (h3:ext.size≤5000)
  (ho:Zg sec.data.toList non.data.toList ext.data.toList body.data.toList=true) :
  Calls Tryz.prog 180 #[.string sec,.string non,.string ext,.string body] w fun e w' =>
   e=.returned (.tuple #[strB (zm sec.data.toList non.data.toList (Uf body.data.toList)),.bool true])∧Below w.heap.size w w':=by
 have hm:(1000:Nat)≤maxLen:=by decide
 have i1:(2:Int)≤(body.size:Int):=by omega
 have i2:(body.size:Int) - 2≤(body.size:Int):=by omega
 have i3:(0:Int)≤(body.size:Int) - 2:=by omega
 have hcmp:=Ph sec.data.toList non.data.toList ext.data.toList body h
 rw [ho] at hcmp
 clear ho
 go_enter Tryz.func180,Tryz.ntmps180
 go_wp2_with fail
 go_region_with (go_at_call 239;refine (DE sec non ext _ _ (Nat.le_trans h1 hm) (Nat.le_trans h2 hm) h3 ?_).mono ?_;(simp;unfold maxLen;omega);rintro e w1 ⟨rfl,hb1⟩)
 all_goals
  go_wp2_with fail
  refine (Pj sec non _ _ (Nat.le_trans h1 hm) (Nat.le_trans h2 hm) (EE body hb)).mono ?_
  rintro e w2 ⟨rfl,hb2⟩
  rw [DG]
  go_wp2
  go_ret2
  exact ⟨rfl,(ji hb1).trans (hb2.mono hb1.size)⟩
theorem Tj (sec non ext body:ByteArray) (w:World) (h:2≤body.size) (hb:body.size≤5002) (h1:sec.size≤1000) (h2:non.size≤1000) (h3:ext.size≤5000)
  (ho:Zg sec.data.toList non.data.toList ext.data.toList body.data.toList=false) :
  Calls Tryz.prog 180 #[.string sec,.string non,.string ext,.string body] w fun e w' =>
   e=.returned (.tuple #[strB [],.bool false])∧Below w.heap.size w w':=by
 have hm:(1000:Nat)≤maxLen:=by decide
 have i1:(2:Int)≤(body.size:Int):=by omega
 have i2:(body.size:Int) - 2≤(body.size:Int):=by omega
 have i3:(0:Int)≤(body.size:Int) - 2:=by omega
 have hcmp:=Ph sec.data.toList non.data.toList ext.data.toList body h
 rw [ho] at hcmp
 clear ho
 go_enter Tryz.func180,Tryz.ntmps180
 go_wp2_with fail
 go_region_with (go_at_call 239;refine (DE sec non ext _ _ (Nat.le_trans h1 hm) (Nat.le_trans h2 hm) h3 ?_).mono ?_;(simp;unfold maxLen;omega);rintro e w1 ⟨rfl,hb1⟩)
 all_goals
  go_wp2
  go_ret2
  exact ⟨rfl,ji hb1⟩
theorem Rm (sec non ext body:ByteArray) (w:World) (h:body.size < 2) :
  Calls Tryz.prog 120 #[.string sec,.string non,.string ext,.string body] w fun e w' =>
   e=.returned (.tuple #[strB [],.bool false])∧w'=w:=by
 go_enter Tryz.func120,Tryz.ntmps120
 go_wp2
 go_ret2
 exact ⟨rfl,rfl⟩
theorem Pk (body:List UInt8):(Uf body).length=body.length - 2:=by simp [Uf]
theorem Eo (sec non ext body:ByteArray) (w:World) (h:2≤body.size) (hb:body.size≤5002) (h1:sec.size≤1000) (h2:non.size≤1000) (h3:ext.size≤5000) :
  Calls Tryz.prog 120 #[.string sec,.string non,.string ext,.string body] w fun e w' =>
   e=.returned (.tuple #[strB (zm sec.data.toList non.data.toList (Uf body.data.toList)),.bool (Zg sec.data.toList non.data.toList ext.data.toList body.data.toList)])∧Below w.heap.size w w':=by
 have i1:(2:Int)≤(body.size:Int):=by omega
 have i2:(body.size:Int) - 2≤(body.size:Int):=by omega
 have i3:(0:Int)≤(body.size:Int) - 2:=by omega
 have HO:=hid (ZB sec.data.toList non.data.toList ext.data.toList body.data.toList)
 have hl:(zm sec.data.toList non.data.toList (Uf body.data.toList)).length≤5000:=by rw [zw,Pk,Nt];omega
 go_enter Tryz.func120,Tryz.ntmps120
 go_wp2_with fail
 refine (VO sec non _ _ h1 h2 (EE body hb)).mono ?_
 rintro e w1 ⟨rfl,hb1⟩
 rw [DG]
 generalize hp:zm sec.data.toList non.data.toList (Uf body.data.toList)=plain at *
 have HP:=hid hp
 clear hp
 go_wp2_with fail
 refine (Id sec non ext ⟨plain.toArray⟩ _ h1 h2 h3 (by rw [jK];exact hl)).mono ?_
 rintro e w2 ⟨rfl,hb2⟩
 have e0:(⟨plain.toArray⟩:ByteArray).data.toList=plain:=by simp
 rw [e0]
 clear e0
 generalize hq:Xh sec.data.toList non.data.toList ext.data.toList plain=bd at *
 have HQ:=hid hq
 clear hq
 go_wp2
 go_ret2
 refine ⟨?_,hb1.trans (hb2.mono hb1.size)⟩
 show Ending.returned (.tuple #[strB plain,.bool (bd == body.toList)])=_
 rw [HP.out,← HO.out,IW]
end Go.Proofs.YthhpbhpfagoapaaGreat
