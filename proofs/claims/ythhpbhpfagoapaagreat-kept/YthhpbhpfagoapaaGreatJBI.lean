import Derived.Test.YthhpbhpfagoapaaGreatJBA
import Derived.Test.YthhpbhpfagoapaaGreatJAP
namespace Go.Proofs.YthhpbhpfagoapaaGreat
set_option linter.unusedVariables false
set_option linter.unusedSimpArgs false
set_option maxRecDepth 100000
set_option maxHeartbeats 16000000
section
theorem AO {R C G P:Nat}:∀ s ∈ qi R C G P,s.sort=80∨s.sort=77:=by
 intro s hs
 simp only [qi,jy,jp,List.mem_flatMap,List.mem_range,jg,List.mem_append,jr,List.mem_map,List.mem_singleton] at hs
 obtain ⟨g,_,c,_,⟨p,_,rfl⟩|rfl⟩:=hs
 ·exact .inl rfl
 ·exact .inr rfl
end
section
open Go.RowKit
theorem Ag (sec non ext body:ByteArray) (w:World) (h:5002 < body.size) (hm:body.size≤maxLen) :
  Calls Tryz.prog 180 #[.string sec,.string non,.string ext,.string body] w fun e w' =>
   e=.returned (.tuple #[strB [],.bool false])∧w'=w:=by
 unfold maxLen at hm
 have i1:¬ (body.size:Int) < 2:=by omega
 have i2:(5002:Int) < (body.size:Int):=by omega
 go_enter Tryz.func180,Tryz.ntmps180
 go_wp2
 go_ret2
 exact ⟨rfl,rfl⟩
def Gc:Option (List UInt8)→Value
 | some p=>.tuple #[strB p,.bool true]
 | none=>.tuple #[strB [],.bool false]
theorem MB {sec non ext body:List UInt8} (h2:2≤body.length) (h5:body.length≤5002) (h:KC sec non ext body=true):xy sec non ext body=some (zo sec non (Ih body)):=by
 have:=Ng sec non ext body
 rw [h,beq_iff_eq] at this
 unfold xy
 rw [if_pos ⟨h5,h2,this⟩]
 rfl
theorem Tx {sec non ext body:List UInt8} (h:KC sec non ext body=false):xy sec non ext body=none:=by
 have:=Ng sec non ext body
 rw [h] at this
 unfold xy
 rw [if_neg]
 rintro ⟨_,_,h3⟩
 have h4:(xV sec non ext (zo sec non (Ih body)) == body)=true:=by rw [beq_iff_eq];exact h3
 rw [h4] at this
 cases this
theorem Na (sec non ext body:List UInt8) (w:World) (h1:sec.length≤1000) (h2:non.length≤1000) (h3:ext.length≤5000) (hm:body.length≤maxLen) :
  Calls Tryz.prog 180 #[strB sec,strB non,strB ext,strB body] w fun e w'=>e=.returned (Gc (xy sec non ext body))∧Below w.heap.size w w':=by
 have hz:=jP body
 have hd:∀ l:List UInt8,(⟨l.toArray⟩:ByteArray).data.toList=l:=fun l=>by simp
 by_cases hlo:body.length < 2
 ·refine (EW ⟨sec.toArray⟩ ⟨non.toArray⟩ ⟨ext.toArray⟩ ⟨body.toArray⟩ w (by rw [hz];exact hlo)).mono ?_
  rintro e w' ⟨rfl,rfl⟩
  have:xy sec non ext body=none:=by unfold xy;rw [if_neg (by omega)]
  exact ⟨by rw [this];rfl,Below.refl _ _⟩
 by_cases hhi:5002 < body.length
 ·refine (Ag ⟨sec.toArray⟩ ⟨non.toArray⟩ ⟨ext.toArray⟩ ⟨body.toArray⟩ w (by rw [hz];exact hhi) (by rw [hz];exact hm)).mono ?_
  rintro e w' ⟨rfl,rfl⟩
  have:xy sec non ext body=none:=by unfold xy;rw [if_neg (by omega)]
  exact ⟨by rw [this];rfl,Below.refl _ _⟩
 cases ho:KC sec non ext body with
 | true =>
  refine (Mq ⟨sec.toArray⟩ ⟨non.toArray⟩ ⟨ext.toArray⟩ ⟨body.toArray⟩ w (by rw [hz];omega) (by rw [hz];omega) (by rw [jP];exact h1) (by rw [jP];exact h2) (by rw [jP];exact h3) (by simp only [hd];exact ho)).mono ?_
  rintro e w' ⟨rfl,hb⟩
  refine ⟨?_,hb⟩
  rw [MB (by omega) (by omega) ho]
  simp only [hd,Gc]
 | false =>
  refine (Tl ⟨sec.toArray⟩ ⟨non.toArray⟩ ⟨ext.toArray⟩ ⟨body.toArray⟩ w (by rw [hz];omega) (by rw [hz];omega) (by rw [jP];exact h1) (by rw [jP];exact h2) (by rw [jP];exact h3) (by simp only [hd];exact ho)).mono ?_
  rintro e w' ⟨rfl,hb⟩
  refine ⟨?_,hb⟩
  rw [Tx ho]
  rfl
end
end Go.Proofs.YthhpbhpfagoapaaGreat
