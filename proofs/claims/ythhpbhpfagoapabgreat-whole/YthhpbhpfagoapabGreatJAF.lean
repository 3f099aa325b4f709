import Derived.Test.YthhpbhpfagoapabGreatJAG
import Derived.Test.YthhpbhpfagoapabGreatJAM
import Derived.Test.YthhpbhpfagoapabGreatJBI
import Derived.Defers
import Derived.Recover
import Derived.Laws.Pointers
import Derived.Test.YthhpbhpfagoapabGreatJAL
import Derived.Test.YthhpbhpfagoapabGreatJBA
namespace Go.Proofs.YthhpbhpfagoapabGreat
set_option linter.unusedVariables false
set_option linter.unusedSimpArgs false
set_option maxRecDepth 100000
set_option maxHeartbeats 16000000
open Go.RowKit
section
theorem Ni (p:Addr) (b:Bool) (u:TypeId) (pv:Value) (older:List PanicEntry) (w:World) (hc:w.cell? p=some (.bool b)) (hz:w.frozen? p=false) :
  CallsD Tryz.prog 110 #[.pointer (some p)] (.panicking ({ v:=.iface u pv,recovered:=false } :: older)) w fun e u' w' =>
   e=.returned (.tuple #[])∧u'=.panicking ({ v:=.iface u pv,recovered:=true } :: older)∧w'=w.setCell p (.bool false):=by
 refine callsD_of_wpS Tryz.func110 rfl fun c₀ cs hu=>?_
 apply wpS_region
 simp [wpOpsS,go_sem,recoverD,hu,Tryz.ntmps110,Exit.thenS,hc,hz,bodyPostS,results,Tryz.results110]
theorem Mz (p:Addr) (b:Bool) (w:World) (hc:w.cell? p=some (.bool b)) (hz:w.frozen? p=false) :
  CallsD Tryz.prog 110 #[.pointer (some p)] .returning w fun e u' w'=>e=.returned (.tuple #[])∧u'=.returning∧w'=w.setCell p (.bool true):=by
 refine callsD_of_wpS Tryz.func110 rfl fun c₀ cs hu=>?_
 apply wpS_region
 simp [wpOpsS,go_sem,recoverD,hu,Tryz.ntmps110,Exit.thenS,hc,hz,bodyPostS,results,Tryz.results110]
 cases c₀
 simp_all
theorem Mo (kind:Int) (s:List UInt8) (w:World) (hk:kind=0∨kind=1) (hs:s.length≤maxLen) :
  Calls Tryz.prog 128 #[.int .i64 kind,strB s] w (Nr kind s w):=by
 have Hs:=hid hs
 clear hs
 rcases hk with rfl|rfl
 ·go_enter Tryz.func128,Tryz.ntmps128
  go_wp2_with fail
  refine (GV w).mono ?_
  rintro e w1 ⟨g,rfl,hg,hw,hb1⟩
  have Hw:=hid hw
  clear hw
  go_wp2_with fail
  refine (Fw g s _ Hs.out hg Hw.out).mono ?_
  rintro e w2 ⟨hb2,⟨rfl,hn⟩|⟨l,a,cap,rfl,hu,hl⟩⟩
  ·go_wp2
   exact ⟨rfl,hb1.trans (hb2.mono hb1.size),.inl ⟨rfl,hn⟩⟩
  ·have Hu:=hid hu
   clear hu
   go_wp2
   go_ret
   exact ⟨hb1.trans (hb2.mono hb1.size),.inr ⟨l,a,cap,rfl,Hu.out,hl⟩⟩
 ·go_enter Tryz.func128,Tryz.ntmps128
  go_wp2_with fail
  refine (Ec w).mono ?_
  rintro e w1 ⟨g,rfl,hg,hw,hb1⟩
  have Hw:=hid hw
  clear hw
  go_wp2_with fail
  refine (Fk g s _ Hs.out hg Hw.out).mono ?_
  rintro e w2 ⟨hb2,⟨rfl,hn⟩|⟨l,a,cap,rfl,hu,hl⟩⟩
  ·go_wp2
   exact ⟨rfl,hb1.trans (hb2.mono hb1.size),.inl ⟨rfl,hn⟩⟩
  ·have Hu:=hid hu
   clear hu
   go_wp2
   go_ret
   exact ⟨hb1.trans (hb2.mono hb1.size),.inr ⟨l,a,cap,rfl,Hu.out,hl⟩⟩
end
section
theorem RE (n:Nat):qK 0 n=false:=by
 have h:∀ x:Int,bits .and .i64 0 x=0:=by
  intro x
  show IntKind.i64.wrap ((BitVec.ofInt 64 0 &&& BitVec.ofInt 64 x).toNat:Nat)=0
  simp
  decide
 unfold qK
 rw [h]
 rfl
theorem XT (c without:Int):xI (jV c without)=true∧(∀ n:Int,1≤n→n≤5→jw (jV c without) n=!qK without n.toNat)∧(∀ n:Int,1≤n→n≤5→qK without n.toNat=false→ji (jV c without) n=xw c n.toNat)∧(jV c without).length≤5∧∀ x ∈ jV c without,CX x:=by
 have e:jV c without=((((if qK without 1=true then [] else [(⟨1,xw c 1⟩:KeyB)])++(if qK without 2=true then [] else [⟨2,xw c 2⟩]))++(if qK without 3=true then [] else [⟨3,xw c 3⟩]))++(if qK without 4=true then [] else [⟨4,xw c 4⟩]))++(if qK without 5=true then [] else [⟨5,xw c 5⟩]):=by
  simp only [jV,JK,List.map_append,List.nil_append]
  cases qK without 1<;>cases qK without 2<;>cases qK without 3<;>cases qK without 4<;>cases qK without 5<;>simp
 have l:=fun n=>Zn c n
 rw [e]
 refine ⟨?_,?_,?_,?_,?_⟩
 ·cases qK without 1<;>cases qK without 2<;>cases qK without 3<;>cases qK without 4<;>cases qK without 5<;>simp [xI,XX,Xh,jw,l]
 ·intro n h1 h5
  have:n=1∨n=2∨n=3∨n=4∨n=5:=by omega
  rcases this with rfl|rfl|rfl|rfl|rfl
  ·show _=!qK without 1
   cases qK without 1<;>cases qK without 2<;>cases qK without 3<;>cases qK without 4<;>cases qK without 5<;>simp [jw]
  ·show _=!qK without 2
   cases qK without 1<;>cases qK without 2<;>cases qK without 3<;>cases qK without 4<;>cases qK without 5<;>simp [jw]
  ·show _=!qK without 3
   cases qK without 1<;>cases qK without 2<;>cases qK without 3<;>cases qK without 4<;>cases qK without 5<;>simp [jw]
  ·show _=!qK without 4
   cases qK without 1<;>cases qK without 2<;>cases qK without 3<;>cases qK without 4<;>cases qK without 5<;>simp [jw]
  ·show _=!qK without 5
   cases qK without 1<;>cases qK without 2<;>cases qK without 3<;>cases qK without 4<;>cases qK without 5<;>simp [jw]
 ·intro n h1 h5 ho
  have:n=1∨n=2∨n=3∨n=4∨n=5:=by omega
  rcases this with rfl|rfl|rfl|rfl|rfl
  ·have ho':qK without 1=false:=ho
   show _=xw c 1
   rw [ho']
   cases qK without 2<;>cases qK without 3<;>cases qK without 4<;>cases qK without 5<;>simp [ji,KW]
  ·have ho':qK without 2=false:=ho
   show _=xw c 2
   rw [ho']
   cases qK without 1<;>cases qK without 3<;>cases qK without 4<;>cases qK without 5<;>simp [ji,KW]
  ·have ho':qK without 3=false:=ho
   show _=xw c 3
   rw [ho']
   cases qK without 1<;>cases qK without 2<;>cases qK without 4<;>cases qK without 5<;>simp [ji,KW]
  ·have ho':qK without 4=false:=ho
   show _=xw c 4
   rw [ho']
   cases qK without 1<;>cases qK without 2<;>cases qK without 3<;>cases qK without 5<;>simp [ji,KW]
  ·have ho':qK without 5=false:=ho
   show _=xw c 5
   rw [ho']
   cases qK without 1<;>cases qK without 2<;>cases qK without 3<;>cases qK without 4<;>simp [ji,KW]
 ·cases qK without 1<;>cases qK without 2<;>cases qK without 3<;>cases qK without 4<;>cases qK without 5<;>simp
 ·intro x hx
  have hx2:x=⟨1,xw c 1⟩∨x=⟨2,xw c 2⟩∨x=⟨3,xw c 3⟩∨x=⟨4,xw c 4⟩∨x=⟨5,xw c 5⟩:=by
   simp only [List.mem_append] at hx
   rcases hx with (((hx|hx)|hx)|hx)|hx<;>split at hx<;>simp at hx<;>simp [hx]
  rcases hx2 with rfl|rfl|rfl|rfl|rfl<;>exact ⟨by rw [l];decide,by dsimp only;omega,by dsimp only;omega⟩
theorem Ei (c without:Int) {n:Int} (h1:1≤n) (h5:n≤5) (h:jw (jV c without) n=true):ji (jV c without) n=ji (jV c 0) n:=by
 have ho:qK without n.toNat=false:=by
  have:=(XT c without).2.1 n h1 h5
  rw [h] at this
  cases hq:qK without n.toNat with
  | false=>rfl
  | true=>rw [hq] at this;cases this
 rw [(XT c without).2.2.1 n h1 h5 ho,(XT c 0).2.2.1 n h1 h5 (RE _)]
end
end Go.Proofs.YthhpbhpfagoapabGreat
