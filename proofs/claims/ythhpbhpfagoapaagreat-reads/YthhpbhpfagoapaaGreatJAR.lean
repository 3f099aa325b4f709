import Derived.Test.YthhpbhpfagoapaaGreatWName
import Derived.Deep.RegionWith
namespace Go.Proofs.YthhpbhpfagoapaaGreat
set_option linter.unusedVariables false
set_option linter.unusedSimpArgs false
set_option maxRecDepth 100000
set_option maxHeartbeats 16000000
open Go.RowKit
section
abbrev planV (p:PlanB):Value:=.agg #[.int .i64 p.group,.int .i64 p.page,.int .i64 p.foot,.bool p.told]
theorem Et (p:PlanB) (w:World) :
  Calls Tryz.prog 79 #[planV p] w fun e w'=>e=.returned (.bool (qU p))∧Below w.heap.size w w':=by
 have HP:Hid (qU p=(decide (1≤p.group) && decide (p.group≤60) && decide (1≤p.page) && decide (p.page≤60) && decide (1≤p.foot) && decide (p.foot≤9))):=by
  simp only [Hid,qU,Bool.and_assoc]
 obtain ⟨a,b,c,d⟩:=p
 simp only at HP
 go_enter Tryz.func79,Tryz.ntmps79
 go_wp2
 all_goals
  go_ret
  exact ⟨jI (by rw [HP.out];simp;omega),(Below.refl _ _).alloc (Nat.le_refl _) _⟩
/- Rings. -/
theorem Vi {r:List KeyB} {n:Nat} (h:Xd r n=true) (hn:n≤r.length):∀ k (hk:k < n),Xg (r[k]'(by omega))=true∧jA (r.take k) (r[k]'(by omega)).number=false:=by
 induction n with
 | zero=>intro k hk;omega
 | succ n ih =>
  intro k hk
  simp only [Xd,Bool.and_eq_true] at h
  rcases Nat.lt_or_ge k n with hkn|hkn
  ·exact ih h.1 (by omega) k hkn
  ·have:k=n:=by omega
   subst this
   have h2:=h.2
   rw [List.getElem?_eq_getElem (by omega)] at h2
   simpa using h2
theorem Rx {r:List KeyB} {k:Nat} (hk:k < r.length) (h:(Xg r[k] && !jA (r.take k) (r[k]).number)=false):xX r=false:=by
 cases hh:xX r with
 | false=>rfl
 | true =>
  obtain ⟨h1,h2⟩:=Vi hh (Nat.le_refl _) k hk
  rw [h1,h2] at h
  cases h
theorem VX {r:List KeyB} {k:Nat} (hk:k < r.length) (h:Xd r k=true):Xd r (k+1)=(Xg r[k] && !jA (r.take k) (r[k]).number):=by
 simp only [Xd,h,Bool.true_and]
 rw [List.getElem?_eq_getElem hk]
theorem XO {r:List KeyB} {k m:Nat} (hm:m < r.length) (hk:m < k) (n:Int):jA ((r.take k).take (m+1)) n=(jA ((r.take k).take m) n || decide ((r[m]).number=n)):=by
 have hl:m < (r.take k).length:=by rw [List.length_take];omega
 rw [List.take_succ_eq_append_getElem hl]
 simp [jA]
theorem CZ {c:KeyB} (h:Xg c=false):c.number < 1∨(¬ c.number < 1∧(9 < c.number∨(¬ 9 < c.number∧c.secret.length≠8))):=by
 simp only [Xg,Bool.and_eq_false_iff,decide_eq_false_iff_not] at h
 omega
theorem Vt {c:KeyB} (h:Xg c=true):1≤c.number∧c.number≤9∧c.secret.length=8:=by
 simp only [Xg,Bool.and_eq_true,decide_eq_true_eq] at h
 exact ⟨h.1.1,h.1.2,h.2⟩
theorem Ik (a:Option Addr) (cap:Nat) (r:List KeyB) (w:World) (hm:r.length≤maxLen) (hl:LiesK w a r) :
  Calls Tryz.prog 80 #[.slice a r.length cap] w fun e w'=>e=.returned (.bool (xX r))∧Below w.heap.size w w':=by
 have Hl:=hid hl
 clear hl
 unfold maxLen at hm
 go_enter Tryz.func80,Tryz.ntmps80
 go_wp2
 go_loopw [3] (fun i wr=>∃ k:Nat,k≤r.length∧i=.int .i64 k∧Xd r k=true∧Below w.heap.size w wr) (fun i _=>r.length - (intOf i).toNat)
 case atStart=>exact ⟨0,Nat.zero_le _,rfl,rfl,Below.refl _ _⟩
 case round =>
  obtain ⟨k,hkl,rfl,hall,hB⟩:=hrel
  have Hall:=hid hall
  clear hall
  by_cases hlt:k < r.length
  ·obtain ⟨b,off,rfl,hbw,hcell⟩:=(Hl.out.later hB).at_ (List.ne_nil_of_length_pos (by omega))
   obtain ⟨g1,g2⟩:=hcell k hlt
   clear hcell
   obtain ⟨ok1,ok2⟩:=Hl.out.ok r[k] (List.getElem_mem hlt)
   unfold maxLen at ok1
   have HT:=hid (VX hlt Hall.out)
   have HN:=hid (Rx (r:=r) hlt)
   have HF:=hid (CZ (c:=r[k]))
   have hki:(k:Int) < (r.length:Int):=by omega
   cases hh:Xg r[k] with
   | false =>
    have Hh:=hid hh
    have hf:=HF.out hh
    clear hh
    rcases hf with h1|⟨h1,h2|⟨h2,h3⟩⟩
    ·go_wp2
     go_ret
     exact ⟨jI (HN.out (by rw [Hh.out];rfl)).symm,hB⟩
    ·go_wp2
     go_ret
     exact ⟨jI (HN.out (by rw [Hh.out];rfl)).symm,hB⟩
    ·have h3i:(((r[k]).secret.length:Int) != 8)=true:=by simp;omega
     clear h3
     go_wp2
     go_ret
     exact ⟨jI (HN.out (by rw [Hh.out];rfl)).symm,hB⟩
   | true =>
    have Hh:=hid hh
    obtain ⟨hp1,hp2,hp3⟩:=Vt hh
    have q1:¬ (r[k]).number < 1:=by omega
    have q2:¬ 9 < (r[k]).number:=by omega
    have q3:(((r[k]).secret.length:Int) != 8)=false:=by simp;omega
    clear hh hp1 hp2 hp3 HF
    go_wp2
    go_loopw [4] (fun i wr=>∃ m:Nat,m≤k∧i=.int .i64 m∧jA ((r.take k).take m) (r[k]).number=false∧Below w.heap.size w wr) (fun i _=>k - (intOf i).toNat)
    case atStart=>exact ⟨0,Nat.zero_le _,rfl,rfl,hB⟩
    case round =>
     clear hB g1 g2 q1 q2 q3
     obtain ⟨m,hmk,rfl,hno,hB⟩:=hrel
     have Hno:=hid hno
     clear hno
     by_cases hlm:m < k
     ·have hmi:(m:Int) < (k:Int):=by omega
      obtain ⟨b,off,hab,hbw,hcell⟩:=(Hl.out.later hB).at_ (List.ne_nil_of_length_pos (by omega))
      simp only [Option.some.injEq,Addr.mk.injEq,and_true] at hab
      obtain ⟨rfl,rfl⟩:=hab
      obtain ⟨g1,_⟩:=hcell k hlt
      obtain ⟨f1,_⟩:=hcell m (by omega)
      have hmt:(m:Int) < (r.length:Int):=by omega
      have HS:=hid (XO (r:=r) (k:=k) (m:=m) (by omega) hlm (r[k]).number)
      clear hcell
      by_cases he:(r[m]'(by omega)).number=(r[k]).number
      ·have He:=hid he
       clear he
       rw [He.out] at f1
       have HH:Hid (jA (r.take k) (r[k]).number=true):=by
        simp only [Hid,jA,List.any_eq_true]
        exact ⟨(r[m]'(by omega)),by rw [List.mem_take_iff_getElem];exact ⟨m,by omega,rfl⟩,by simp [He.out]⟩
       go_wp2_with fail
       go_quiet (fail)
       go_wp2
       go_ret
       exact ⟨jI (HN.out (by rw [HH.out];simp)).symm,below_drewN hB nq⟩
      ·have hne:((r[m]'(by omega)).number == (r[k]).number)=false:=by simpa using he
       have He:=hid he
       clear he
       go_wp2_with fail
       go_quiet (fail)
       go_wp2_with fail
       go_roundw
       case rel=>exact ⟨m+1,by omega,by go_num,by rw [HS.out,Hno.out];simp [He.out],below_drewN hB nq⟩
       case measure=>simp [intOf];omega
     ·have hmk2:m=k:=by omega
      subst hmk2
      have HX:Hid (Xd r (m+1)=true):=by
       show Xd r (m+1)=true
       rw [HT.out,Hh.out]
       have:=Hno.out
       rw [List.take_take,Nat.min_self] at this
       rw [this];rfl
      go_wp2
      go_roundw
      case rel=>exact ⟨m+1,by omega,by go_num,HX.out,hB⟩
      case measure=>simp [intOf];omega
  ·have hke:k=r.length:=by omega
   subst hke
   go_wp2
   go_ret
   exact ⟨jI Hall.out.symm,hB⟩
theorem DE {r:List KeyB} {k:Nat} {n:Int} (hk:k < r.length) (hno:jA (r.take k) n=false) (he:(r[k]).number=n):VP r n=some (r[k]).secret:=by
 have e:r=r.take k++r[k] :: r.drop (k+1):=by rw [← List.drop_eq_getElem_cons hk,List.take_append_drop]
 have h0:(r.take k).find? (fun x=>decide (x.number=n))=none:=by
  rw [List.find?_eq_none]
  intro x hx
  simp only [jA,List.any_eq_false] at hno
  exact hno x hx
 have h1:r.find? (fun x=>decide (x.number=n))=some r[k]:=by
  have h2:(r.take k++r[k] :: r.drop (k+1)).find? (fun x=>decide (x.number=n))=some r[k]:=by
   rw [List.find?_append,h0,List.find?_cons_of_pos (by simp [he])]
   rfl
  rwa [← e] at h2
 rw [VP,h1]
 rfl
theorem Vg {r:List KeyB} {n:Int} (hno:jA r n=false):VP r n=none:=by
 have h0:r.find? (fun x=>decide (x.number=n))=none:=by
  rw [List.find?_eq_none]
  intro x hx
  simp only [jA,List.any_eq_false] at hno
  exact hno x hx
 simp [VP,h0]
theorem Zm (a:Option Addr) (cap:Nat) (r:List KeyB) (n:Int) (w:World) (hm:r.length≤maxLen) (hl:LiesK w a r) :
  Calls Tryz.prog 81 #[.slice a r.length cap,.int .i64 n] w fun e w'=>e=.returned (strB (jm r n))∧Below w.heap.size w w':=by
 have Hl:=hid hl
 clear hl
 unfold maxLen at hm
 go_enter Tryz.func81,Tryz.ntmps81
 go_wp2
 go_loopw [5] (fun i wr=>∃ k:Nat,k≤r.length∧i=.int .i64 k∧jA (r.take k) n=false∧Below w.heap.size w wr) (fun i _=>r.length - (intOf i).toNat)
 case atStart=>exact ⟨0,Nat.zero_le _,rfl,rfl,Below.refl _ _⟩
 case round =>
  obtain ⟨k,hkl,rfl,hno,hB⟩:=hrel
  have Hno:=hid hno
  clear hno
  by_cases hlt:k < r.length
  ·obtain ⟨b,off,rfl,hbw,hcell⟩:=(Hl.out.later hB).at_ (List.ne_nil_of_length_pos (by omega))
   obtain ⟨g1,g2⟩:=hcell k hlt
   clear hcell
   have hki:(k:Int) < (r.length:Int):=by omega
   by_cases he:(r[k]).number=n
   ·have HF:=hid (DE hlt Hno.out he)
    rw [he] at g1
    clear he
    go_wp2
    go_ret
    exact ⟨qt (by rw [jm,HF.out];rfl),hB⟩
   ·have hne:((r[k]).number == n)=false:=by simpa using he
    have He:=hid he
    have HS:=hid (XO (r:=r) (k:=r.length) (m:=k) hlt hlt n)
    rw [List.take_length] at HS
    clear he
    go_wp2
    go_roundw
    case rel=>exact ⟨k+1,by omega,by go_num,by rw [HS.out,Hno.out];simp [He.out],hB⟩
    case measure=>simp [intOf];omega
  ·have HF:Hid (VP r n=none):=Vg (by have:=Hno.out;rw [List.take_of_length_le (by omega)] at this;exact this)
   go_wp2
   go_ret
   exact ⟨qt (by rw [jm,HF.out];rfl),hB⟩
end
section
theorem XZ {r:List KeyB} {n:Int} (hr:xX r=true):(jm r n=[]) ↔ jA r n=false:=by
 constructor
 ·intro h
  cases hh:jA r n with
  | false=>rfl
  | true =>
   simp only [jA,List.any_eq_true] at hh
   cases hf:r.find? (fun k=>decide (k.number=n)) with
   | none =>
    rw [List.find?_eq_none] at hf
    obtain ⟨x,hx,hx2⟩:=hh
    exact absurd hx2 (hf x hx)
   | some x =>
    have hm:=List.mem_of_find?_eq_some hf
    obtain ⟨k,hk,rfl⟩:=List.mem_iff_getElem.1 hm
    have:=(Vt (Vi hr (Nat.le_refl _) k hk).1).2.2
    simp only [jm,VP,hf,Option.map_some,Option.getD_some] at h
    rw [h] at this
    simp at this
 ·intro h
  rw [jm,Vg h];rfl
theorem QO {r:List KeyB} {n:Int} (hr:xX r=true) (hn:jA r n=true):(jm r n).length=8:=by
 simp only [jA,List.any_eq_true] at hn
 cases hf:r.find? (fun k=>decide (k.number=n)) with
 | none =>
  rw [List.find?_eq_none] at hf
  obtain ⟨x,hx,hx2⟩:=hn
  exact absurd hx2 (hf x hx)
 | some x =>
  have hm:=List.mem_of_find?_eq_some hf
  obtain ⟨k,hk,rfl⟩:=List.mem_iff_getElem.1 hm
  have:=(Vt (Vi hr (Nat.le_refl _) k hk).1).2.2
  simp only [jm,VP,hf,Option.map_some,Option.getD_some]
  exact this
theorem PX {a b:Bool} (h:(a=true) ↔ (b=true)):a=b:=by cases a<;>cases b<;>simp_all
end
end Go.Proofs.YthhpbhpfagoapaaGreat
