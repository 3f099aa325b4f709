import Derived.Test.YthhpbhpfagoapaaGreatJAH
import Derived.BigQuiet
import Derived.Deep.QuietTactic
import Derived.WalkSmall
import Derived.OwnWalk
namespace Go.Proofs.YthhpbhpfagoapaaGreat
set_option linter.unusedVariables false
set_option linter.unusedSimpArgs false
set_option maxRecDepth 100000
set_option maxHeartbeats 16000000
open Go.RowKit
def Js (b:UInt8):Bool:=decide (97≤b.toNat) && decide (b.toNat≤122)
theorem VC (s:List UInt8):xH s=(s.all Js && (decide (1≤s.length) && decide (s.length≤8))):=rfl
theorem Dv (s:ByteArray) (w:World) (hs:s.size≤maxLen) :
  Calls Tryz.prog 221 #[.string s] w fun e w'=>e=.returned (.bool (xH s.data.toList))∧w'=w:=by
 unfold maxLen at hs
 go_enter Tryz.func221,Tryz.ntmps221
 go_wp2
 go_loop [3] (fun i=>∃ k:Nat,k≤s.size∧i=.int .i64 k∧(s.data.toList.take k).all Js=true) (fun i=>s.size - (intOf i).toNat)
 case atStart=>exact ⟨0,Nat.zero_le _,rfl,rfl⟩
 case round =>
  obtain ⟨k,hk,rfl,hall⟩:=hrel
  have Hall:=hid hall
  clear hall
  by_cases hlt:k < s.size
  ·have hbt:=(s[k]'hlt).toNat_lt
   have HT:Hid (Js s[k]=true→(s.data.toList.take (k+1)).all Js=true):=by
    intro h
    rw [KL s k hlt,List.all_append,Hall.out]
    simp [h]
   have HA:Hid (Js s[k]=false→xH s.data.toList=false):=by
    intro hf
    rw [VC]
    have:s.data.toList.all Js=false:=by
     rw [List.all_eq_false]
     exact ⟨s[k],by have:=List.getElem_mem (l:=s.data.toList) (n:=k) (by simpa using hlt);exact this,by simp [hf]⟩
    rw [this];rfl
   have HL:Hid (Js s[k]=(decide (97≤(s[k]).toNat) && decide ((s[k]).toNat≤122))):=rfl
   by_cases h1:(s[k]).toNat < 97
   ·have h1i:((s[k]).toNat:Int) < 97:=by omega
    go_wp2
    go_ret
    exact ⟨jI (HA.out (by rw [HL.out];simp;omega)).symm,rfl⟩
   ·have h1i:¬ ((s[k]).toNat:Int) < 97:=by omega
    by_cases h2:122 < (s[k]).toNat
    ·have h2i:(122:Int) < ((s[k]).toNat:Int):=by omega
     go_wp2
     go_ret
     exact ⟨jI (HA.out (by rw [HL.out];simp;omega)).symm,rfl⟩
    ·have h2i:¬ (122:Int) < ((s[k]).toNat:Int):=by omega
     go_wp2
     go_round
     case rel=>exact ⟨k+1,by omega,by go_num,HT.out (by rw [HL.out];simp;omega)⟩
     case measure=>simp [intOf];omega
  ·have HE:Hid (xH s.data.toList=(decide (1≤s.size) && decide (s.size≤8))):=by
    show xH s.data.toList=_
    rw [VC]
    have:=Hall.out
    rw [List.take_of_length_le (by simp;omega)] at this
    rw [this]
    simp
   by_cases h1:1≤s.size
   ·have h1i:(1:Int)≤(s.size:Int):=by omega
    go_wp2
    go_ret
    exact ⟨jI (by rw [HE.out,Bool.eq_iff_iff];simp only [Bool.and_eq_true,decide_eq_true_eq];omega),rfl⟩
   ·have h1i:¬ (1:Int)≤(s.size:Int):=by omega
    go_wp2
    go_ret
    exact ⟨jI (by rw [HE.out];simp [h1]),rfl⟩
theorem Ia (s:List UInt8) (w:World) (hs:s.length≤maxLen) :
  Calls Tryz.prog 221 #[strB s] w fun e w'=>e=.returned (.bool (xH s))∧w'=w :=
 Dv ⟨s.toArray⟩ w (by rw [jK];exact hs)
theorem PO {c:ColB} (h:zJ c=false) (hn:xH c.name=true):c.kind < 0∨(¬ c.kind < 0∧(1 < c.kind∨(¬ 1 < c.kind∧(c.key < 0∨(¬ c.key < 0∧9 < c.key))))):=by
 simp only [zJ,hn,Bool.true_and,Bool.and_eq_false_iff,decide_eq_false_iff_not] at h
 omega
theorem Rb {t:List ColB} {k:Nat} (hk:k < t.length) (h:(zJ t[k] && !zj (t.take k) (t[k]).name)=false):jV t=false:=by
 cases hh:jV t with
 | false=>rfl
 | true =>
  simp only [jV,Bool.and_eq_true] at hh
  obtain ⟨h1,h2⟩:=QK hh.1 (Nat.le_refl _) k hk
  rw [h1,h2] at h
  cases h
theorem UJ {t:List ColB} {k:Nat} (hk:k < t.length) (h:JE t k=true):JE t (k+1)=(zJ t[k] && !zj (t.take k) (t[k]).name):=by
 simp only [JE,h,Bool.true_and]
 rw [List.getElem?_eq_getElem hk]
theorem UK {t:List ColB} {k m:Nat} (hm:m < t.length) (hk:m < k) (s:List UInt8):zj ((t.take k).take (m+1)) s=(zj ((t.take k).take m) s || (t[m]).name == s):=by
 have hl:m < (t.take k).length:=by rw [List.length_take];omega
 rw [List.take_succ_eq_append_getElem hl]
 simp [zj]
theorem YP (a:Option Addr) (cap:Nat) (t:List ColB) (w:World) (hm:t.length≤maxLen) (hl:LiesT w a t) :
  Calls Tryz.prog 143 #[.slice a t.length cap] w fun e w'=>e=.returned (.bool (jV t))∧Below w.heap.size w w':=by
 have Hl:=hid hl
 clear hl
 unfold maxLen at hm
 go_enter Tryz.func143,Tryz.ntmps143
 go_wp2
 go_loopw [3] (fun i wr=>∃ k:Nat,k≤t.length∧i=.int .i64 k∧JE t k=true∧Below w.heap.size w wr) (fun i _=>t.length - (intOf i).toNat)
 case atStart=>exact ⟨0,Nat.zero_le _,rfl,rfl,Below.refl _ _⟩
 case round =>
  obtain ⟨k,hkl,rfl,hall,hB⟩:=hrel
  have Hall:=hid hall
  clear hall
  by_cases hlt:k < t.length
  ·obtain ⟨b,off,rfl,hbw,hcell⟩:=(Hl.out.later hB).at_ (List.ne_nil_of_length_pos (by omega))
   obtain ⟨g1,g2,g3,v,g4,g5⟩:=hcell k hlt
   have Hcell:=hid hcell
   clear hcell g4 g5
   obtain ⟨ok1,ok2,ok3⟩:=Hl.out.ok t[k] (List.getElem_mem hlt)
   have HT:=hid (UJ hlt Hall.out)
   have HN:=hid (Rb (t:=t) hlt)
   have HF:=hid (PO (c:=t[k]))
   have hki:(k:Int) < (t.length:Int):=by omega
   go_wp2_with fail
   refine (Ia (t[k]).name _ ok1).mono ?_
   rintro e w1 ⟨rfl,rfl⟩
   cases hn:xH (t[k]).name with
   | false =>
    have HO:Hid (zJ t[k]=false):=by show zJ t[k]=false;simp [zJ,hn]
    have Hn:=hid hn
    clear hn
    go_wp2
    go_ret
    exact ⟨jI (HN.out (by rw [HO.out];rfl)).symm,hB⟩
   | true =>
    have Hn:=hid hn
    clear hn
    cases hh:zJ t[k] with
    | false =>
     have Hh:=hid hh
     have hf:=HF.out hh Hn.out
     clear hh
     generalize (t[k]).kind=kd at *
     generalize (t[k]).key=ky at *
     rcases hf with h1|⟨h1,h2|⟨h2,h3|⟨h3,h4⟩⟩⟩
     all_goals
      go_wp2
      go_ret
      exact ⟨jI (HN.out (by rw [Hh.out];rfl)).symm,hB⟩
    | true =>
     have Hh:=hid hh
     obtain ⟨_,hp1,hp2,hp3⟩:=QR hh
     have q1:¬ (t[k]).kind < 0:=by omega
     have q2:¬ 1 < (t[k]).kind:=by omega
     have q3:¬ (t[k]).key < 0:=by omega
     have q4:¬ 9 < (t[k]).key:=by omega
     clear hh hp1 hp2 hp3 HF
     go_wp2
     go_loopw [5] (fun i wr=>∃ m:Nat,m≤k∧i=.int .i64 m∧zj ((t.take k).take m) (t[k]).name=false∧Below w.heap.size w wr) (fun i _=>k - (intOf i).toNat)
     case atStart=>exact ⟨0,Nat.zero_le _,rfl,rfl,hB⟩
     case round =>
      clear hB Hcell g1 g2 g3 q1 q2 q3 q4
      obtain ⟨m,hmk,rfl,hno,hB⟩:=hrel
      have Hno:=hid hno
      clear hno
      by_cases hlm:m < k
      ·have hmi:(m:Int) < (k:Int):=by omega
       obtain ⟨b,off,hab,hbw,hcell⟩:=(Hl.out.later hB).at_ (List.ne_nil_of_length_pos (by omega))
       simp only [Option.some.injEq,Addr.mk.injEq,and_true] at hab
       obtain ⟨rfl,rfl⟩:=hab
       obtain ⟨g1,_⟩:=hcell k hlt
       obtain ⟨f1,_⟩:=hcell m (by omega)
       have hmt:(m:Int) < (t.length:Int):=by omega
       have HS:=hid (UK (t:=t) (k:=k) (m:=m) (by omega) hlm (t[k]).name)
       clear hcell
       by_cases he:(t[m]'(by omega)).name=(t[k]).name
       ·have He:=hid he
        clear he
        rw [He.out] at f1
        have HH:Hid (zj (t.take k) (t[k]).name=true):=by
         simp only [Hid,zj,List.any_eq_true]
         exact ⟨(t[m]'(by omega)),by rw [List.mem_take_iff_getElem];exact ⟨m,by omega,rfl⟩,by simp [He.out]⟩
        go_wp2_with fail
        go_quiet (fail)
        go_wp2
        go_ret
        exact ⟨jI (HN.out (by rw [HH.out];simp)).symm,below_drewN hB nq⟩
       ·have hne:((t[m]'(by omega)).name == (t[k]).name)=false:=by simpa using he
        have He:=hid he
        clear he
        go_wp2_with fail
        go_quiet (fail)
        go_wp2_with fail
        go_roundw
        case rel=>exact ⟨m+1,by omega,by go_num,by rw [HS.out,Hno.out];simp [He.out],below_drewN hB nq⟩
        case measure=>simp [intOf];omega
      ·have hmk2:m=k:=by omega
       subst hmk2
       have HX:Hid (JE t (m+1)=true):=by
        show JE t (m+1)=true
        rw [HT.out,Hh.out]
        have:=Hno.out
        rw [List.take_take,Nat.min_self] at this
        rw [this];rfl
       go_wp2
       go_roundw
       case rel=>exact ⟨m+1,by omega,by go_num,HX.out,hB⟩
       case measure=>simp [intOf];omega
  ·have hke:k=t.length:=by omega
   subst hke
   have HE:Hid (jV t=(decide (1≤t.length) && decide (t.length≤6))):=by
    show jV t=_
    rw [jV,Hall.out];rfl
   by_cases h1:1≤t.length
   ·have h1i:(1:Int)≤(t.length:Int):=by omega
    go_wp2
    go_ret
    exact ⟨jI (by rw [HE.out,Bool.eq_iff_iff];simp only [Bool.and_eq_true,decide_eq_true_eq];omega),hB⟩
   ·have h1i:¬ (1:Int)≤(t.length:Int):=by omega
    go_wp2
    go_ret
    exact ⟨jI (by rw [HE.out];simp [h1]),hB⟩
end Go.Proofs.YthhpbhpfagoapaaGreat
