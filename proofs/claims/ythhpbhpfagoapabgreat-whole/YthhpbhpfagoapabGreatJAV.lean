import Derived.Test.YthhpbhpfagoapabGreatJBA
import Derived.Test.YthhpbhpfagoapabGreatJAE
import Derived.Test.YthhpbhpfagoapabGreatJBB
import Derived.Test.YthhpbhpfagoapabGreatJAY
import Derived.Test.YthhpbhpfagoapabGreatJAS
import Derived.OwnWalk
namespace Go.Proofs.YthhpbhpfagoapabGreat
set_option linter.unusedVariables false
set_option linter.unusedSimpArgs false
set_option maxRecDepth 100000
set_option maxHeartbeats 16000000
open Go.RowKit
section
theorem Kh (n:Int) (w:World) :
  Calls Tryz.prog 67 #[.int .i64 n] w fun e w'=>e=.returned (.bool (decide (1≤n) && decide (n≤9)))∧w'=w:=by
 go_enter Tryz.func67,Tryz.ntmps67
 go_wp2
 all_goals
  go_ret
  exact ⟨qc (by simp;try omega),rfl⟩
theorem NO (n:Int) (w:World) :
  Calls Tryz.prog 92 #[.int .i64 n] w fun e w'=>e=.returned (.bool (decide (1≤n) && decide (n≤60)))∧w'=w:=by
 go_enter Tryz.func92,Tryz.ntmps92
 go_wp2
 all_goals
  go_ret
  exact ⟨qc (by simp;try omega),rfl⟩
theorem Md (n:Int) (w:World) :
  Calls Tryz.prog 60 #[.int .i64 n] w fun e w'=>e=.returned (.bool (decide (0≤n) && decide (n≤65535)))∧w'=w:=by
 go_enter Tryz.func60,Tryz.ntmps60
 go_wp2
 all_goals
  go_ret
  exact ⟨qc (by simp;try omega),rfl⟩
theorem Vy (s:List UInt8) (w:World) (hs:s.length≤maxLen) :
  Calls Tryz.prog 38 #[strB s] w fun e w'=>e=.returned (.bool (decide (s.length≤20)))∧w'=w:=by
 unfold maxLen at hs
 go_enter Tryz.func38,Tryz.ntmps38
 go_wp2
 go_ret
 exact ⟨qc (by simp;try omega),rfl⟩
theorem NI (p:PlanB) (w:World) :
  Calls Tryz.prog 59 #[planV p] w fun e w'=>e=.returned (.bool (qM p))∧Below w.heap.size w w':=by
 have HP:Hid (qM p=((decide (1≤p.group) && decide (p.group≤60)) && ((decide (1≤p.page) && decide (p.page≤60)) && (decide (1≤p.foot) && decide (p.foot≤9))))):=rfl
 obtain ⟨a,b,c,d⟩:=p
 simp only at HP
 have HB:=hid ((Below.refl w.heap.size w).alloc (Nat.le_refl _) (.cells #[.int .i64 a,.int .i64 b,.int .i64 c,.bool d] 25))
 generalize hA:(decide (1≤a) && decide (a≤60))=A at *
 generalize hA2:(decide (1≤b) && decide (b≤60))=A2 at *
 generalize hA3:(decide (1≤c) && decide (c≤9))=A3 at *
 have K1:=hid hA
 have K2:=hid hA2
 have K3:=hid hA3
 clear hA hA2 hA3
 go_enter Tryz.func59,Tryz.ntmps59
 go_wp2_with fail
 refine (NO a _).mono ?_
 rintro e w1 ⟨rfl,rfl⟩
 rw [K1.out]
 cases A with
 | false =>
  go_wp2
  go_ret
  exact ⟨qc HP.out.symm,HB.out⟩
 | true =>
  go_wp2_with fail
  refine (NO b _).mono ?_
  rintro e w1 ⟨rfl,rfl⟩
  rw [K2.out]
  cases A2 with
  | false =>
   go_wp2
   go_ret
   exact ⟨qc HP.out.symm,HB.out⟩
  | true =>
   go_wp2_with fail
   refine (Kh c _).mono ?_
   rintro e w1 ⟨rfl,rfl⟩
   rw [K3.out]
   go_wp2
   go_ret
   exact ⟨qc HP.out.symm,HB.out⟩
theorem PM (s:ByteArray) (w:World) (hs:s.size≤maxLen) :
  Calls Tryz.prog 132 #[.string s] w fun e w'=>e=.returned (.bool (zG s.data.toList))∧w'=w:=by
 unfold maxLen at hs
 have HE:Hid (zG s.data.toList=(s.data.toList.all ZP && (decide (1≤s.size) && decide (s.size≤8)))):=by
  show _=_
  rw [TM];simp
 go_enter Tryz.func132,Tryz.ntmps132
 by_cases h1:1≤s.size
 ·have h1i:¬ (s.size:Int) < 1:=by omega
  by_cases h2:s.size≤8
  ·have h2i:¬ (8:Int) < (s.size:Int):=by omega
   have HE2:Hid (zG s.data.toList=s.data.toList.all ZP):=by
    show _=_
    rw [HE.out];simp [h1,h2]
   go_wp2
   go_loop [14] (fun i=>∃ k:Nat,k≤s.size∧i=.int .i64 k∧(s.data.toList.take k).all ZP=true) (fun i=>s.size - (intOf i).toNat)
   case atStart=>exact ⟨0,Nat.zero_le _,rfl,rfl⟩
   case round =>
    obtain ⟨k,hk,rfl,hall⟩:=hrel
    have Hall:=hid hall
    clear hall
    by_cases hlt:k < s.size
    ·have hbt:=(s[k]'hlt).toNat_lt
     have HT:Hid (ZP s[k]=true→(s.data.toList.take (k+1)).all ZP=true):=by
      intro h
      rw [Ej s k hlt,List.all_append,Hall.out]
      simp [h]
     have HA:Hid (ZP s[k]=false→zG s.data.toList=false):=by
      intro hf
      rw [HE2.out,List.all_eq_false]
      exact ⟨s[k],by have:=List.getElem_mem (l:=s.data.toList) (n:=k) (by simpa using hlt);exact this,by simp [hf]⟩
     have HL:Hid (ZP s[k]=(decide (97≤(s[k]).toNat) && decide ((s[k]).toNat≤122))):=rfl
     by_cases h1:(s[k]).toNat < 97
     ·have h1i:((s[k]).toNat:Int) < 97:=by omega
      go_wp2
      go_ret
      exact ⟨qc (HA.out (by rw [HL.out];simp;omega)).symm,rfl⟩
     ·have h1i:¬ ((s[k]).toNat:Int) < 97:=by omega
      by_cases h2:122 < (s[k]).toNat
      ·have h2i:(122:Int) < ((s[k]).toNat:Int):=by omega
       go_wp2
       go_ret
       exact ⟨qc (HA.out (by rw [HL.out];simp;omega)).symm,rfl⟩
      ·have h2i:¬ (122:Int) < ((s[k]).toNat:Int):=by omega
       go_wp2
       go_round
       case rel=>exact ⟨k+1,by omega,by go_num,HT.out (by rw [HL.out];simp;omega)⟩
       case measure=>simp [intOf];omega
    ·have HF:Hid (zG s.data.toList=true):=by
      show _=_
      rw [HE2.out]
      have:=Hall.out
      rwa [List.take_of_length_le (by simp;omega)] at this
     go_wp2
     go_ret
     exact ⟨qc HF.out.symm,rfl⟩
  ·have h2i:(8:Int) < (s.size:Int):=by omega
   have HF:Hid (zG s.data.toList=false):=by show _=_;rw [HE.out];simp [h2]
   go_wp2
   go_ret
   exact ⟨qc HF.out.symm,rfl⟩
 ·have h1i:(s.size:Int) < 1:=by omega
  have HF:Hid (zG s.data.toList=false):=by show _=_;rw [HE.out];simp [h1]
  go_wp2
  go_ret
  exact ⟨qc HF.out.symm,rfl⟩
theorem Mr (s:List UInt8) (w:World) (hs:s.length≤maxLen) :
  Calls Tryz.prog 132 #[strB s] w fun e w'=>e=.returned (.bool (zG s))∧w'=w :=
 PM ⟨s.toArray⟩ w (by rw [jM];exact hs)
theorem Ad (c:ColB) (hk:-9223372036854775808≤c.key):QL c=(zG c.name && ((decide (c.kind=0) || decide (c.kind=1)) && (decide (c.key=0) || (decide (1≤c.key) && decide (c.key≤9))))):=by
 apply Tj
 simp only [QL,Bool.and_eq_true,Bool.or_eq_true,decide_eq_true_eq]
 constructor
 ·rintro ⟨h1,h2,h3⟩;exact ⟨h1,by omega,by omega⟩
 ·rintro ⟨h1,h2,h3⟩;exact ⟨h1,by omega,by omega⟩
theorem VD (c:ColB) (v:Value) (w:World) (hc:Tc c) (hv:v.oneCell'=true) :
  Calls Tryz.prog 118 #[colV c v] w fun e w'=>e=.returned (.bool (QL c))∧Below w.heap.size w w':=by
 obtain ⟨h1,h2,h3,h4⟩:=hc
 have HP:=hid (Ad c h3)
 have H1:=hid h1
 have HB:=hid ((Below.refl w.heap.size w).alloc (Nat.le_refl _) (.cells #[strB c.name,.int .i64 c.kind,.int .i64 c.key,v] 31))
 obtain ⟨nm,kd,ky,cs⟩:=c
 simp only at *
 clear h1 h2
 generalize hA:zG nm=A at *
 generalize hA2:(decide (kd=0) || decide (kd=1))=A2 at *
 generalize hA3:(decide (1≤ky) && decide (ky≤9))=A3 at *
 have K1:=hid hA
 have K2:=hid hA2
 have K3:=hid hA3
 clear hA hA2 hA3
 go_enter Tryz.func118,Tryz.ntmps118
 go_wp2_with fail
 refine (Mr nm _ H1.out).mono ?_
 rintro e w1 ⟨rfl,rfl⟩
 rw [K1.out]
 cases A with
 | false =>
  go_wp2
  go_ret
  exact ⟨qc HP.out.symm,HB.out⟩
 | true =>
  go_wp2_with fail
  refine (LJ kd _).mono ?_
  rintro e w1 ⟨rfl,rfl⟩
  rw [K2.out]
  cases A2 with
  | false =>
   go_wp2
   go_ret
   exact ⟨qc HP.out.symm,HB.out⟩
  | true =>
   by_cases hk:ky=0
   ·subst hk
    go_wp2
    go_ret
    exact ⟨qc (by rw [HP.out];simp),HB.out⟩
   ·have hk2:(ky == 0)=false:=by simp [hk]
    have Hk:=hid hk
    clear hk
    go_wp2_with fail
    refine (Kh ky _).mono ?_
    rintro e w1 ⟨rfl,rfl⟩
    rw [K3.out]
    go_wp2
    go_ret
    exact ⟨qc (by rw [HP.out];simp [Hk.out]),HB.out⟩
theorem AO (a:Option Addr) (cap:Nat) (t:List ColB) (s:List UInt8) (w:World) (hm:t.length≤maxLen) (hs:s.length≤maxLen) (hl:LiesT w a t) :
  Calls Tryz.prog 119 #[.slice a t.length cap,strB s] w fun e w'=>e=.returned (.bool (zf t s))∧Below w.heap.size w w':=by
 have Hl:=hid hl
 clear hl
 unfold maxLen at hm hs
 go_enter Tryz.func119,Tryz.ntmps119
 go_wp2
 go_loopw [9] (fun i wr=>∃ k:Nat,k≤t.length∧i=.int .i64 k∧zf (t.take k) s=false∧Below w.heap.size w wr) (fun i _=>t.length - (intOf i).toNat)
 case atStart=>exact ⟨0,Nat.zero_le _,rfl,rfl,Below.refl _ _⟩
 case round =>
  obtain ⟨k,hkl,rfl,hno,hB⟩:=hrel
  have Hno:=hid hno
  clear hno
  by_cases hlt:k < t.length
  ·obtain ⟨b,off,rfl,hbw,hcell⟩:=(Hl.out.later hB).at_ (List.ne_nil_of_length_pos (by omega))
   obtain ⟨g1,g2,g3,v,g4,ca,cap2,rfl,_⟩:=hcell k hlt
   clear hcell
   have hki:(k:Int) < (t.length:Int):=by omega
   have HB1:=hid (hB.alloc hB.size (Obj.cells #[strB (t[k]).name,.int .i64 (t[k]).kind,.int .i64 (t[k]).key,.slice ca (t[k]).cells.length cap2] 31))
   have HS:=hid (IH (t:=t) (k:=t.length) (m:=k) hlt hlt s)
   rw [List.take_length] at HS
   by_cases he:(t[k]).name=s
   ·have HH:Hid (zf t s=true):=by
     simp only [Hid,zf,List.any_eq_true]
     exact ⟨t[k],List.getElem_mem hlt,by simp [he]⟩
    rw [he] at g1
    rw [he] at HB1
    clear he
    go_wp2
    go_ret
    exact ⟨qc HH.out.symm,HB1.out⟩
   ·have hne:((t[k]).name == s)=false:=by simpa using he
    have He:=hid he
    clear he
    go_wp2
    go_roundw
    case rel=>exact ⟨k+1,by omega,by go_num,by rw [HS.out,Hno.out];simp [He.out],HB1.out⟩
    case measure=>simp [intOf];omega
  ·go_wp2
   go_ret
   exact ⟨qc (by have:=Hno.out;rw [List.take_of_length_le (by omega)] at this;rw [this]),hB⟩
theorem LiesT.take {w:World} {a:Option Addr} {t:List ColB} (h:LiesT w a t) (k:Nat):LiesT w a (t.take k):=by
 refine ⟨fun c hc=>h.ok c (List.mem_of_mem_take hc),fun hne=>?_⟩
 obtain ⟨b,off,ha,hb,hc⟩:=h.at_ (fun e=>hne (by rw [e];simp))
 refine ⟨b,off,ha,hb,fun j hj=>?_⟩
 have hj':j < t.length:=by rw [List.length_take] at hj;omega
 have e:(t.take k)[j]=t[j]:=List.getElem_take
 rw [e]
 exact hc j hj'
theorem Iq (a:Option Addr) (cap k:Nat) (t:List ColB) (s:List UInt8) (w:World) (hm:t.length≤maxLen) (hs:s.length≤maxLen) (hk:k≤t.length) (hl:LiesT w a t) :
  Calls Tryz.prog 119 #[.slice a k cap,strB s] w fun e w'=>e=.returned (.bool (zf (t.take k) s))∧Below w.heap.size w w':=by
 have e:(t.take k).length=k:=by rw [List.length_take];omega
 have:=AO a cap (t.take k) s w (by omega) hs (hl.take k)
 rw [e] at this
 exact this
theorem GW (a:Option Addr) (cap:Nat) (t:List ColB) (w:World) (hm:t.length≤maxLen) (hcap:t.length≤cap) (hl:LiesT w a t) :
  Calls Tryz.prog 90 #[.slice a t.length cap] w fun e w'=>e=.returned (.bool (jX t))∧Below w.heap.size w w':=by
 have Hl:=hid hl
 clear hl
 have hm0:=hm
 unfold maxLen at hm
 have HE:Hid (jX t=(Jl t t.length && (decide (1≤t.length) && decide (t.length≤6)))):=rfl
 by_cases h1:1≤t.length
 ·have h1i:¬ (t.length:Int) < 1:=by omega
  by_cases h6:t.length≤6
  ·have h6i:¬ (6:Int) < (t.length:Int):=by omega
   have HE2:Hid (jX t=Jl t t.length):=by show _=_;rw [HE.out];simp [h1,h6]
   go_enter Tryz.func90,Tryz.ntmps90
   go_wp2
   go_loopw [15] (fun i wr=>∃ k:Nat,k≤t.length∧i=.int .i64 k∧Jl t k=true∧Below w.heap.size w wr) (fun i _=>t.length - (intOf i).toNat)
   case atStart=>exact ⟨0,Nat.zero_le _,rfl,rfl,Below.refl _ _⟩
   case round =>
    obtain ⟨k,hkl,rfl,hall,hB⟩:=hrel
    have Hall:=hid hall
    clear hall
    by_cases hlt:k < t.length
    ·obtain ⟨b,off,rfl,hbw,hcell⟩:=(Hl.out.later hB).at_ (List.ne_nil_of_length_pos (by omega))
     obtain ⟨g1,g2,g3,v,g4,ca,cap2,rfl,_⟩:=hcell k hlt
     clear hcell
     have Hok:=hid (Hl.out.ok t[k] (List.getElem_mem hlt))
     have hnl:(t[k]).name.length≤maxLen:=Hok.out.1
     have Hnl:=hid hnl
     clear hnl
     have HT:=hid (EW hlt Hall.out)
     have HN:=hid (MR (t:=t) hlt)
     have hki:(k:Int) < (t.length:Int):=by omega
     have hkc:(k:Int)≤(cap:Int):=by omega
     go_wp2_with fail
     obtain ⟨hbb,hsb,hcb,_⟩:=jK wr #[strB (t[k]).name,.int .i64 (t[k]).kind,.int .i64 (t[k]).key,.slice ca (t[k]).cells.length cap2] 31
     have y0:=hcb 0
     have y1:=hcb 1
     have y2:=hcb 2
     have y3:=hcb 3
     simp only [List.getElem?_toArray,List.getElem?_cons_zero,List.getElem?_cons_succ] at y0 y1 y2 y3
     have HBb:=hid (hB.trans (hbb.mono hB.size))
     clear hcb hbb g1 g2 g3 g4 hB hbw
     generalize wr.alloc _=wb at *
     have HL:=hid (Hl.out.later HBb.out)
     cases hh:QL t[k] with
     | false =>
      have Hh:=hid hh
      clear hh
      first|go_region_with (first
       | (go_at_call 118;refine (VD t[k] (.slice ca (t[k]).cells.length cap2) _ Hok.out rfl).mono ?_;rintro e w5 ⟨rfl,hb5⟩;rw [Hh.out];replace hb5:=jl hb5))|fail
      all_goals
       go_simp
       go_wp2
       go_ret
       exact ⟨qc (HN.out (by rw [Hh.out];rfl)).symm,HBb.out.trans (hb5.mono HBb.out.size)⟩
     | true =>
      have Hh:=hid hh
      clear hh
      first|go_region_with (first
       | (go_at_call 118;refine (VD t[k] (.slice ca (t[k]).cells.length cap2) _ Hok.out rfl).mono ?_;rintro e w5 ⟨rfl,hb5⟩;rw [Hh.out];replace hb5:=jl hb5;have z0:=(hb5.cell (p:=⟨wr.heap.size,0,none⟩) hsb).trans y0)
       | (go_at_call 119;refine (Iq (some ⟨b,off,none⟩) cap k t (t[k]).name _ hm0 Hnl.out hkl (HL.out.later hb5)).mono ?_;rintro e w6 ⟨rfl,hb6⟩))|fail
      have hB6:=HBb.out.trans (((hb5.trans (hb6.mono hb5.size))).mono HBb.out.size)
      go_simp
      cases hx:zf (t.take k) (t[k]).name with
      | true =>
       have Hx:=hid hx
       clear hx
       go_wp2
       go_ret
       exact ⟨qc (HN.out (by rw [Hx.out];simp)).symm,hB6⟩
      | false =>
       have Hx:=hid hx
       clear hx
       go_wp2
       go_roundw
       case rel=>exact ⟨k+1,by omega,by go_num,by rw [HT.out,Hh.out,Hx.out];rfl,hB6⟩
       case measure=>simp [intOf];omega
    ·have hke:k=t.length:=by omega
     subst hke
     go_wp2
     go_ret
     exact ⟨qc (by rw [HE2.out,Hall.out]),hB⟩
  ·have h6i:(6:Int) < (t.length:Int):=by omega
   have HF:Hid (jX t=false):=by show _=_;rw [HE.out];simp [h6]
   go_enter Tryz.func90,Tryz.ntmps90
   go_wp2
   go_ret
   exact ⟨qc HF.out.symm,Below.refl _ _⟩
 ·have h1i:(t.length:Int) < 1:=by omega
  have HF:Hid (jX t=false):=by show _=_;rw [HE.out];simp [h1]
  go_enter Tryz.func90,Tryz.ntmps90
  go_wp2
  go_ret
  exact ⟨qc HF.out.symm,Below.refl _ _⟩
end
section
def RG (n size i:Nat):List Value:=[.int .i64 ((i*size:Nat):Int),.int .i64 ((min (i*size+size) n:Nat):Int)]
def JJ (n size k:Nat):List Value:=(List.range k).flatMap (RG n size)
theorem YQ (n size k:Nat):JJ n size (k+1)=JJ n size k++RG n size k:=by
 unfold JJ
 rw [List.range_succ,List.flatMap_append]
 simp
theorem Tryz.infoSpan:(Tryz.prog.info? 169).map (fun i=>(i.zero,i.size,i.bytes))=some (some (.agg #[.int .i64 0,.int .i64 0]),2,16):=by kernel_rfl
theorem UQ (n size:Nat) (w:World) (hn:n≤1000) (h1:1≤size) (hs:size≤1000) :
  Calls Tryz.prog 95 #[.int .i64 (n:Int),.int .i64 (size:Int)] w fun e w'=>∃ v,e=.returned v∧w'.ownsRow w.heap.size 169 2 v (jY n size) (JJ n size (jY n size))∧Below w.heap.size w w':=by
 obtain ⟨i0,hi,hz0,hz1,hz2⟩:=info_parts Tryz.infoSpan
 go_enter Tryz.func95,Tryz.ntmps95
 go_wp2
 go_loopw [5,6] (fun v i wr=>∃ k:Nat,k≤jY n size∧i=.int .i64 ((k*size:Nat):Int)∧wr.ownsRow w.heap.size 169 2 v k (JJ n size k)∧Below w.heap.size w wr) (fun _ i _=>n+size - (intOf i).toNat)
 case atStart=>exact ⟨0,Nat.zero_le _,by simp,World.ownsRow_nil _ _ _ _,Below.refl _ _⟩
 case round =>
  obtain ⟨k,hkl,rfl,hown,hB⟩:=hrel
  have hcl:=Ql (n:=n) h1
  have hlt2:=Ju (n:=n) (i:=k) h1
  have hlt3:=Nat.mul_le_mul_right size hkl
  have HKS:Hid ((k+1)*size=k*size+size):=Nat.succ_mul _ _
  have HL:=hid hlt2
  have HSA:Hid (RG n size k=[.int .i64 ((k*size:Nat):Int),.int .i64 ((min (k*size+size) n:Nat):Int)]):=rfl
  clear hlt2
  generalize k*size=m at *
  by_cases hlt:m < n
  ·have hmi:(m:Int) < (n:Int):=by omega
   have hkc:=HL.out.2 hlt
   by_cases hmn:m+size≤n
   ·have hq:¬ (n:Int) < (m:Int)+(size:Int):=by omega
    have hE:min (m+size) n=m+size:=by omega
    rw [hE] at HSA
    simp only [Int.natCast_add] at HSA
    clear hE
    have hown1:=hown.alloc (Obj.cells #[.int .i64 ((m:Nat):Int),.int .i64 ((m:Int)+(size:Int))] 169)
    go_wp2_with (at_builtin;refine wpList_append_own _ rfl (.tmp 13) (.tmp 21) 166 rfl w.heap.size 169 i0 (.agg #[.int .i64 0,.int .i64 0]) 2 16 Tryz.underlying166 hi hz0 hz1 hz2 rfl (by decide) _ _ _ rfl hown1 ⟨_,0,none⟩ 1 1 [.int .i64 ((m:Nat):Int),.int .i64 ((m:Int)+(size:Int))] rfl rfl (qE wr #[.int .i64 ((m:Nat):Int),.int .i64 ((m:Int)+(size:Int))] 169) (by intro u hu;simp at hu;rcases hu with rfl|rfl<;>rfl) (by unfold maxLen;omega) (by omega) (by have:=hB.size;simp;omega) ?_)
    intro v3 w3 hown3 hgr3 _
    have HO3:Hid (w3.ownsRow w.heap.size 169 2 v3 (k+1) (JJ n size (k+1))):=by
     rw [YQ,HSA.out]
     exact hown3
    have HB3:=hid ((hB.alloc hB.size _).grown hgr3 (by have:=hB.size;simp;omega) (fun k hk=>(hown.lt k hk).1))
    clear hown hown1 hown3 hgr3 hB
    go_wp2
    go_roundw
    case rel=>exact ⟨k+1,by omega,by rw [HKS.out];go_num,HO3.out,HB3.out⟩
    case measure=>simp [intOf];omega
   ·have hq:(n:Int) < (m:Int)+(size:Int):=by omega
    have hE:min (m+size) n=n:=by omega
    rw [hE] at HSA
    clear hE
    have hown1:=hown.alloc (Obj.cells #[.int .i64 ((m:Nat):Int),.int .i64 ((n:Nat):Int)] 169)
    go_wp2_with (at_builtin;refine wpList_append_own _ rfl (.tmp 13) (.tmp 21) 166 rfl w.heap.size 169 i0 (.agg #[.int .i64 0,.int .i64 0]) 2 16 Tryz.underlying166 hi hz0 hz1 hz2 rfl (by decide) _ _ _ rfl hown1 ⟨_,0,none⟩ 1 1 [.int .i64 ((m:Nat):Int),.int .i64 ((n:Nat):Int)] rfl rfl (qE wr #[.int .i64 ((m:Nat):Int),.int .i64 ((n:Nat):Int)] 169) (by intro u hu;simp at hu;rcases hu with rfl|rfl<;>rfl) (by unfold maxLen;omega) (by omega) (by have:=hB.size;simp;omega) ?_)
    intro v3 w3 hown3 hgr3 _
    have HO3:Hid (w3.ownsRow w.heap.size 169 2 v3 (k+1) (JJ n size (k+1))):=by
     rw [YQ,HSA.out]
     exact hown3
    have HB3:=hid ((hB.alloc hB.size _).grown hgr3 (by have:=hB.size;simp;omega) (fun k hk=>(hown.lt k hk).1))
    clear hown hown1 hown3 hgr3 hB
    go_wp2
    go_roundw
    case rel=>exact ⟨k+1,by omega,by rw [HKS.out];go_num,HO3.out,HB3.out⟩
    case measure=>simp [intOf];omega
  ·have hke:k=jY n size:=by
    have:=HL.out
    omega
   subst hke
   go_wp2
   go_ret
   exact ⟨_,rfl,hown,hB⟩
end
end Go.Proofs.YthhpbhpfagoapabGreat
