import Derived.Test.YthhpbhpfagoapaaGreatJAZ
import Derived.Test.YthhpbhpfagoapaaGreatJAD
namespace Go.Proofs.YthhpbhpfagoapaaGreat
set_option linter.unusedVariables false
set_option linter.unusedSimpArgs false
set_option maxRecDepth 100000
set_option maxHeartbeats 16000000
open Go.RowKit
section
theorem ZC (n:Int) (w:World) :
  Calls Tryz.prog 153 #[.int .i64 n] w fun e w'=>e=.returned (.bool (decide (1≤n) && decide (n≤9)))∧w'=w:=by
 go_enter Tryz.func153,Tryz.ntmps153
 go_wp2
 all_goals
  go_ret
  exact ⟨jU (by simp;try omega),rfl⟩
theorem GG (n:Int) (w:World) :
  Calls Tryz.prog 213 #[.int .i64 n] w fun e w'=>e=.returned (.bool (decide (1≤n) && decide (n≤60)))∧w'=w:=by
 go_enter Tryz.func213,Tryz.ntmps213
 go_wp2
 all_goals
  go_ret
  exact ⟨jU (by simp;try omega),rfl⟩
theorem At (n:Int) (w:World) :
  Calls Tryz.prog 136 #[.int .i64 n] w fun e w'=>e=.returned (.bool (decide (0≤n) && decide (n≤65535)))∧w'=w:=by
 go_enter Tryz.func136,Tryz.ntmps136
 go_wp2
 all_goals
  go_ret
  exact ⟨jU (by simp;try omega),rfl⟩
theorem UF (s:List UInt8) (w:World) (hs:s.length≤maxLen) :
  Calls Tryz.prog 94 #[strB s] w fun e w'=>e=.returned (.bool (decide (s.length≤20)))∧w'=w:=by
 unfold maxLen at hs
 go_enter Tryz.func94,Tryz.ntmps94
 go_wp2
 go_ret
 exact ⟨jU (by simp;try omega),rfl⟩
theorem GS (p:PlanB) (w:World) :
  Calls Tryz.prog 135 #[planV p] w fun e w'=>e=.returned (.bool (qB p))∧Below w.heap.size w w':=by
 have HP:Hid (qB p=((decide (1≤p.group) && decide (p.group≤60)) && ((decide (1≤p.page) && decide (p.page≤60)) && (decide (1≤p.foot) && decide (p.foot≤9))))):=rfl
 obtain ⟨a,b,c,d⟩:=p
 simp only at HP
 have HB:=hid ((Below.refl w.heap.size w).alloc (Nat.le_refl _) (.cells #[.int .i64 a,.int .i64 b,.int .i64 c,.bool d] 24))
 generalize hA:(decide (1≤a) && decide (a≤60))=A at *
 generalize hA2:(decide (1≤b) && decide (b≤60))=A2 at *
 generalize hA3:(decide (1≤c) && decide (c≤9))=A3 at *
 have K1:=hid hA
 have K2:=hid hA2
 have K3:=hid hA3
 clear hA hA2 hA3
 go_enter Tryz.func135,Tryz.ntmps135
 go_wp2_with fail
 refine (GG a _).mono ?_
 rintro e w1 ⟨rfl,rfl⟩
 rw [K1.out]
 cases A with
 | false =>
  go_wp2
  go_ret
  exact ⟨jU HP.out.symm,HB.out⟩
 | true =>
  go_wp2_with fail
  refine (GG b _).mono ?_
  rintro e w1 ⟨rfl,rfl⟩
  rw [K2.out]
  cases A2 with
  | false =>
   go_wp2
   go_ret
   exact ⟨jU HP.out.symm,HB.out⟩
  | true =>
   go_wp2_with fail
   refine (ZC c _).mono ?_
   rintro e w1 ⟨rfl,rfl⟩
   rw [K3.out]
   go_wp2
   go_ret
   exact ⟨jU HP.out.symm,HB.out⟩
theorem Ci (s:ByteArray) (w:World) (hs:s.size≤maxLen) :
  Calls Tryz.prog 268 #[.string s] w fun e w'=>e=.returned (.bool (zj s.data.toList))∧w'=w:=by
 unfold maxLen at hs
 have HE:Hid (zj s.data.toList=(s.data.toList.all XW && (decide (1≤s.size) && decide (s.size≤8)))):=by
  show _=_
  rw [Mw];simp
 go_enter Tryz.func268,Tryz.ntmps268
 by_cases h1:1≤s.size
 ·have h1i:¬ (s.size:Int) < 1:=by omega
  by_cases h2:s.size≤8
  ·have h2i:¬ (8:Int) < (s.size:Int):=by omega
   have HE2:Hid (zj s.data.toList=s.data.toList.all XW):=by
    show _=_
    rw [HE.out];simp [h1,h2]
   go_wp2
   go_loop [14] (fun i=>∃ k:Nat,k≤s.size∧i=.int .i64 k∧(s.data.toList.take k).all XW=true) (fun i=>s.size - (intOf i).toNat)
   case atStart=>exact ⟨0,Nat.zero_le _,rfl,rfl⟩
   case round =>
    obtain ⟨k,hk,rfl,hall⟩:=hrel
    have Hall:=hid hall
    clear hall
    by_cases hlt:k < s.size
    ·have hbt:=(s[k]'hlt).toNat_lt
     have HT:Hid (XW s[k]=true→(s.data.toList.take (k+1)).all XW=true):=by
      intro h
      rw [Rp s k hlt,List.all_append,Hall.out]
      simp [h]
     have HA:Hid (XW s[k]=false→zj s.data.toList=false):=by
      intro hf
      rw [HE2.out,List.all_eq_false]
      exact ⟨s[k],by have:=List.getElem_mem (l:=s.data.toList) (n:=k) (by simpa using hlt);exact this,by simp [hf]⟩
     have HL:Hid (XW s[k]=(decide (97≤(s[k]).toNat) && decide ((s[k]).toNat≤122))):=rfl
     by_cases h1:(s[k]).toNat < 97
     ·have h1i:((s[k]).toNat:Int) < 97:=by omega
      go_wp2
      go_ret
      exact ⟨jU (HA.out (by rw [HL.out];simp;omega)).symm,rfl⟩
     ·have h1i:¬ ((s[k]).toNat:Int) < 97:=by omega
      by_cases h2:122 < (s[k]).toNat
      ·have h2i:(122:Int) < ((s[k]).toNat:Int):=by omega
       go_wp2
       go_ret
       exact ⟨jU (HA.out (by rw [HL.out];simp;omega)).symm,rfl⟩
      ·have h2i:¬ (122:Int) < ((s[k]).toNat:Int):=by omega
       go_wp2
       go_round
       case rel=>exact ⟨k+1,by omega,by go_num,HT.out (by rw [HL.out];simp;omega)⟩
       case measure=>simp [intOf];omega
    ·have HF:Hid (zj s.data.toList=true):=by
      show _=_
      rw [HE2.out]
      have:=Hall.out
      rwa [List.take_of_length_le (by simp;omega)] at this
     go_wp2
     go_ret
     exact ⟨jU HF.out.symm,rfl⟩
  ·have h2i:(8:Int) < (s.size:Int):=by omega
   have HF:Hid (zj s.data.toList=false):=by show _=_;rw [HE.out];simp [h2]
   go_wp2
   go_ret
   exact ⟨jU HF.out.symm,rfl⟩
 ·have h1i:(s.size:Int) < 1:=by omega
  have HF:Hid (zj s.data.toList=false):=by show _=_;rw [HE.out];simp [h1]
  go_wp2
  go_ret
  exact ⟨jU HF.out.symm,rfl⟩
theorem Dm (s:List UInt8) (w:World) (hs:s.length≤maxLen) :
  Calls Tryz.prog 268 #[strB s] w fun e w'=>e=.returned (.bool (zj s))∧w'=w :=
 Ci ⟨s.toArray⟩ w (by rw [jP];exact hs)
theorem EK (c:ColB) (hk:-9223372036854775808≤c.key):JZ c=(zj c.name && ((decide (c.kind=0) || decide (c.kind=1)) && (decide (c.key=0) || (decide (1≤c.key) && decide (c.key≤9))))):=by
 apply Mc
 simp only [JZ,Bool.and_eq_true,Bool.or_eq_true,decide_eq_true_eq]
 constructor
 ·rintro ⟨h1,h2,h3⟩;exact ⟨h1,by omega,by omega⟩
 ·rintro ⟨h1,h2,h3⟩;exact ⟨h1,by omega,by omega⟩
theorem Uw (c:ColB) (v:Value) (w:World) (hc:DX c) (hv:v.oneCell'=true) :
  Calls Tryz.prog 254 #[colV c v] w fun e w'=>e=.returned (.bool (JZ c))∧Below w.heap.size w w':=by
 obtain ⟨h1,h2,h3,h4⟩:=hc
 have HP:=hid (EK c h3)
 have H1:=hid h1
 have HB:=hid ((Below.refl w.heap.size w).alloc (Nat.le_refl _) (.cells #[strB c.name,.int .i64 c.kind,.int .i64 c.key,v] 61))
 obtain ⟨nm,kd,ky,cs⟩:=c
 simp only at *
 clear h1 h2
 generalize hA:zj nm=A at *
 generalize hA2:(decide (kd=0) || decide (kd=1))=A2 at *
 generalize hA3:(decide (1≤ky) && decide (ky≤9))=A3 at *
 have K1:=hid hA
 have K2:=hid hA2
 have K3:=hid hA3
 clear hA hA2 hA3
 go_enter Tryz.func254,Tryz.ntmps254
 go_wp2_with fail
 refine (Dm nm _ H1.out).mono ?_
 rintro e w1 ⟨rfl,rfl⟩
 rw [K1.out]
 cases A with
 | false =>
  go_wp2
  go_ret
  exact ⟨jU HP.out.symm,HB.out⟩
 | true =>
  go_wp2_with fail
  refine (Zy kd _).mono ?_
  rintro e w1 ⟨rfl,rfl⟩
  rw [K2.out]
  cases A2 with
  | false =>
   go_wp2
   go_ret
   exact ⟨jU HP.out.symm,HB.out⟩
  | true =>
   by_cases hk:ky=0
   ·subst hk
    go_wp2
    go_ret
    exact ⟨jU (by rw [HP.out];simp),HB.out⟩
   ·have hk2:(ky == 0)=false:=by simp [hk]
    have Hk:=hid hk
    clear hk
    go_wp2_with fail
    refine (ZC ky _).mono ?_
    rintro e w1 ⟨rfl,rfl⟩
    rw [K3.out]
    go_wp2
    go_ret
    exact ⟨jU (by rw [HP.out];simp [Hk.out]),HB.out⟩
theorem EZ (a:Option Addr) (cap:Nat) (t:List ColB) (s:List UInt8) (w:World) (hm:t.length≤maxLen) (hs:s.length≤maxLen) (hl:LiesT w a t) :
  Calls Tryz.prog 255 #[.slice a t.length cap,strB s] w fun e w'=>e=.returned (.bool (xL t s))∧Below w.heap.size w w':=by
 have Hl:=hid hl
 clear hl
 unfold maxLen at hm hs
 go_enter Tryz.func255,Tryz.ntmps255
 go_wp2
 go_loopw [9] (fun i wr=>∃ k:Nat,k≤t.length∧i=.int .i64 k∧xL (t.take k) s=false∧Below w.heap.size w wr) (fun i _=>t.length - (intOf i).toNat)
 case atStart=>exact ⟨0,Nat.zero_le _,rfl,rfl,Below.refl _ _⟩
 case round =>
  obtain ⟨k,hkl,rfl,hno,hB⟩:=hrel
  have Hno:=hid hno
  clear hno
  by_cases hlt:k < t.length
  ·obtain ⟨b,off,rfl,hbw,hcell⟩:=(Hl.out.later hB).at_ (List.ne_nil_of_length_pos (by omega))
   obtain ⟨g1,g2,g3,v,g4,ca,cap2,rfl,_⟩:=hcell k hlt
   clear hcell
   have hki:(k:Int) < (t.length:Int):=by omega
   have HB1:=hid (hB.alloc hB.size (Obj.cells #[strB (t[k]).name,.int .i64 (t[k]).kind,.int .i64 (t[k]).key,.slice ca (t[k]).cells.length cap2] 61))
   have HS:=hid (YN (t:=t) (k:=t.length) (m:=k) hlt hlt s)
   rw [List.take_length] at HS
   by_cases he:(t[k]).name=s
   ·have HH:Hid (xL t s=true):=by
     simp only [Hid,xL,List.any_eq_true]
     exact ⟨t[k],List.getElem_mem hlt,by simp [he]⟩
    rw [he] at g1
    rw [he] at HB1
    clear he
    go_wp2
    go_ret
    exact ⟨jU HH.out.symm,HB1.out⟩
   ·have hne:((t[k]).name == s)=false:=by simpa using he
    have He:=hid he
    clear he
    go_wp2
    go_roundw
    case rel=>exact ⟨k+1,by omega,by go_num,by rw [HS.out,Hno.out];simp [He.out],HB1.out⟩
    case measure=>simp [intOf];omega
  ·go_wp2
   go_ret
   exact ⟨jU (by have:=Hno.out;rw [List.take_of_length_le (by omega)] at this;rw [this]),hB⟩
theorem LiesT.take {w:World} {a:Option Addr} {t:List ColB} (h:LiesT w a t) (k:Nat):LiesT w a (t.take k):=by
 refine ⟨fun c hc=>h.ok c (List.mem_of_mem_take hc),fun hne=>?_⟩
 obtain ⟨b,off,ha,hb,hc⟩:=h.at_ (fun e=>hne (by rw [e];simp))
 refine ⟨b,off,ha,hb,fun j hj=>?_⟩
 have hj':j < t.length:=by rw [List.length_take] at hj;omega
 have e:(t.take k)[j]=t[j]:=List.getElem_take
 rw [e]
 exact hc j hj'
theorem Yp (a:Option Addr) (cap k:Nat) (t:List ColB) (s:List UInt8) (w:World) (hm:t.length≤maxLen) (hs:s.length≤maxLen) (hk:k≤t.length) (hl:LiesT w a t) :
  Calls Tryz.prog 255 #[.slice a k cap,strB s] w fun e w'=>e=.returned (.bool (xL (t.take k) s))∧Below w.heap.size w w':=by
 have e:(t.take k).length=k:=by rw [List.length_take];omega
 have:=EZ a cap (t.take k) s w (by omega) hs (hl.take k)
 rw [e] at this
 exact this
theorem Ga (a:Option Addr) (cap:Nat) (t:List ColB) (w:World) (hm:t.length≤maxLen) (hcap:t.length≤cap) (hl:LiesT w a t) :
  Calls Tryz.prog 212 #[.slice a t.length cap] w fun e w'=>e=.returned (.bool (jQ t))∧Below w.heap.size w w':=by
 have Hl:=hid hl
 clear hl
 have hm0:=hm
 unfold maxLen at hm
 have HE:Hid (jQ t=(zH t t.length && (decide (1≤t.length) && decide (t.length≤6)))):=rfl
 by_cases h1:1≤t.length
 ·have h1i:¬ (t.length:Int) < 1:=by omega
  by_cases h6:t.length≤6
  ·have h6i:¬ (6:Int) < (t.length:Int):=by omega
   have HE2:Hid (jQ t=zH t t.length):=by show _=_;rw [HE.out];simp [h1,h6]
   go_enter Tryz.func212,Tryz.ntmps212
   go_wp2
   go_loopw [15] (fun i wr=>∃ k:Nat,k≤t.length∧i=.int .i64 k∧zH t k=true∧Below w.heap.size w wr) (fun i _=>t.length - (intOf i).toNat)
   case atStart=>exact ⟨0,Nat.zero_le _,rfl,rfl,Below.refl _ _⟩
   case round =>
    obtain ⟨k,hkl,rfl,hall,hB⟩:=hrel
    have Hall:=hid hall
    clear hall
    by_cases hlt:k < t.length
    ·obtain ⟨b,off,rfl,hbw,hcell⟩:=(Hl.out.later hB).at_ (List.ne_nil_of_length_pos (by omega))
     obtain ⟨g1,g2,g3,v,g4,ca,cap2,rfl,_⟩:=hcell k hlt
     clear hcell
     have Hok:=hid (Hl.out.ok t[k] (List.getElem_mem hlt))
     have hnl:(t[k]).name.length≤maxLen:=Hok.out.1
     have Hnl:=hid hnl
     clear hnl
     have HT:=hid (Yl hlt Hall.out)
     have HN:=hid (Dz (t:=t) hlt)
     have hki:(k:Int) < (t.length:Int):=by omega
     have hkc:(k:Int)≤(cap:Int):=by omega
     go_wp2_with fail
     obtain ⟨hbb,hsb,hcb,_⟩:=qa wr #[strB (t[k]).name,.int .i64 (t[k]).kind,.int .i64 (t[k]).key,.slice ca (t[k]).cells.length cap2] 61
     have y0:=hcb 0
     have y1:=hcb 1
     have y2:=hcb 2
     have y3:=hcb 3
     simp only [List.getElem?_toArray,List.getElem?_cons_zero,List.getElem?_cons_succ] at y0 y1 y2 y3
     have HBb:=hid (hB.trans (hbb.mono hB.size))
     clear hcb hbb g1 g2 g3 g4 hB hbw
     generalize wr.alloc _=wb at *
     have HL:=hid (Hl.out.later HBb.out)
     cases hh:JZ t[k] with
     | false =>
      have Hh:=hid hh
      clear hh
      first|go_region_with (first
       | (go_at_call 254;refine (Uw t[k] (.slice ca (t[k]).cells.length cap2) _ Hok.out rfl).mono ?_;rintro e w5 ⟨rfl,hb5⟩;rw [Hh.out];replace hb5:=ji hb5))|fail
      all_goals
       go_simp
       go_wp2
       go_ret
       exact ⟨jU (HN.out (by rw [Hh.out];rfl)).symm,HBb.out.trans (hb5.mono HBb.out.size)⟩
     | true =>
      have Hh:=hid hh
      clear hh
      first|go_region_with (first
       | (go_at_call 254;refine (Uw t[k] (.slice ca (t[k]).cells.length cap2) _ Hok.out rfl).mono ?_;rintro e w5 ⟨rfl,hb5⟩;rw [Hh.out];replace hb5:=ji hb5;have z0:=(hb5.cell (p:=⟨wr.heap.size,0,none⟩) hsb).trans y0)
       | (go_at_call 255;refine (Yp (some ⟨b,off,none⟩) cap k t (t[k]).name _ hm0 Hnl.out hkl (HL.out.later hb5)).mono ?_;rintro e w6 ⟨rfl,hb6⟩))|fail
      have hB6:=HBb.out.trans (((hb5.trans (hb6.mono hb5.size))).mono HBb.out.size)
      go_simp
      cases hx:xL (t.take k) (t[k]).name with
      | true =>
       have Hx:=hid hx
       clear hx
       go_wp2
       go_ret
       exact ⟨jU (HN.out (by rw [Hx.out];simp)).symm,hB6⟩
      | false =>
       have Hx:=hid hx
       clear hx
       go_wp2
       go_roundw
       case rel=>exact ⟨k+1,by omega,by go_num,by rw [HT.out,Hh.out,Hx.out];rfl,hB6⟩
       case measure=>simp [intOf];omega
    ·have hke:k=t.length:=by omega
     subst hke
     go_wp2
     go_ret
     exact ⟨jU (by rw [HE2.out,Hall.out]),hB⟩
  ·have h6i:(6:Int) < (t.length:Int):=by omega
   have HF:Hid (jQ t=false):=by show _=_;rw [HE.out];simp [h6]
   go_enter Tryz.func212,Tryz.ntmps212
   go_wp2
   go_ret
   exact ⟨jU HF.out.symm,Below.refl _ _⟩
 ·have h1i:(t.length:Int) < 1:=by omega
  have HF:Hid (jQ t=false):=by show _=_;rw [HE.out];simp [h1]
  go_enter Tryz.func212,Tryz.ntmps212
  go_wp2
  go_ret
  exact ⟨jU HF.out.symm,Below.refl _ _⟩
end
section
theorem XC (a:Option Addr) (cap:Nat) (r:List KeyB) (n:Int) (w:World) (hm:r.length≤maxLen) (hl:LiesK w a r) :
  Calls Tryz.prog 162 #[.slice a r.length cap,.int .i64 n] w fun e w'=>e=.returned (.tuple #[strB (jl r n),.bool (js r n)])∧Below w.heap.size w w':=by
 have Hl:=hid hl
 clear hl
 unfold maxLen at hm
 go_enter Tryz.func162,Tryz.ntmps162
 go_wp2
 go_loopw [10] (fun i wr=>∃ k:Nat,k≤r.length∧i=.int .i64 k∧js (r.take k) n=false∧Below w.heap.size w wr) (fun i _=>r.length - (intOf i).toNat)
 case atStart=>exact ⟨0,Nat.zero_le _,rfl,rfl,Below.refl _ _⟩
 case round =>
  obtain ⟨k,hkl,rfl,hno,hB⟩:=hrel
  have Hno:=hid hno
  clear hno
  by_cases hlt:k < r.length
  ·obtain ⟨b,off,rfl,hbw,hcell⟩:=(Hl.out.later hB).at_ (List.ne_nil_of_length_pos (by omega))
   obtain ⟨g1,g2⟩:=hcell k hlt
   clear hcell
   have hki:(k:Int) < (r.length:Int):=by omega
   have HB1:=hid (hB.alloc hB.size (Obj.cells #[.int .i64 (r[k]).number,strB (r[k]).secret] 63))
   by_cases he:(r[k]).number=n
   ·have HF:=hid (Sc hlt Hno.out he)
    have HH:Hid (js r n=true):=by
     simp only [Hid,js,List.any_eq_true]
     exact ⟨r[k],List.getElem_mem hlt,by simp [he]⟩
    rw [he] at g1 HB1
    clear he
    go_wp2
    go_ret2
    exact ⟨by rw [jl,HF.out,HH.out];rfl,HB1.out⟩
   ·have hne:((r[k]).number == n)=false:=by simpa using he
    have He:=hid he
    have HS:=hid (VQ (r:=r) (k:=r.length) (m:=k) hlt hlt n)
    rw [List.take_length] at HS
    clear he
    go_wp2
    go_roundw
    case rel=>exact ⟨k+1,by omega,by go_num,by rw [HS.out,Hno.out];simp [He.out],HB1.out⟩
    case measure=>simp [intOf];omega
  ·have HN:Hid (js r n=false):=by have:=Hno.out;rw [List.take_of_length_le (by omega)] at this;exact this
   go_wp2
   go_ret2
   exact ⟨by rw [jl,Rs HN.out,HN.out];rfl,hB⟩
theorem Ee {kind:Int} (l:List CellB) (h:kind=0∨kind=1):jR kind l=(decide (l.length≤60) && l.all (qM kind)):=by
 unfold jR
 rcases h with rfl|rfl<;>simp
theorem IJ (a:Option Addr) (cap:Nat) (t:List ColB) (w:World) (hm:t.length≤maxLen) (hcap:t.length≤cap) (hl:LiesT w a t) :
  Calls Tryz.prog 134 #[.slice a t.length cap] w fun e w'=>e=.returned (.bool (xl t))∧Below w.heap.size w w':=by
 have Hl:=hid hl
 clear hl
 go_enter Tryz.func134,Tryz.ntmps134
 go_wp2_with fail
 refine (Ga a cap t w hm hcap Hl.out).mono ?_
 rintro e w1 ⟨rfl,hb1⟩
 cases hh:jQ t with
 | false =>
  have HF:Hid (xl t=false):=by show xl t=false;rw [xl,hh,Bool.false_and]
  clear hh
  go_wp2
  go_ret
  exact ⟨jU HF.out.symm,hb1⟩
 | true =>
  have h6:1≤t.length∧t.length≤6:=by
   simp only [jQ,Bool.and_eq_true,decide_eq_true_eq] at hh
   exact hh.2
  have Hh:=hid hh
  obtain ⟨h1,h6⟩:=h6
  clear hh
  obtain ⟨b,off,rfl,hbw,hcell⟩:=(Hl.out.later hb1).at_ (List.ne_nil_of_length_pos (by omega))
  obtain ⟨_,_,_,v0,f4,ca0,cap0,rfl,hcc0,hcl0,hcm0⟩:=hcell 0 (by omega)
  simp only [Nat.zero_mul,Nat.add_zero] at f4
  have h0i:(0:Int) < (t.length:Int):=by omega
  have HR:=hid (NI (t:=t) (by omega))
  clear hcell hcl0
  go_wp2
  go_loopw [16] (fun i wr=>∃ k:Nat,k≤t.length∧i=.int .i64 k∧((t.take k).all fun c=>jR c.kind c.cells && decide (c.cells.length=jY t))=true∧Below w.heap.size w wr) (fun i _=>t.length - (intOf i).toNat)
  case atStart=>exact ⟨0,Nat.zero_le _,rfl,rfl,hb1⟩
  case round =>
   clear hb1 f4 hbw
   obtain ⟨k,hkl,rfl,hall,hB⟩:=hrel
   have Hall:=hid hall
   clear hall
   by_cases hlt:k < t.length
   ·obtain ⟨b,off,hab,hbw,hcell⟩:=(Hl.out.later hB).at_ (List.ne_nil_of_length_pos (by omega))
    simp only [Option.some.injEq,Addr.mk.injEq,and_true] at hab
    obtain ⟨rfl,rfl⟩:=hab
    obtain ⟨g1,g2,g3,v,g4,ca,cap2,rfl,hcc,hcl,hcm⟩:=hcell k hlt
    clear hcell
    have HT:Hid (((t.take (k+1)).all fun c=>jR c.kind c.cells && decide (c.cells.length=jY t))=(jR (t[k]).kind (t[k]).cells && decide ((t[k]).cells.length=jY t))):=by
     show _=_
     rw [List.take_succ_eq_append_getElem hlt,List.all_append,Hall.out]
     simp
    have HN:=hid (Tq (t:=t) hlt)
    have hki:(k:Int) < (t.length:Int):=by omega
    have HK:Hid (jR (t[k]).kind (t[k]).cells=(decide ((t[k]).cells.length≤60) && (t[k]).cells.all (qM (t[k]).kind))):=by
     refine Ee _ ?_
     have h1:=Hh.out
     simp only [jQ,Bool.and_eq_true] at h1
     exact (JF (zX h1.1 (Nat.le_refl _) k hlt).1).2.1
    have hbb:=(Below.refl wr.heap.size wr).alloc (Nat.le_refl _) (.cells #[strB (t[k]).name,.int .i64 (t[k]).kind,.int .i64 (t[k]).key,.slice ca (t[k]).cells.length cap2] 61)
    have HBb:=hid (hB.trans (hbb.mono hB.size))
    have Hcl:=hid (hcl.later hbb)
    clear hbb hcl hB
    by_cases he:(t[k]).cells.length=(t[0]'(by omega)).cells.length
    ·have hei:(((t[k]).cells.length:Int) != ((t[0]'(by omega)).cells.length:Int))=false:=by simp [he]
     have HX:=hid he
     clear he
     go_wp2_with fail
     refine (ZN (t[k]).kind ca cap2 (t[k]).cells _ (by omega) Hcl.out).mono ?_
     rintro e w3 ⟨rfl,hb3⟩
     have hB3:=HBb.out.trans (hb3.mono HBb.out.size)
     rw [← HK.out]
     cases hok:jR (t[k]).kind (t[k]).cells with
     | false =>
      have Hok:=hid hok
      clear hok
      go_wp2
      go_ret
      exact ⟨jU (HN.out (by rw [Hok.out];rfl)).symm,hB3⟩
     | true =>
      have Hok:=hid hok
      clear hok
      go_wp2
      go_roundw
      case rel=>exact ⟨k+1,by omega,by go_num,by rw [HT.out,Hok.out,HR.out];simp [HX.out],hB3⟩
      case measure=>simp [intOf];omega
    ·have hei:(((t[k]).cells.length:Int) != ((t[0]'(by omega)).cells.length:Int))=true:=by simp;omega
     have HX:=hid he
     clear he
     go_wp2
     go_ret
     exact ⟨jU (HN.out (by rw [HR.out];simp [HX.out])).symm,HBb.out⟩
   ·have HE:Hid (xl t=true):=by
     show xl t=true
     have:=Hall.out
     rw [List.take_of_length_le (by omega)] at this
     rw [xl,Hh.out,this];rfl
    go_wp2
    go_ret
    exact ⟨jU HE.out.symm,hB⟩
def UQ (r:List KeyB):List Value:=(List.range 10).map fun (n:Nat)=>Value.bool (js r (n:Int))
theorem UX (r:List KeyB):(UQ r).length=10:=by simp [UQ]
theorem NS (r:List KeyB) (m:Nat) (hm:m < 10):(UQ r)[m]?=some (.bool (js r (m:Int))):=by simp [UQ,hm]
theorem MP {r:List KeyB} {k m:Nat} (hk:k < r.length) (hm:(r[k]).number=(m:Int)) (h10:m < 10):(UQ (r.take k)).set m (.bool true)=UQ (r.take (k+1)):=by
 apply List.ext_getElem?
 intro i
 have e:∀ n:Int,js (r.take (k+1)) n=(js (r.take k) n || decide ((r[k]).number=n)):=by
  intro n
  have:=VQ (r:=r) (k:=r.length) (m:=k) hk hk n
  rw [List.take_length] at this
  exact this
 rw [List.getElem?_set]
 by_cases hi:i < 10
 ·rw [NS _ i hi,NS _ i hi,UX,e,hm]
  by_cases hmi:m=i
  ·subst hmi;simp [h10]
  ·have:¬ ((m:Int)=(i:Int)):=by omega
   simp [hmi,this]
 ·have h1:(UQ (r.take k))[i]?=none:=List.getElem?_eq_none (by rw [UX];omega)
  have h2:(UQ (r.take (k+1)))[i]?=none:=List.getElem?_eq_none (by rw [UX];omega)
  rw [h1,h2,if_neg (by omega)]
theorem Ny (a:Option Addr) (cap:Nat) (r:List KeyB) (w:World) (hm:r.length≤maxLen) (hl:LiesK w a r) :
  Calls Tryz.prog 95 #[.slice a r.length cap] w fun e w'=>e=.returned (.bool (xG r))∧Below w.heap.size w w':=by
 have Hl:=hid hl
 clear hl
 unfold maxLen at hm
 go_enter Tryz.func95,Tryz.ntmps95
 go_wp2
 generalize hg:w.heap.size=g at *
 go_loopw [8] (fun i wr=>∃ k:Nat,k≤r.length∧i=.int .i64 k∧XE r k=true∧wr.ownsRow g 247 1 (.slice (some ⟨g,0,none⟩) 10 10) 10 (UQ (r.take k))∧Below g w wr∧g < wr.heap.size) (fun i _=>r.length - (intOf i).toNat)
 case atStart =>
  refine ⟨0,Nat.zero_le _,rfl,rfl,?_,?_,?_⟩
  ·have:=World.ownsRow_lit (base:=w.heap.size) (e:=247) (size:=1) w #[.bool false,.bool false,.bool false,.bool false,.bool false,.bool false,.bool false,.bool false,.bool false,.bool false] 10 (Nat.le_refl _) (by decide) rfl
   rw [hg] at this
   exact this
  ·rw [← hg];exact (Below.refl _ _).alloc (Nat.le_refl _) _
  ·rw [← hg];simp
 case round =>
  obtain ⟨k,hkl,rfl,hall,hown,hB,hG⟩:=hrel
  have Hall:=hid hall
  clear hall
  by_cases hlt:k < r.length
  ·obtain ⟨b,off,rfl,hbw,hcell⟩:=(Hl.out.later (by rw [hg];exact hB)).at_ (List.ne_nil_of_length_pos (by omega))
   obtain ⟨g1,g2⟩:=hcell k hlt
   clear hcell
   obtain ⟨ok1,ok2⟩:=Hl.out.ok r[k] (List.getElem_mem hlt)
   unfold maxLen at ok1
   have HT:=hid (IH hlt Hall.out)
   have HN:=hid (CD (r:=r) hlt)
   have HF:=hid (Lv (c:=r[k]))
   have hki:(k:Int) < (r.length:Int):=by omega
   have HSS:=hid (fun (m:Nat)=>MP (r:=r) (k:=k) (m:=m) hlt)
   have HKE:Hid (Qn r[k]=((decide (1≤(r[k]).number) && decide ((r[k]).number≤9)) && decide ((r[k]).secret.length=8))):=rfl
   have hob:=hown.alloc (.cells #[.int .i64 (r[k]).number,strB (r[k]).secret] 63)
   have HBb:=hid (hB.alloc (Nat.le_of_lt hG) (.cells #[.int .i64 (r[k]).number,strB (r[k]).secret] 63))
   have Hown0:=hid hown
   have HB0:=hid hB
   clear hown hB
   by_cases hr1:1≤(r[k]).number∧(r[k]).number≤9
   ·obtain ⟨m,hm1⟩:∃ m:Nat,(r[k]).number=(m:Int):=⟨(r[k]).number.toNat,by omega⟩
    have hm10:m < 10:=by omega
    have hmi:(m:Int) < 10:=by omega
    have hcm:=hob.cellAt m (by omega)
    rw [NS _ m hm10] at hcm
    have hfm:=hob.frozenAt m
    have HSt:=hid ((Hown0.out.stored m (.bool true)).1.alloc (.cells #[.int .i64 (r[k]).number,strB (r[k]).secret] 63))
    have HB2:=hid ((HB0.out.setCell (p:=⟨g,m,none⟩) (Nat.le_refl _) (.bool true)).alloc (by simp;omega) (.cells #[.int .i64 (r[k]).number,strB (r[k]).secret] 63))
    rw [hm1] at g1 HBb HSt hcm hfm HKE HB2
    have HSS2:=hid (HSS.out m hm1 hm10)
    have HNm:Hid (js (r.take k) (r[k]).number=js (r.take k) (m:Int)):=by rw [hm1];rfl
    rw [HNm.out] at HT HN
    have hkt:(decide ((1:Int)≤(m:Int)) && decide ((m:Int)≤9))=true:=by simp;omega
    clear hr1 HF HSS hm1 hob HNm ok2
    go_wp2_with fail
    refine (ZC (m:Int) _).mono ?_
    rintro e w5 ⟨rfl,rfl⟩
    rw [hkt]
    cases hx:js (r.take k) (m:Int) with
    | true =>
     rw [hx] at HN hcm
     clear hx
     go_wp2
     go_ret
     exact ⟨jU (HN.out (by simp)).symm,by rw [hg];exact HBb.out⟩
    | false =>
     rw [hx] at HN hcm HT
     clear hx
     by_cases h8:(r[k]).secret.length=8
     ·have q3:(((r[k]).secret.length:Int) != 8)=false:=by simp;omega
      have HT2:Hid (XE r (k+1)=true):=by
       show _=_
       rw [HT.out,HKE.out,hkt,decide_eq_true h8];rfl
      clear h8 HT HKE HN
      go_wp2
      go_roundw
      case rel=>exact ⟨k+1,by omega,by go_num,HT2.out,by rw [← HSS2.out];exact HSt.out,HB2.out,by simp;omega⟩
      case measure=>simp [intOf];omega
     ·have q3:(((r[k]).secret.length:Int) != 8)=true:=by simp;omega
      have HF2:Hid (Qn r[k]=false):=by show _=_;rw [HKE.out,decide_eq_false h8,Bool.and_false]
      clear h8 HT HKE
      go_wp2
      go_ret
      exact ⟨jU (HN.out (by rw [HF2.out];rfl)).symm,by rw [hg];exact HBb.out⟩
   ·have hkt:(decide (1≤(r[k]).number) && decide ((r[k]).number≤9))=false:=by
     simp only [Bool.and_eq_false_iff,decide_eq_false_iff_not];omega
    have HF2:Hid (Qn r[k]=false):=by show _=_;rw [HKE.out,hkt];rfl
    clear hr1 HKE HT HF hob
    generalize hnn:(r[k]).number=nn at *
    have Hnn:=hid hnn
    clear hnn
    go_wp2_with fail
    refine (ZC nn _).mono ?_
    rintro e w5 ⟨rfl,rfl⟩
    rw [hkt]
    clear hkt
    go_wp2
    go_ret
    exact ⟨jU (HN.out (by rw [HF2.out];rfl)).symm,by rw [hg];exact HBb.out⟩
  ·have hke:k=r.length:=by omega
   subst hke
   go_wp2
   go_ret
   exact ⟨jU Hall.out.symm,by rw [hg];exact hB⟩
def ZY (t:List ColB) (r:List KeyB) (k:Nat):Bool:=(t.take k).all fun c=>decide (c.key=0) || js r c.key
theorem Ai {t:List ColB} {r:List KeyB} {k:Nat} (hk:k < t.length):ZY t r (k+1)=(ZY t r k && (decide ((t[k]).key=0) || js r (t[k]).key)):=by
 unfold ZY
 rw [List.take_succ_eq_append_getElem hk,List.all_append]
 simp
theorem Dr {j:JobB} {r:List KeyB} (h:xl j.table=true):(ZY j.table r j.table.length && js r j.plan.foot)=!ZM j r:=by
 have hk:∀ c ∈ j.table,0≤c.key:=by
  intro c hc
  obtain ⟨k,hk,rfl⟩:=List.mem_iff_getElem.1 hc
  simp only [xl,jQ,Bool.and_eq_true] at h
  exact (JF (zX h.1.1 (Nat.le_refl _) k hk).1).2.2.1
 apply Mc
 simp only [ZY,ZM,List.take_length,Bool.and_eq_true,List.all_eq_true,Bool.or_eq_true,decide_eq_true_eq,Bool.not_or,Bool.not_not,Bool.not_eq_true',List.any_eq_false,Bool.not_eq_true]
 constructor
 ·rintro ⟨h1,h2⟩
  refine ⟨h2,fun c hc hn=>?_⟩
  rcases h1 c hc with h|h
  ·omega
  ·rw [h] at hn;simp at hn
 ·rintro ⟨h1,h2⟩
  refine ⟨fun c hc=>?_,h1⟩
  have:=h2 c hc
  have h0:=hk c hc
  by_cases hz:c.key=0
  ·exact .inl hz
  ·right
   cases hn:js r c.key with
   | true=>rfl
   | false=>exact absurd ⟨by omega,hn⟩ this
end
end Go.Proofs.YthhpbhpfagoapaaGreat
