import Derived.Test.YthhpbhpfagoapaaGreatJAA
import Derived.Test.YthhpbhpfagoapaaGreatJAN
import Derived.Test.YthhpbhpfagoapaaGreatJBA
import Derived.Test.YthhpbhpfagoapaaGreatJAQ
import Derived.BigQuiet
import Derived.Deep.QuietTactic
import Derived.WalkSmall
import Derived.OwnWalk
namespace Go.Proofs.YthhpbhpfagoapaaGreat
set_option linter.unusedVariables false
set_option linter.unusedSimpArgs false
set_option maxRecDepth 100000
set_option maxHeartbeats 16000000
open Go.RowKit
section
def Sh (c:ColB):Prop:=c.name.length≤maxLen∧(-9223372036854775808≤c.kind∧c.kind≤9223372036854775807)∧(-9223372036854775808≤c.key∧c.key≤9223372036854775807)
def ML (c:KeyB):Prop:=c.secret.length≤maxLen∧(-9223372036854775808≤c.number∧c.number≤9223372036854775807)
def HasCells (w:World) (v:Value) (l:List CellB):Prop:=∃ ca cap,v=.slice ca l.length cap∧l.length≤cap∧Lies w ca l∧l.length*32≤140737488351232
abbrev colV (c:ColB) (v:Value):Value:=.agg #[strB c.name,.int .i64 c.kind,.int .i64 c.key,v]
abbrev keyV (c:KeyB):Value:=.agg #[.int .i64 c.number,strB c.secret]
structure LiesT (w:World) (a:Option Addr) (t:List ColB):Prop where
 ok:∀ c ∈ t,Sh c
 at_:t≠[]→∃ b off,a=some ⟨b,off,none⟩∧b < w.heap.size∧∀ j (h:j < t.length),
  w.cell? ⟨b,off+j*4,none⟩=some (strB (t[j]).name)∧w.cell? ⟨b,off+j*4+1,none⟩=some (.int .i64 (t[j]).kind)∧w.cell? ⟨b,off+j*4+2,none⟩=some (.int .i64 (t[j]).key) ∧
   ∃ v,w.cell? ⟨b,off+j*4+3,none⟩=some v∧HasCells w v (t[j]).cells
structure LiesK (w:World) (a:Option Addr) (r:List KeyB):Prop where
 ok:∀ c ∈ r,ML c
 at_:r≠[]→∃ b off,a=some ⟨b,off,none⟩∧b < w.heap.size∧∀ j (h:j < r.length),
  w.cell? ⟨b,off+j*2,none⟩=some (.int .i64 (r[j]).number)∧w.cell? ⟨b,off+j*2+1,none⟩=some (strB (r[j]).secret)
theorem HasCells.later {w w':World} {v:Value} {l:List CellB} (h:HasCells w v l) (hb:Below w.heap.size w w'):HasCells w' v l:=by
 obtain ⟨ca,cap,hv,hc,hl,hm⟩:=h
 exact ⟨ca,cap,hv,hc,hl.later hb,hm⟩
theorem LiesT.later {w w':World} {a:Option Addr} {t:List ColB} (h:LiesT w a t) (hb:Below w.heap.size w w'):LiesT w' a t:=by
 refine ⟨h.ok,fun hne=>?_⟩
 obtain ⟨b,off,ha,hlt,hc⟩:=h.at_ hne
 refine ⟨b,off,ha,aa hlt hb.size,fun j hj=>?_⟩
 obtain ⟨h1,h2,h3,v,h4,h5⟩:=hc j hj
 exact ⟨(hb.cell (p:=⟨b,_,none⟩) hlt).trans h1,(hb.cell (p:=⟨b,_,none⟩) hlt).trans h2,(hb.cell (p:=⟨b,_,none⟩) hlt).trans h3,v,(hb.cell (p:=⟨b,_,none⟩) hlt).trans h4,h5.later hb⟩
theorem LiesK.later {w w':World} {a:Option Addr} {r:List KeyB} (h:LiesK w a r) (hb:Below w.heap.size w w'):LiesK w' a r:=by
 refine ⟨h.ok,fun hne=>?_⟩
 obtain ⟨b,off,ha,hlt,hc⟩:=h.at_ hne
 refine ⟨b,off,ha,aa hlt hb.size,fun j hj=>?_⟩
 obtain ⟨h1,h2⟩:=hc j hj
 exact ⟨(hb.cell (p:=⟨b,_,none⟩) hlt).trans h1,(hb.cell (p:=⟨b,_,none⟩) hlt).trans h2⟩
def zg (l:List SealB):List Value:=l.flatMap fun s=>[strB s.secret,strB s.nonce,strB s.extra,strB s.body]
theorem KO (l:List SealB) (s:SealB):zg (l++[s])=zg l++[strB s.secret,strB s.nonce,strB s.extra,strB s.body]:=by simp [zg]
theorem AM (l:List SealB):∀ v ∈ zg l,v.oneCell'=true:=by
 intro v hv
 simp only [zg,bT] at hv
 obtain ⟨c,_,hc⟩:=hv
 simp at hc
 rcases hc with rfl|rfl|rfl|rfl<;>rfl
end
section
def Jx (b:UInt8):Bool:=decide (97≤b.toNat) && decide (b.toNat≤122)
theorem VJ (s:List UInt8):xE s=(s.all Jx && (decide (1≤s.length) && decide (s.length≤8))):=rfl
theorem AY (s:ByteArray) (w:World) (hs:s.size≤maxLen) :
  Calls Tryz.prog 221 #[.string s] w fun e w'=>e=.returned (.bool (xE s.data.toList))∧w'=w:=by
 unfold maxLen at hs
 go_enter Tryz.func221,Tryz.ntmps221
 go_wp2
 go_loop [3] (fun i=>∃ k:Nat,k≤s.size∧i=.int .i64 k∧(s.data.toList.take k).all Jx=true) (fun i=>s.size - (intOf i).toNat)
 case atStart=>exact ⟨0,ah _,rfl,rfl⟩
 case round =>
  obtain ⟨k,hk,rfl,hall⟩:=hrel
  have Hall:=hid hall
  clear hall
  by_cases hlt:k < s.size
  ·have hbt:=(s[k]'hlt).toNat_lt
   have HT:Hid (Jx s[k]=true→(s.data.toList.take (k+1)).all Jx=true):=by
    intro h
    rw [KZ s k hlt,List.all_append,Hall.out]
    simp [h]
   have HA:Hid (Jx s[k]=false→xE s.data.toList=false):=by
    intro hf
    rw [VJ]
    have:s.data.toList.all Jx=false:=by
     rw [List.all_eq_false]
     exact ⟨s[k],by have:=al (l:=s.data.toList) (n:=k) (by simpa using hlt);exact this,by simp [hf]⟩
    rw [this];rfl
   have HL:Hid (Jx s[k]=(decide (97≤(s[k]).toNat) && decide ((s[k]).toNat≤122))):=rfl
   by_cases h1:(s[k]).toNat < 97
   ·have h1i:((s[k]).toNat:Int) < 97:=by omega
    go_wp2
    go_ret
    exact ⟨jP (HA.out (by rw [HL.out];simp;omega)).symm,rfl⟩
   ·have h1i:¬ ((s[k]).toNat:Int) < 97:=by omega
    by_cases h2:122 < (s[k]).toNat
    ·have h2i:(122:Int) < ((s[k]).toNat:Int):=by omega
     go_wp2
     go_ret
     exact ⟨jP (HA.out (by rw [HL.out];simp;omega)).symm,rfl⟩
    ·have h2i:¬ (122:Int) < ((s[k]).toNat:Int):=by omega
     go_wp2
     go_round
     case rel=>exact ⟨k+1,by omega,by go_num,HT.out (by rw [HL.out];simp;omega)⟩
     case measure=>simp [intOf];omega
  ·have HE:Hid (xE s.data.toList=(decide (1≤s.size) && decide (s.size≤8))):=by
    show xE s.data.toList=_
    rw [VJ]
    have:=Hall.out
    rw [aC (by simp;omega)] at this
    rw [this]
    simp
   by_cases h1:1≤s.size
   ·have h1i:(1:Int)≤(s.size:Int):=by omega
    go_wp2
    go_ret
    exact ⟨jP (by rw [HE.out,Bool.eq_iff_iff];simp only [au,az];omega),rfl⟩
   ·have h1i:¬ (1:Int)≤(s.size:Int):=by omega
    go_wp2
    go_ret
    exact ⟨jP (by rw [HE.out];simp [h1]),rfl⟩
theorem IE (s:List UInt8) (w:World) (hs:s.length≤maxLen) :
  Calls Tryz.prog 221 #[strB s] w fun e w'=>e=.returned (.bool (xE s))∧w'=w :=
 AY ⟨s.toArray⟩ w (by rw [jR];exact hs)
theorem SF {c:ColB} (h:zV c=false) (hn:xE c.name=true):c.kind < 0∨(¬ c.kind < 0∧(1 < c.kind∨(¬ 1 < c.kind∧(c.key < 0∨(¬ c.key < 0∧9 < c.key))))):=by
 simp only [zV,hn,Bool.true_and,cW,cC] at h
 omega
theorem Ri {t:List ColB} {k:Nat} (hk:k < t.length) (h:(zV t[k] && !zq (t.take k) (t[k]).name)=false):jZ t=false:=by
 cases hh:jZ t with
 | false=>rfl
 | true =>
  simp only [jZ,au] at hh
  obtain ⟨h1,h2⟩:=Qs hh.1 (ae _) k hk
  rw [h1,h2] at h
  cases h
theorem Vy {t:List ColB} {k:Nat} (hk:k < t.length) (h:JO t k=true):JO t (k+1)=(zV t[k] && !zq (t.take k) (t[k]).name):=by
 simp only [JO,h,Bool.true_and]
 rw [ay hk]
theorem UU {t:List ColB} {k m:Nat} (hm:m < t.length) (hk:m < k) (s:List UInt8):zq ((t.take k).take (m+1)) s=(zq ((t.take k).take m) s || (t[m]).name == s):=by
 have hl:m < (t.take k).length:=by rw [aq];omega
 rw [ax hl]
 simp [zq]
theorem Eb (a:Option Addr) (cap:Nat) (t:List ColB) (w:World) (hm:t.length≤maxLen) (hl:LiesT w a t) :
  Calls Tryz.prog 143 #[.slice a t.length cap] w fun e w'=>e=.returned (.bool (jZ t))∧Below w.heap.size w w':=by
 have Hl:=hid hl
 clear hl
 unfold maxLen at hm
 go_enter Tryz.func143,Tryz.ntmps143
 go_wp2
 go_loopw [3] (fun i wr=>∃ k:Nat,k≤t.length∧i=.int .i64 k∧JO t k=true∧Below w.heap.size w wr) (fun i _=>t.length - (intOf i).toNat)
 case atStart=>exact ⟨0,ah _,rfl,rfl,Below.refl _ _⟩
 case round =>
  obtain ⟨k,hkl,rfl,hall,hB⟩:=hrel
  have Hall:=hid hall
  clear hall
  by_cases hlt:k < t.length
  ·obtain ⟨b,off,rfl,hbw,hcell⟩:=(Hl.out.later hB).at_ (ai (by omega))
   obtain ⟨g1,g2,g3,v,g4,g5⟩:=hcell k hlt
   have Hcell:=hid hcell
   clear hcell g4 g5
   obtain ⟨ok1,ok2,ok3⟩:=Hl.out.ok t[k] (al hlt)
   have HT:=hid (Vy hlt Hall.out)
   have HN:=hid (Ri (t:=t) hlt)
   have HF:=hid (SF (c:=t[k]))
   have hki:(k:Int) < (t.length:Int):=by omega
   go_wp2_with fail
   refine (IE (t[k]).name _ ok1).mono ?_
   rintro e w1 ⟨rfl,rfl⟩
   cases hn:xE (t[k]).name with
   | false =>
    have HO:Hid (zV t[k]=false):=by show zV t[k]=false;simp [zV,hn]
    have Hn:=hid hn
    clear hn
    go_wp2
    go_ret
    exact ⟨jP (HN.out (by rw [HO.out];rfl)).symm,hB⟩
   | true =>
    have Hn:=hid hn
    clear hn
    cases hh:zV t[k] with
    | false =>
     have Hh:=hid hh
     have hf:=HF.out hh Hn.out
     clear hh
     generalize (t[k]).kind=kd at *
     generalize (t[k]).key=ky at *
     rcases hf with h1|⟨h1,h2|⟨h2,h3|⟨h3,h4⟩⟩⟩
     all_goals
      go_wp2
      go_ret
      exact ⟨jP (HN.out (by rw [Hh.out];rfl)).symm,hB⟩
    | true =>
     have Hh:=hid hh
     obtain ⟨_,hp1,hp2,hp3⟩:=Qj hh
     have q1:¬ (t[k]).kind < 0:=by omega
     have q2:¬ 1 < (t[k]).kind:=by omega
     have q3:¬ (t[k]).key < 0:=by omega
     have q4:¬ 9 < (t[k]).key:=by omega
     clear hh hp1 hp2 hp3 HF
     go_wp2
     go_loopw [5] (fun i wr=>∃ m:Nat,m≤k∧i=.int .i64 m∧zq ((t.take k).take m) (t[k]).name=false∧Below w.heap.size w wr) (fun i _=>k - (intOf i).toNat)
     case atStart=>exact ⟨0,ah _,rfl,rfl,hB⟩
     case round =>
      clear hB Hcell g1 g2 g3 q1 q2 q3 q4
      obtain ⟨m,hmk,rfl,hno,hB⟩:=hrel
      have Hno:=hid hno
      clear hno
      by_cases hlm:m < k
      ·have hmi:(m:Int) < (k:Int):=by omega
       obtain ⟨b,off,hab,hbw,hcell⟩:=(Hl.out.later hB).at_ (ai (by omega))
       simp only [aP,cy,cG] at hab
       obtain ⟨rfl,rfl⟩:=hab
       obtain ⟨g1,_⟩:=hcell k hlt
       obtain ⟨f1,_⟩:=hcell m (by omega)
       have hmt:(m:Int) < (t.length:Int):=by omega
       have HS:=hid (UU (t:=t) (k:=k) (m:=m) (by omega) hlm (t[k]).name)
       clear hcell
       by_cases he:(t[m]'(by omega)).name=(t[k]).name
       ·have He:=hid he
        clear he
        rw [He.out] at f1
        have HH:Hid (zq (t.take k) (t[k]).name=true):=by
         simp only [Hid,zq,cO]
         exact ⟨(t[m]'(by omega)),by rw [List.mem_take_iff_getElem];exact ⟨m,by omega,rfl⟩,by simp [He.out]⟩
        go_wp2_with fail
        go_quiet (fail)
        go_wp2
        go_ret
        exact ⟨jP (HN.out (by rw [HH.out];simp)).symm,below_drewN hB nq⟩
       ·have hne:((t[m]'(by omega)).name == (t[k]).name)=false:=by simpa using he
        have He:=hid he
        clear he
        go_wp2_with fail
        go_quiet (fail)
        go_wp2_with fail
        go_roundw
        case rel=>exact ⟨m+1,by omega,by go_num,by rw [HS.out,Hno.out];simp [He.out],below_drewN hB nq⟩
        case measure=>simp [intOf];omega
      ·have hmk2:m=k:=by omega
       subst hmk2
       have HX:Hid (JO t (m+1)=true):=by
        show JO t (m+1)=true
        rw [HT.out,Hh.out]
        have:=Hno.out
        rw [List.take_take,Nat.min_self] at this
        rw [this];rfl
       go_wp2
       go_roundw
       case rel=>exact ⟨m+1,by omega,by go_num,HX.out,hB⟩
       case measure=>simp [intOf];omega
  ·have hke:k=t.length:=by omega
   subst hke
   have HE:Hid (jZ t=(decide (1≤t.length) && decide (t.length≤6))):=by
    show jZ t=_
    rw [jZ,Hall.out];rfl
   by_cases h1:1≤t.length
   ·have h1i:(1:Int)≤(t.length:Int):=by omega
    go_wp2
    go_ret
    exact ⟨jP (by rw [HE.out,Bool.eq_iff_iff];simp only [au,az];omega),hB⟩
   ·have h1i:¬ (1:Int)≤(t.length:Int):=by omega
    go_wp2
    go_ret
    exact ⟨jP (by rw [HE.out];simp [h1]),hB⟩
end
end Go.Proofs.YthhpbhpfagoapaaGreat
