import Derived.Test.YthhpbhpfagoapaaGreatJBB
import Derived.Test.YthhpbhpfagoapaaGreatJBA
import Derived.Test.YthhpbhpfagoapaaGreatJAT
import Derived.OwnWalk
import Derived.BigQuiet
import Derived.Deep.QuietTactic
import Derived.WalkSmall
namespace Go.Proofs.YthhpbhpfagoapaaGreat
set_option linter.unusedVariables false
set_option linter.unusedSimpArgs false
set_option maxRecDepth 100000
set_option maxHeartbeats 16000000
open Go.RowKit
section
def DX (c:ColB):Prop:=c.name.length≤maxLen∧(-9223372036854775808≤c.kind∧c.kind≤9223372036854775807)∧(-9223372036854775808≤c.key∧c.key≤9223372036854775807)
def DP (c:KeyB):Prop:=c.secret.length≤maxLen∧(-9223372036854775808≤c.number∧c.number≤9223372036854775807)
def HasCells (w:World) (v:Value) (l:List CellB):Prop:=∃ ca cap,v=.slice ca l.length cap∧l.length≤cap∧Lies w ca l∧l.length*32≤140737488351232
abbrev colV (c:ColB) (v:Value):Value:=.agg #[strB c.name,.int .i64 c.kind,.int .i64 c.key,v]
structure LiesT (w:World) (a:Option Addr) (t:List ColB):Prop where
 ok:∀ c ∈ t,DX c
 at_:t≠[]→∃ b off,a=some ⟨b,off,none⟩∧b < w.heap.size∧∀ j (h:j < t.length),
  w.cell? ⟨b,off+j*4,none⟩=some (strB (t[j]).name)∧w.cell? ⟨b,off+j*4+1,none⟩=some (.int .i64 (t[j]).kind)∧w.cell? ⟨b,off+j*4+2,none⟩=some (.int .i64 (t[j]).key) ∧
   ∃ v,w.cell? ⟨b,off+j*4+3,none⟩=some v∧HasCells w v (t[j]).cells
structure LiesK (w:World) (a:Option Addr) (r:List KeyB):Prop where
 ok:∀ c ∈ r,DP c
 at_:r≠[]→∃ b off,a=some ⟨b,off,none⟩∧b < w.heap.size∧∀ j (h:j < r.length),
  w.cell? ⟨b,off+j*2,none⟩=some (.int .i64 (r[j]).number)∧w.cell? ⟨b,off+j*2+1,none⟩=some (strB (r[j]).secret)
theorem HasCells.later {w w':World} {v:Value} {l:List CellB} (h:HasCells w v l) (hb:Below w.heap.size w w'):HasCells w' v l:=by
 obtain ⟨ca,cap,hv,hc,hl,hm⟩:=h
 exact ⟨ca,cap,hv,hc,hl.later hb,hm⟩
theorem LiesT.later {w w':World} {a:Option Addr} {t:List ColB} (h:LiesT w a t) (hb:Below w.heap.size w w'):LiesT w' a t:=by
 refine ⟨h.ok,fun hne=>?_⟩
 obtain ⟨b,off,ha,hlt,hc⟩:=h.at_ hne
 refine ⟨b,off,ha,Nat.lt_of_lt_of_le hlt hb.size,fun j hj=>?_⟩
 obtain ⟨h1,h2,h3,v,h4,h5⟩:=hc j hj
 exact ⟨(hb.cell (p:=⟨b,_,none⟩) hlt).trans h1,(hb.cell (p:=⟨b,_,none⟩) hlt).trans h2,(hb.cell (p:=⟨b,_,none⟩) hlt).trans h3,v,(hb.cell (p:=⟨b,_,none⟩) hlt).trans h4,h5.later hb⟩
theorem LiesK.later {w w':World} {a:Option Addr} {r:List KeyB} (h:LiesK w a r) (hb:Below w.heap.size w w'):LiesK w' a r:=by
 refine ⟨h.ok,fun hne=>?_⟩
 obtain ⟨b,off,ha,hlt,hc⟩:=h.at_ hne
 refine ⟨b,off,ha,Nat.lt_of_lt_of_le hlt hb.size,fun j hj=>?_⟩
 obtain ⟨h1,h2⟩:=hc j hj
 exact ⟨(hb.cell (p:=⟨b,_,none⟩) hlt).trans h1,(hb.cell (p:=⟨b,_,none⟩) hlt).trans h2⟩
def QV (l:List SealB):List Value:=l.flatMap fun s=>[strB s.secret,strB s.nonce,strB s.extra,strB s.body]
theorem IF (l:List SealB) (s:SealB):QV (l++[s])=QV l++[strB s.secret,strB s.nonce,strB s.extra,strB s.body]:=by simp [QV]
end
section
def Nt (n size i:Nat):List Value:=[.int .i64 ((i*size:Nat):Int),.int .i64 ((min (i*size+size) n:Nat):Int)]
def zV (n size k:Nat):List Value:=(List.range k).flatMap (Nt n size)
theorem RL (n size k:Nat):zV n size (k+1)=zV n size k++Nt n size k:=by
 unfold zV
 rw [List.range_succ,List.flatMap_append]
 simp
theorem Tryz.infoSpan:(Tryz.prog.info? 290).map (fun i=>(i.zero,i.size,i.bytes))=some (some (.agg #[.int .i64 0,.int .i64 0]),2,16):=by kernel_rfl
theorem KU (n size:Nat) (w:World) (hn:n≤1000) (h1:1≤size) (hs:size≤1000) :
  Calls Tryz.prog 215 #[.int .i64 (n:Int),.int .i64 (size:Int)] w fun e w'=>∃ v,e=.returned v∧w'.ownsRow w.heap.size 290 2 v (jZ n size) (zV n size (jZ n size))∧Below w.heap.size w w':=by
 obtain ⟨i0,hi,hz0,hz1,hz2⟩:=info_parts Tryz.infoSpan
 go_enter Tryz.func215,Tryz.ntmps215
 go_wp2
 go_loopw [5,6] (fun v i wr=>∃ k:Nat,k≤jZ n size∧i=.int .i64 ((k*size:Nat):Int)∧wr.ownsRow w.heap.size 290 2 v k (zV n size k)∧Below w.heap.size w wr) (fun _ i _=>n+size - (intOf i).toNat)
 case atStart=>exact ⟨0,Nat.zero_le _,by simp,World.ownsRow_nil _ _ _ _,Below.refl _ _⟩
 case round =>
  obtain ⟨k,hkl,rfl,hown,hB⟩:=hrel
  have hcl:=Qq (n:=n) h1
  have hlt2:=Ju (n:=n) (i:=k) h1
  have hlt3:=Nat.mul_le_mul_right size hkl
  have HKS:Hid ((k+1)*size=k*size+size):=Nat.succ_mul _ _
  have HL:=hid hlt2
  have HSA:Hid (Nt n size k=[.int .i64 ((k*size:Nat):Int),.int .i64 ((min (k*size+size) n:Nat):Int)]):=rfl
  clear hlt2
  generalize k*size=m at *
  by_cases hlt:m < n
  ·have hmi:(m:Int) < (n:Int):=by omega
   have hkc:=HL.out.2 hlt
   by_cases hmn:m+size≤n
   ·have hq:¬ (n:Int) < (m:Int)+(size:Int):=by omega
    have hE:min (m+size) n=m+size:=by omega
    rw [hE] at HSA
    simp only [Int.natCast_add] at HSA
    clear hE
    have hown1:=hown.alloc (Obj.cells #[.int .i64 ((m:Nat):Int),.int .i64 ((m:Int)+(size:Int))] 290)
    go_wp2_with (at_builtin;refine wpList_append_own _ rfl (.tmp 13) (.tmp 21) 287 rfl w.heap.size 290 i0 (.agg #[.int .i64 0,.int .i64 0]) 2 16 Tryz.underlying287 hi hz0 hz1 hz2 rfl (by decide) _ _ _ rfl hown1 ⟨_,0,none⟩ 1 1 [.int .i64 ((m:Nat):Int),.int .i64 ((m:Int)+(size:Int))] rfl rfl (qx wr #[.int .i64 ((m:Nat):Int),.int .i64 ((m:Int)+(size:Int))] 290) (by intro u hu;simp at hu;rcases hu with rfl|rfl<;>rfl) (by unfold maxLen;omega) (by omega) (by have:=hB.size;simp;omega) ?_)
    intro v3 w3 hown3 hgr3 _
    have HO3:Hid (w3.ownsRow w.heap.size 290 2 v3 (k+1) (zV n size (k+1))):=by
     rw [RL,HSA.out]
     exact hown3
    have HB3:=hid ((hB.alloc hB.size _).grown hgr3 (by have:=hB.size;simp;omega) (fun k hk=>(hown.lt k hk).1))
    clear hown hown1 hown3 hgr3 hB
    go_wp2
    go_roundw
    case rel=>exact ⟨k+1,by omega,by rw [HKS.out];go_num,HO3.out,HB3.out⟩
    case measure=>simp [intOf];omega
   ·have hq:(n:Int) < (m:Int)+(size:Int):=by omega
    have hE:min (m+size) n=n:=by omega
    rw [hE] at HSA
    clear hE
    have hown1:=hown.alloc (Obj.cells #[.int .i64 ((m:Nat):Int),.int .i64 ((n:Nat):Int)] 290)
    go_wp2_with (at_builtin;refine wpList_append_own _ rfl (.tmp 13) (.tmp 21) 287 rfl w.heap.size 290 i0 (.agg #[.int .i64 0,.int .i64 0]) 2 16 Tryz.underlying287 hi hz0 hz1 hz2 rfl (by decide) _ _ _ rfl hown1 ⟨_,0,none⟩ 1 1 [.int .i64 ((m:Nat):Int),.int .i64 ((n:Nat):Int)] rfl rfl (qx wr #[.int .i64 ((m:Nat):Int),.int .i64 ((n:Nat):Int)] 290) (by intro u hu;simp at hu;rcases hu with rfl|rfl<;>rfl) (by unfold maxLen;omega) (by omega) (by have:=hB.size;simp;omega) ?_)
    intro v3 w3 hown3 hgr3 _
    have HO3:Hid (w3.ownsRow w.heap.size 290 2 v3 (k+1) (zV n size (k+1))):=by
     rw [RL,HSA.out]
     exact hown3
    have HB3:=hid ((hB.alloc hB.size _).grown hgr3 (by have:=hB.size;simp;omega) (fun k hk=>(hown.lt k hk).1))
    clear hown hown1 hown3 hgr3 hB
    go_wp2
    go_roundw
    case rel=>exact ⟨k+1,by omega,by rw [HKS.out];go_num,HO3.out,HB3.out⟩
    case measure=>simp [intOf];omega
  ·have hke:k=jZ n size:=by
    have:=HL.out
    omega
   subst hke
   go_wp2
   go_ret
   exact ⟨_,rfl,hown,hB⟩
end
section
def XW (b:UInt8):Bool:=decide (97≤b.toNat) && decide (b.toNat≤122)
theorem Mw (s:List UInt8):zj s=(s.all XW && (decide (1≤s.length) && decide (s.length≤8))):=rfl
theorem Dz {t:List ColB} {k:Nat} (hk:k < t.length) (h:(JZ t[k] && !xL (t.take k) (t[k]).name)=false):jQ t=false:=by
 cases hh:jQ t with
 | false=>rfl
 | true =>
  simp only [jQ,Bool.and_eq_true] at hh
  obtain ⟨h1,h2⟩:=zX hh.1 (Nat.le_refl _) k hk
  rw [h1,h2] at h
  cases h
theorem Yl {t:List ColB} {k:Nat} (hk:k < t.length) (h:zH t k=true):zH t (k+1)=(JZ t[k] && !xL (t.take k) (t[k]).name):=by
 simp only [zH,h,Bool.true_and]
 rw [List.getElem?_eq_getElem hk]
theorem YN {t:List ColB} {k m:Nat} (hm:m < t.length) (hk:m < k) (s:List UInt8):xL ((t.take k).take (m+1)) s=(xL ((t.take k).take m) s || (t[m]).name == s):=by
 have hl:m < (t.take k).length:=by rw [List.length_take];omega
 rw [List.take_succ_eq_append_getElem hl]
 simp [xL]
end
end Go.Proofs.YthhpbhpfagoapaaGreat
