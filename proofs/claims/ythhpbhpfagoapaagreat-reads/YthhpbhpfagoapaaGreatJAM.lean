import Derived.Test.YthhpbhpfagoapaaGreatJAA
import Derived.WalkKit
namespace Go.Proofs.YthhpbhpfagoapaaGreat
set_option linter.unusedVariables false
set_option linter.unusedSimpArgs false
set_option maxRecDepth 100000
set_option maxHeartbeats 16000000
section
def byB (a:Int):UInt8:=UInt8.ofNat a.toNat
theorem xK (a:Int) (h0:0≤a) (h1:a≤255):((byB a).toNat:Int)=a:=by
 unfold byB
 simp only [bS]
 omega
theorem Ao (b:UInt8):byB (b.toNat:Int)=b:=by
 unfold byB
 simp
def uB (n:Nat):List UInt8:=if _h:n > 127 then byB ((n:Int) % 128+128) :: uB (n / 128) else [byB (n:Int)]
theorem Jb {n:Nat} (h:n≤127):uB n=[byB (n:Int)]:=by
 rw [uB,dif_neg (by omega)]
theorem XR {n:Nat} (h:127 < n):uB n=byB ((n:Int) % 128+128) :: uB (n / 128):=by
 rw [uB,dif_pos h]
theorem Bg:∀ (k n:Nat),n < 128 ^ (k+1)→(uB n).length≤k+1:=by
 intro k
 induction k with
 | zero=>intro n h;rw [Jb (by omega)];simp
 | succ k ih =>
  intro n h
  by_cases hn:n≤127
  ·rw [Jb hn];simp
  ·rw [XR (by omega)]
   have:n / 128 < 128 ^ (k+1):=by
    rw [Nat.div_lt_iff_lt_mul (by decide)]
    rw [Nat.pow_succ] at h
    exact h
   have:=ih _ this
   simp;omega
theorem jM (n:Nat) (h:n < 18446744073709551616):(uB n).length≤10:=Bg 9 n (by omega)
theorem Bw (n:Nat):1≤(uB n).length:=by
 by_cases h:n≤127
 ·rw [Jb h];simp
 ·rw [XR (by omega)];simp
def zN (n:Int):Nat:=if 0≤n then 2*n.toNat else 2*(-(n+1)).toNat+1
def zB (n:Int):List UInt8:=uB (zN n)
theorem Ap (n:Int) (h0:-9223372036854775808≤n) (h1:n≤9223372036854775807):zN n < 18446744073709551616:=by
 unfold zN;split<;>omega
def Kw (v:Nat):Nat→Nat
 | 0=>v
 | k+1=>Kw v k / 256
theorem SL (v k:Nat) (h:v < 18446744073709551616):Kw v k < 18446744073709551616:=by
 induction k with
 | zero=>exact h
 | succ k ih=>simp only [Kw];omega
def Kv (v:Nat):Nat→List UInt8
 | 0=>[]
 | k+1=>Kv v k++[byB ((Kw v k:Int) % 256)]
theorem Xl (v k:Nat):(Kv v k).length=k:=by
 induction k with
 | zero=>rfl
 | succ k ih=>simp [Kv,ih]
def bB (n:Int):List UInt8:=Kv (n % 18446744073709551616).toNat 8
theorem XF (n:Int):(bB n).length=8:=Xl _ _
def xB (s:List UInt8):List UInt8:=uB s.length++s
end
section
structure CellB where
 null:Bool
 int:Int
 text:List UInt8
def xL (kind:Int) (c:CellB):Bool :=
 if c.null=true then c.int == 0 && c.text.isEmpty else if kind=0 then c.text.isEmpty else c.int == 0 && decide (c.text.length≤12)
def qD (kind:Int) (l:List CellB):Bool:=(decide (kind=0) || decide (kind=1)) && decide (l.length≤60) && l.all (xL kind)
def ZF:Bool→Nat→List CellB→List UInt8
 | _,n,[]=>uB n
 | b,n,c :: l=>if c.null=b then ZF b (n+1) l else uB n++ZF (!b) 1 l
def rowB (b:Bool):List CellB→Nat
 | []=>0
 | c :: l=>if c.null=b then rowB b l+1 else 0
theorem Ki (b:Bool) (l:List CellB):rowB b l≤l.length:=by
 induction l with
 | nil=>exact ae _
 | cons c l ih=>simp only [rowB,aH];split<;>omega
theorem Np (b:Bool) (l:List CellB):∀ m,m < rowB b l→∃ h:m < l.length,(l[m]).null=b:=by
 induction l with
 | nil=>intro m h;simp [rowB] at h
 | cons c l ih =>
  intro m h
  simp only [rowB] at h
  split at h
  ·cases m with
   | zero=>exact ⟨by simp,by assumption⟩
   | succ m =>
    obtain ⟨h1,h2⟩:=ih m (by omega)
    exact ⟨by simp;omega,by simpa using h2⟩
  ·omega
theorem RC (b:Bool) (l:List CellB):∀ (h:rowB b l < l.length),(l[rowB b l]).null=!b:=by
 induction l with
 | nil=>intro h;simp [rowB] at h
 | cons c l ih =>
  intro h
  by_cases hc:c.null=b
  ·have e:rowB b (c :: l)=rowB b l+1:=by simp [rowB,hc]
   have h':rowB b l < l.length:=by rw [e] at h;simpa using h
   have:=ih h'
   simp only [e,bZ]
   exact this
  ·have e:rowB b (c :: l)=0:=by simp [rowB,hc]
   simp only [e,aO]
   cases hn:c.null<;>cases b<;>simp_all
def qV (b:Bool) (l:List CellB):List UInt8:=if l=[] then [] else ZF b 0 l
theorem CP (b:Bool) (l:List CellB):∀ n,ZF b n l=uB (n+rowB b l)++qV (!b) (l.drop (rowB b l)):=by
 induction l with
 | nil=>intro n;simp [ZF,rowB,qV]
 | cons c l ih =>
  intro n
  by_cases h:c.null=b
  ·simp only [ZF,rowB,aw h,List.drop_succ_cons]
   rw [ih (n+1)]
   congr 2
   omega
  ·simp only [ZF,rowB,aj h,cP,List.drop_zero,qV]
   have hb:c.null=!b:=by cases hc:c.null<;>cases b<;>simp_all
   simp [hb]
def zC (l:List CellB):List UInt8:=uB l.length++qV false l
theorem Xf (b:Bool) (l:List CellB) (h:l≠[]):qV b l=uB (rowB b l)++qV (!b) (l.drop (rowB b l)):=by
 rw [qV,aj h,CP b l 0,bK]
theorem XC (l:List CellB) (h:l.length≤60):(zC l).length≤1000:=by
 have hr:∀ (l:List CellB) (b:Bool) (n:Nat),n+l.length≤60→(ZF b n l).length≤10*(l.length+1):=by
  intro l
  induction l with
  | nil=>intro b n hn;have:=jM n (by simp at hn;omega);simp only [ZF,aR];omega
  | cons c l ih =>
   intro b n hn
   simp only [aH] at hn ⊢
   simp only [ZF]
   split
   ·have:=ih b (n+1) (by omega);omega
   ·have h1:=jM n (by omega)
    have h2:=ih (!b) 1 (by omega)
    rw [ab];omega
 unfold zC qV
 have h1:=jM l.length (by omega)
 rw [ab]
 split
 ·simp;omega
 ·have:=hr l false 0 (by omega);omega
def je (l:List CellB):List CellB:=l.filter fun c=>!c.null
end
end Go.Proofs.YthhpbhpfagoapaaGreat
