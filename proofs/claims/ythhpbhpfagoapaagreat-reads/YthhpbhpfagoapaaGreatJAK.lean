import Derived.WalkKit
namespace Go.Proofs.YthhpbhpfagoapaaGreat
set_option linter.unusedVariables false
set_option linter.unusedSimpArgs false
set_option maxRecDepth 100000
set_option maxHeartbeats 16000000
section
def byB (a:Int):UInt8:=UInt8.ofNat a.toNat
theorem xE (a:Int) (h0:0≤a) (h1:a≤255):((byB a).toNat:Int)=a:=by
 unfold byB
 simp only [UInt8.toNat_ofNat']
 omega
theorem IG (b:UInt8):byB (b.toNat:Int)=b:=by
 unfold byB
 simp
def uB (n:Nat):List UInt8:=if _h:n > 127 then byB ((n:Int) % 128+128) :: uB (n / 128) else [byB (n:Int)]
theorem zM {n:Nat} (h:n≤127):uB n=[byB (n:Int)]:=by
 rw [uB,dif_neg (by omega)]
theorem XI {n:Nat} (h:127 < n):uB n=byB ((n:Int) % 128+128) :: uB (n / 128):=by
 rw [uB,dif_pos h]
theorem SZ:∀ (k n:Nat),n < 128 ^ (k+1)→(uB n).length≤k+1:=by
 intro k
 induction k with
 | zero=>intro n h;rw [zM (by omega)];simp
 | succ k ih =>
  intro n h
  by_cases hn:n≤127
  ·rw [zM hn];simp
  ·rw [XI (by omega)]
   have:n / 128 < 128 ^ (k+1):=by
    rw [Nat.div_lt_iff_lt_mul (by decide)]
    rw [Nat.pow_succ] at h
    exact h
   have:=ih _ this
   simp;omega
theorem jN (n:Nat) (h:n < 18446744073709551616):(uB n).length≤10:=SZ 9 n (by omega)
theorem Li (n:Nat):1≤(uB n).length:=by
 by_cases h:n≤127
 ·rw [zM h];simp
 ·rw [XI (by omega)];simp
def zN (n:Int):Nat:=if 0≤n then 2*n.toNat else 2*(-(n+1)).toNat+1
def zB (n:Int):List UInt8:=uB (zN n)
theorem Ig (n:Int) (h0:-9223372036854775808≤n) (h1:n≤9223372036854775807):zN n < 18446744073709551616:=by
 unfold zN;split<;>omega
def Kc (v:Nat):Nat→Nat
 | 0=>v
 | k+1=>Kc v k / 256
theorem Ss (v k:Nat) (h:v < 18446744073709551616):Kc v k < 18446744073709551616:=by
 induction k with
 | zero=>exact h
 | succ k ih=>simp only [Kc];omega
def Kd (v:Nat):Nat→List UInt8
 | 0=>[]
 | k+1=>Kd v k++[byB ((Kc v k:Int) % 256)]
theorem Xa (v k:Nat):(Kd v k).length=k:=by
 induction k with
 | zero=>rfl
 | succ k ih=>simp [Kd,ih]
def bB (n:Int):List UInt8:=Kd (n % 18446744073709551616).toNat 8
theorem Xs (n:Int):(bB n).length=8:=Xa _ _
def xB (s:List UInt8):List UInt8:=uB s.length++s
end
section
structure CellB where
 null:Bool
 int:Int
 text:List UInt8
def xL (kind:Int) (c:CellB):Bool :=
 if c.null=true then c.int == 0 && c.text.isEmpty else if kind=0 then c.text.isEmpty else c.int == 0 && decide (c.text.length≤12)
def qE (kind:Int) (l:List CellB):Bool:=(decide (kind=0) || decide (kind=1)) && decide (l.length≤60) && l.all (xL kind)
def Zv:Bool→Nat→List CellB→List UInt8
 | _,n,[]=>uB n
 | b,n,c :: l=>if c.null=b then Zv b (n+1) l else uB n++Zv (!b) 1 l
def rowB (b:Bool):List CellB→Nat
 | []=>0
 | c :: l=>if c.null=b then rowB b l+1 else 0
theorem ZT (b:Bool) (l:List CellB):rowB b l≤l.length:=by
 induction l with
 | nil=>exact Nat.le_refl _
 | cons c l ih=>simp only [rowB,List.length_cons];split<;>omega
theorem GC (b:Bool) (l:List CellB):∀ m,m < rowB b l→∃ h:m < l.length,(l[m]).null=b:=by
 induction l with
 | nil=>intro m h;simp [rowB] at h
 | cons c l ih =>
  intro m h
  simp only [rowB] at h
  split at h
  ·cases m with
   | zero=>exact ⟨by simp,by assumption⟩
   | succ m =>
    obtain ⟨h1,h2⟩:=ih m (by omega)
    exact ⟨by simp;omega,by simpa using h2⟩
  ·omega
theorem Nz (b:Bool) (l:List CellB):∀ (h:rowB b l < l.length),(l[rowB b l]).null=!b:=by
 induction l with
 | nil=>intro h;simp [rowB] at h
 | cons c l ih =>
  intro h
  by_cases hc:c.null=b
  ·have e:rowB b (c :: l)=rowB b l+1:=by simp [rowB,hc]
   have h':rowB b l < l.length:=by rw [e] at h;simpa using h
   have:=ih h'
   simp only [e,List.getElem_cons_succ]
   exact this
  ·have e:rowB b (c :: l)=0:=by simp [rowB,hc]
   simp only [e,List.getElem_cons_zero]
   cases hn:c.null<;>cases b<;>simp_all
def qO (b:Bool) (l:List CellB):List UInt8:=if l=[] then [] else Zv b 0 l
theorem CB (b:Bool) (l:List CellB):∀ n,Zv b n l=uB (n+rowB b l)++qO (!b) (l.drop (rowB b l)):=by
 induction l with
 | nil=>intro n;simp [Zv,rowB,qO]
 | cons c l ih =>
  intro n
  by_cases h:c.null=b
  ·simp only [Zv,rowB,if_pos h,List.drop_succ_cons]
   rw [ih (n+1)]
   congr 2
   omega
  ·simp only [Zv,rowB,if_neg h,Nat.add_zero,List.drop_zero,qO]
   have hb:c.null=!b:=by cases hc:c.null<;>cases b<;>simp_all
   simp [hb]
def zr (l:List CellB):List UInt8:=uB l.length++qO false l
theorem QT (b:Bool) (l:List CellB) (h:l≠[]):qO b l=uB (rowB b l)++qO (!b) (l.drop (rowB b l)):=by
 rw [qO,if_neg h,CB b l 0,Nat.zero_add]
theorem Zq (l:List CellB) (h:l.length≤60):(zr l).length≤1000:=by
 have hr:∀ (l:List CellB) (b:Bool) (n:Nat),n+l.length≤60→(Zv b n l).length≤10*(l.length+1):=by
  intro l
  induction l with
  | nil=>intro b n hn;have:=jN n (by simp at hn;omega);simp only [Zv,List.length_nil];omega
  | cons c l ih =>
   intro b n hn
   simp only [List.length_cons] at hn ⊢
   simp only [Zv]
   split
   ·have:=ih b (n+1) (by omega);omega
   ·have h1:=jN n (by omega)
    have h2:=ih (!b) 1 (by omega)
    rw [List.length_append];omega
 unfold zr qO
 have h1:=jN l.length (by omega)
 rw [List.length_append]
 split
 ·simp;omega
 ·have:=hr l false 0 (by omega);omega
def je (l:List CellB):List CellB:=l.filter fun c=>!c.null
end
end Go.Proofs.YthhpbhpfagoapaaGreat
