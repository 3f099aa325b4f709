import Derived.WalkKit
import Derived.RowKit
namespace Go.Proofs.YthhpbhpfagoapaaGreat
set_option linter.unusedVariables false
set_option linter.unusedSimpArgs false
set_option maxRecDepth 100000
set_option maxHeartbeats 16000000
section
def byB (a:Int):UInt8:=UInt8.ofNat a.toNat
theorem byB_toNat (a:Int) (h0:0≤a) (h1:a≤255):((byB a).toNat:Int)=a:=by
 unfold byB
 simp only [UInt8.toNat_ofNat']
 omega
theorem byB_byte (b:UInt8):byB (b.toNat:Int)=b:=by
 unfold byB
 simp
def uB (n:Nat):List UInt8:=if _h:n > 127 then byB ((n:Int) % 128+128) :: uB (n / 128) else [byB (n:Int)]
theorem uB_small {n:Nat} (h:n≤127):uB n=[byB (n:Int)]:=by
 rw [uB,dif_neg (by omega)]
theorem uB_big {n:Nat} (h:127 < n):uB n=byB ((n:Int) % 128+128) :: uB (n / 128):=by
 rw [uB,dif_pos h]
theorem uB_len:∀ (k n:Nat),n < 128 ^ (k+1)→(uB n).length≤k+1:=by
 intro k
 induction k with
 | zero=>intro n h;rw [uB_small (by omega)];simp
 | succ k ih =>
  intro n h
  by_cases hn:n≤127
  ·rw [uB_small hn];simp
  ·rw [uB_big (by omega)]
   have:n / 128 < 128 ^ (k+1):=by
    rw [Nat.div_lt_iff_lt_mul (by decide)]
    rw [Nat.pow_succ] at h
    exact h
   have:=ih _ this
   simp;omega
theorem uB_len10 (n:Nat) (h:n < 18446744073709551616):(uB n).length≤10:=uB_len 9 n (by omega)
theorem uB_pos (n:Nat):1≤(uB n).length:=by
 by_cases h:n≤127
 ·rw [uB_small h];simp
 ·rw [uB_big (by omega)];simp
def zN (n:Int):Nat:=if 0≤n then 2*n.toNat else 2*(-(n+1)).toNat+1
def zB (n:Int):List UInt8:=uB (zN n)
theorem zN_lt (n:Int) (h0:-9223372036854775808≤n) (h1:n≤9223372036854775807):zN n < 18446744073709551616:=by
 unfold zN;split<;>omega
def shr8 (v:Nat):Nat→Nat
 | 0=>v
 | k+1=>shr8 v k / 256
def lowB (v:Nat):Nat→List UInt8
 | 0=>[]
 | k+1=>lowB v k++[byB ((shr8 v k:Int) % 256)]
theorem lowB_length (v k:Nat):(lowB v k).length=k:=by
 induction k with
 | zero=>rfl
 | succ k ih=>simp [lowB,ih]
def bB (n:Int):List UInt8:=lowB (n % 18446744073709551616).toNat 8
theorem bB_length (n:Int):(bB n).length=8:=lowB_length _ _
def xB (s:List UInt8):List UInt8:=uB s.length++s
end
section
open Go.RowKit
def takeP (n:Int):Option (List UInt8)→List UInt8 × Option (List UInt8)
 | none=>([],none)
 | some r=>if n < 0∨(r.length:Int) < n then ([],none) else (r.take n.toNat,some (r.drop n.toNat))
theorem takeP_yes {n:Int} {r:List UInt8} (h0:0≤n) (h1:n≤(r.length:Int)):takeP n (some r)=(r.take n.toNat,some (r.drop n.toNat)):=by
 show (if n < 0∨(r.length:Int) < n then ([],none) else (r.take n.toNat,some (r.drop n.toNat)))=_
 rw [if_neg (by omega)]
def uP:Nat→Nat→Nat→Option (List UInt8)→Nat × Option (List UInt8)
 | 0,_,_,_=>(0,none)
 | k+1,n,sc,st =>
  match takeP 1 st with
  | (c :: _,some r)=>if c.toNat < 128 then ((n+sc*(c.toNat % 128)) % 18446744073709551616,some r) else uP k ((n+sc*(c.toNat % 128)) % 18446744073709551616) (sc*128 % 18446744073709551616) (some r)
  | _=>(0,none)
def uR (st:Option (List UInt8)):Nat × Option (List UInt8):=uP 10 0 1 st
theorem uP_lt:∀ (k n sc:Nat) (st:Option (List UInt8)),(uP k n sc st).1 < 18446744073709551616:=by
 intro k
 induction k with
 | zero=>intro n sc st;exact Nat.zero_lt_succ _
 | succ k ih =>
  intro n sc st
  simp only [uP]
  split
  ·split
   ·exact Nat.mod_lt _ (by decide)
   ·exact ih _ _ _
  ·exact Nat.zero_lt_succ _
theorem uR_lt (st:Option (List UInt8)):(uR st).1 < 18446744073709551616:=uP_lt _ _ _ _
def fewR (max:Nat) (st:Option (List UInt8)):Nat × Option (List UInt8):=if max < (uR st).1 then (0,none) else uR st
def xR (max:Nat) (st:Option (List UInt8)):List UInt8 × Option (List UInt8):=takeP ((fewR max st).1:Int) (fewR max st).2
def zOf (n:Nat):Int:=if n % 2=0 then (n / 2:Nat) else -((n / 2:Nat):Int) - 1
def lowN:List UInt8→Nat
 | []=>0
 | c :: l=>(256*lowN l+c.toNat) % 18446744073709551616
def bR (st:Option (List UInt8)):Int × Option (List UInt8):=(wrap64 (lowN (takeP 8 st).1:Int),(takeP 8 st).2)
end
section
open Go.RowKit
theorem takeP_cons (c:UInt8) (r:List UInt8):takeP 1 (some (c :: r))=([c],some r):=by
 rw [takeP_yes (by omega) (by simp;omega)];rfl
theorem takeP_app (s r:List UInt8):takeP (s.length:Int) (some (s++r))=(s,some r):=by
 rw [takeP_yes (by omega) (by simp;omega)]
 simp
theorem byB_nat (n:Nat) (h:n≤255):(byB (n:Int)).toNat=n:=by
 have:=byB_toNat (n:Int) (by omega) (by omega)
 omega
theorem uP_step (k acc sc:Nat) (c:UInt8) (r:List UInt8):uP (k+1) acc sc (some (c :: r)) =
  if c.toNat < 128 then ((acc+sc*(c.toNat % 128)) % 18446744073709551616,some r) else uP k ((acc+sc*(c.toNat % 128)) % 18446744073709551616) (sc*128 % 18446744073709551616) (some r):=by
 simp only [uP,takeP_cons]
theorem uP_uB (r:List UInt8):∀ (k n acc sc:Nat),n < 128 ^ (k+1)→acc+sc*n < 18446744073709551616→uP (k+1) acc sc (some (uB n++r))=(acc+sc*n,some r):=by
 intro k
 induction k with
 | zero =>
  intro n acc sc hn hs
  have hn':n≤127:=by omega
  rw [uB_small hn']
  show uP (0+1) acc sc (some (byB (n:Int) :: r))=_
  rw [uP_step,byB_nat n (by omega),if_pos (by omega),Nat.mod_eq_of_lt (show n < 128 by omega),Nat.mod_eq_of_lt hs]
 | succ k ih =>
  intro n acc sc hn hs
  by_cases hsm:n≤127
  ·rw [uB_small hsm]
   show uP (k+1+1) acc sc (some (byB (n:Int) :: r))=_
   rw [uP_step,byB_nat n (by omega),if_pos (by omega),Nat.mod_eq_of_lt (show n < 128 by omega),Nat.mod_eq_of_lt hs]
  ·rw [uB_big (by omega)]
   have hc:(byB ((n:Int) % 128+128)).toNat=n % 128+128:=by
    have:=byB_nat (n % 128+128) (by omega)
    have e:(((n % 128+128:Nat)):Int)=(n:Int) % 128+128:=by omega
    rw [e] at this
    exact this
   show uP (k+1+1) acc sc (some (byB ((n:Int) % 128+128) :: (uB (n / 128)++r)))=_
   rw [uP_step,hc,if_neg (by omega)]
   have e1:(n % 128+128) % 128=n % 128:=by omega
   have e2:sc*n=sc*(n % 128)+sc*128*(n / 128):=by
    have h:=Nat.mod_add_div n 128
    have h3:sc*(n % 128+128*(n / 128))=sc*(n % 128)+sc*128*(n / 128):=by rw [Nat.mul_add,Nat.mul_assoc]
    rw [h] at h3
    exact h3
   have h1:1≤n / 128:=by omega
   have h2:sc*128≤sc*128*(n / 128):=Nat.le_mul_of_pos_right _ (by omega)
   rw [e1,Nat.mod_eq_of_lt (show acc+sc*(n % 128) < 18446744073709551616 by omega),Nat.mod_eq_of_lt (show sc*128 < 18446744073709551616 by omega)]
   rw [ih (n / 128) (acc+sc*(n % 128)) (sc*128) (by rw [Nat.div_lt_iff_lt_mul (by decide)];rw [Nat.pow_succ] at hn;exact hn) (by omega)]
   rw [e2,Nat.add_assoc]
theorem uR_uB (n:Nat) (r:List UInt8) (h:n < 18446744073709551616):uR (some (uB n++r))=(n,some r):=by
 unfold uR
 rw [uP_uB r 9 n 0 1 (by omega) (by omega)]
 simp
theorem fewR_uB (max n:Nat) (r:List UInt8) (h:n≤max) (hm:max < 18446744073709551616):fewR max (some (uB n++r))=(n,some r):=by
 unfold fewR
 rw [uR_uB n r (by omega),if_neg (by omega)]
theorem xR_xB (max:Nat) (s r:List UInt8) (h:s.length≤max) (hm:max < 18446744073709551616):xR max (some (xB s++r))=(s,some r):=by
 unfold xR xB
 rw [List.append_assoc,fewR_uB max s.length (s++r) h hm]
 exact takeP_app s r
theorem zOf_zN (x:Int):zOf (zN x)=x:=by
 unfold zN
 split
 ·unfold zOf;rw [if_pos (by omega)];omega
 ·unfold zOf;rw [if_neg (by omega)];omega
theorem uR_zB (x:Int) (r:List UInt8) (h0:-9223372036854775808≤x) (h1:x≤9223372036854775807):uR (some (zB x++r))=(zN x,some r):=uR_uB _ r (zN_lt x h0 h1)
theorem low_back (v:Nat) (h:v < 18446744073709551616):lowN (lowB v 8)=v:=by
 have hb:∀ k,(byB ((shr8 v k:Int) % 256)).toNat=shr8 v k % 256:=by
  intro k
  have:=byB_nat (shr8 v k % 256) (by omega)
  have e:((shr8 v k % 256:Nat):Int)=(shr8 v k:Int) % 256:=by omega
  rw [e] at this
  exact this
 simp only [lowB,List.nil_append,List.cons_append,lowN,hb]
 simp only [shr8]
 omega
theorem bR_bB (x:Int) (r:List UInt8) (h0:-9223372036854775808≤x) (h1:x≤9223372036854775807):bR (some (bB x++r))=(x,some r):=by
 unfold bR
 have hl:=bB_length x
 have e:takeP 8 (some (bB x++r))=(bB x,some r):=by
  have:=takeP_app (bB x) r
  rw [hl] at this
  exact this
 rw [e]
 unfold bB
 rw [low_back _ (by omega)]
 simp only [Prod.mk.injEq,and_true]
 unfold wrap64
 omega
end
section
structure CellB where
 null:Bool
 int:Int
 text:List UInt8
def fitsB (kind:Int) (c:CellB):Bool :=
 if c.null=true then c.int == 0 && c.text.isEmpty else if kind=0 then c.text.isEmpty else c.int == 0 && decide (c.text.length≤12)
def cellsOkB (kind:Int) (l:List CellB):Bool:=(decide (kind=0) || decide (kind=1)) && decide (l.length≤60) && l.all (fitsB kind)
def runsC:Bool→Nat→List CellB→List UInt8
 | _,n,[]=>uB n
 | b,n,c :: l=>if c.null=b then runsC b (n+1) l else uB n++runsC (!b) 1 l
def rowB (b:Bool):List CellB→Nat
 | []=>0
 | c :: l=>if c.null=b then rowB b l+1 else 0
theorem rowB_le (b:Bool) (l:List CellB):rowB b l≤l.length:=by
 induction l with
 | nil=>exact Nat.le_refl _
 | cons c l ih=>simp only [rowB,List.length_cons];split<;>omega
theorem rowB_lt (b:Bool) (l:List CellB):∀ m,m < rowB b l→∃ h:m < l.length,(l[m]).null=b:=by
 induction l with
 | nil=>intro m h;simp [rowB] at h
 | cons c l ih =>
  intro m h
  simp only [rowB] at h
  split at h
  ·cases m with
   | zero=>exact ⟨by simp,by assumption⟩
   | succ m =>
    obtain ⟨h1,h2⟩:=ih m (by omega)
    exact ⟨by simp;omega,by simpa using h2⟩
  ·omega
theorem rowB_end (b:Bool) (l:List CellB):∀ (h:rowB b l < l.length),(l[rowB b l]).null=!b:=by
 induction l with
 | nil=>intro h;simp [rowB] at h
 | cons c l ih =>
  intro h
  by_cases hc:c.null=b
  ·have e:rowB b (c :: l)=rowB b l+1:=by simp [rowB,hc]
   have h':rowB b l < l.length:=by rw [e] at h;simpa using h
   have:=ih h'
   simp only [e,List.getElem_cons_succ]
   exact this
  ·have e:rowB b (c :: l)=0:=by simp [rowB,hc]
   simp only [e,List.getElem_cons_zero]
   cases hn:c.null<;>cases b<;>simp_all
def restRuns (b:Bool) (l:List CellB):List UInt8:=if l=[] then [] else runsC b 0 l
theorem runsC_row (b:Bool) (l:List CellB):∀ n,runsC b n l=uB (n+rowB b l)++restRuns (!b) (l.drop (rowB b l)):=by
 induction l with
 | nil=>intro n;simp [runsC,rowB,restRuns]
 | cons c l ih =>
  intro n
  by_cases h:c.null=b
  ·simp only [runsC,rowB,if_pos h,List.drop_succ_cons]
   rw [ih (n+1)]
   congr 2
   omega
  ·simp only [runsC,rowB,if_neg h,Nat.add_zero,List.drop_zero,restRuns]
   have hb:c.null=!b:=by cases hc:c.null<;>cases b<;>simp_all
   simp [hb]
def headB (l:List CellB):List UInt8:=uB l.length++restRuns false l
theorem restRuns_step (b:Bool) (l:List CellB) (h:l≠[]):restRuns b l=uB (rowB b l)++restRuns (!b) (l.drop (rowB b l)):=by
 rw [restRuns,if_neg h,runsC_row b l 0,Nat.zero_add]
theorem headB_len (l:List CellB) (h:l.length≤60):(headB l).length≤1000:=by
 have hr:∀ (l:List CellB) (b:Bool) (n:Nat),n+l.length≤60→(runsC b n l).length≤10*(l.length+1):=by
  intro l
  induction l with
  | nil=>intro b n hn;have:=uB_len10 n (by simp at hn;omega);simp only [runsC,List.length_nil];omega
  | cons c l ih =>
   intro b n hn
   simp only [List.length_cons] at hn ⊢
   simp only [runsC]
   split
   ·have:=ih b (n+1) (by omega);omega
   ·have h1:=uB_len10 n (by omega)
    have h2:=ih (!b) 1 (by omega)
    rw [List.length_append];omega
 unfold headB restRuns
 have h1:=uB_len10 l.length (by omega)
 rw [List.length_append]
 split
 ·simp;omega
 ·have:=hr l false 0 (by omega);omega
def valuesB (l:List CellB):List CellB:=l.filter fun c=>!c.null
end
end Go.Proofs.YthhpbhpfagoapaaGreat
