import Derived.WalkKit
import Derived.RowKit
namespace Go.Proofs.YthhpbhpfagoapaaGreat
set_option linter.unusedVariables false
set_option linter.unusedSimpArgs false
set_option maxRecDepth 100000
set_option maxHeartbeats 16000000
section
def byB (a:Int):UInt8:=UInt8.ofNat a.toNat
theorem xH (a:Int) (h0:0≤a) (h1:a≤255):((byB a).toNat:Int)=a:=by
 unfold byB
 simp only [UInt8.toNat_ofNat']
 omega
theorem EX (b:UInt8):byB (b.toNat:Int)=b:=by
 unfold byB
 simp
def uB (n:Nat):List UInt8:=if _h:n > 127 then byB ((n:Int) % 128+128) :: uB (n / 128) else [byB (n:Int)]
theorem xW {n:Nat} (h:n≤127):uB n=[byB (n:Int)]:=by
 rw [uB,dif_neg (by omega)]
theorem Zj {n:Nat} (h:127 < n):uB n=byB ((n:Int) % 128+128) :: uB (n / 128):=by
 rw [uB,dif_pos h]
theorem SQ:∀ (k n:Nat),n < 128 ^ (k+1)→(uB n).length≤k+1:=by
 intro k
 induction k with
 | zero=>intro n h;rw [xW (by omega)];simp
 | succ k ih =>
  intro n h
  by_cases hn:n≤127
  ·rw [xW hn];simp
  ·rw [Zj (by omega)]
   have:n / 128 < 128 ^ (k+1):=by
    rw [Nat.div_lt_iff_lt_mul (by decide)]
    rw [Nat.pow_succ] at h
    exact h
   have:=ih _ this
   simp;omega
theorem jS (n:Nat) (h:n < 18446744073709551616):(uB n).length≤10:=SQ 9 n (by omega)
theorem Li (n:Nat):1≤(uB n).length:=by
 by_cases h:n≤127
 ·rw [xW h];simp
 ·rw [Zj (by omega)];simp
def zN (n:Int):Nat:=if 0≤n then 2*n.toNat else 2*(-(n+1)).toNat+1
def zB (n:Int):List UInt8:=uB (zN n)
theorem DS (n:Int) (h0:-9223372036854775808≤n) (h1:n≤9223372036854775807):zN n < 18446744073709551616:=by
 unfold zN;split<;>omega
def Gh (v:Nat):Nat→Nat
 | 0=>v
 | k+1=>Gh v k / 256
def Us (v:Nat):Nat→List UInt8
 | 0=>[]
 | k+1=>Us v k++[byB ((Gh v k:Int) % 256)]
theorem XY (v k:Nat):(Us v k).length=k:=by
 induction k with
 | zero=>rfl
 | succ k ih=>simp [Us,ih]
def bB (n:Int):List UInt8:=Us (n % 18446744073709551616).toNat 8
theorem ZD (n:Int):(bB n).length=8:=XY _ _
def xB (s:List UInt8):List UInt8:=uB s.length++s
end
section
open Go.RowKit
def xz (n:Int):Option (List UInt8)→List UInt8 × Option (List UInt8)
 | none=>([],none)
 | some r=>if n < 0∨(r.length:Int) < n then ([],none) else (r.take n.toNat,some (r.drop n.toNat))
theorem TZ {n:Int} {r:List UInt8} (h:n < 0∨(r.length:Int) < n):xz n (some r)=([],none):=by
 show (if n < 0∨(r.length:Int) < n then ([],none) else (r.take n.toNat,some (r.drop n.toNat)))=_
 rw [if_pos h]
theorem KR {n:Int} {r:List UInt8} (h0:0≤n) (h1:n≤(r.length:Int)):xz n (some r)=(r.take n.toNat,some (r.drop n.toNat)):=by
 show (if n < 0∨(r.length:Int) < n then ([],none) else (r.take n.toNat,some (r.drop n.toNat)))=_
 rw [if_neg (by omega)]
def uP:Nat→Nat→Nat→Option (List UInt8)→Nat × Option (List UInt8)
 | 0,_,_,_=>(0,none)
 | k+1,n,sc,st =>
  match xz 1 st with
  | (c :: _,some r)=>if c.toNat < 128 then ((n+sc*(c.toNat % 128)) % 18446744073709551616,some r) else uP k ((n+sc*(c.toNat % 128)) % 18446744073709551616) (sc*128 % 18446744073709551616) (some r)
  | _=>(0,none)
def uR (st:Option (List UInt8)):Nat × Option (List UInt8):=uP 10 0 1 st
theorem LI:∀ (k n sc:Nat) (st:Option (List UInt8)),(uP k n sc st).1 < 18446744073709551616:=by
 intro k
 induction k with
 | zero=>intro n sc st;exact Nat.zero_lt_succ _
 | succ k ih =>
  intro n sc st
  simp only [uP]
  split
  ·split
   ·exact Nat.mod_lt _ (by decide)
   ·exact ih _ _ _
  ·exact Nat.zero_lt_succ _
theorem LC (st:Option (List UInt8)):(uR st).1 < 18446744073709551616:=LI _ _ _ _
def qN (max:Nat) (st:Option (List UInt8)):Nat × Option (List UInt8):=if max < (uR st).1 then (0,none) else uR st
def xR (max:Nat) (st:Option (List UInt8)):List UInt8 × Option (List UInt8):=xz ((qN max st).1:Int) (qN max st).2
theorem PU (max:Nat) (st:Option (List UInt8)):(qN max st).1≤max:=by
 unfold qN;split
 ·exact Nat.zero_le _
 ·omega
def zOf (n:Nat):Int:=if n % 2=0 then (n / 2:Nat) else -((n / 2:Nat):Int) - 1
def AL:List UInt8→Nat
 | []=>0
 | c :: l=>(256*AL l+c.toNat) % 18446744073709551616
def bR (st:Option (List UInt8)):Int × Option (List UInt8):=(wrap64 (AL (xz 8 st).1:Int),(xz 8 st).2)
end
section
open Go.RowKit
theorem GA (c:UInt8) (r:List UInt8):xz 1 (some (c :: r))=([c],some r):=by
 rw [KR (by omega) (by simp;omega)];rfl
theorem Qj (s r:List UInt8):xz (s.length:Int) (some (s++r))=(s,some r):=by
 rw [KR (by omega) (by simp;omega)]
 simp
theorem Jn (n:Nat) (h:n≤255):(byB (n:Int)).toNat=n:=by
 have:=xH (n:Int) (by omega) (by omega)
 omega
theorem Eh (k acc sc:Nat) (c:UInt8) (r:List UInt8):uP (k+1) acc sc (some (c :: r)) =
  if c.toNat < 128 then ((acc+sc*(c.toNat % 128)) % 18446744073709551616,some r) else uP k ((acc+sc*(c.toNat % 128)) % 18446744073709551616) (sc*128 % 18446744073709551616) (some r):=by
 simp only [uP,GA]
theorem LJ (r:List UInt8):∀ (k n acc sc:Nat),n < 128 ^ (k+1)→acc+sc*n < 18446744073709551616→uP (k+1) acc sc (some (uB n++r))=(acc+sc*n,some r):=by
 intro k
 induction k with
 | zero =>
  intro n acc sc hn hs
  have hn':n≤127:=by omega
  rw [xW hn']
  show uP (0+1) acc sc (some (byB (n:Int) :: r))=_
  rw [Eh,Jn n (by omega),if_pos (by omega),Nat.mod_eq_of_lt (show n < 128 by omega),Nat.mod_eq_of_lt hs]
 | succ k ih =>
  intro n acc sc hn hs
  by_cases hsm:n≤127
  ·rw [xW hsm]
   show uP (k+1+1) acc sc (some (byB (n:Int) :: r))=_
   rw [Eh,Jn n (by omega),if_pos (by omega),Nat.mod_eq_of_lt (show n < 128 by omega),Nat.mod_eq_of_lt hs]
  ·rw [Zj (by omega)]
   have hc:(byB ((n:Int) % 128+128)).toNat=n % 128+128:=by
    have:=Jn (n % 128+128) (by omega)
    have e:(((n % 128+128:Nat)):Int)=(n:Int) % 128+128:=by omega
    rw [e] at this
    exact this
   show uP (k+1+1) acc sc (some (byB ((n:Int) % 128+128) :: (uB (n / 128)++r)))=_
   rw [Eh,hc,if_neg (by omega)]
   have e1:(n % 128+128) % 128=n % 128:=by omega
   have e2:sc*n=sc*(n % 128)+sc*128*(n / 128):=by
    have h:=Nat.mod_add_div n 128
    have h3:sc*(n % 128+128*(n / 128))=sc*(n % 128)+sc*128*(n / 128):=by rw [Nat.mul_add,Nat.mul_assoc]
    rw [h] at h3
    exact h3
   have h1:1≤n / 128:=by omega
   have h2:sc*128≤sc*128*(n / 128):=Nat.le_mul_of_pos_right _ (by omega)
   rw [e1,Nat.mod_eq_of_lt (show acc+sc*(n % 128) < 18446744073709551616 by omega),Nat.mod_eq_of_lt (show sc*128 < 18446744073709551616 by omega)]
   rw [ih (n / 128) (acc+sc*(n % 128)) (sc*128) (by rw [Nat.div_lt_iff_lt_mul (by decide)];rw [Nat.pow_succ] at hn;exact hn) (by omega)]
   rw [e2,Nat.add_assoc]
theorem DO (n:Nat) (r:List UInt8) (h:n < 18446744073709551616):uR (some (uB n++r))=(n,some r):=by
 unfold uR
 rw [LJ r 9 n 0 1 (by omega) (by omega)]
 simp
theorem zR (max n:Nat) (r:List UInt8) (h:n≤max) (hm:max < 18446744073709551616):qN max (some (uB n++r))=(n,some r):=by
 unfold qN
 rw [DO n r (by omega),if_neg (by omega)]
theorem DJ (max:Nat) (s r:List UInt8) (h:s.length≤max) (hm:max < 18446744073709551616):xR max (some (xB s++r))=(s,some r):=by
 unfold xR xB
 rw [List.append_assoc,zR max s.length (s++r) h hm]
 exact Qj s r
theorem Dn (x:Int):zOf (zN x)=x:=by
 unfold zN
 split
 ·unfold zOf;rw [if_pos (by omega)];omega
 ·unfold zOf;rw [if_neg (by omega)];omega
theorem SJ (x:Int) (r:List UInt8) (h0:-9223372036854775808≤x) (h1:x≤9223372036854775807):uR (some (zB x++r))=(zN x,some r):=DO _ r (DS x h0 h1)
theorem TI (v:Nat) (h:v < 18446744073709551616):AL (Us v 8)=v:=by
 have hb:∀ k,(byB ((Gh v k:Int) % 256)).toNat=Gh v k % 256:=by
  intro k
  have:=Jn (Gh v k % 256) (by omega)
  have e:((Gh v k % 256:Nat):Int)=(Gh v k:Int) % 256:=by omega
  rw [e] at this
  exact this
 simp only [Us,List.nil_append,List.cons_append,AL,hb]
 simp only [Gh]
 omega
theorem SK (x:Int) (r:List UInt8) (h0:-9223372036854775808≤x) (h1:x≤9223372036854775807):bR (some (bB x++r))=(x,some r):=by
 unfold bR
 have hl:=ZD x
 have e:xz 8 (some (bB x++r))=(bB x,some r):=by
  have:=Qj (bB x) r
  rw [hl] at this
  exact this
 rw [e]
 unfold bB
 rw [TI _ (by omega)]
 simp only [Prod.mk.injEq,and_true]
 unfold wrap64
 omega
end
section
structure CellB where
 null:Bool
 int:Int
 text:List UInt8
def qM (kind:Int) (c:CellB):Bool :=
 if c.null=true then c.int == 0 && c.text.isEmpty else if kind=0 then c.text.isEmpty else c.int == 0 && decide (c.text.length≤12)
def jR (kind:Int) (l:List CellB):Bool:=(decide (kind=0) || decide (kind=1)) && decide (l.length≤60) && l.all (qM kind)
def Xc:Bool→Nat→List CellB→List UInt8
 | _,n,[]=>uB n
 | b,n,c :: l=>if c.null=b then Xc b (n+1) l else uB n++Xc (!b) 1 l
def zG (b:Bool):List CellB→Nat
 | []=>0
 | c :: l=>if c.null=b then zG b l+1 else 0
theorem Gl (b:Bool) (l:List CellB):zG b l≤l.length:=by
 induction l with
 | nil=>exact Nat.le_refl _
 | cons c l ih=>simp only [zG,List.length_cons];split<;>omega
theorem YF (b:Bool) (l:List CellB):∀ m,m < zG b l→∃ h:m < l.length,(l[m]).null=b:=by
 induction l with
 | nil=>intro m h;simp [zG] at h
 | cons c l ih =>
  intro m h
  simp only [zG] at h
  split at h
  ·cases m with
   | zero=>exact ⟨by simp,by assumption⟩
   | succ m =>
    obtain ⟨h1,h2⟩:=ih m (by omega)
    exact ⟨by simp;omega,by simpa using h2⟩
  ·omega
theorem EG (b:Bool) (l:List CellB):∀ (h:zG b l < l.length),(l[zG b l]).null=!b:=by
 induction l with
 | nil=>intro h;simp [zG] at h
 | cons c l ih =>
  intro h
  by_cases hc:c.null=b
  ·have e:zG b (c :: l)=zG b l+1:=by simp [zG,hc]
   have h':zG b l < l.length:=by rw [e] at h;simpa using h
   have:=ih h'
   simp only [e,List.getElem_cons_succ]
   exact this
  ·have e:zG b (c :: l)=0:=by simp [zG,hc]
   simp only [e,List.getElem_cons_zero]
   cases hn:c.null<;>cases b<;>simp_all
def qQ (b:Bool) (l:List CellB):List UInt8:=if l=[] then [] else Xc b 0 l
theorem Cr (b:Bool) (l:List CellB):∀ n,Xc b n l=uB (n+zG b l)++qQ (!b) (l.drop (zG b l)):=by
 induction l with
 | nil=>intro n;simp [Xc,zG,qQ]
 | cons c l ih =>
  intro n
  by_cases h:c.null=b
  ·simp only [Xc,zG,if_pos h,List.drop_succ_cons]
   rw [ih (n+1)]
   congr 2
   omega
  ·simp only [Xc,zG,if_neg h,Nat.add_zero,List.drop_zero,qQ]
   have hb:c.null=!b:=by cases hc:c.null<;>cases b<;>simp_all
   simp [hb]
def zz (l:List CellB):List UInt8:=uB l.length++qQ false l
theorem Zn (b:Bool) (l:List CellB) (h:l≠[]):qQ b l=uB (zG b l)++qQ (!b) (l.drop (zG b l)):=by
 rw [qQ,if_neg h,Cr b l 0,Nat.zero_add]
theorem KS (l:List CellB) (h:l.length≤60):(zz l).length≤1000:=by
 have hr:∀ (l:List CellB) (b:Bool) (n:Nat),n+l.length≤60→(Xc b n l).length≤10*(l.length+1):=by
  intro l
  induction l with
  | nil=>intro b n hn;have:=jS n (by simp at hn;omega);simp only [Xc,List.length_nil];omega
  | cons c l ih =>
   intro b n hn
   simp only [List.length_cons] at hn ⊢
   simp only [Xc]
   split
   ·have:=ih b (n+1) (by omega);omega
   ·have h1:=jS n (by omega)
    have h2:=ih (!b) 1 (by omega)
    rw [List.length_append];omega
 unfold zz qQ
 have h1:=jS l.length (by omega)
 rw [List.length_append]
 split
 ·simp;omega
 ·have:=hr l false 0 (by omega);omega
def jh (l:List CellB):List CellB:=l.filter fun c=>!c.null
end
section
def qb:List CellB→List UInt8→Nat
 | [],_=>0
 | c :: l,t=>if c.text=t then 0 else qb l t+1
theorem RD (l:List CellB) (t:List UInt8):∀ m,m < qb l t→∀ h:m < l.length,(l[m]).text≠t:=by
 induction l with
 | nil=>intro m h;simp [qb] at h
 | cons c l ih =>
  intro m h hl
  simp only [qb] at h
  split at h
  ·omega
  ·cases m with
   | zero=>simpa using ‹¬ c.text=t›
   | succ m=>simpa using ih m (by omega) (by simpa using hl)
theorem Xn (l:List CellB) (t:List UInt8) (h:∃ c ∈ l,c.text=t):∃ hl:qb l t < l.length,(l[qb l t]).text=t:=by
 induction l with
 | nil=>obtain ⟨c,hc,_⟩:=h;cases hc
 | cons c l ih =>
  by_cases hc:c.text=t
  ·have e:qb (c :: l) t=0:=by simp [qb,hc]
   exact ⟨by rw [e];simp,by simp only [e,List.getElem_cons_zero];exact hc⟩
  ·have e:qb (c :: l) t=qb l t+1:=by simp [qb,hc]
   obtain ⟨h1,h2⟩:=ih (by
    obtain ⟨d,hd,ht⟩:=h
    rcases List.mem_cons.1 hd with rfl|hd
    ·exact absurd ht hc
    ·exact ⟨d,hd,ht⟩)
   exact ⟨by rw [e];simp;omega,by simp only [e,List.getElem_cons_succ];exact h2⟩
theorem Rm (l:List CellB) (k:Nat) (h:k < l.length):qb l (l[k]).text≤k:=by
 rcases Nat.lt_or_ge k (qb l (l[k]).text) with h1|h1
 ·exact absurd rfl (RD l _ k h1 h)
 ·exact h1
theorem Uf (l:List CellB) (t:List UInt8):qb l t≤l.length:=by
 induction l with
 | nil=>exact Nat.le_refl _
 | cons c l ih=>simp only [qb,List.length_cons];split<;>omega
def xb:CellB:=⟨false,0,[]⟩
def xY (l:List CellB) (i:Nat):CellB:=l.getD i xb
theorem qD (l:List CellB) (i:Nat) (h:i < l.length):xY l i=l[i]:=by simp [xY,List.getD,h]
def qj (l:List CellB):Nat→List CellB
 | 0=>[]
 | k+1=>qj l k++(if qb l (xY l k).text=k then [xY l k] else [])
def qL (l:List CellB):List CellB:=qj l l.length
theorem Jb (l:List CellB) (k:Nat):(qj l k).length≤k:=by
 induction k with
 | zero=>exact Nat.le_refl _
 | succ k ih=>simp only [qj,List.length_append];split<;>simp<;>omega
theorem XI (l:List CellB) (k:Nat) (hk:k≤l.length):∀ c ∈ qj l k,c ∈ l:=by
 induction k with
 | zero=>intro c hc;simp [qj] at hc
 | succ k ih =>
  intro c hc
  simp only [qj,List.mem_append] at hc
  rcases hc with hc|hc
  ·exact ih (by omega) c hc
  ·split at hc
   ·simp at hc;subst hc;rw [qD l k (by omega)];exact List.getElem_mem _
   ·simp at hc
theorem NM (l:List CellB) (i:Nat) (hi:i < l.length) (hf:qb l (l[i]).text=i):∀ k,i < k→k≤l.length→l[i] ∈ qj l k:=by
 intro k
 induction k with
 | zero=>intro h;omega
 | succ k ih =>
  intro h hk
  simp only [qj,List.mem_append]
  by_cases hik:i=k
  ·subst hik
   right
   rw [qD l i hi,if_pos hf]
   simp
  ·left;exact ih (by omega) (by omega)
theorem KL (l:List CellB) (i:Nat) (hi:i < l.length):∃ c ∈ qL l,c.text=(l[i]).text:=by
 obtain ⟨h1,h2⟩:=Xn l (l[i]).text ⟨l[i],List.getElem_mem hi,rfl⟩
 have hf:qb l (l[qb l (l[i]).text]).text=qb l (l[i]).text:=by rw [h2]
 exact ⟨_,NM l _ h1 hf _ h1 (Nat.le_refl _),h2⟩
def zT (v:Int):List CellB→Nat
 | []=>0
 | c :: l=>if c.int=v then zT v l+1 else 0
theorem Gw (v:Int) (l:List CellB):zT v l≤l.length:=by
 induction l with
 | nil=>exact Nat.le_refl _
 | cons c l ih=>simp only [zT,List.length_cons];split<;>omega
theorem YP (v:Int) (l:List CellB):∀ m,m < zT v l→∃ h:m < l.length,(l[m]).int=v:=by
 induction l with
 | nil=>intro m h;simp [zT] at h
 | cons c l ih =>
  intro m h
  simp only [zT] at h
  split at h
  ·cases m with
   | zero=>exact ⟨by simp,by assumption⟩
   | succ m =>
    obtain ⟨h1,h2⟩:=ih m (by omega)
    exact ⟨by simp;omega,by simpa using h2⟩
  ·omega
theorem NF (v:Int) (l:List CellB):∀ (h:zT v l < l.length),(l[zT v l]).int≠v:=by
 induction l with
 | nil=>intro h;simp [zT] at h
 | cons c l ih =>
  intro h
  by_cases hc:c.int=v
  ·have e:zT v (c :: l)=zT v l+1:=by simp [zT,hc]
   have h':zT v l < l.length:=by rw [e] at h;simpa using h
   have:=ih h'
   simp only [e,List.getElem_cons_succ]
   exact this
  ·have e:zT v (c :: l)=0:=by simp [zT,hc]
   simp only [e,List.getElem_cons_zero]
   exact hc
def jJ:List UInt8→List UInt8→Nat
 | a :: s,b :: t=>if a=b then jJ s t+1 else 0
 | _,_=>0
theorem Jg (s t:List UInt8):jJ s t≤s.length∧jJ s t≤t.length:=by
 induction s generalizing t with
 | nil=>simp [jJ]
 | cons a s ih =>
  cases t with
  | nil=>simp [jJ]
  | cons b t =>
   have:=ih t
   simp only [jJ,List.length_cons]
   split<;>omega
theorem Gz (s t:List UInt8):∀ m,m < jJ s t→∀ (h1:m < s.length) (h2:m < t.length),s[m]=t[m]:=by
 induction s generalizing t with
 | nil=>intro m h;simp [jJ] at h
 | cons a s ih =>
  cases t with
  | nil=>intro m h;simp [jJ] at h
  | cons b t =>
   intro m h h1 h2
   simp only [jJ] at h
   split at h
   ·cases m with
    | zero=>simpa using ‹a=b›
    | succ m=>simpa using ih t m (by omega) (by simpa using h1) (by simpa using h2)
   ·omega
theorem Iw (s t:List UInt8):∀ (h1:jJ s t < s.length) (h2:jJ s t < t.length),s[jJ s t]≠t[jJ s t]:=by
 induction s generalizing t with
 | nil=>intro h;simp [jJ] at h
 | cons a s ih =>
  cases t with
  | nil=>intro h1 h2;simp [jJ] at h2
  | cons b t =>
   intro h1 h2
   by_cases hab:a=b
   ·have e:jJ (a :: s) (b :: t)=jJ s t+1:=by simp [jJ,hab]
    have h1':jJ s t < s.length:=by rw [e] at h1;simpa using h1
    have h2':jJ s t < t.length:=by rw [e] at h2;simpa using h2
    have:=ih t h1' h2'
    simp only [e,List.getElem_cons_succ]
    exact this
   ·have e:jJ (a :: s) (b :: t)=0:=by simp [jJ,hab]
    simp only [e,List.getElem_cons_zero]
    exact hab
def qF (l:List CellB) (i:Nat):CellB:=if i=0 then xb else xY l (i - 1)
def xu (n:Nat) (l:List CellB) (i:Nat):List UInt8 :=
 match n with
 | 0=>bB (xY l i).int
 | 1=>zB (RowKit.wrap64 ((xY l i).int - (qF l i).int))
 | 2=>if i=0∨(xY l i).int≠(qF l i).int then uB (zT (xY l i).int (l.drop (i+1))+1)++zB (xY l i).int else []
 | 3=>uB (qb (qL l) (xY l i).text)
 | 4=>uB (jJ (xY l i).text (qF l i).text)++xB ((xY l i).text.drop (jJ (xY l i).text (qF l i).text))
 | _=>xB (xY l i).text
def jN (n:Nat) (l:List CellB):Nat→List UInt8
 | 0=>[]
 | k+1=>jN n l k++xu n l k
def JO (l:List CellB):Nat→List UInt8
 | 0=>uB l.length
 | k+1=>JO l k++xB (xY l k).text
def qz (n:Nat) (l:List CellB):List UInt8:=(if n=3 then JO (qL l) (qL l).length else [])++jN n l l.length
def qt (c:CellB):Prop:=-9223372036854775808≤c.int∧c.int≤9223372036854775807∧c.text.length≤12
theorem Tz:qt xb:=⟨by decide,by decide,by decide⟩
theorem Vq (l:List CellB) (h:∀ c ∈ l,qt c) (i:Nat):qt (xY l i):=by
 by_cases hi:i < l.length
 ·rw [qD l i hi];exact h _ (List.getElem_mem hi)
 ·have:xY l i=xb:=by simp [xY,List.getD,show l.length≤i by omega]
  rw [this];exact Tz
theorem Uh (l:List CellB) (h:∀ c ∈ l,qt c) (i:Nat):qt (qF l i):=by
 unfold qF;split
 ·exact Tz
 ·exact Vq l h _
theorem UY (n:Int) (h0:-9223372036854775808≤n) (h1:n≤9223372036854775807):(zB n).length≤10:=jS _ (DS n h0 h1)
theorem Ya (s:List UInt8) (h:s.length≤12):(xB s).length≤22:=by
 have:=jS s.length (by omega)
 simp only [xB,List.length_append];omega
theorem Jt (n:Int):-9223372036854775808≤RowKit.wrap64 n∧RowKit.wrap64 n≤9223372036854775807:=by
 unfold RowKit.wrap64;omega
theorem Th (n:Nat) (l:List CellB) (h:∀ c ∈ l,qt c) (hn:l.length≤60) (i:Nat):(xu n l i).length≤40:=by
 obtain ⟨a1,a2,a3⟩:=Vq l h i
 obtain ⟨b1,b2,b3⟩:=Uh l h i
 have hd:=Jb l l.length
 unfold xu
 split
 ·rw [ZD];omega
 ·have:=Jt ((xY l i).int - (qF l i).int)
  have:=UY _ this.1 this.2
  omega
 ·split
  ·have h1:=Gw (xY l i).int (l.drop (i+1))
   rw [List.length_drop] at h1
   have h2:=jS (zT (xY l i).int (l.drop (i+1))+1) (by omega)
   have h3:=UY _ a1 a2
   rw [List.length_append];omega
  ·simp
 ·have h1:qb (qL l) (xY l i).text≤(qL l).length:=Uf _ _
  have h4:(qL l).length≤l.length:=hd
  have h2:=jS (qb (qL l) (xY l i).text) (by omega)
  omega
 ·have h1:=Jg (xY l i).text (qF l i).text
  have h2:=jS (jJ (xY l i).text (qF l i).text) (by omega)
  have h3:=Ya ((xY l i).text.drop (jJ (xY l i).text (qF l i).text)) (by rw [List.length_drop];omega)
  rw [List.length_append];omega
 ·have:=Ya _ a3;omega
theorem zi (n:Nat) (l:List CellB) (h:∀ c ∈ l,qt c) (hn:l.length≤60) (k:Nat):(jN n l k).length≤40*k:=by
 induction k with
 | zero=>simp [jN]
 | succ k ih =>
  have:=Th n l h hn k
  simp only [jN,List.length_append];omega
theorem EL (l:List CellB) (h:∀ c ∈ l,qt c) (hn:l.length≤60) (k:Nat):(JO l k).length≤10+22*k:=by
 induction k with
 | zero=>have:=jS l.length (by omega);simp only [JO];omega
 | succ k ih =>
  have:=Ya (xY l k).text (Vq l h k).2.2
  simp only [JO,List.length_append];omega
end
section
def Zi (kind:Int) (k:Nat):Nat:=if kind=0 then k else if k=0 then 5 else k+2
def QR (n:Nat) (v:List CellB):List UInt8:=byB ((n:Int) % 5) :: qz n v
def jH (kind:Int) (v:List CellB):Nat→List UInt8
 | 0=>[]
 | k+1=>if k=0∨(QR (Zi kind k) v).length < (jH kind v k).length then QR (Zi kind k) v else jH kind v k
def xg (kind:Int) (l:List CellB):List UInt8:=if jh l=[] then zz l else zz l++jH kind (jh l) 3
theorem UB (n:Nat) (v:List CellB) (h:∀ c ∈ v,qt c) (hn:v.length≤60):(qz n v).length≤5000:=by
 have h1:=zi n v h hn v.length
 have hd:∀ c ∈ qL v,qt c:=fun c hc=>h c (XI v v.length (Nat.le_refl _) c hc)
 have hl:(qL v).length≤60:=Nat.le_trans (Jb v v.length) hn
 have h2:=EL (qL v) hd hl (qL v).length
 unfold qz
 rw [List.length_append]
 split<;>simp<;>omega
theorem ZP (kind:Int) (v:List CellB) (h:∀ c ∈ v,qt c) (hn:v.length≤60) (k:Nat):(jH kind v k).length≤5001:=by
 induction k with
 | zero=>simp [jH]
 | succ k ih =>
  have:=UB (Zi kind k) v h hn
  simp only [jH]
  split
  ·simp only [QR,List.length_cons];omega
  ·exact ih
end
end Go.Proofs.YthhpbhpfagoapaaGreat
