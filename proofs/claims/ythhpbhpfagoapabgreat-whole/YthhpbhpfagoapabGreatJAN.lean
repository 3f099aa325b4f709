import Derived.WalkKit
import Derived.RowKit
namespace Go.Proofs.YthhpbhpfagoapabGreat
set_option linter.unusedVariables false
set_option linter.unusedSimpArgs false
set_option maxRecDepth 100000
set_option maxHeartbeats 16000000
section
def byB (a:Int):UInt8:=UInt8.ofNat a.toNat
theorem xY (a:Int) (h0:0≤a) (h1:a≤255):((byB a).toNat:Int)=a:=by
 unfold byB
 simp only [UInt8.toNat_ofNat']
 omega
theorem AS (b:UInt8):byB (b.toNat:Int)=b:=by
 unfold byB
 simp
def uB (n:Nat):List UInt8:=if _h:n > 127 then byB ((n:Int) % 128+128) :: uB (n / 128) else [byB (n:Int)]
theorem zt {n:Nat} (h:n≤127):uB n=[byB (n:Int)]:=by
 rw [uB,dif_neg (by omega)]
theorem ZU {n:Nat} (h:127 < n):uB n=byB ((n:Int) % 128+128) :: uB (n / 128):=by
 rw [uB,dif_pos h]
theorem Fh:∀ (k n:Nat),n < 128 ^ (k+1)→(uB n).length≤k+1:=by
 intro k
 induction k with
 | zero=>intro n h;rw [zt (by omega)];simp
 | succ k ih =>
  intro n h
  by_cases hn:n≤127
  ·rw [zt hn];simp
  ·rw [ZU (by omega)]
   have:n / 128 < 128 ^ (k+1):=by
    rw [Nat.div_lt_iff_lt_mul (by decide)]
    rw [Nat.pow_succ] at h
    exact h
   have:=ih _ this
   simp;omega
theorem qa (n:Nat) (h:n < 18446744073709551616):(uB n).length≤10:=Fh 9 n (by omega)
theorem Fu (n:Nat):1≤(uB n).length:=by
 by_cases h:n≤127
 ·rw [zt h];simp
 ·rw [ZU (by omega)];simp
def zN (n:Int):Nat:=if 0≤n then 2*n.toNat else 2*(-(n+1)).toNat+1
def zB (n:Int):List UInt8:=uB (zN n)
theorem Tn (n:Int) (h0:-9223372036854775808≤n) (h1:n≤9223372036854775807):zN n < 18446744073709551616:=by
 unfold zN;split<;>omega
def Np (v:Nat):Nat→Nat
 | 0=>v
 | k+1=>Np v k / 256
def Ve (v:Nat):Nat→List UInt8
 | 0=>[]
 | k+1=>Ve v k++[byB ((Np v k:Int) % 256)]
theorem ZH (v k:Nat):(Ve v k).length=k:=by
 induction k with
 | zero=>rfl
 | succ k ih=>simp [Ve,ih]
def bB (n:Int):List UInt8:=Ve (n % 18446744073709551616).toNat 8
theorem Kl (n:Int):(bB n).length=8:=ZH _ _
def xB (s:List UInt8):List UInt8:=uB s.length++s
end
section
open Go.RowKit
def xU (n:Int):Option (List UInt8)→List UInt8 × Option (List UInt8)
 | none=>([],none)
 | some r=>if n < 0∨(r.length:Int) < n then ([],none) else (r.take n.toNat,some (r.drop n.toNat))
theorem Lz {n:Int} {r:List UInt8} (h:n < 0∨(r.length:Int) < n):xU n (some r)=([],none):=by
 show (if n < 0∨(r.length:Int) < n then ([],none) else (r.take n.toNat,some (r.drop n.toNat)))=_
 rw [if_pos h]
theorem UG {n:Int} {r:List UInt8} (h0:0≤n) (h1:n≤(r.length:Int)):xU n (some r)=(r.take n.toNat,some (r.drop n.toNat)):=by
 show (if n < 0∨(r.length:Int) < n then ([],none) else (r.take n.toNat,some (r.drop n.toNat)))=_
 rw [if_neg (by omega)]
def uP:Nat→Nat→Nat→Option (List UInt8)→Nat × Option (List UInt8)
 | 0,_,_,_=>(0,none)
 | k+1,n,sc,st =>
  match xU 1 st with
  | (c :: _,some r)=>if c.toNat < 128 then ((n+sc*(c.toNat % 128)) % 18446744073709551616,some r) else uP k ((n+sc*(c.toNat % 128)) % 18446744073709551616) (sc*128 % 18446744073709551616) (some r)
  | _=>(0,none)
def uR (st:Option (List UInt8)):Nat × Option (List UInt8):=uP 10 0 1 st
theorem FQ:∀ (k n sc:Nat) (st:Option (List UInt8)),(uP k n sc st).1 < 18446744073709551616:=by
 intro k
 induction k with
 | zero=>intro n sc st;exact Nat.zero_lt_succ _
 | succ k ih =>
  intro n sc st
  simp only [uP]
  split
  ·split
   ·exact Nat.mod_lt _ (by decide)
   ·exact ih _ _ _
  ·exact Nat.zero_lt_succ _
theorem We (st:Option (List UInt8)):(uR st).1 < 18446744073709551616:=FQ _ _ _ _
def qX (max:Nat) (st:Option (List UInt8)):Nat × Option (List UInt8):=if max < (uR st).1 then (0,none) else uR st
def xR (max:Nat) (st:Option (List UInt8)):List UInt8 × Option (List UInt8):=xU ((qX max st).1:Int) (qX max st).2
theorem Bz (max:Nat) (st:Option (List UInt8)):(qX max st).1≤max:=by
 unfold qX;split
 ·exact Nat.zero_le _
 ·omega
def zOf (n:Nat):Int:=if n % 2=0 then (n / 2:Nat) else -((n / 2:Nat):Int) - 1
def Cm:List UInt8→Nat
 | []=>0
 | c :: l=>(256*Cm l+c.toNat) % 18446744073709551616
def bR (st:Option (List UInt8)):Int × Option (List UInt8):=(wrap64 (Cm (xU 8 st).1:Int),(xU 8 st).2)
end
section
open Go.RowKit
theorem RN (c:UInt8) (r:List UInt8):xU 1 (some (c :: r))=([c],some r):=by
 rw [UG (by omega) (by simp;omega)];rfl
theorem QU (s r:List UInt8):xU (s.length:Int) (some (s++r))=(s,some r):=by
 rw [UG (by omega) (by simp;omega)]
 simp
theorem JR (n:Nat) (h:n≤255):(byB (n:Int)).toNat=n:=by
 have:=xY (n:Int) (by omega) (by omega)
 omega
theorem IQ (k acc sc:Nat) (c:UInt8) (r:List UInt8):uP (k+1) acc sc (some (c :: r)) =
  if c.toNat < 128 then ((acc+sc*(c.toNat % 128)) % 18446744073709551616,some r) else uP k ((acc+sc*(c.toNat % 128)) % 18446744073709551616) (sc*128 % 18446744073709551616) (some r):=by
 simp only [uP,RN]
theorem FW (r:List UInt8):∀ (k n acc sc:Nat),n < 128 ^ (k+1)→acc+sc*n < 18446744073709551616→uP (k+1) acc sc (some (uB n++r))=(acc+sc*n,some r):=by
 intro k
 induction k with
 | zero =>
  intro n acc sc hn hs
  have hn':n≤127:=by omega
  rw [zt hn']
  show uP (0+1) acc sc (some (byB (n:Int) :: r))=_
  rw [IQ,JR n (by omega),if_pos (by omega),Nat.mod_eq_of_lt (show n < 128 by omega),Nat.mod_eq_of_lt hs]
 | succ k ih =>
  intro n acc sc hn hs
  by_cases hsm:n≤127
  ·rw [zt hsm]
   show uP (k+1+1) acc sc (some (byB (n:Int) :: r))=_
   rw [IQ,JR n (by omega),if_pos (by omega),Nat.mod_eq_of_lt (show n < 128 by omega),Nat.mod_eq_of_lt hs]
  ·rw [ZU (by omega)]
   have hc:(byB ((n:Int) % 128+128)).toNat=n % 128+128:=by
    have:=JR (n % 128+128) (by omega)
    have e:(((n % 128+128:Nat)):Int)=(n:Int) % 128+128:=by omega
    rw [e] at this
    exact this
   show uP (k+1+1) acc sc (some (byB ((n:Int) % 128+128) :: (uB (n / 128)++r)))=_
   rw [IQ,hc,if_neg (by omega)]
   have e1:(n % 128+128) % 128=n % 128:=by omega
   have e2:sc*n=sc*(n % 128)+sc*128*(n / 128):=by
    have h:=Nat.mod_add_div n 128
    have h3:sc*(n % 128+128*(n / 128))=sc*(n % 128)+sc*128*(n / 128):=by rw [Nat.mul_add,Nat.mul_assoc]
    rw [h] at h3
    exact h3
   have h1:1≤n / 128:=by omega
   have h2:sc*128≤sc*128*(n / 128):=Nat.le_mul_of_pos_right _ (by omega)
   rw [e1,Nat.mod_eq_of_lt (show acc+sc*(n % 128) < 18446744073709551616 by omega),Nat.mod_eq_of_lt (show sc*128 < 18446744073709551616 by omega)]
   rw [ih (n / 128) (acc+sc*(n % 128)) (sc*128) (by rw [Nat.div_lt_iff_lt_mul (by decide)];rw [Nat.pow_succ] at hn;exact hn) (by omega)]
   rw [e2,Nat.add_assoc]
theorem Ti (n:Nat) (r:List UInt8) (h:n < 18446744073709551616):uR (some (uB n++r))=(n,some r):=by
 unfold uR
 rw [FW r 9 n 0 1 (by omega) (by omega)]
 simp
theorem Jx (max n:Nat) (r:List UInt8) (h:n≤max) (hm:max < 18446744073709551616):qX max (some (uB n++r))=(n,some r):=by
 unfold qX
 rw [Ti n r (by omega),if_neg (by omega)]
theorem CP (max:Nat) (s r:List UInt8) (h:s.length≤max) (hm:max < 18446744073709551616):xR max (some (xB s++r))=(s,some r):=by
 unfold xR xB
 rw [List.append_assoc,Jx max s.length (s++r) h hm]
 exact QU s r
theorem MB (x:Int):zOf (zN x)=x:=by
 unfold zN
 split
 ·unfold zOf;rw [if_pos (by omega)];omega
 ·unfold zOf;rw [if_neg (by omega)];omega
theorem BQ (x:Int) (r:List UInt8) (h0:-9223372036854775808≤x) (h1:x≤9223372036854775807):uR (some (zB x++r))=(zN x,some r):=Ti _ r (Tn x h0 h1)
theorem Lg (v:Nat) (h:v < 18446744073709551616):Cm (Ve v 8)=v:=by
 have hb:∀ k,(byB ((Np v k:Int) % 256)).toNat=Np v k % 256:=by
  intro k
  have:=JR (Np v k % 256) (by omega)
  have e:((Np v k % 256:Nat):Int)=(Np v k:Int) % 256:=by omega
  rw [e] at this
  exact this
 simp only [Ve,List.nil_append,List.cons_append,Cm,hb]
 simp only [Np]
 omega
theorem BZ (x:Int) (r:List UInt8) (h0:-9223372036854775808≤x) (h1:x≤9223372036854775807):bR (some (bB x++r))=(x,some r):=by
 unfold bR
 have hl:=Kl x
 have e:xU 8 (some (bB x++r))=(bB x,some r):=by
  have:=QU (bB x) r
  rw [hl] at this
  exact this
 rw [e]
 unfold bB
 rw [Lg _ (by omega)]
 simp only [Prod.mk.injEq,and_true]
 unfold wrap64
 omega
end
section
structure CellB where
 null:Bool
 int:Int
 text:List UInt8
def xh (kind:Int) (c:CellB):Bool :=
 if c.null=true then c.int == 0 && c.text.isEmpty else if kind=0 then c.text.isEmpty else c.int == 0 && decide (c.text.length≤12)
def qC (kind:Int) (l:List CellB):Bool:=(decide (kind=0) || decide (kind=1)) && decide (l.length≤60) && l.all (xh kind)
def XG:Bool→Nat→List CellB→List UInt8
 | _,n,[]=>uB n
 | b,n,c :: l=>if c.null=b then XG b (n+1) l else uB n++XG (!b) 1 l
def Jk (b:Bool):List CellB→Nat
 | []=>0
 | c :: l=>if c.null=b then Jk b l+1 else 0
theorem Nv (b:Bool) (l:List CellB):Jk b l≤l.length:=by
 induction l with
 | nil=>exact Nat.le_refl _
 | cons c l ih=>simp only [Jk,List.length_cons];split<;>omega
theorem EF (b:Bool) (l:List CellB):∀ m,m < Jk b l→∃ h:m < l.length,(l[m]).null=b:=by
 induction l with
 | nil=>intro m h;simp [Jk] at h
 | cons c l ih =>
  intro m h
  simp only [Jk] at h
  split at h
  ·cases m with
   | zero=>exact ⟨by simp,by assumption⟩
   | succ m =>
    obtain ⟨h1,h2⟩:=ih m (by omega)
    exact ⟨by simp;omega,by simpa using h2⟩
  ·omega
theorem Db (b:Bool) (l:List CellB):∀ (h:Jk b l < l.length),(l[Jk b l]).null=!b:=by
 induction l with
 | nil=>intro h;simp [Jk] at h
 | cons c l ih =>
  intro h
  by_cases hc:c.null=b
  ·have e:Jk b (c :: l)=Jk b l+1:=by simp [Jk,hc]
   have h':Jk b l < l.length:=by rw [e] at h;simpa using h
   have:=ih h'
   simp only [e,List.getElem_cons_succ]
   exact this
  ·have e:Jk b (c :: l)=0:=by simp [Jk,hc]
   simp only [e,List.getElem_cons_zero]
   cases hn:c.null<;>cases b<;>simp_all
def qZ (b:Bool) (l:List CellB):List UInt8:=if l=[] then [] else XG b 0 l
theorem Pm (b:Bool) (l:List CellB):∀ n,XG b n l=uB (n+Jk b l)++qZ (!b) (l.drop (Jk b l)):=by
 induction l with
 | nil=>intro n;simp [XG,Jk,qZ]
 | cons c l ih =>
  intro n
  by_cases h:c.null=b
  ·simp only [XG,Jk,if_pos h,List.drop_succ_cons]
   rw [ih (n+1)]
   congr 2
   omega
  ·simp only [XG,Jk,if_neg h,Nat.add_zero,List.drop_zero,qZ]
   have hb:c.null=!b:=by cases hc:c.null<;>cases b<;>simp_all
   simp [hb]
def zZ (l:List CellB):List UInt8:=uB l.length++qZ false l
theorem ZV (b:Bool) (l:List CellB) (h:l≠[]):qZ b l=uB (Jk b l)++qZ (!b) (l.drop (Jk b l)):=by
 rw [qZ,if_neg h,Pm b l 0,Nat.zero_add]
theorem UM (l:List CellB) (h:l.length≤60):(zZ l).length≤1000:=by
 have hr:∀ (l:List CellB) (b:Bool) (n:Nat),n+l.length≤60→(XG b n l).length≤10*(l.length+1):=by
  intro l
  induction l with
  | nil=>intro b n hn;have:=qa n (by simp at hn;omega);simp only [XG,List.length_nil];omega
  | cons c l ih =>
   intro b n hn
   simp only [List.length_cons] at hn ⊢
   simp only [XG]
   split
   ·have:=ih b (n+1) (by omega);omega
   ·have h1:=qa n (by omega)
    have h2:=ih (!b) 1 (by omega)
    rw [List.length_append];omega
 unfold zZ qZ
 have h1:=qa l.length (by omega)
 rw [List.length_append]
 split
 ·simp;omega
 ·have:=hr l false 0 (by omega);omega
def jm (l:List CellB):List CellB:=l.filter fun c=>!c.null
end
section
def qk:List CellB→List UInt8→Nat
 | [],_=>0
 | c :: l,t=>if c.text=t then 0 else qk l t+1
theorem YI (l:List CellB) (t:List UInt8):∀ m,m < qk l t→∀ h:m < l.length,(l[m]).text≠t:=by
 induction l with
 | nil=>intro m h;simp [qk] at h
 | cons c l ih =>
  intro m h hl
  simp only [qk] at h
  split at h
  ·omega
  ·cases m with
   | zero=>simpa using ‹¬ c.text=t›
   | succ m=>simpa using ih m (by omega) (by simpa using hl)
theorem XU (l:List CellB) (t:List UInt8) (h:∃ c ∈ l,c.text=t):∃ hl:qk l t < l.length,(l[qk l t]).text=t:=by
 induction l with
 | nil=>obtain ⟨c,hc,_⟩:=h;cases hc
 | cons c l ih =>
  by_cases hc:c.text=t
  ·have e:qk (c :: l) t=0:=by simp [qk,hc]
   exact ⟨by rw [e];simp,by simp only [e,List.getElem_cons_zero];exact hc⟩
  ·have e:qk (c :: l) t=qk l t+1:=by simp [qk,hc]
   obtain ⟨h1,h2⟩:=ih (by
    obtain ⟨d,hd,ht⟩:=h
    rcases List.mem_cons.1 hd with rfl|hd
    ·exact absurd ht hc
    ·exact ⟨d,hd,ht⟩)
   exact ⟨by rw [e];simp;omega,by simp only [e,List.getElem_cons_succ];exact h2⟩
theorem YK (l:List CellB) (k:Nat) (h:k < l.length):qk l (l[k]).text≤k:=by
 rcases Nat.lt_or_ge k (qk l (l[k]).text) with h1|h1
 ·exact absurd rfl (YI l _ k h1 h)
 ·exact h1
theorem Vm (l:List CellB) (t:List UInt8):qk l t≤l.length:=by
 induction l with
 | nil=>exact Nat.le_refl _
 | cons c l ih=>simp only [qk,List.length_cons];split<;>omega
def xA:CellB:=⟨false,0,[]⟩
def zv (l:List CellB) (i:Nat):CellB:=l.getD i xA
theorem qN (l:List CellB) (i:Nat) (h:i < l.length):zv l i=l[i]:=by simp [zv,List.getD,h]
def qt (l:List CellB):Nat→List CellB
 | 0=>[]
 | k+1=>qt l k++(if qk l (zv l k).text=k then [zv l k] else [])
def qW (l:List CellB):List CellB:=qt l l.length
theorem JC (l:List CellB) (k:Nat):(qt l k).length≤k:=by
 induction k with
 | zero=>exact Nat.le_refl _
 | succ k ih=>simp only [qt,List.length_append];split<;>simp<;>omega
theorem Zq (l:List CellB) (k:Nat) (hk:k≤l.length):∀ c ∈ qt l k,c ∈ l:=by
 induction k with
 | zero=>intro c hc;simp [qt] at hc
 | succ k ih =>
  intro c hc
  simp only [qt,List.mem_append] at hc
  rcases hc with hc|hc
  ·exact ih (by omega) c hc
  ·split at hc
   ·simp at hc;subst hc;rw [qN l k (by omega)];exact List.getElem_mem _
   ·simp at hc
theorem RP (l:List CellB) (i:Nat) (hi:i < l.length) (hf:qk l (l[i]).text=i):∀ k,i < k→k≤l.length→l[i] ∈ qt l k:=by
 intro k
 induction k with
 | zero=>intro h;omega
 | succ k ih =>
  intro h hk
  simp only [qt,List.mem_append]
  by_cases hik:i=k
  ·subst hik
   right
   rw [qN l i hi,if_pos hf]
   simp
  ·left;exact ih (by omega) (by omega)
theorem Uy (l:List CellB) (i:Nat) (hi:i < l.length):∃ c ∈ qW l,c.text=(l[i]).text:=by
 obtain ⟨h1,h2⟩:=XU l (l[i]).text ⟨l[i],List.getElem_mem hi,rfl⟩
 have hf:qk l (l[qk l (l[i]).text]).text=qk l (l[i]).text:=by rw [h2]
 exact ⟨_,RP l _ h1 hf _ h1 (Nat.le_refl _),h2⟩
def Jz (v:Int):List CellB→Nat
 | []=>0
 | c :: l=>if c.int=v then Jz v l+1 else 0
theorem NG (v:Int) (l:List CellB):Jz v l≤l.length:=by
 induction l with
 | nil=>exact Nat.le_refl _
 | cons c l ih=>simp only [Jz,List.length_cons];split<;>omega
theorem EX (v:Int) (l:List CellB):∀ m,m < Jz v l→∃ h:m < l.length,(l[m]).int=v:=by
 induction l with
 | nil=>intro m h;simp [Jz] at h
 | cons c l ih =>
  intro m h
  simp only [Jz] at h
  split at h
  ·cases m with
   | zero=>exact ⟨by simp,by assumption⟩
   | succ m =>
    obtain ⟨h1,h2⟩:=ih m (by omega)
    exact ⟨by simp;omega,by simpa using h2⟩
  ·omega
theorem Rx (v:Int) (l:List CellB):∀ (h:Jz v l < l.length),(l[Jz v l]).int≠v:=by
 induction l with
 | nil=>intro h;simp [Jz] at h
 | cons c l ih =>
  intro h
  by_cases hc:c.int=v
  ·have e:Jz v (c :: l)=Jz v l+1:=by simp [Jz,hc]
   have h':Jz v l < l.length:=by rw [e] at h;simpa using h
   have:=ih h'
   simp only [e,List.getElem_cons_succ]
   exact this
  ·have e:Jz v (c :: l)=0:=by simp [Jz,hc]
   simp only [e,List.getElem_cons_zero]
   exact hc
def jT:List UInt8→List UInt8→Nat
 | a :: s,b :: t=>if a=b then jT s t+1 else 0
 | _,_=>0
theorem JB (s t:List UInt8):jT s t≤s.length∧jT s t≤t.length:=by
 induction s generalizing t with
 | nil=>simp [jT]
 | cons a s ih =>
  cases t with
  | nil=>simp [jT]
  | cons b t =>
   have:=ih t
   simp only [jT,List.length_cons]
   split<;>omega
theorem Ya (s t:List UInt8):∀ m,m < jT s t→∀ (h1:m < s.length) (h2:m < t.length),s[m]=t[m]:=by
 induction s generalizing t with
 | nil=>intro m h;simp [jT] at h
 | cons a s ih =>
  cases t with
  | nil=>intro m h;simp [jT] at h
  | cons b t =>
   intro m h h1 h2
   simp only [jT] at h
   split at h
   ·cases m with
    | zero=>simpa using ‹a=b›
    | succ m=>simpa using ih t m (by omega) (by simpa using h1) (by simpa using h2)
   ·omega
theorem Dy (s t:List UInt8):∀ (h1:jT s t < s.length) (h2:jT s t < t.length),s[jT s t]≠t[jT s t]:=by
 induction s generalizing t with
 | nil=>intro h;simp [jT] at h
 | cons a s ih =>
  cases t with
  | nil=>intro h1 h2;simp [jT] at h2
  | cons b t =>
   intro h1 h2
   by_cases hab:a=b
   ·have e:jT (a :: s) (b :: t)=jT s t+1:=by simp [jT,hab]
    have h1':jT s t < s.length:=by rw [e] at h1;simpa using h1
    have h2':jT s t < t.length:=by rw [e] at h2;simpa using h2
    have:=ih t h1' h2'
    simp only [e,List.getElem_cons_succ]
    exact this
   ·have e:jT (a :: s) (b :: t)=0:=by simp [jT,hab]
    simp only [e,List.getElem_cons_zero]
    exact hab
def qQ (l:List CellB) (i:Nat):CellB:=if i=0 then xA else zv l (i - 1)
def xM (n:Nat) (l:List CellB) (i:Nat):List UInt8 :=
 match n with
 | 0=>bB (zv l i).int
 | 1=>zB (RowKit.wrap64 ((zv l i).int - (qQ l i).int))
 | 2=>if i=0∨(zv l i).int≠(qQ l i).int then uB (Jz (zv l i).int (l.drop (i+1))+1)++zB (zv l i).int else []
 | 3=>uB (qk (qW l) (zv l i).text)
 | 4=>uB (jT (zv l i).text (qQ l i).text)++xB ((zv l i).text.drop (jT (zv l i).text (qQ l i).text))
 | _=>xB (zv l i).text
def jW (n:Nat) (l:List CellB):Nat→List UInt8
 | 0=>[]
 | k+1=>jW n l k++xM n l k
def QJ (l:List CellB):Nat→List UInt8
 | 0=>uB l.length
 | k+1=>QJ l k++xB (zv l k).text
def qL (n:Nat) (l:List CellB):List UInt8:=(if n=3 then QJ (qW l) (qW l).length else [])++jW n l l.length
def qF (c:CellB):Prop:=-9223372036854775808≤c.int∧c.int≤9223372036854775807∧c.text.length≤12
theorem LR:qF xA:=⟨by decide,by decide,by decide⟩
theorem Gv (l:List CellB) (h:∀ c ∈ l,qF c) (i:Nat):qF (zv l i):=by
 by_cases hi:i < l.length
 ·rw [qN l i hi];exact h _ (List.getElem_mem hi)
 ·have:zv l i=xA:=by simp [zv,List.getD,show l.length≤i by omega]
  rw [this];exact LR
theorem Vn (l:List CellB) (h:∀ c ∈ l,qF c) (i:Nat):qF (qQ l i):=by
 unfold qQ;split
 ·exact LR
 ·exact Gv l h _
theorem Gi (n:Int) (h0:-9223372036854775808≤n) (h1:n≤9223372036854775807):(zB n).length≤10:=qa _ (Tn n h0 h1)
theorem It (s:List UInt8) (h:s.length≤12):(xB s).length≤22:=by
 have:=qa s.length (by omega)
 simp only [xB,List.length_append];omega
theorem JU (n:Int):-9223372036854775808≤RowKit.wrap64 n∧RowKit.wrap64 n≤9223372036854775807:=by
 unfold RowKit.wrap64;omega
theorem Sg (n:Nat) (l:List CellB) (h:∀ c ∈ l,qF c) (hn:l.length≤60) (i:Nat):(xM n l i).length≤40:=by
 obtain ⟨a1,a2,a3⟩:=Gv l h i
 obtain ⟨b1,b2,b3⟩:=Vn l h i
 have hd:=JC l l.length
 unfold xM
 split
 ·rw [Kl];omega
 ·have:=JU ((zv l i).int - (qQ l i).int)
  have:=Gi _ this.1 this.2
  omega
 ·split
  ·have h1:=NG (zv l i).int (l.drop (i+1))
   rw [List.length_drop] at h1
   have h2:=qa (Jz (zv l i).int (l.drop (i+1))+1) (by omega)
   have h3:=Gi _ a1 a2
   rw [List.length_append];omega
  ·simp
 ·have h1:qk (qW l) (zv l i).text≤(qW l).length:=Vm _ _
  have h4:(qW l).length≤l.length:=hd
  have h2:=qa (qk (qW l) (zv l i).text) (by omega)
  omega
 ·have h1:=JB (zv l i).text (qQ l i).text
  have h2:=qa (jT (zv l i).text (qQ l i).text) (by omega)
  have h3:=It ((zv l i).text.drop (jT (zv l i).text (qQ l i).text)) (by rw [List.length_drop];omega)
  rw [List.length_append];omega
 ·have:=It _ a3;omega
theorem zD (n:Nat) (l:List CellB) (h:∀ c ∈ l,qF c) (hn:l.length≤60) (k:Nat):(jW n l k).length≤40*k:=by
 induction k with
 | zero=>simp [jW]
 | succ k ih =>
  have:=Sg n l h hn k
  simp only [jW,List.length_append];omega
theorem Ao (l:List CellB) (h:∀ c ∈ l,qF c) (hn:l.length≤60) (k:Nat):(QJ l k).length≤10+22*k:=by
 induction k with
 | zero=>have:=qa l.length (by omega);simp only [QJ];omega
 | succ k ih =>
  have:=It (zv l k).text (Gv l h k).2.2
  simp only [QJ,List.length_append];omega
end
section
def ZW (kind:Int) (k:Nat):Nat:=if kind=0 then k else if k=0 then 5 else k+2
def Xz (n:Nat) (v:List CellB):List UInt8:=byB ((n:Int) % 5) :: qL n v
def jQ (kind:Int) (v:List CellB):Nat→List UInt8
 | 0=>[]
 | k+1=>if k=0∨(Xz (ZW kind k) v).length < (jQ kind v k).length then Xz (ZW kind k) v else jQ kind v k
def xN (kind:Int) (l:List CellB):List UInt8:=if jm l=[] then zZ l else zZ l++jQ kind (jm l) 3
theorem VA (n:Nat) (v:List CellB) (h:∀ c ∈ v,qF c) (hn:v.length≤60):(qL n v).length≤5000:=by
 have h1:=zD n v h hn v.length
 have hd:∀ c ∈ qW v,qF c:=fun c hc=>h c (Zq v v.length (Nat.le_refl _) c hc)
 have hl:(qW v).length≤60:=Nat.le_trans (JC v v.length) hn
 have h2:=Ao (qW v) hd hl (qW v).length
 unfold qL
 rw [List.length_append]
 split<;>simp<;>omega
theorem KD (kind:Int) (v:List CellB) (h:∀ c ∈ v,qF c) (hn:v.length≤60) (k:Nat):(jQ kind v k).length≤5001:=by
 induction k with
 | zero=>simp [jQ]
 | succ k ih =>
  have:=VA (ZW kind k) v h hn
  simp only [jQ]
  split
  ·simp only [Xz,List.length_cons];omega
  ·exact ih
end
end Go.Proofs.YthhpbhpfagoapabGreat
