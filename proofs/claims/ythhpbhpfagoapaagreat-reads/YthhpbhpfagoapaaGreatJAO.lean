import Derived.Test.YthhpbhpfagoapaaGreatJAA
import Derived.Test.YthhpbhpfagoapaaGreatJAM
import Derived.RowKit
namespace Go.Proofs.YthhpbhpfagoapaaGreat
set_option linter.unusedVariables false
set_option linter.unusedSimpArgs false
set_option maxRecDepth 100000
set_option maxHeartbeats 16000000
section
open Go.RowKit
def qk (n:Int):Option (List UInt8)→List UInt8 × Option (List UInt8)
 | none=>([],none)
 | some r=>if n < 0∨(r.length:Int) < n then ([],none) else (r.take n.toNat,some (r.drop n.toNat))
theorem Qz {n:Int} {r:List UInt8} (h:n < 0∨(r.length:Int) < n):qk n (some r)=([],none):=by
 show (if n < 0∨(r.length:Int) < n then ([],none) else (r.take n.toNat,some (r.drop n.toNat)))=_
 rw [aw h]
theorem Ja {n:Int} {r:List UInt8} (h0:0≤n) (h1:n≤(r.length:Int)):qk n (some r)=(r.take n.toNat,some (r.drop n.toNat)):=by
 show (if n < 0∨(r.length:Int) < n then ([],none) else (r.take n.toNat,some (r.drop n.toNat)))=_
 rw [aj (by omega)]
def uP:Nat→Nat→Nat→Option (List UInt8)→Nat × Option (List UInt8)
 | 0,_,_,_=>(0,none)
 | k+1,n,sc,st =>
  match qk 1 st with
  | (c :: _,some r)=>if c.toNat < 128 then ((n+sc*(c.toNat % 128)) % 18446744073709551616,some r) else uP k ((n+sc*(c.toNat % 128)) % 18446744073709551616) (sc*128 % 18446744073709551616) (some r)
  | _=>(0,none)
theorem YC (st:Option (List UInt8)):(qk 1 st=([],none))∨∃ c r,st=some (c :: r)∧qk 1 st=([c],some r):=by
 cases st with
 | none=>exact .inl rfl
 | some r =>
  cases r with
  | nil=>left;exact Qz (.inr (by simp))
  | cons c r=>right;exact ⟨c,r,rfl,by rw [Ja (by omega) (by simp;omega)];rfl⟩
def uR (st:Option (List UInt8)):Nat × Option (List UInt8):=uP 10 0 1 st
theorem BQ:∀ (k n sc:Nat) (st:Option (List UInt8)),(uP k n sc st).1 < 18446744073709551616:=by
 intro k
 induction k with
 | zero=>intro n sc st;exact Nat.zero_lt_succ _
 | succ k ih =>
  intro n sc st
  simp only [uP]
  split
  ·split
   ·exact Nat.mod_lt _ (by decide)
   ·exact ih _ _ _
  ·exact Nat.zero_lt_succ _
theorem MM (st:Option (List UInt8)):(uR st).1 < 18446744073709551616:=BQ _ _ _ _
def jQ (max:Nat) (st:Option (List UInt8)):Nat × Option (List UInt8):=if max < (uR st).1 then (0,none) else uR st
def xR (max:Nat) (st:Option (List UInt8)):List UInt8 × Option (List UInt8):=qk ((jQ max st).1:Int) (jQ max st).2
theorem xO (max:Nat) (st:Option (List UInt8)):(jQ max st).1≤max:=by
 unfold jQ;split
 ·exact ah _
 ·omega
def zOf (n:Nat):Int:=if n % 2=0 then (n / 2:Nat) else -((n / 2:Nat):Int) - 1
def UH:List UInt8→Nat
 | []=>0
 | c :: l=>(256*UH l+c.toNat) % 18446744073709551616
theorem PH (t:List UInt8) (k:Nat) (h:k < t.length):UH (t.drop k)=(256*UH (t.drop (k+1))+(t[k]).toNat) % 18446744073709551616:=by
 rw [aN h]
 rfl
theorem Ls (l:List UInt8):UH l < 18446744073709551616:=by
 cases l with
 | nil=>exact Nat.zero_lt_succ _
 | cons c l=>exact Nat.mod_lt _ (by decide)
def bR (st:Option (List UInt8)):Int × Option (List UInt8):=(wrap64 (UH (qk 8 st).1:Int),(qk 8 st).2)
theorem AX (st:Option (List UInt8)):(qk 8 st).1.length≤8:=by
 cases st with
 | none=>simp [qk]
 | some r =>
  by_cases h:(r.length:Int) < 8
  ·rw [Qz (.inr h)];simp
  ·rw [Ja (by omega) (by omega)]
   simp only [aq]
   omega
end
section
open Go.RowKit
theorem NQ (c:UInt8) (r:List UInt8):qk 1 (some (c :: r))=([c],some r):=by
 rw [Ja (by omega) (by simp;omega)];rfl
theorem QS (s r:List UInt8):qk (s.length:Int) (some (s++r))=(s,some r):=by
 rw [Ja (by omega) (by simp;omega)]
 simp
theorem JV (n:Nat) (h:n≤255):(byB (n:Int)).toNat=n:=by
 have:=xK (n:Int) (by omega) (by omega)
 omega
theorem ED (k acc sc:Nat) (c:UInt8) (r:List UInt8):uP (k+1) acc sc (some (c :: r)) =
  if c.toNat < 128 then ((acc+sc*(c.toNat % 128)) % 18446744073709551616,some r) else uP k ((acc+sc*(c.toNat % 128)) % 18446744073709551616) (sc*128 % 18446744073709551616) (some r):=by
 simp only [uP,NQ]
theorem BM (r:List UInt8):∀ (k n acc sc:Nat),n < 128 ^ (k+1)→acc+sc*n < 18446744073709551616→uP (k+1) acc sc (some (uB n++r))=(acc+sc*n,some r):=by
 intro k
 induction k with
 | zero =>
  intro n acc sc hn hs
  have hn':n≤127:=by omega
  rw [Jb hn']
  show uP (0+1) acc sc (some (byB (n:Int) :: r))=_
  rw [ED,JV n (by omega),aw (by omega),cw (show n < 128 by omega),cw hs]
 | succ k ih =>
  intro n acc sc hn hs
  by_cases hsm:n≤127
  ·rw [Jb hsm]
   show uP (k+1+1) acc sc (some (byB (n:Int) :: r))=_
   rw [ED,JV n (by omega),aw (by omega),cw (show n < 128 by omega),cw hs]
  ·rw [XR (by omega)]
   have hc:(byB ((n:Int) % 128+128)).toNat=n % 128+128:=by
    have:=JV (n % 128+128) (by omega)
    have e:(((n % 128+128:Nat)):Int)=(n:Int) % 128+128:=by omega
    rw [e] at this
    exact this
   show uP (k+1+1) acc sc (some (byB ((n:Int) % 128+128) :: (uB (n / 128)++r)))=_
   rw [ED,hc,aj (by omega)]
   have e1:(n % 128+128) % 128=n % 128:=by omega
   have e2:sc*n=sc*(n % 128)+sc*128*(n / 128):=by
    have h:=Nat.mod_add_div n 128
    have h3:sc*(n % 128+128*(n / 128))=sc*(n % 128)+sc*128*(n / 128):=by rw [Nat.mul_add,Nat.mul_assoc]
    rw [h] at h3
    exact h3
   have h1:1≤n / 128:=by omega
   have h2:sc*128≤sc*128*(n / 128):=Nat.le_mul_of_pos_right _ (by omega)
   rw [e1,cw (show acc+sc*(n % 128) < 18446744073709551616 by omega),cw (show sc*128 < 18446744073709551616 by omega)]
   rw [ih (n / 128) (acc+sc*(n % 128)) (sc*128) (by rw [Nat.div_lt_iff_lt_mul (by decide)];rw [Nat.pow_succ] at hn;exact hn) (by omega)]
   rw [e2,bI]
theorem Mo (n:Nat) (r:List UInt8) (h:n < 18446744073709551616):uR (some (uB n++r))=(n,some r):=by
 unfold uR
 rw [BM r 9 n 0 1 (by omega) (by omega)]
 simp
theorem JA (max n:Nat) (r:List UInt8) (h:n≤max) (hm:max < 18446744073709551616):jQ max (some (uB n++r))=(n,some r):=by
 unfold jQ
 rw [Mo n r (by omega),aj (by omega)]
theorem ME (max:Nat) (s r:List UInt8) (h:s.length≤max) (hm:max < 18446744073709551616):xR max (some (xB s++r))=(s,some r):=by
 unfold xR xB
 rw [af,JA max s.length (s++r) h hm]
 exact QS s r
theorem DI (x:Int):zOf (zN x)=x:=by
 unfold zN
 split
 ·unfold zOf;rw [aw (by omega)];omega
 ·unfold zOf;rw [aj (by omega)];omega
theorem LK (x:Int) (r:List UInt8) (h0:-9223372036854775808≤x) (h1:x≤9223372036854775807):uR (some (zB x++r))=(zN x,some r):=Mo _ r (Ap x h0 h1)
theorem Pw (v:Nat) (h:v < 18446744073709551616):UH (Kv v 8)=v:=by
 have hb:∀ k,(byB ((Kw v k:Int) % 256)).toNat=Kw v k % 256:=by
  intro k
  have:=JV (Kw v k % 256) (by omega)
  have e:((Kw v k % 256:Nat):Int)=(Kw v k:Int) % 256:=by omega
  rw [e] at this
  exact this
 simp only [Kv,aX,aK,UH,hb]
 simp only [Kw]
 omega
theorem LI (x:Int) (r:List UInt8) (h0:-9223372036854775808≤x) (h1:x≤9223372036854775807):bR (some (bB x++r))=(x,some r):=by
 unfold bR
 have hl:=XF x
 have e:qk 8 (some (bB x++r))=(bB x,some r):=by
  have:=QS (bB x) r
  rw [hl] at this
  exact this
 rw [e]
 unfold bB
 rw [Pw _ (by omega)]
 simp only [bV,cG]
 unfold wrap64
 omega
end
section
def jV:List CellB→List UInt8→Nat
 | [],_=>0
 | c :: l,t=>if c.text=t then 0 else jV l t+1
theorem VQ (l:List CellB) (t:List UInt8):∀ m,m < jV l t→∀ h:m < l.length,(l[m]).text≠t:=by
 induction l with
 | nil=>intro m h;simp [jV] at h
 | cons c l ih =>
  intro m h hl
  simp only [jV] at h
  split at h
  ·omega
  ·cases m with
   | zero=>simpa using ‹¬ c.text=t›
   | succ m=>simpa using ih m (by omega) (by simpa using hl)
theorem QT (l:List CellB) (t:List UInt8) (h:∃ c ∈ l,c.text=t):∃ hl:jV l t < l.length,(l[jV l t]).text=t:=by
 induction l with
 | nil=>obtain ⟨c,hc,_⟩:=h;cases hc
 | cons c l ih =>
  by_cases hc:c.text=t
  ·have e:jV (c :: l) t=0:=by simp [jV,hc]
   exact ⟨by rw [e];simp,by simp only [e,aO];exact hc⟩
  ·have e:jV (c :: l) t=jV l t+1:=by simp [jV,hc]
   obtain ⟨h1,h2⟩:=ih (by
    obtain ⟨d,hd,ht⟩:=h
    rcases ba.1 hd with rfl|hd
    ·exact absurd ht hc
    ·exact ⟨d,hd,ht⟩)
   exact ⟨by rw [e];simp;omega,by simp only [e,bZ];exact h2⟩
theorem Gc (l:List CellB) (k:Nat) (h:k < l.length):jV l (l[k]).text≤k:=by
 rcases cR k (jV l (l[k]).text) with h1|h1
 ·exact absurd rfl (VQ l _ k h1 h)
 ·exact h1
theorem ZW (l:List CellB) (t:List UInt8):jV l t≤l.length:=by
 induction l with
 | nil=>exact ae _
 | cons c l ih=>simp only [jV,aH];split<;>omega
def qG:CellB:=⟨false,0,[]⟩
def xX (l:List CellB) (i:Nat):CellB:=l.getD i qG
theorem qg (l:List CellB) (i:Nat) (h:i < l.length):xX l i=l[i]:=by simp [xX,List.getD,h]
def qh (l:List CellB):Nat→List CellB
 | 0=>[]
 | k+1=>qh l k++(if jV l (xX l k).text=k then [xX l k] else [])
def qi (l:List CellB):List CellB:=qh l l.length
theorem zA (l:List CellB) (k:Nat):(qh l k).length≤k:=by
 induction k with
 | zero=>exact ae _
 | succ k ih=>simp only [qh,ab];split<;>simp<;>omega
theorem Ql (l:List CellB) (k:Nat) (hk:k≤l.length):∀ c ∈ qh l k,c ∈ l:=by
 induction k with
 | zero=>intro c hc;simp [qh] at hc
 | succ k ih =>
  intro c hc
  simp only [qh,aM] at hc
  rcases hc with hc|hc
  ·exact ih (by omega) c hc
  ·split at hc
   ·simp at hc;subst hc;rw [qg l k (by omega)];exact al _
   ·simp at hc
theorem RA (l:List CellB) (i:Nat) (hi:i < l.length) (hf:jV l (l[i]).text=i):∀ k,i < k→k≤l.length→l[i] ∈ qh l k:=by
 intro k
 induction k with
 | zero=>intro h;omega
 | succ k ih =>
  intro h hk
  simp only [qh,aM]
  by_cases hik:i=k
  ·subst hik
   right
   rw [qg l i hi,aw hf]
   simp
  ·left;exact ih (by omega) (by omega)
theorem ZO (l:List CellB) (i:Nat) (hi:i < l.length):∃ c ∈ qi l,c.text=(l[i]).text:=by
 obtain ⟨h1,h2⟩:=QT l (l[i]).text ⟨l[i],al hi,rfl⟩
 have hf:jV l (l[jV l (l[i]).text]).text=jV l (l[i]).text:=by rw [h2]
 exact ⟨_,RA l _ h1 hf _ h1 (ae _),h2⟩
def Jm (v:Int):List CellB→Nat
 | []=>0
 | c :: l=>if c.int=v then Jm v l+1 else 0
theorem UZ (v:Int) (l:List CellB):Jm v l≤l.length:=by
 induction l with
 | nil=>exact ae _
 | cons c l ih=>simp only [Jm,aH];split<;>omega
theorem Nf (v:Int) (l:List CellB):∀ m,m < Jm v l→∃ h:m < l.length,(l[m]).int=v:=by
 induction l with
 | nil=>intro m h;simp [Jm] at h
 | cons c l ih =>
  intro m h
  simp only [Jm] at h
  split at h
  ·cases m with
   | zero=>exact ⟨by simp,by assumption⟩
   | succ m =>
    obtain ⟨h1,h2⟩:=ih m (by omega)
    exact ⟨by simp;omega,by simpa using h2⟩
  ·omega
theorem Ve (v:Int) (l:List CellB):∀ (h:Jm v l < l.length),(l[Jm v l]).int≠v:=by
 induction l with
 | nil=>intro h;simp [Jm] at h
 | cons c l ih =>
  intro h
  by_cases hc:c.int=v
  ·have e:Jm v (c :: l)=Jm v l+1:=by simp [Jm,hc]
   have h':Jm v l < l.length:=by rw [e] at h;simpa using h
   have:=ih h'
   simp only [e,bZ]
   exact this
  ·have e:Jm v (c :: l)=0:=by simp [Jm,hc]
   simp only [e,aO]
   exact hc
def jN:List UInt8→List UInt8→Nat
 | a :: s,b :: t=>if a=b then jN s t+1 else 0
 | _,_=>0
theorem Jh (s t:List UInt8):jN s t≤s.length∧jN s t≤t.length:=by
 induction s generalizing t with
 | nil=>simp [jN]
 | cons a s ih =>
  cases t with
  | nil=>simp [jN]
  | cons b t =>
   have:=ih t
   simp only [jN,aH]
   split<;>omega
theorem UN (s t:List UInt8):∀ m,m < jN s t→∀ (h1:m < s.length) (h2:m < t.length),s[m]=t[m]:=by
 induction s generalizing t with
 | nil=>intro m h;simp [jN] at h
 | cons a s ih =>
  cases t with
  | nil=>intro m h;simp [jN] at h
  | cons b t =>
   intro m h h1 h2
   simp only [jN] at h
   split at h
   ·cases m with
    | zero=>simpa using ‹a=b›
    | succ m=>simpa using ih t m (by omega) (by simpa using h1) (by simpa using h2)
   ·omega
theorem Gw (s t:List UInt8):∀ (h1:jN s t < s.length) (h2:jN s t < t.length),s[jN s t]≠t[jN s t]:=by
 induction s generalizing t with
 | nil=>intro h;simp [jN] at h
 | cons a s ih =>
  cases t with
  | nil=>intro h1 h2;simp [jN] at h2
  | cons b t =>
   intro h1 h2
   by_cases hab:a=b
   ·have e:jN (a :: s) (b :: t)=jN s t+1:=by simp [jN,hab]
    have h1':jN s t < s.length:=by rw [e] at h1;simpa using h1
    have h2':jN s t < t.length:=by rw [e] at h2;simpa using h2
    have:=ih t h1' h2'
    simp only [e,bZ]
    exact this
   ·have e:jN (a :: s) (b :: t)=0:=by simp [jN,hab]
    simp only [e,aO]
    exact hab
def jX (l:List CellB) (i:Nat):CellB:=if i=0 then qG else xX l (i - 1)
def qN (n:Nat) (l:List CellB) (i:Nat):List UInt8 :=
 match n with
 | 0=>bB (xX l i).int
 | 1=>zB (RowKit.wrap64 ((xX l i).int - (jX l i).int))
 | 2=>if i=0∨(xX l i).int≠(jX l i).int then uB (Jm (xX l i).int (l.drop (i+1))+1)++zB (xX l i).int else []
 | 3=>uB (jV (qi l) (xX l i).text)
 | 4=>uB (jN (xX l i).text (jX l i).text)++xB ((xX l i).text.drop (jN (xX l i).text (jX l i).text))
 | _=>xB (xX l i).text
def js (n:Nat) (l:List CellB):Nat→List UInt8
 | 0=>[]
 | k+1=>js n l k++qN n l k
def zH (l:List CellB):Nat→List UInt8
 | 0=>uB l.length
 | k+1=>zH l k++xB (xX l k).text
def qy (n:Nat) (l:List CellB):List UInt8:=(if n=3 then zH (qi l) (qi l).length else [])++js n l l.length
def qr (c:CellB):Prop:=-9223372036854775808≤c.int∧c.int≤9223372036854775807∧c.text.length≤12
theorem Pq:qr qG:=⟨by decide,by decide,by decide⟩
theorem VV (l:List CellB) (h:∀ c ∈ l,qr c) (i:Nat):qr (xX l i):=by
 by_cases hi:i < l.length
 ·rw [qg l i hi];exact h _ (al hi)
 ·have:xX l i=qG:=by simp [xX,List.getD,show l.length≤i by omega]
  rw [this];exact Pq
theorem Jl (l:List CellB) (h:∀ c ∈ l,qr c) (i:Nat):qr (jX l i):=by
 unfold jX;split
 ·exact Pq
 ·exact VV l h _
theorem Zt (n:Int) (h0:-9223372036854775808≤n) (h1:n≤9223372036854775807):(zB n).length≤10:=jM _ (Ap n h0 h1)
theorem UI (s:List UInt8) (h:s.length≤12):(xB s).length≤22:=by
 have:=jM s.length (by omega)
 simp only [xB,ab];omega
theorem zr (n:Int):-9223372036854775808≤RowKit.wrap64 n∧RowKit.wrap64 n≤9223372036854775807:=by
 unfold RowKit.wrap64;omega
theorem QX (n:Nat) (l:List CellB) (h:∀ c ∈ l,qr c) (hn:l.length≤60) (i:Nat):(qN n l i).length≤40:=by
 obtain ⟨a1,a2,a3⟩:=VV l h i
 obtain ⟨b1,b2,b3⟩:=Jl l h i
 have hd:=zA l l.length
 unfold qN
 split
 ·rw [XF];omega
 ·have:=zr ((xX l i).int - (jX l i).int)
  have:=Zt _ this.1 this.2
  omega
 ·split
  ·have h1:=UZ (xX l i).int (l.drop (i+1))
   rw [an] at h1
   have h2:=jM (Jm (xX l i).int (l.drop (i+1))+1) (by omega)
   have h3:=Zt _ a1 a2
   rw [ab];omega
  ·simp
 ·have h1:jV (qi l) (xX l i).text≤(qi l).length:=ZW _ _
  have h4:(qi l).length≤l.length:=hd
  have h2:=jM (jV (qi l) (xX l i).text) (by omega)
  omega
 ·have h1:=Jh (xX l i).text (jX l i).text
  have h2:=jM (jN (xX l i).text (jX l i).text) (by omega)
  have h3:=UI ((xX l i).text.drop (jN (xX l i).text (jX l i).text)) (by rw [an];omega)
  rw [ab];omega
 ·have:=UI _ a3;omega
theorem xj (n:Nat) (l:List CellB) (h:∀ c ∈ l,qr c) (hn:l.length≤60) (k:Nat):(js n l k).length≤40*k:=by
 induction k with
 | zero=>simp [js]
 | succ k ih =>
  have:=QX n l h hn k
  simp only [js,ab];omega
theorem KC (l:List CellB) (h:∀ c ∈ l,qr c) (hn:l.length≤60) (k:Nat):(zH l k).length≤10+22*k:=by
 induction k with
 | zero=>have:=jM l.length (by omega);simp only [zH];omega
 | succ k ih =>
  have:=UI (xX l k).text (VV l h k).2.2
  simp only [zH,ab];omega
end
section
def QD (kind:Int) (k:Nat):Nat:=if kind=0 then k else if k=0 then 5 else k+2
def zK (n:Nat) (v:List CellB):List UInt8:=byB ((n:Int) % 5) :: qy n v
def jJ (kind:Int) (v:List CellB):Nat→List UInt8
 | 0=>[]
 | k+1=>if k=0∨(zK (QD kind k) v).length < (jJ kind v k).length then zK (QD kind k) v else jJ kind v k
def xq (kind:Int) (l:List CellB):List UInt8:=if je l=[] then zC l else zC l++jJ kind (je l) 3
theorem Kx (n:Nat) (v:List CellB) (h:∀ c ∈ v,qr c) (hn:v.length≤60):(qy n v).length≤5000:=by
 have h1:=xj n v h hn v.length
 have hd:∀ c ∈ qi v,qr c:=fun c hc=>h c (Ql v v.length (ae _) c hc)
 have hl:(qi v).length≤60:=ar (zA v v.length) hn
 have h2:=KC (qi v) hd hl (qi v).length
 unfold qy
 rw [ab]
 split<;>simp<;>omega
theorem XX (kind:Int) (v:List CellB) (h:∀ c ∈ v,qr c) (hn:v.length≤60) (k:Nat):(jJ kind v k).length≤5001:=by
 induction k with
 | zero=>simp [jJ]
 | succ k ih =>
  have:=Kx (QD kind k) v h hn
  simp only [jJ]
  split
  ·simp only [zK,aH];omega
  ·exact ih
end
end Go.Proofs.YthhpbhpfagoapaaGreat
