import Derived.WalkKit
import Derived.RowKit
import Derived.Laws.AppendOwn
import Derived.Maps.AppendAt
namespace Go.Proofs.YthhpbhpfagoapabGreat
set_option linter.unusedVariables false
set_option linter.unusedSimpArgs false
set_option maxRecDepth 100000
set_option maxHeartbeats 16000000
section
def byB (a:Int):UInt8:=UInt8.ofNat a.toNat
theorem xV (a:Int) (h0:0≤a) (h1:a≤255):((byB a).toNat:Int)=a:=by
 unfold byB
 simp only [UInt8.toNat_ofNat']
 omega
theorem AS (b:UInt8):byB (b.toNat:Int)=b:=by
 unfold byB
 simp
def uB (n:Nat):List UInt8:=if _h:n > 127 then byB ((n:Int) % 128+128) :: uB (n / 128) else [byB (n:Int)]
theorem zr {n:Nat} (h:n≤127):uB n=[byB (n:Int)]:=by
 rw [uB,dif_neg (by omega)]
theorem ZR {n:Nat} (h:127 < n):uB n=byB ((n:Int) % 128+128) :: uB (n / 128):=by
 rw [uB,dif_pos h]
theorem Br:∀ (k n:Nat),n < 128 ^ (k+1)→(uB n).length≤k+1:=by
 intro k
 induction k with
 | zero=>intro n h;rw [zr (by omega)];simp
 | succ k ih =>
  intro n h
  by_cases hn:n≤127
  ·rw [zr hn];simp
  ·rw [ZR (by omega)]
   have:n / 128 < 128 ^ (k+1):=by
    rw [Nat.div_lt_iff_lt_mul (by decide)]
    rw [Nat.pow_succ] at h
    exact h
   have:=ih _ this
   simp;omega
theorem jY (n:Nat) (h:n < 18446744073709551616):(uB n).length≤10:=Br 9 n (by omega)
theorem Bf (n:Nat):1≤(uB n).length:=by
 by_cases h:n≤127
 ·rw [zr h];simp
 ·rw [ZR (by omega)];simp
def zN (n:Int):Nat:=if 0≤n then 2*n.toNat else 2*(-(n+1)).toNat+1
def zB (n:Int):List UInt8:=uB (zN n)
theorem Cs (n:Int) (h0:-9223372036854775808≤n) (h1:n≤9223372036854775807):zN n < 18446744073709551616:=by
 unfold zN;split<;>omega
def GS (v:Nat):Nat→Nat
 | 0=>v
 | k+1=>GS v k / 256
def UR (v:Nat):Nat→List UInt8
 | 0=>[]
 | k+1=>UR v k++[byB ((GS v k:Int) % 256)]
theorem Zs (v k:Nat):(UR v k).length=k:=by
 induction k with
 | zero=>rfl
 | succ k ih=>simp [UR,ih]
def bB (n:Int):List UInt8:=UR (n % 18446744073709551616).toNat 8
theorem Kc (n:Int):(bB n).length=8:=Zs _ _
def xB (s:List UInt8):List UInt8:=uB s.length++s
end
section
structure CellB where
 null:Bool
 int:Int
 text:List UInt8
def xg (kind:Int) (c:CellB):Bool :=
 if c.null=true then c.int == 0 && c.text.isEmpty else if kind=0 then c.text.isEmpty else c.int == 0 && decide (c.text.length≤12)
def qA (kind:Int) (l:List CellB):Bool:=(decide (kind=0) || decide (kind=1)) && decide (l.length≤60) && l.all (xg kind)
def XA:Bool→Nat→List CellB→List UInt8
 | _,n,[]=>uB n
 | b,n,c :: l=>if c.null=b then XA b (n+1) l else uB n++XA (!b) 1 l
def Jh (b:Bool):List CellB→Nat
 | []=>0
 | c :: l=>if c.null=b then Jh b l+1 else 0
theorem Nl (b:Bool) (l:List CellB):Jh b l≤l.length:=by
 induction l with
 | nil=>exact Nat.le_refl _
 | cons c l ih=>simp only [Jh,List.length_cons];split<;>omega
theorem Ek (b:Bool) (l:List CellB):∀ m,m < Jh b l→∃ h:m < l.length,(l[m]).null=b:=by
 induction l with
 | nil=>intro m h;simp [Jh] at h
 | cons c l ih =>
  intro m h
  simp only [Jh] at h
  split at h
  ·cases m with
   | zero=>exact ⟨by simp,by assumption⟩
   | succ m =>
    obtain ⟨h1,h2⟩:=ih m (by omega)
    exact ⟨by simp;omega,by simpa using h2⟩
  ·omega
theorem Au (b:Bool) (l:List CellB):∀ (h:Jh b l < l.length),(l[Jh b l]).null=!b:=by
 induction l with
 | nil=>intro h;simp [Jh] at h
 | cons c l ih =>
  intro h
  by_cases hc:c.null=b
  ·have e:Jh b (c :: l)=Jh b l+1:=by simp [Jh,hc]
   have h':Jh b l < l.length:=by rw [e] at h;simpa using h
   have:=ih h'
   simp only [e,List.getElem_cons_succ]
   exact this
  ·have e:Jh b (c :: l)=0:=by simp [Jh,hc]
   simp only [e,List.getElem_cons_zero]
   cases hn:c.null<;>cases b<;>simp_all
def qX (b:Bool) (l:List CellB):List UInt8:=if l=[] then [] else XA b 0 l
theorem TY (b:Bool) (l:List CellB):∀ n,XA b n l=uB (n+Jh b l)++qX (!b) (l.drop (Jh b l)):=by
 induction l with
 | nil=>intro n;simp [XA,Jh,qX]
 | cons c l ih =>
  intro n
  by_cases h:c.null=b
  ·simp only [XA,Jh,if_pos h,List.drop_succ_cons]
   rw [ih (n+1)]
   congr 2
   omega
  ·simp only [XA,Jh,if_neg h,Nat.add_zero,List.drop_zero,qX]
   have hb:c.null=!b:=by cases hc:c.null<;>cases b<;>simp_all
   simp [hb]
def Jb (l:List CellB):List UInt8:=uB l.length++qX false l
theorem ZV (b:Bool) (l:List CellB) (h:l≠[]):qX b l=uB (Jh b l)++qX (!b) (l.drop (Jh b l)):=by
 rw [qX,if_neg h,TY b l 0,Nat.zero_add]
theorem Uz (l:List CellB) (h:l.length≤60):(Jb l).length≤1000:=by
 have hr:∀ (l:List CellB) (b:Bool) (n:Nat),n+l.length≤60→(XA b n l).length≤10*(l.length+1):=by
  intro l
  induction l with
  | nil=>intro b n hn;have:=jY n (by simp at hn;omega);simp only [XA,List.length_nil];omega
  | cons c l ih =>
   intro b n hn
   simp only [List.length_cons] at hn ⊢
   simp only [XA]
   split
   ·have:=ih b (n+1) (by omega);omega
   ·have h1:=jY n (by omega)
    have h2:=ih (!b) 1 (by omega)
    rw [List.length_append];omega
 unfold Jb qX
 have h1:=jY l.length (by omega)
 rw [List.length_append]
 split
 ·simp;omega
 ·have:=hr l false 0 (by omega);omega
def jm (l:List CellB):List CellB:=l.filter fun c=>!c.null
end
section
open Go.RowKit
def KQ (n:Int):Option (List UInt8)→List UInt8 × Option (List UInt8)
 | none=>([],none)
 | some r=>if n < 0∨(r.length:Int) < n then ([],none) else (r.take n.toNat,some (r.drop n.toNat))
theorem Gl {n:Int} {r:List UInt8} (h0:0≤n) (h1:n≤(r.length:Int)):KQ n (some r)=(r.take n.toNat,some (r.drop n.toNat)):=by
 show (if n < 0∨(r.length:Int) < n then ([],none) else (r.take n.toNat,some (r.drop n.toNat)))=_
 rw [if_neg (by omega)]
def uP:Nat→Nat→Nat→Option (List UInt8)→Nat × Option (List UInt8)
 | 0,_,_,_=>(0,none)
 | k+1,n,sc,st =>
  match KQ 1 st with
  | (c :: _,some r)=>if c.toNat < 128 then ((n+sc*(c.toNat % 128)) % 18446744073709551616,some r) else uP k ((n+sc*(c.toNat % 128)) % 18446744073709551616) (sc*128 % 18446744073709551616) (some r)
  | _=>(0,none)
def uR (st:Option (List UInt8)):Nat × Option (List UInt8):=uP 10 0 1 st
theorem BV:∀ (k n sc:Nat) (st:Option (List UInt8)),(uP k n sc st).1 < 18446744073709551616:=by
 intro k
 induction k with
 | zero=>intro n sc st;exact Nat.zero_lt_succ _
 | succ k ih =>
  intro n sc st
  simp only [uP]
  split
  ·split
   ·exact Nat.mod_lt _ (by decide)
   ·exact ih _ _ _
  ·exact Nat.zero_lt_succ _
theorem BS (st:Option (List UInt8)):(uR st).1 < 18446744073709551616:=BV _ _ _ _
def zj (max:Nat) (st:Option (List UInt8)):Nat × Option (List UInt8):=if max < (uR st).1 then (0,none) else uR st
def xR (max:Nat) (st:Option (List UInt8)):List UInt8 × Option (List UInt8):=KQ ((zj max st).1:Int) (zj max st).2
def zOf (n:Nat):Int:=if n % 2=0 then (n / 2:Nat) else -((n / 2:Nat):Int) - 1
def MC:List UInt8→Nat
 | []=>0
 | c :: l=>(256*MC l+c.toNat) % 18446744073709551616
def bR (st:Option (List UInt8)):Int × Option (List UInt8):=(wrap64 (MC (KQ 8 st).1:Int),(KQ 8 st).2)
end
section
def qj:List CellB→List UInt8→Nat
 | [],_=>0
 | c :: l,t=>if c.text=t then 0 else qj l t+1
theorem YO (l:List CellB) (t:List UInt8):∀ m,m < qj l t→∀ h:m < l.length,(l[m]).text≠t:=by
 induction l with
 | nil=>intro m h;simp [qj] at h
 | cons c l ih =>
  intro m h hl
  simp only [qj] at h
  split at h
  ·omega
  ·cases m with
   | zero=>simpa using ‹¬ c.text=t›
   | succ m=>simpa using ih m (by omega) (by simpa using hl)
theorem XJ (l:List CellB) (t:List UInt8) (h:∃ c ∈ l,c.text=t):∃ hl:qj l t < l.length,(l[qj l t]).text=t:=by
 induction l with
 | nil=>obtain ⟨c,hc,_⟩:=h;cases hc
 | cons c l ih =>
  by_cases hc:c.text=t
  ·have e:qj (c :: l) t=0:=by simp [qj,hc]
   exact ⟨by rw [e];simp,by simp only [e,List.getElem_cons_zero];exact hc⟩
  ·have e:qj (c :: l) t=qj l t+1:=by simp [qj,hc]
   obtain ⟨h1,h2⟩:=ih (by
    obtain ⟨d,hd,ht⟩:=h
    rcases List.mem_cons.1 hd with rfl|hd
    ·exact absurd ht hc
    ·exact ⟨d,hd,ht⟩)
   exact ⟨by rw [e];simp;omega,by simp only [e,List.getElem_cons_succ];exact h2⟩
theorem Yw (l:List CellB) (k:Nat) (h:k < l.length):qj l (l[k]).text≤k:=by
 rcases Nat.lt_or_ge k (qj l (l[k]).text) with h1|h1
 ·exact absurd rfl (YO l _ k h1 h)
 ·exact h1
theorem UP (l:List CellB) (t:List UInt8):qj l t≤l.length:=by
 induction l with
 | nil=>exact Nat.le_refl _
 | cons c l ih=>simp only [qj,List.length_cons];split<;>omega
def xx:CellB:=⟨false,0,[]⟩
def zp (l:List CellB) (i:Nat):CellB:=l.getD i xx
theorem qK (l:List CellB) (i:Nat) (h:i < l.length):zp l i=l[i]:=by simp [zp,List.getD,h]
def qp (l:List CellB):Nat→List CellB
 | 0=>[]
 | k+1=>qp l k++(if qj l (zp l k).text=k then [zp l k] else [])
def qU (l:List CellB):List CellB:=qp l l.length
theorem JE (l:List CellB) (k:Nat):(qp l k).length≤k:=by
 induction k with
 | zero=>exact Nat.le_refl _
 | succ k ih=>simp only [qp,List.length_append];split<;>simp<;>omega
theorem XV (l:List CellB) (k:Nat) (hk:k≤l.length):∀ c ∈ qp l k,c ∈ l:=by
 induction k with
 | zero=>intro c hc;simp [qp] at hc
 | succ k ih =>
  intro c hc
  simp only [qp,List.mem_append] at hc
  rcases hc with hc|hc
  ·exact ih (by omega) c hc
  ·split at hc
   ·simp at hc;subst hc;rw [qK l k (by omega)];exact List.getElem_mem _
   ·simp at hc
theorem RN (l:List CellB) (i:Nat) (hi:i < l.length) (hf:qj l (l[i]).text=i):∀ k,i < k→k≤l.length→l[i] ∈ qp l k:=by
 intro k
 induction k with
 | zero=>intro h;omega
 | succ k ih =>
  intro h hk
  simp only [qp,List.mem_append]
  by_cases hik:i=k
  ·subst hik
   right
   rw [qK l i hi,if_pos hf]
   simp
  ·left;exact ih (by omega) (by omega)
theorem Uy (l:List CellB) (i:Nat) (hi:i < l.length):∃ c ∈ qU l,c.text=(l[i]).text:=by
 obtain ⟨h1,h2⟩:=XJ l (l[i]).text ⟨l[i],List.getElem_mem hi,rfl⟩
 have hf:qj l (l[qj l (l[i]).text]).text=qj l (l[i]).text:=by rw [h2]
 exact ⟨_,RN l _ h1 hf _ h1 (Nat.le_refl _),h2⟩
def Jv (v:Int):List CellB→Nat
 | []=>0
 | c :: l=>if c.int=v then Jv v l+1 else 0
theorem Nm (v:Int) (l:List CellB):Jv v l≤l.length:=by
 induction l with
 | nil=>exact Nat.le_refl _
 | cons c l ih=>simp only [Jv,List.length_cons];split<;>omega
theorem Eu (v:Int) (l:List CellB):∀ m,m < Jv v l→∃ h:m < l.length,(l[m]).int=v:=by
 induction l with
 | nil=>intro m h;simp [Jv] at h
 | cons c l ih =>
  intro m h
  simp only [Jv] at h
  split at h
  ·cases m with
   | zero=>exact ⟨by simp,by assumption⟩
   | succ m =>
    obtain ⟨h1,h2⟩:=ih m (by omega)
    exact ⟨by simp;omega,by simpa using h2⟩
  ·omega
theorem Rr (v:Int) (l:List CellB):∀ (h:Jv v l < l.length),(l[Jv v l]).int≠v:=by
 induction l with
 | nil=>intro h;simp [Jv] at h
 | cons c l ih =>
  intro h
  by_cases hc:c.int=v
  ·have e:Jv v (c :: l)=Jv v l+1:=by simp [Jv,hc]
   have h':Jv v l < l.length:=by rw [e] at h;simpa using h
   have:=ih h'
   simp only [e,List.getElem_cons_succ]
   exact this
  ·have e:Jv v (c :: l)=0:=by simp [Jv,hc]
   simp only [e,List.getElem_cons_zero]
   exact hc
def jT:List UInt8→List UInt8→Nat
 | a :: s,b :: t=>if a=b then jT s t+1 else 0
 | _,_=>0
theorem Jx (s t:List UInt8):jT s t≤s.length∧jT s t≤t.length:=by
 induction s generalizing t with
 | nil=>simp [jT]
 | cons a s ih =>
  cases t with
  | nil=>simp [jT]
  | cons b t =>
   have:=ih t
   simp only [jT,List.length_cons]
   split<;>omega
theorem Rm (s t:List UInt8):∀ m,m < jT s t→∀ (h1:m < s.length) (h2:m < t.length),s[m]=t[m]:=by
 induction s generalizing t with
 | nil=>intro m h;simp [jT] at h
 | cons a s ih =>
  cases t with
  | nil=>intro m h;simp [jT] at h
  | cons b t =>
   intro m h h1 h2
   simp only [jT] at h
   split at h
   ·cases m with
    | zero=>simpa using ‹a=b›
    | succ m=>simpa using ih t m (by omega) (by simpa using h1) (by simpa using h2)
   ·omega
theorem AA (s t:List UInt8):∀ (h1:jT s t < s.length) (h2:jT s t < t.length),s[jT s t]≠t[jT s t]:=by
 induction s generalizing t with
 | nil=>intro h;simp [jT] at h
 | cons a s ih =>
  cases t with
  | nil=>intro h1 h2;simp [jT] at h2
  | cons b t =>
   intro h1 h2
   by_cases hab:a=b
   ·have e:jT (a :: s) (b :: t)=jT s t+1:=by simp [jT,hab]
    have h1':jT s t < s.length:=by rw [e] at h1;simpa using h1
    have h2':jT s t < t.length:=by rw [e] at h2;simpa using h2
    have:=ih t h1' h2'
    simp only [e,List.getElem_cons_succ]
    exact this
   ·have e:jT (a :: s) (b :: t)=0:=by simp [jT,hab]
    simp only [e,List.getElem_cons_zero]
    exact hab
def qN (l:List CellB) (i:Nat):CellB:=if i=0 then xx else zp l (i - 1)
def xL (n:Nat) (l:List CellB) (i:Nat):List UInt8 :=
 match n with
 | 0=>bB (zp l i).int
 | 1=>zB (RowKit.wrap64 ((zp l i).int - (qN l i).int))
 | 2=>if i=0∨(zp l i).int≠(qN l i).int then uB (Jv (zp l i).int (l.drop (i+1))+1)++zB (zp l i).int else []
 | 3=>uB (qj (qU l) (zp l i).text)
 | 4=>uB (jT (zp l i).text (qN l i).text)++xB ((zp l i).text.drop (jT (zp l i).text (qN l i).text))
 | _=>xB (zp l i).text
def jW (n:Nat) (l:List CellB):Nat→List UInt8
 | 0=>[]
 | k+1=>jW n l k++xL n l k
def Qt (l:List CellB):Nat→List UInt8
 | 0=>uB l.length
 | k+1=>Qt l k++xB (zp l k).text
def qJ (n:Nat) (l:List CellB):List UInt8:=(if n=3 then Qt (qU l) (qU l).length else [])++jW n l l.length
def qG (c:CellB):Prop:=-9223372036854775808≤c.int∧c.int≤9223372036854775807∧c.text.length≤12
theorem Sp:qG xx:=⟨by decide,by decide,by decide⟩
theorem VY (l:List CellB) (h:∀ c ∈ l,qG c) (i:Nat):qG (zp l i):=by
 by_cases hi:i < l.length
 ·rw [qK l i hi];exact h _ (List.getElem_mem hi)
 ·have:zp l i=xx:=by simp [zp,List.getD,show l.length≤i by omega]
  rw [this];exact Sp
theorem US (l:List CellB) (h:∀ c ∈ l,qG c) (i:Nat):qG (qN l i):=by
 unfold qN;split
 ·exact Sp
 ·exact VY l h _
theorem VL (n:Int) (h0:-9223372036854775808≤n) (h1:n≤9223372036854775807):(zB n).length≤10:=jY _ (Cs n h0 h1)
theorem Ip (s:List UInt8) (h:s.length≤12):(xB s).length≤22:=by
 have:=jY s.length (by omega)
 simp only [xB,List.length_append];omega
theorem JK (n:Int):-9223372036854775808≤RowKit.wrap64 n∧RowKit.wrap64 n≤9223372036854775807:=by
 unfold RowKit.wrap64;omega
theorem Pz (n:Nat) (l:List CellB) (h:∀ c ∈ l,qG c) (hn:l.length≤60) (i:Nat):(xL n l i).length≤40:=by
 obtain ⟨a1,a2,a3⟩:=VY l h i
 obtain ⟨b1,b2,b3⟩:=US l h i
 have hd:=JE l l.length
 unfold xL
 split
 ·rw [Kc];omega
 ·have:=JK ((zp l i).int - (qN l i).int)
  have:=VL _ this.1 this.2
  omega
 ·split
  ·have h1:=Nm (zp l i).int (l.drop (i+1))
   rw [List.length_drop] at h1
   have h2:=jY (Jv (zp l i).int (l.drop (i+1))+1) (by omega)
   have h3:=VL _ a1 a2
   rw [List.length_append];omega
  ·simp
 ·have h1:qj (qU l) (zp l i).text≤(qU l).length:=UP _ _
  have h4:(qU l).length≤l.length:=hd
  have h2:=jY (qj (qU l) (zp l i).text) (by omega)
  omega
 ·have h1:=Jx (zp l i).text (qN l i).text
  have h2:=jY (jT (zp l i).text (qN l i).text) (by omega)
  have h3:=Ip ((zp l i).text.drop (jT (zp l i).text (qN l i).text)) (by rw [List.length_drop];omega)
  rw [List.length_append];omega
 ·have:=Ip _ a3;omega
theorem zC (n:Nat) (l:List CellB) (h:∀ c ∈ l,qG c) (hn:l.length≤60) (k:Nat):(jW n l k).length≤40*k:=by
 induction k with
 | zero=>simp [jW]
 | succ k ih =>
  have:=Pz n l h hn k
  simp only [jW,List.length_append];omega
theorem AV (l:List CellB) (h:∀ c ∈ l,qG c) (hn:l.length≤60) (k:Nat):(Qt l k).length≤10+22*k:=by
 induction k with
 | zero=>have:=jY l.length (by omega);simp only [Qt];omega
 | succ k ih =>
  have:=Ip (zp l k).text (VY l h k).2.2
  simp only [Qt,List.length_append];omega
end
section
open Go
theorem UT {P:Program} (w:World) (t ty e:TypeId) (i:TypeInfo) (ht:P.underlying t=some (.slice e)) (hi:P.info? e=some i) (b:Option Addr) (n cap:Nat) (h:n≤cap) (a:Option Addr) (c:Nat) :
  (Builtin.append_ #[t,t] ty #[.slice b n cap,.slice a 0 c]).run P w=.ok (.slice b n cap) w:=by
 cases b<;>cases a<;>simp [Builtin.append_,run_underlying ht,sizeOf,typeInfo,hi,Builtin.lenOf,Builtin.firstCells,loadCells,loadCellsFrom,storeCells,h]
theorem VH {P:Program} {w:World} {o:Oper} {a:Act} {K:Act→World→Prop} {Q:Exit→Act→World→Prop} (s x:Operand) (t:TypeId)
  (ho:o.op=.call { callee:=.builtin .append,args:=#[s,x],argTypes:=#[t,t] })
  (e:TypeId) (i:TypeInfo) (ht:P.underlying t=some (.slice e)) (hi:P.info? e=some i) (b:Option Addr) (n cap:Nat) (hs:a.eval s=.slice b n cap) (hc:n≤cap) (b2:Option Addr) (c:Nat) (hx:a.eval x=.slice b2 0 c)
  (h:K (a.put o.dst (.slice b n cap)) w):o.wp P a w K Q:=by
 have hr:=UT (P:=P) w t o.type e i ht hi b n cap hc b2 c
 unfold Oper.wp execOp
 simp only [ho,resolve,invoke,builtin,Sem.run_bind,Sem.run_pure,Result.andThen_ok,List.map_toArray,List.map_cons,List.map_nil,hs,hx,hr]
 exact h
theorem KO {P:Program} {w:World} {ops:Array Oper} {rest:List Oper} {o:Oper} {a:Act} {Q:Exit→Act→World→Prop} (hgd:o.guard=none) (s x:Operand) (t:TypeId)
  (ho:o.op=.call { callee:=.builtin .append,args:=#[s,x],argTypes:=#[t,t] })
  (e:TypeId) (i:TypeInfo) (ht:P.underlying t=some (.slice e)) (hi:P.info? e=some i) (b:Option Addr) (n cap:Nat) (hs:a.eval s=.slice b n cap) (hc:n≤cap) (b2:Option Addr) (c:Nat) (hx:a.eval x=.slice b2 0 c)
  (h:wpList P ops Q rest (a.put o.dst (.slice b n cap)) w):wpList P ops Q (o :: rest) a w :=
 wpList_plain hgd fun _ hK=>VH s x t ho e i ht hi b n cap hs hc b2 c hx (hK _ _ h)
theorem Lr {w:World} {b e s n m:Nat} {a:Option Addr} {c:Nat} {xs:List Value} (h:w.ownsRow b e s (.slice a m c) n xs):n≤c∧m=n:=by
 rcases h.2 with ⟨h1,h2⟩|⟨g,cap,cur,h1,_,_,h3,_⟩
 ·injection h1 with _ h4 h5
  omega
 ·injection h1 with _ h4 h5
  omega
end
end Go.Proofs.YthhpbhpfagoapabGreat
