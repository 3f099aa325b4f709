import Derived.Test.YthhpbhpfagoapaaGreatJAI
import Derived.Lib.AppendStr
import Derived.Test.YthhpbhpfagoapaaGreatJAK
import Derived.RowKit
namespace Go.Proofs.YthhpbhpfagoapaaGreat
set_option linter.unusedVariables false
set_option linter.unusedSimpArgs false
set_option maxRecDepth 100000
set_option maxHeartbeats 16000000
section
open Go.RowKit
theorem Ux {W:World} {base n:Nat} {v:Value} {l:List UInt8} (h:W.ownsRow base 5 1 v n (qD l)) :
  Sem.run Tryz.prog (convert 149 9 v) W=.ok (strB l) W:=by
 have hn:l.length=n:=by simpa [qD] using h.1
 rcases h.2 with ⟨rfl,rfl⟩|⟨g,cap,cur,rfl,_⟩
 ·have:l=[]:=List.eq_nil_of_length_eq_zero hn
  subst this
  exact run_convert_bytes_nil (P:=Tryz.prog) W 149 5 Tryz.underlying149 Tryz.underlying5 0 0 9 Tryz.underlying9
 ·exact IV h hn
theorem Kk (parts:List ByteArray) (k:Nat) (h:k < parts.length):(xK (parts.take (k+1))).length=(xK (parts.take k)).length+parts[k].size:=by
 rw [Un parts k h,List.length_append]
 simp
theorem Qu (parts:List ByteArray) (k:Nat):(xK (parts.take k)).length≤(xK parts).length:=by
 have:xK parts=xK (parts.take k)++xK (parts.drop k):=by
  unfold xK
  rw [← List.flatMap_append,List.take_append_drop]
 rw [this,List.length_append]
 omega
theorem EW (s:ByteArray):Lib.strCells s=qD s.data.toList:=rfl
theorem Zl (a b:List UInt8):qD (a++b)=qD a++qD b:=by simp [qD]
theorem AO {w wr w2:World} {v v':Value} {n:Nat} {l:List UInt8} {s:ByteArray} (hB:Below w.heap.size w wr) (hown:wr.ownsRow w.heap.size 5 1 v n (qD l))
  (hown2:w2.ownsRow w.heap.size 5 1 v' (n+s.size) (qD l++Lib.strCells s)) (hgr:wr.grownBy w2 v.ownBlock) :
  w2.ownsRow w.heap.size 5 1 v' (n+s.size) (qD (l++s.data.toList))∧Below w.heap.size w w2:=by
 rw [Zl,← EW]
 exact ⟨hown2,hB.grown hgr hB.size (fun k hk=>(hown.lt k hk).1)⟩
theorem TN (parts:List ByteArray) (b cap:Nat) (w:World) (hn:parts.length≤1000) (hs:(xK parts).length≤1000000) (hb:b < w.heap.size)
  (hc:∀ j (h:j < parts.length),w.cell? ⟨b,j,none⟩=some (.string parts[j])) :
  Calls Tryz.prog 194 #[.slice (some ⟨b,0,none⟩) parts.length cap] w fun e w'=>e=.returned (strB (xK parts))∧Below w.heap.size w w':=by
 obtain ⟨i0,hi,hz0,hz1,hz2⟩:=info_parts Tryz.infoU8
 have Hc:=hid hc
 clear hc
 go_enter Tryz.func194,Tryz.ntmps194
 go_wp2
 go_loop [3,11] (fun t i=>∃ k:Nat,k≤parts.length∧i=.int .i64 k∧t=.int .i64 ((xK (parts.take k)).length:Int)) (fun _ i=>parts.length - (intOf i).toNat)
 case atStart=>exact ⟨0,Nat.zero_le _,rfl,rfl⟩
 case round =>
  obtain ⟨k,hk,rfl,rfl⟩:=hrel
  by_cases hlt:k < parts.length
  ·have hck:=Hc.out k hlt
   have hm1:=Qu parts k
   have hm2:=Qu parts (k+1)
   have hm3:=Kk parts k hlt
   have HS:=hid hm3
   have hm4:(parts[k]'hlt).size≤1000000:=by omega
   clear hm2 hm3
   generalize (xK (parts.take k)).length=m0 at *
   generalize (parts[k]'hlt)=part at *
   go_wp2
   go_round
   case rel=>exact ⟨k+1,by omega,by go_num,by rw [HS.out];go_num⟩
   case measure=>simp [intOf];omega
  ·have hke:k=parts.length:=by omega
   subst hke
   rw [List.take_length]
   generalize hL:(xK parts).length=L at *
   have HL:=hid hL
   clear hL
   go_wp2_with (at_make;refine wpList_make_own _ rfl (.const (.int .i64 0)) (.tmp 20) 149 rfl w.heap.size 5 i0 (.int .u8 0) 1 Tryz.underlying149 hi hz0 hz1 .i64 .i64 _ L rfl rfl rfl (by rw [hz2];omega) (by unfold maxLen;omega) (Nat.le_refl _) ?_;intro w3 hown hgr)
   have hB3:Below w.heap.size w w3:=(Below.refl _ _).grown hgr (Nat.le_refl _) (fun _ h=>by cases h)
   clear hgr
   go_loopw [6,24] (fun v i wr=>∃ k:Nat,k≤parts.length∧i=.int .i64 k∧wr.ownsRow w.heap.size 5 1 v (xK (parts.take k)).length (qD (xK (parts.take k)))∧Below w.heap.size w wr)
    (fun _ i _=>parts.length - (intOf i).toNat)
   case atStart=>exact ⟨0,Nat.zero_le _,rfl,hown,hB3⟩
   case round =>
    clear hown hB3
    obtain ⟨k,hk,rfl,hown,hB⟩:=hrel
    by_cases hlt:k < parts.length
    ·have hck:wr.cell? ⟨b,k,none⟩=some (.string (parts[k]'hlt)):=(hB.cell (p:=⟨b,k,none⟩) hb).trans (Hc.out k hlt)
     have hm1:=Qu parts k
     have hm2:=Qu parts (k+1)
     have hm3:=Kk parts k hlt
     have HS:=hid hm3
     have HF:=hid (Un parts k hlt)
     have hLe:=HL.out
     have hm4:(xK (parts.take k)).length+(parts[k]'hlt).size≤1000000:=by omega
     clear hm2 hm3 hLe
     generalize xK (parts.take k)=l0 at *
     generalize (parts[k]'hlt)=part at *
     go_wp2_with (at_builtin;refine Lib.wpList_append_own_string _ rfl (.tmp 28) (.tmp 29) 149 9 rfl w.heap.size 5 i0 Tryz.underlying149 Tryz.underlying9 hi hz0 hz1 hz2 _ _ _ rfl hown part rfl (by unfold maxLen;omega) (by omega) hB.size ?_;intro v2 w2 hown2 hgr2 _)
     have HR:=hid (AO hB hown hown2 hgr2)
     clear hown hown2 hgr2 hB hck
     go_wp2
     go_roundw
     case rel=>exact ⟨k+1,by omega,by go_num,by rw [HS.out,HF.out];exact HR.out.1,HR.out.2⟩
     case measure=>simp [intOf];omega
    ·have hke:k=parts.length:=by omega
     subst hke
     rw [List.take_length] at hown
     have hcv:=Ux hown
     go_wp2
     go_ret
     exact ⟨rfl,hB⟩
end
section
open Go.RowKit
def qd (n:Int):Option (List UInt8)→List UInt8 × Option (List UInt8)
 | none=>([],none)
 | some r=>if n < 0∨(r.length:Int) < n then ([],none) else (r.take n.toNat,some (r.drop n.toNat))
theorem Qk {n:Int} {r:List UInt8} (h:n < 0∨(r.length:Int) < n):qd n (some r)=([],none):=by
 show (if n < 0∨(r.length:Int) < n then ([],none) else (r.take n.toNat,some (r.drop n.toNat)))=_
 rw [if_pos h]
theorem zP {n:Int} {r:List UInt8} (h0:0≤n) (h1:n≤(r.length:Int)):qd n (some r)=(r.take n.toNat,some (r.drop n.toNat)):=by
 show (if n < 0∨(r.length:Int) < n then ([],none) else (r.take n.toNat,some (r.drop n.toNat)))=_
 rw [if_neg (by omega)]
def uP:Nat→Nat→Nat→Option (List UInt8)→Nat × Option (List UInt8)
 | 0,_,_,_=>(0,none)
 | k+1,n,sc,st =>
  match qd 1 st with
  | (c :: _,some r)=>if c.toNat < 128 then ((n+sc*(c.toNat % 128)) % 18446744073709551616,some r) else uP k ((n+sc*(c.toNat % 128)) % 18446744073709551616) (sc*128 % 18446744073709551616) (some r)
  | _=>(0,none)
theorem RI (st:Option (List UInt8)):(qd 1 st=([],none))∨∃ c r,st=some (c :: r)∧qd 1 st=([c],some r):=by
 cases st with
 | none=>exact .inl rfl
 | some r =>
  cases r with
  | nil=>left;exact Qk (.inr (by simp))
  | cons c r=>right;exact ⟨c,r,rfl,by rw [zP (by omega) (by simp;omega)];rfl⟩
def uR (st:Option (List UInt8)):Nat × Option (List UInt8):=uP 10 0 1 st
theorem Ba:∀ (k n sc:Nat) (st:Option (List UInt8)),(uP k n sc st).1 < 18446744073709551616:=by
 intro k
 induction k with
 | zero=>intro n sc st;exact Nat.zero_lt_succ _
 | succ k ih =>
  intro n sc st
  simp only [uP]
  split
  ·split
   ·exact Nat.mod_lt _ (by decide)
   ·exact ih _ _ _
  ·exact Nat.zero_lt_succ _
theorem DV (st:Option (List UInt8)):(uR st).1 < 18446744073709551616:=Ba _ _ _ _
def jJ (max:Nat) (st:Option (List UInt8)):Nat × Option (List UInt8):=if max < (uR st).1 then (0,none) else uR st
def xR (max:Nat) (st:Option (List UInt8)):List UInt8 × Option (List UInt8):=qd ((jJ max st).1:Int) (jJ max st).2
theorem xI (max:Nat) (st:Option (List UInt8)):(jJ max st).1≤max:=by
 unfold jJ;split
 ·exact Nat.zero_le _
 ·omega
def zOf (n:Nat):Int:=if n % 2=0 then (n / 2:Nat) else -((n / 2:Nat):Int) - 1
def Uf:List UInt8→Nat
 | []=>0
 | c :: l=>(256*Uf l+c.toNat) % 18446744073709551616
theorem TE (t:List UInt8) (k:Nat) (h:k < t.length):Uf (t.drop k)=(256*Uf (t.drop (k+1))+(t[k]).toNat) % 18446744073709551616:=by
 rw [List.drop_eq_getElem_cons h]
 rfl
theorem SE (l:List UInt8):Uf l < 18446744073709551616:=by
 cases l with
 | nil=>exact Nat.zero_lt_succ _
 | cons c l=>exact Nat.mod_lt _ (by decide)
def bR (st:Option (List UInt8)):Int × Option (List UInt8):=(wrap64 (Uf (qd 8 st).1:Int),(qd 8 st).2)
theorem AK (st:Option (List UInt8)):(qd 8 st).1.length≤8:=by
 cases st with
 | none=>simp [qd]
 | some r =>
  by_cases h:(r.length:Int) < 8
  ·rw [Qk (.inr h)];simp
  ·rw [zP (by omega) (by omega)]
   simp only [List.length_take]
   omega
end
section
def jP:List CellB→List UInt8→Nat
 | [],_=>0
 | c :: l,t=>if c.text=t then 0 else jP l t+1
theorem Vq (l:List CellB) (t:List UInt8):∀ m,m < jP l t→∀ h:m < l.length,(l[m]).text≠t:=by
 induction l with
 | nil=>intro m h;simp [jP] at h
 | cons c l ih =>
  intro m h hl
  simp only [jP] at h
  split at h
  ·omega
  ·cases m with
   | zero=>simpa using ‹¬ c.text=t›
   | succ m=>simpa using ih m (by omega) (by simpa using hl)
theorem QH (l:List CellB) (t:List UInt8) (h:∃ c ∈ l,c.text=t):∃ hl:jP l t < l.length,(l[jP l t]).text=t:=by
 induction l with
 | nil=>obtain ⟨c,hc,_⟩:=h;cases hc
 | cons c l ih =>
  by_cases hc:c.text=t
  ·have e:jP (c :: l) t=0:=by simp [jP,hc]
   exact ⟨by rw [e];simp,by simp only [e,List.getElem_cons_zero];exact hc⟩
  ·have e:jP (c :: l) t=jP l t+1:=by simp [jP,hc]
   obtain ⟨h1,h2⟩:=ih (by
    obtain ⟨d,hd,ht⟩:=h
    rcases List.mem_cons.1 hd with rfl|hd
    ·exact absurd ht hc
    ·exact ⟨d,hd,ht⟩)
   exact ⟨by rw [e];simp;omega,by simp only [e,List.getElem_cons_succ];exact h2⟩
theorem Ve (l:List CellB) (k:Nat) (h:k < l.length):jP l (l[k]).text≤k:=by
 rcases Nat.lt_or_ge k (jP l (l[k]).text) with h1|h1
 ·exact absurd rfl (Vq l _ k h1 h)
 ·exact h1
theorem ZF (l:List CellB) (t:List UInt8):jP l t≤l.length:=by
 induction l with
 | nil=>exact Nat.le_refl _
 | cons c l ih=>simp only [jP,List.length_cons];split<;>omega
def qy:CellB:=⟨false,0,[]⟩
def xP (l:List CellB) (i:Nat):CellB:=l.getD i qy
theorem jY (l:List CellB) (i:Nat) (h:i < l.length):xP l i=l[i]:=by simp [xP,List.getD,h]
def jZ (l:List CellB):Nat→List CellB
 | 0=>[]
 | k+1=>jZ l k++(if jP l (xP l k).text=k then [xP l k] else [])
def qb (l:List CellB):List CellB:=jZ l l.length
theorem zp (l:List CellB) (k:Nat):(jZ l k).length≤k:=by
 induction k with
 | zero=>exact Nat.le_refl _
 | succ k ih=>simp only [jZ,List.length_append];split<;>simp<;>omega
theorem JZ (l:List CellB) (k:Nat) (hk:k≤l.length):∀ c ∈ jZ l k,c ∈ l:=by
 induction k with
 | zero=>intro c hc;simp [jZ] at hc
 | succ k ih =>
  intro c hc
  simp only [jZ,List.mem_append] at hc
  rcases hc with hc|hc
  ·exact ih (by omega) c hc
  ·split at hc
   ·simp at hc;subst hc;rw [jY l k (by omega)];exact List.getElem_mem _
   ·simp at hc
theorem Nb (l:List CellB) (i:Nat) (hi:i < l.length) (hf:jP l (l[i]).text=i):∀ k,i < k→k≤l.length→l[i] ∈ jZ l k:=by
 intro k
 induction k with
 | zero=>intro h;omega
 | succ k ih =>
  intro h hk
  simp only [jZ,List.mem_append]
  by_cases hik:i=k
  ·subst hik
   right
   rw [jY l i hi,if_pos hf]
   simp
  ·left;exact ih (by omega) (by omega)
theorem Zt (l:List CellB) (i:Nat) (hi:i < l.length):∃ c ∈ qb l,c.text=(l[i]).text:=by
 obtain ⟨h1,h2⟩:=QH l (l[i]).text ⟨l[i],List.getElem_mem hi,rfl⟩
 have hf:jP l (l[jP l (l[i]).text]).text=jP l (l[i]).text:=by rw [h2]
 exact ⟨_,Nb l _ h1 hf _ h1 (Nat.le_refl _),h2⟩
def Jd (v:Int):List CellB→Nat
 | []=>0
 | c :: l=>if c.int=v then Jd v l+1 else 0
theorem UB (v:Int) (l:List CellB):Jd v l≤l.length:=by
 induction l with
 | nil=>exact Nat.le_refl _
 | cons c l ih=>simp only [Jd,List.length_cons];split<;>omega
theorem GF (v:Int) (l:List CellB):∀ m,m < Jd v l→∃ h:m < l.length,(l[m]).int=v:=by
 induction l with
 | nil=>intro m h;simp [Jd] at h
 | cons c l ih =>
  intro m h
  simp only [Jd] at h
  split at h
  ·cases m with
   | zero=>exact ⟨by simp,by assumption⟩
   | succ m =>
    obtain ⟨h1,h2⟩:=ih m (by omega)
    exact ⟨by simp;omega,by simpa using h2⟩
  ·omega
theorem UO (v:Int) (l:List CellB):∀ (h:Jd v l < l.length),(l[Jd v l]).int≠v:=by
 induction l with
 | nil=>intro h;simp [Jd] at h
 | cons c l ih =>
  intro h
  by_cases hc:c.int=v
  ·have e:Jd v (c :: l)=Jd v l+1:=by simp [Jd,hc]
   have h':Jd v l < l.length:=by rw [e] at h;simpa using h
   have:=ih h'
   simp only [e,List.getElem_cons_succ]
   exact this
  ·have e:Jd v (c :: l)=0:=by simp [Jd,hc]
   simp only [e,List.getElem_cons_zero]
   exact hc
def jF:List UInt8→List UInt8→Nat
 | a :: s,b :: t=>if a=b then jF s t+1 else 0
 | _,_=>0
theorem Jb (s t:List UInt8):jF s t≤s.length∧jF s t≤t.length:=by
 induction s generalizing t with
 | nil=>simp [jF]
 | cons a s ih =>
  cases t with
  | nil=>simp [jF]
  | cons b t =>
   have:=ih t
   simp only [jF,List.length_cons]
   split<;>omega
theorem Uu (s t:List UInt8):∀ m,m < jF s t→∀ (h1:m < s.length) (h2:m < t.length),s[m]=t[m]:=by
 induction s generalizing t with
 | nil=>intro m h;simp [jF] at h
 | cons a s ih =>
  cases t with
  | nil=>intro m h;simp [jF] at h
  | cons b t =>
   intro m h h1 h2
   simp only [jF] at h
   split at h
   ·cases m with
    | zero=>simpa using ‹a=b›
    | succ m=>simpa using ih t m (by omega) (by simpa using h1) (by simpa using h2)
   ·omega
theorem VT (s t:List UInt8):∀ (h1:jF s t < s.length) (h2:jF s t < t.length),s[jF s t]≠t[jF s t]:=by
 induction s generalizing t with
 | nil=>intro h;simp [jF] at h
 | cons a s ih =>
  cases t with
  | nil=>intro h1 h2;simp [jF] at h2
  | cons b t =>
   intro h1 h2
   by_cases hab:a=b
   ·have e:jF (a :: s) (b :: t)=jF s t+1:=by simp [jF,hab]
    have h1':jF s t < s.length:=by rw [e] at h1;simpa using h1
    have h2':jF s t < t.length:=by rw [e] at h2;simpa using h2
    have:=ih t h1' h2'
    simp only [e,List.getElem_cons_succ]
    exact this
   ·have e:jF (a :: s) (b :: t)=0:=by simp [jF,hab]
    simp only [e,List.getElem_cons_zero]
    exact hab
def jR (l:List CellB) (i:Nat):CellB:=if i=0 then qy else xP l (i - 1)
def qG (n:Nat) (l:List CellB) (i:Nat):List UInt8 :=
 match n with
 | 0=>bB (xP l i).int
 | 1=>zB (RowKit.wrap64 ((xP l i).int - (jR l i).int))
 | 2=>if i=0∨(xP l i).int≠(jR l i).int then uB (Jd (xP l i).int (l.drop (i+1))+1)++zB (xP l i).int else []
 | 3=>uB (jP (qb l) (xP l i).text)
 | 4=>uB (jF (xP l i).text (jR l i).text)++xB ((xP l i).text.drop (jF (xP l i).text (jR l i).text))
 | _=>xB (xP l i).text
def js (n:Nat) (l:List CellB):Nat→List UInt8
 | 0=>[]
 | k+1=>js n l k++qG n l k
def zD (l:List CellB):Nat→List UInt8
 | 0=>uB l.length
 | k+1=>zD l k++xB (xP l k).text
def qp (n:Nat) (l:List CellB):List UInt8:=(if n=3 then zD (qb l) (qb l).length else [])++js n l l.length
def qz (c:CellB):Prop:=-9223372036854775808≤c.int∧c.int≤9223372036854775807∧c.text.length≤12
theorem TV:qz qy:=⟨by decide,by decide,by decide⟩
theorem Vh (l:List CellB) (h:∀ c ∈ l,qz c) (i:Nat):qz (xP l i):=by
 by_cases hi:i < l.length
 ·rw [jY l i hi];exact h _ (List.getElem_mem hi)
 ·have:xP l i=qy:=by simp [xP,List.getD,show l.length≤i by omega]
  rw [this];exact TV
theorem Je (l:List CellB) (h:∀ c ∈ l,qz c) (i:Nat):qz (jR l i):=by
 unfold jR;split
 ·exact TV
 ·exact Vh l h _
theorem Kx (n:Int) (h0:-9223372036854775808≤n) (h1:n≤9223372036854775807):(zB n).length≤10:=jN _ (Ig n h0 h1)
theorem Ur (s:List UInt8) (h:s.length≤12):(xB s).length≤22:=by
 have:=jN s.length (by omega)
 simp only [xB,List.length_append];omega
theorem zk (n:Int):-9223372036854775808≤RowKit.wrap64 n∧RowKit.wrap64 n≤9223372036854775807:=by
 unfold RowKit.wrap64;omega
theorem QD (n:Nat) (l:List CellB) (h:∀ c ∈ l,qz c) (hn:l.length≤60) (i:Nat):(qG n l i).length≤40:=by
 obtain ⟨a1,a2,a3⟩:=Vh l h i
 obtain ⟨b1,b2,b3⟩:=Je l h i
 have hd:=zp l l.length
 unfold qG
 split
 ·rw [Xs];omega
 ·have:=zk ((xP l i).int - (jR l i).int)
  have:=Kx _ this.1 this.2
  omega
 ·split
  ·have h1:=UB (xP l i).int (l.drop (i+1))
   rw [List.length_drop] at h1
   have h2:=jN (Jd (xP l i).int (l.drop (i+1))+1) (by omega)
   have h3:=Kx _ a1 a2
   rw [List.length_append];omega
  ·simp
 ·have h1:jP (qb l) (xP l i).text≤(qb l).length:=ZF _ _
  have h4:(qb l).length≤l.length:=hd
  have h2:=jN (jP (qb l) (xP l i).text) (by omega)
  omega
 ·have h1:=Jb (xP l i).text (jR l i).text
  have h2:=jN (jF (xP l i).text (jR l i).text) (by omega)
  have h3:=Ur ((xP l i).text.drop (jF (xP l i).text (jR l i).text)) (by rw [List.length_drop];omega)
  rw [List.length_append];omega
 ·have:=Ur _ a3;omega
theorem xm (n:Nat) (l:List CellB) (h:∀ c ∈ l,qz c) (hn:l.length≤60) (k:Nat):(js n l k).length≤40*k:=by
 induction k with
 | zero=>simp [js]
 | succ k ih =>
  have:=QD n l h hn k
  simp only [js,List.length_append];omega
theorem KA (l:List CellB) (h:∀ c ∈ l,qz c) (hn:l.length≤60) (k:Nat):(zD l k).length≤10+22*k:=by
 induction k with
 | zero=>have:=jN l.length (by omega);simp only [zD];omega
 | succ k ih =>
  have:=Ur (xP l k).text (Vh l h k).2.2
  simp only [zD,List.length_append];omega
end
section
open Go.RowKit
theorem EU (a b:ByteArray):(a++b).data.toList=a.data.toList++b.data.toList:=by simp
theorem Lk (sec non:ByteArray) (i:Nat):Jm 1 ((⟨#[75]⟩++sec++non++⟨(qw (i:Int)).toArray⟩:ByteArray).data.toList)=KP sec.data.toList non.data.toList i:=by
 simp only [EU,KP]
 simp
theorem AP {w wr w5 w2:World} {v v':Value} {k:Nat} {sec non text:List UInt8} (b:UInt8) (x:Value) (o:Obj) (hbt:text.getD k 0=b) (hx:x=.int .u8 (bits .xor .u8 (b.toNat:Int) (KP sec non k % 256)))
  (hB:Below w.heap.size w wr) (hown:wr.ownsRow w.heap.size 5 1 v k (qD (Ja sec non text k))) (hb5:Below wr.heap.size wr w5)
  (hown2:w2.ownsRow w.heap.size 5 1 v' (k+1) (qD (Ja sec non text k)++[x])) (hgr:(w5.alloc o).grownBy w2 v.ownBlock) :
  w2.ownsRow w.heap.size 5 1 v' (k+1) (qD (Ja sec non text (k+1)))∧Below w.heap.size w w2:=by
 subst hbt
 rw [Ev] at hx
 subst hx
 have hz:=hb5.size
 have hz0:=hB.size
 refine ⟨?_,?_⟩
 ·rw [VK]
  simpa [qD,Ub] using hown2
 ·exact ((hB.trans (hb5.mono hz0)).alloc (by omega) _).grown hgr (by simp;omega) (fun k hk=>(hown.lt k hk).1)
theorem VS (sec non text:ByteArray) (w:World) (h1:sec.size≤1000) (h2:non.size≤1000) (h3:text.size≤5000) :
  Calls Tryz.prog 122 #[.string sec,.string non,.string text] w fun e w' =>
   e=.returned (strB (zl sec.data.toList non.data.toList text.data.toList))∧Below w.heap.size w w':=by
 obtain ⟨i0,hi,hz0,hz1,hz2⟩:=info_parts Tryz.infoU8
 go_enter Tryz.func122,Tryz.ntmps122
 go_wp2
 go_loopw [7,8] (fun v i wr=>∃ k:Nat,k≤text.size∧i=.int .i64 k∧wr.ownsRow w.heap.size 5 1 v k (qD (Ja sec.data.toList non.data.toList text.data.toList k))∧Below w.heap.size w wr)
  (fun _ i _=>text.size - (intOf i).toNat)
 case atStart=>exact ⟨0,Nat.zero_le _,rfl,World.ownsRow_nil _ _ _ _,Below.refl _ _⟩
 case round =>
  obtain ⟨k,hk,rfl,hown,hB⟩:=hrel
  by_cases hlt:k < text.size
  ·obtain ⟨hkr1,hkr2⟩:=Nm sec.data.toList non.data.toList k
   have Hgd:=hid (RX text k hlt)
   have HK:=hid (Lk sec non k)
   have ht2:(qw (k:Int)).length≤2:=Nat.le_of_eq (jB _)
   go_wp2_with fail
   refine (QE _ _ (by omega) (by omega)).mono ?_
   rintro e w4 ⟨rfl,hb4⟩
   go_wp2_with fail
   refine (Nf _ w4 ?_).mono ?_
   ·simp only [ByteArray.size_append',jK];unfold maxLen;simp;omega
   rintro e w5 ⟨rfl,rfl⟩
   rw [HK.out]
   have hk4:=hown.kept (YQ hb4) (Classical.em _)
   go_wp2_with (at_builtin;refine wpList_append_own _ rfl (.tmp 24) (.tmp 32) 149 rfl w.heap.size 5 i0 (.int .u8 0) 1 1 Tryz.underlying149 hi hz0 hz1 hz2 rfl (by decide) _ _ _ rfl (hk4.alloc _) ⟨w5.heap.size,0,none⟩ 1 1 [.int .u8 (bits .xor .u8 ((text[k]'hlt).toNat:Int) (KP sec.data.toList non.data.toList k % 256))] rfl rfl ?c1 ?c2 ?c3 ?c4 ?c5 ?_)
   case c1=>intro j u hj;exact cell_one_new _ _ _ j u hj
   case c2=>intro u hu;simp at hu;subst hu;rfl
   case c3=>unfold maxLen;omega
   case c4=>omega
   case c5=>have:=hB.size;have:=hb4.size;simp;omega
   intro v2 w2 hown2 hgr2 _
   have HR:=hid (AP (text[k]'hlt) _ _ Hgd.out rfl hB hown hb4 hown2 hgr2)
   clear hown hown2 hgr2 hB hb4 hk4
   go_wp2
   go_roundw
   case rel=>exact ⟨k+1,by omega,by go_num,HR.out.1,HR.out.2⟩
   case measure=>simp [intOf];omega
  ·have hke:k=text.size:=by omega
   subst hke
   have hcv:=Ux hown
   go_wp2
   go_ret
   exact ⟨by simp [zl],hB⟩
end
end Go.Proofs.YthhpbhpfagoapaaGreat
