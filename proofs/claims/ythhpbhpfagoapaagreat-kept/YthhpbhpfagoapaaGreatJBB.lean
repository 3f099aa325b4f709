import Derived.Test.YthhpbhpfagoapaaGreatJAU
import Derived.Lib.AppendStr
import Derived.Test.YthhpbhpfagoapaaGreatJAR
namespace Go.Proofs.YthhpbhpfagoapaaGreat
set_option linter.unusedVariables false
set_option linter.unusedSimpArgs false
set_option maxRecDepth 100000
set_option maxHeartbeats 16000000
section
open Go.RowKit
theorem ZE {W:World} {base n:Nat} {v:Value} {l:List UInt8} (h:W.ownsRow base 5 1 v n (qo l)) :
  Sem.run Tryz.prog (convert 149 9 v) W=.ok (strB l) W:=by
 have hn:l.length=n:=by simpa [qo] using h.1
 rcases h.2 with ⟨rfl,rfl⟩|⟨g,cap,cur,rfl,_⟩
 ·have:l=[]:=List.eq_nil_of_length_eq_zero hn
  subst this
  exact run_convert_bytes_nil (P:=Tryz.prog) W 149 5 Tryz.underlying149 Tryz.underlying5 0 0 9 Tryz.underlying9
 ·exact IG h hn
theorem Kr (parts:List ByteArray) (k:Nat) (h:k < parts.length):(xj (parts.take (k+1))).length=(xj (parts.take k)).length+parts[k].size:=by
 rw [Um parts k h,List.length_append]
 simp
theorem Qc (parts:List ByteArray) (k:Nat):(xj (parts.take k)).length≤(xj parts).length:=by
 have:xj parts=xj (parts.take k)++xj (parts.drop k):=by
  unfold xj
  rw [← List.flatMap_append,List.take_append_drop]
 rw [this,List.length_append]
 omega
theorem Ic (s:ByteArray):Lib.strCells s=qo s.data.toList:=rfl
theorem QF (a b:List UInt8):qo (a++b)=qo a++qo b:=by simp [qo]
theorem Ao {w wr w2:World} {v v':Value} {n:Nat} {l:List UInt8} {s:ByteArray} (hB:Below w.heap.size w wr) (hown:wr.ownsRow w.heap.size 5 1 v n (qo l))
  (hown2:w2.ownsRow w.heap.size 5 1 v' (n+s.size) (qo l++Lib.strCells s)) (hgr:wr.grownBy w2 v.ownBlock) :
  w2.ownsRow w.heap.size 5 1 v' (n+s.size) (qo (l++s.data.toList))∧Below w.heap.size w w2:=by
 rw [QF,← Ic]
 exact ⟨hown2,hB.grown hgr hB.size (fun k hk=>(hown.lt k hk).1)⟩
theorem Ev (parts:List ByteArray) (b cap:Nat) (w:World) (hn:parts.length≤1000) (hs:(xj parts).length≤1000000) (hb:b < w.heap.size)
  (hc:∀ j (h:j < parts.length),w.cell? ⟨b,j,none⟩=some (.string parts[j])) :
  Calls Tryz.prog 194 #[.slice (some ⟨b,0,none⟩) parts.length cap] w fun e w'=>e=.returned (strB (xj parts))∧Below w.heap.size w w':=by
 obtain ⟨i0,hi,hz0,hz1,hz2⟩:=info_parts Tryz.infoU8
 have Hc:=hid hc
 clear hc
 go_enter Tryz.func194,Tryz.ntmps194
 go_wp2
 go_loop [3,11] (fun t i=>∃ k:Nat,k≤parts.length∧i=.int .i64 k∧t=.int .i64 ((xj (parts.take k)).length:Int)) (fun _ i=>parts.length - (intOf i).toNat)
 case atStart=>exact ⟨0,Nat.zero_le _,rfl,rfl⟩
 case round =>
  obtain ⟨k,hk,rfl,rfl⟩:=hrel
  by_cases hlt:k < parts.length
  ·have hck:=Hc.out k hlt
   have hm1:=Qc parts k
   have hm2:=Qc parts (k+1)
   have hm3:=Kr parts k hlt
   have HS:=hid hm3
   have hm4:(parts[k]'hlt).size≤1000000:=by omega
   clear hm2 hm3
   generalize (xj (parts.take k)).length=m0 at *
   generalize (parts[k]'hlt)=part at *
   go_wp2
   go_round
   case rel=>exact ⟨k+1,by omega,by go_num,by rw [HS.out];go_num⟩
   case measure=>simp [intOf];omega
  ·have hke:k=parts.length:=by omega
   subst hke
   rw [List.take_length]
   generalize hL:(xj parts).length=L at *
   have HL:=hid hL
   clear hL
   go_wp2_with (at_make;refine wpList_make_own _ rfl (.const (.int .i64 0)) (.tmp 20) 149 rfl w.heap.size 5 i0 (.int .u8 0) 1 Tryz.underlying149 hi hz0 hz1 .i64 .i64 _ L rfl rfl rfl (by rw [hz2];omega) (by unfold maxLen;omega) (Nat.le_refl _) ?_;intro w3 hown hgr)
   have hB3:Below w.heap.size w w3:=(Below.refl _ _).grown hgr (Nat.le_refl _) (fun _ h=>by cases h)
   clear hgr
   go_loopw [6,24] (fun v i wr=>∃ k:Nat,k≤parts.length∧i=.int .i64 k∧wr.ownsRow w.heap.size 5 1 v (xj (parts.take k)).length (qo (xj (parts.take k)))∧Below w.heap.size w wr)
    (fun _ i _=>parts.length - (intOf i).toNat)
   case atStart=>exact ⟨0,Nat.zero_le _,rfl,hown,hB3⟩
   case round =>
    clear hown hB3
    obtain ⟨k,hk,rfl,hown,hB⟩:=hrel
    by_cases hlt:k < parts.length
    ·have hck:wr.cell? ⟨b,k,none⟩=some (.string (parts[k]'hlt)):=(hB.cell (p:=⟨b,k,none⟩) hb).trans (Hc.out k hlt)
     have hm1:=Qc parts k
     have hm2:=Qc parts (k+1)
     have hm3:=Kr parts k hlt
     have HS:=hid hm3
     have HF:=hid (Um parts k hlt)
     have hLe:=HL.out
     have hm4:(xj (parts.take k)).length+(parts[k]'hlt).size≤1000000:=by omega
     clear hm2 hm3 hLe
     generalize xj (parts.take k)=l0 at *
     generalize (parts[k]'hlt)=part at *
     go_wp2_with (at_builtin;refine Lib.wpList_append_own_string _ rfl (.tmp 28) (.tmp 29) 149 9 rfl w.heap.size 5 i0 Tryz.underlying149 Tryz.underlying9 hi hz0 hz1 hz2 _ _ _ rfl hown part rfl (by unfold maxLen;omega) (by omega) hB.size ?_;intro v2 w2 hown2 hgr2 _)
     have HR:=hid (Ao hB hown hown2 hgr2)
     clear hown hown2 hgr2 hB hck
     go_wp2
     go_roundw
     case rel=>exact ⟨k+1,by omega,by go_num,by rw [HS.out,HF.out];exact HR.out.1,HR.out.2⟩
     case measure=>simp [intOf];omega
    ·have hke:k=parts.length:=by omega
     subst hke
     rw [List.take_length] at hown
     have hcv:=ZE hown
     go_wp2
     go_ret
     exact ⟨rfl,hB⟩
end
section
structure ColB where
 name:List UInt8
 kind:Int
 key:Int
 cells:List CellB
structure KeyB where
 number:Int
 secret:List UInt8
structure PlanB where
 group:Int
 page:Int
 foot:Int
 told:Bool
structure JobB where
 table:List ColB
 plan:PlanB
 pre:List UInt8
 draw:Int
structure SealB where
 secret:List UInt8
 nonce:List UInt8
 extra:List UInt8
 body:List UInt8
def zj (s:List UInt8):Bool:=s.all (fun b=>decide (97≤b.toNat) && decide (b.toNat≤122)) && (decide (1≤s.length) && decide (s.length≤8))
def JZ (c:ColB):Bool:=zj c.name && ((decide (0≤c.kind) && decide (c.kind≤1)) && (decide (0≤c.key) && decide (c.key≤9)))
def xL (t:List ColB) (s:List UInt8):Bool:=t.any fun c=>c.name == s
def zH (t:List ColB):Nat→Bool
 | 0=>true
 | k+1=>zH t k && (match t[k]? with|some c=>JZ c && !xL (t.take k) c.name|none=>true)
def jQ (t:List ColB):Bool:=zH t t.length && (decide (1≤t.length) && decide (t.length≤6))
def jY:List ColB→Nat
 | []=>0
 | c :: _=>c.cells.length
def xl (t:List ColB):Bool:=jQ t && t.all fun c=>jR c.kind c.cells && decide (c.cells.length=jY t)
def qB (p:PlanB):Bool:=(decide (1≤p.group) && decide (p.group≤60)) && ((decide (1≤p.page) && decide (p.page≤60)) && (decide (1≤p.foot) && decide (p.foot≤9)))
def js (r:List KeyB) (n:Int):Bool:=r.any fun k=>decide (k.number=n)
def Qn (k:KeyB):Bool:=(decide (1≤k.number) && decide (k.number≤9)) && decide (k.secret.length=8)
def XE (r:List KeyB):Nat→Bool
 | 0=>true
 | k+1=>XE r k && (match r[k]? with|some c=>Qn c && !js (r.take k) c.number|none=>true)
def xG (r:List KeyB):Bool:=XE r r.length
def Ka (r:List KeyB) (n:Int):Option (List UInt8):=(r.find? fun k=>decide (k.number=n)).map (·.secret)
def jl (r:List KeyB) (n:Int):List UInt8:=(Ka r n).getD []
def ZM (j:JobB) (r:List KeyB):Bool:=!js r j.plan.foot || j.table.any fun c=>decide (0 < c.key) && !js r c.key
def JA (j:JobB) (r:List KeyB):Int :=
 if xl j.table=false then 5
 else if (qB j.plan && (decide (j.pre.length≤20) && (decide (0≤j.draw) && decide (j.draw≤65535))))=false then 7
 else if xG r=false then 1
 else if ZM j r=true then 8 else 0
def qE (pre:List UInt8) (sort:UInt8) (g c p:Nat):List UInt8:=xB pre++[sort]++qv (g:Int)++qv (c:Int)++qv (p:Int)
def jo (n size i:Nat):Nat:=min size (n - i*size)
def jZ (n size:Nat):Nat:=(n+size - 1) / size
structure SpotB where
 sort:UInt8
 g:Nat
 c:Nat
 p:Nat
 start:Nat
 many:Nat
def jr (P g c start n:Nat) (k:Nat):List SpotB:=(List.range k).map fun p=>⟨80,g,c,p,start+p*P,jo n P p⟩
def jg (R G P g c:Nat):List SpotB:=jr P g c (g*G) (jo R G g) (jZ (jo R G g) P)++[⟨77,g,c,0,g*G,jo R G g⟩]
def jp (R G P g C:Nat):List SpotB:=(List.range C).flatMap fun c=>jg R G P g c
def jy (R C G P n:Nat):List SpotB:=(List.range n).flatMap fun g=>jp R G P g C
def qi (R C G P:Nat):List SpotB:=jy R C G P (jZ R G)
def JQ (l:List CellB):Int→Int:=fun x=>l.foldl (fun m c=>if c.int < m then c.int else m) x
def XT (l:List CellB):Int→Int:=fun x=>l.foldl (fun m c=>if m < c.int then c.int else m) x
def qI:List CellB→Int
 | []=>0
 | c :: _=>c.int
def JI (kind:Int) (l:List CellB):List UInt8 :=
 uB (l.length - (jh l).length)++if kind=0∧jh l≠[] then [1]++zB (JQ (jh l) (qI (jh l)))++zB (XT (jh l) (qI (jh l))) else [0]
def je (t:List ColB) (c:Nat):ColB:=t.getD c ⟨[],0,0,[]⟩
def qP (t:List ColB) (s:SpotB):List UInt8 :=
 if s.sort=77 then JI (je t s.c).kind (((je t s.c).cells.drop s.start).take s.many) else xg (je t s.c).kind (((je t s.c).cells.drop s.start).take s.many)
structure StB where
 out:List UInt8
 log:List SealB
def zP (plain:List UInt8) (st:StB):StB:=⟨st.out++(qv (plain.length:Int)++plain),st.log⟩
def xM (draw:Int) (n:Nat):List UInt8:=qv draw++qv (n:Int)
def zA (draw:Int) (secret extra plain:List UInt8) (st:StB):StB :=
 ⟨st.out++(qv ((xV secret (xM draw st.log.length) extra plain).length:Int)++(xM draw st.log.length++xV secret (xM draw st.log.length) extra plain)),
  st.log++[⟨secret,xM draw st.log.length,extra,xV secret (xM draw st.log.length) extra plain⟩]⟩
def Qe (j:JobB) (r:List KeyB) (key:Int) (sort:UInt8) (g c p:Nat) (plain:List UInt8) (st:StB):StB :=
 if key=0 then zP plain st else zA j.draw (jl r key) (qE j.pre sort g c p) plain st
def zF (j:JobB) (r:List KeyB) (st:StB) (s:SpotB):StB:=Qe j r (je j.table s.c).key s.sort s.g s.c s.p (qP j.table s) st
def qw (j:JobB) (r:List KeyB) (st:StB) (l:List SpotB):StB:=l.foldl (zF j r) st
def xD (b:Bool):List SpotB→Bool
 | []=>b
 | s :: l=>xD (decide (s.sort=77)) l
def qC (j:JobB) (r:List KeyB):StB→Bool→List SpotB→List Nat
 | st,b,[]=>[]
 | st,b,s :: l=>(if b=true then [st.out.length] else [])++qC j r (zF j r st s) (decide (s.sort=77)) l
def jT (c:ColB):List UInt8:=xB c.name++uB c.kind.toNat++uB c.key.toNat
def qd (rows:Nat) (p:PlanB) (t:List ColB) (places:List Nat):List UInt8 :=
 uB rows++uB p.group.toNat++uB p.page.toNat++uB p.foot.toNat++uB t.length++t.flatMap jT++places.flatMap uB
def za (p:PlanB):List UInt8:=[67,70]++[if p.told=true then 79 else 69]++[byB p.foot]
def qS (j:JobB):List SpotB:=qi (jY j.table) j.table.length j.plan.group.toNat j.plan.page.toNat
def xq (j:JobB) (r:List KeyB):StB:=qw j r ⟨za j.plan,[]⟩ (qS j)
def zq (j:JobB) (r:List KeyB):List Nat:=qC j r ⟨za j.plan,[]⟩ true (qS j)
def xX (j:JobB) (r:List KeyB):List UInt8:=qd (jY j.table) j.plan j.table (zq j r)
def Jf (j:JobB) (r:List KeyB) (f:List UInt8) (st:StB):StB :=
 if j.plan.told=true then zA j.draw (jl r j.plan.foot) (qE j.pre 83 0 0 0++f) [] (zP f st)
 else zA j.draw (jl r j.plan.foot) (qE j.pre 70 0 0 0) f st
def xC (j:JobB) (r:List KeyB):List UInt8 :=
 (Jf j r (xX j r) (xq j r)).out++(qv (((Jf j r (xX j r) (xq j r)).out.length - (xq j r).out.length:Nat):Int)++[67,70])
def Va (j:JobB) (r:List KeyB):List SealB:=(Jf j r (xX j r) (xq j r)).log
/- The laws of these. -/
theorem zK (l m:List SpotB):∀ b,xD b (l++m)=xD (xD b l) m:=by
 induction l with
 | nil=>intro b;rfl
 | cons s l ih=>intro b;simp only [List.cons_append,xD];exact ih _
theorem Xo (j:JobB) (r:List KeyB) (st:StB) (l m:List SpotB):qw j r st (l++m)=qw j r (qw j r st l) m:=by
 unfold qw;rw [List.foldl_append]
theorem zu (j:JobB) (r:List KeyB) (l m:List SpotB):∀ st b,qC j r st b (l++m)=qC j r st b l++qC j r (qw j r st l) (xD b l) m:=by
 induction l with
 | nil=>intro st b;rfl
 | cons s l ih =>
  intro st b
  simp only [List.cons_append,qC,xD,List.append_assoc]
  rw [ih]
  rfl
theorem Yn (j:JobB) (r:List KeyB) (l:List SpotB) (h:∀ s ∈ l,s.sort=80):∀ st,qC j r st false l=[]:=by
 induction l with
 | nil=>intro st;rfl
 | cons s l ih =>
  intro st
  have h1:=h s (List.mem_cons_self ..)
  simp only [qC,h1]
  exact ih (fun x hx=>h x (List.mem_cons_of_mem _ hx)) _
theorem KD (l:List SpotB) (h:∀ s ∈ l,s.sort=80):l≠[]→∀ b,xD b l=false:=by
 induction l with
 | nil=>intro h0;exact absurd rfl h0
 | cons s l ih =>
  intro _ b
  have h1:=h s (List.mem_cons_self ..)
  simp only [xD,h1]
  by_cases hl:l=[]
  ·subst hl;rfl
  ·exact ih (fun x hx=>h x (List.mem_cons_of_mem _ hx)) hl _
theorem Xt (P g c start n k:Nat):∀ s ∈ jr P g c start n k,s.sort=80:=by
 intro s hs
 simp only [jr,List.mem_map] at hs
 obtain ⟨p,_,rfl⟩:=hs
 rfl
theorem UD (j:JobB) (r:List KeyB) (st:StB) (R G P g c:Nat):qC j r st true (jg R G P g c)=[st.out.length]:=by
 unfold jg
 have hs:=Xt P g c (g*G) (jo R G g) (jZ (jo R G g) P)
 generalize jr P g c (g*G) (jo R G g) (jZ (jo R G g) P)=L at *
 cases L with
 | nil=>simp [qC]
 | cons s l =>
  have h1:=hs s (List.mem_cons_self ..)
  have hl:∀ x ∈ l,x.sort=80:=fun x hx=>hs x (List.mem_cons_of_mem _ hx)
  simp only [List.cons_append,qC,h1,if_true]
  rw [zu]
  have e1:(decide ((80:UInt8)=77))=false:=by decide
  rw [e1,Yn j r l hl]
  have e2:xD false l=false:=by
   by_cases h0:l=[]
   ·subst h0;rfl
   ·exact KD l hl h0 _
  rw [e2]
  simp [qC]
theorem Nn (b:Bool) (R G P g c:Nat):xD b (jg R G P g c)=true:=by
 unfold jg
 rw [zK]
 rfl
theorem JP (R G P g C:Nat):xD true (jp R G P g C)=true:=by
 unfold jp
 induction C with
 | zero=>rfl
 | succ C ih=>rw [List.range_succ,List.flatMap_append,zK,ih];simp only [List.flatMap_cons,List.flatMap_nil,List.append_nil];exact Nn _ _ _ _ _ _
theorem XZ (R C G P n:Nat):xD true (jy R C G P n)=true:=by
 unfold jy
 induction n with
 | zero=>rfl
 | succ n ih=>rw [List.range_succ,List.flatMap_append,zK,ih];simp only [List.flatMap_cons,List.flatMap_nil,List.append_nil];exact JP _ _ _ _ _
theorem zE (R G P g C:Nat):jp R G P g (C+1)=jp R G P g C++jg R G P g C:=by
 unfold jp;rw [List.range_succ,List.flatMap_append];simp
theorem zC (R C G P n:Nat):jy R C G P (n+1)=jy R C G P n++jp R G P n C:=by
 unfold jy;rw [List.range_succ,List.flatMap_append];simp
theorem JK (P g c start n k:Nat):jr P g c start n (k+1)=jr P g c start n k++[⟨80,g,c,k,start+k*P,jo n P k⟩]:=by
 unfold jr;rw [List.range_succ,List.map_append];rfl
theorem Ju {n size i:Nat} (hs:1≤size):i < jZ n size ↔ i*size < n:=by
 unfold jZ
 rw [Nat.lt_div_iff_mul_lt (by omega)]
 constructor<;>intro h<;>omega
theorem Qq {n size:Nat} (hs:1≤size):jZ n size≤n:=by
 rcases Nat.lt_or_ge n (jZ n size) with h|h
 ·have h2:=(Ju (n:=n) (i:=n) hs).1 h
  have:n*1≤n*size:=Nat.mul_le_mul (Nat.le_refl _) hs
  omega
 ·exact h
theorem Jo (n size i:Nat):jo n size i≤size∧jo n size i≤n:=by unfold jo;omega
theorem QP (n size i:Nat) (h:i*size < n):i*size+jo n size i=min (i*size+size) n:=by unfold jo;omega
theorem UU {n size i:Nat} (hs:1≤size):0 < jo n size i ↔ i*size < n:=by unfold jo;omega
theorem CE (R G P g c:Nat) (hP:1≤P) (hG:G≤60):(jg R G P g c).length≤61:=by
 unfold jg jr
 have h1:=Qq (n:=jo R G g) hP
 have h2:=(Jo R G g).1
 simp;omega
theorem RN (R G P g C:Nat) (hP:1≤P) (hG:G≤60):(jp R G P g C).length≤61*C:=by
 induction C with
 | zero=>simp [jp]
 | succ C ih=>have:=CE R G P g C hP hG;rw [zE,List.length_append];omega
theorem RX (R C G P n:Nat) (hP:1≤P) (hG:G≤60) (hC:C≤6):(jy R C G P n).length≤366*n:=by
 induction n with
 | zero=>simp [jy]
 | succ n ih=>have:=RN R G P n C hP hG;rw [zC,List.length_append];omega
theorem UV (kind:Int) (v:List CellB) (k:Nat):(jH kind v (k+1)).length≤(QR (Zi kind 0) v).length:=by
 induction k with
 | zero=>simp [jH]
 | succ k ih =>
  rw [jH]
  split
  ·rename_i h
   rcases h with h|h
   ·omega
   ·omega
  ·exact ih
theorem Ps (kind:Int) (l:List CellB) (h:∀ c ∈ l,qt c) (hn:l.length≤60):(xg kind l).length≤3500:=by
 have h1:=KS l hn
 have hv:(jh l).length≤60:=Nat.le_trans (List.length_filter_le ..) hn
 have hs:∀ c ∈ jh l,qt c:=fun c hc=>h c (List.mem_filter.1 hc).1
 have h2:(jH kind (jh l) 3).length≤_:=UV kind (jh l) 2
 have h3:(QR (Zi kind 0) (jh l)).length≤2401:=by
  have h4:=zi (Zi kind 0) (jh l) hs hv (jh l).length
  have h5:Zi kind 0≠3:=by unfold Zi;split<;>simp
  simp only [QR,qz,if_neg h5,List.length_cons,List.nil_append]
  omega
 unfold xg
 split
 ·omega
 ·rw [List.length_append];omega
theorem Ky (l:List CellB) (h:∀ c ∈ l,qt c):∀ x:Int,(-9223372036854775808≤x∧x≤9223372036854775807)→-9223372036854775808≤JQ l x∧JQ l x≤9223372036854775807:=by
 induction l with
 | nil=>intro x hx;exact hx
 | cons c l ih =>
  intro x hx
  obtain ⟨c0,c1,_⟩:=h c (List.mem_cons_self ..)
  refine ih (fun y hy=>h y (List.mem_cons_of_mem _ hy)) _ ?_
  dsimp only
  split<;>omega
theorem Uu (l:List CellB) (h:∀ c ∈ l,qt c):∀ x:Int,(-9223372036854775808≤x∧x≤9223372036854775807)→-9223372036854775808≤XT l x∧XT l x≤9223372036854775807:=by
 induction l with
 | nil=>intro x hx;exact hx
 | cons c l ih =>
  intro x hx
  obtain ⟨c0,c1,_⟩:=h c (List.mem_cons_self ..)
  refine ih (fun y hy=>h y (List.mem_cons_of_mem _ hy)) _ ?_
  dsimp only
  split<;>omega
theorem JM (l:List CellB) (h:∀ c ∈ l,qt c):-9223372036854775808≤qI l∧qI l≤9223372036854775807:=by
 cases l with
 | nil=>simp [qI]
 | cons c l=>obtain ⟨c0,c1,_⟩:=h c (List.mem_cons_self ..);exact ⟨c0,c1⟩
theorem Id (kind:Int) (l:List CellB) (h:∀ c ∈ l,qt c) (hn:l.length≤60):(JI kind l).length≤40:=by
 have hs:∀ c ∈ jh l,qt c:=fun c hc=>h c (List.mem_filter.1 hc).1
 have h1:=jS (l.length - (jh l).length) (by omega)
 have hf:=JM _ hs
 obtain ⟨a0,a1⟩:=Ky _ hs _ hf
 obtain ⟨b0,b1⟩:=Uu _ hs _ hf
 have h2:=UY _ a0 a1
 have h3:=UY _ b0 b1
 unfold JI
 rw [List.length_append]
 split
 ·simp only [List.length_append,List.length_cons,List.length_nil];omega
 ·simp only [List.length_cons,List.length_nil];omega
theorem Xm (pre:List UInt8) (sort:UInt8) (g c p:Nat) (h:pre.length≤20):(qE pre sort g c p).length≤40:=by
 have:=jS pre.length (by omega)
 simp only [qE,xB,List.length_append,jv,List.length_cons,List.length_nil];omega
structure SpotIn (t:List ColB) (s:SpotB):Prop where
 sort:s.sort=80∨s.sort=77
 col:s.c < t.length
 rows:s.start+s.many≤jY t
 few:s.g < 60∧s.c < 60∧s.p < 60∧s.start < 60∧s.many≤60
theorem DM {t:List ColB} {R G P g c k:Nat} (hR:R=jY t) (hr:R≤60) (hG:1≤G) (hP:1≤P) (hG6:G≤60) (hc:c < t.length) (hC:t.length≤6) (hg:g*G < R) (hk:k*P < jo R G g) :
  SpotIn t ⟨80,g,c,k,g*G+k*P,jo (jo R G g) P k⟩:=by
 have h1:g*1≤g*G:=Nat.mul_le_mul (Nat.le_refl _) hG
 have h2:k*1≤k*P:=Nat.mul_le_mul (Nat.le_refl _) hP
 have h3:=QP R G g hg
 have h4:=QP (jo R G g) P k hk
 have h5:=Jo R G g
 refine ⟨.inl rfl,hc,?_,?_,?_,?_,?_,?_⟩<;>simp only<;>omega
theorem Ss {t:List ColB} {R G g c:Nat} (hR:R=jY t) (hr:R≤60) (hG:1≤G) (hG6:G≤60) (hc:c < t.length) (hC:t.length≤6) (hg:g*G < R) :
  SpotIn t ⟨77,g,c,0,g*G,jo R G g⟩:=by
 have h1:g*1≤g*G:=Nat.mul_le_mul (Nat.le_refl _) hG
 have h3:=QP R G g hg
 have h5:=Jo R G g
 refine ⟨.inr rfl,hc,?_,?_,?_,?_,?_,?_⟩<;>simp only<;>omega
theorem PF {t:List ColB} {R G P g c:Nat} (hR:R=jY t) (hr:R≤60) (hG:1≤G) (hP:1≤P) (hG6:G≤60) (hc:c < t.length) (hC:t.length≤6) (hg:g*G < R) :
  ∀ s ∈ jg R G P g c,SpotIn t s:=by
 intro s hs
 rcases List.mem_append.1 hs with hs|hs
 ·simp only [jr,List.mem_map,List.mem_range] at hs
  obtain ⟨k,hk,rfl⟩:=hs
  exact DM hR hr hG hP hG6 hc hC hg ((Ju hP).1 hk)
 ·simp only [List.mem_cons,List.not_mem_nil,or_false] at hs
  subst hs
  exact Ss hR hr hG hG6 hc hC hg
theorem TF {t:List ColB} {R G P:Nat} (hR:R=jY t) (hr:R≤60) (hG:1≤G) (hP:1≤P) (hG6:G≤60) (hC:t.length≤6) :
  ∀ s ∈ qi R t.length G P,SpotIn t s:=by
 intro s hs
 simp only [qi,jy,jp,List.mem_flatMap,List.mem_range] at hs
 obtain ⟨g,hg,c,hc,hs⟩:=hs
 exact PF hR hr hG hP hG6 hc hC ((Ju hG).1 hg) s hs
theorem Vm {t:List ColB} (h:xl t=true):(1≤t.length∧t.length≤6)∧∀ c ∈ t,jR c.kind c.cells=true∧c.cells.length=jY t:=by
 simp only [xl,jQ,Bool.and_eq_true,decide_eq_true_eq,List.all_eq_true] at h
 exact ⟨h.1.2,h.2⟩
theorem zX {t:List ColB} {n:Nat} (h:zH t n=true) (hn:n≤t.length):∀ k (hk:k < n),JZ (t[k]'(by omega))=true∧xL (t.take k) (t[k]'(by omega)).name=false:=by
 induction n with
 | zero=>intro k hk;omega
 | succ n ih =>
  intro k hk
  simp only [zH,Bool.and_eq_true] at h
  rcases Nat.lt_or_ge k n with hkn|hkn
  ·exact ih h.1 (by omega) k hkn
  ·have:k=n:=by omega
   subst this
   have h2:=h.2
   rw [List.getElem?_eq_getElem (by omega)] at h2
   simpa using h2
theorem JF {c:ColB} (h:JZ c=true):zj c.name=true∧(c.kind=0∨c.kind=1)∧0≤c.key∧c.key≤9:=by
 simp only [JZ,Bool.and_eq_true,decide_eq_true_eq] at h
 exact ⟨h.1,by omega,h.2.2.1,h.2.2.2⟩
theorem ZF {s:List UInt8} (h:zj s=true):1≤s.length∧s.length≤8:=by
 simp only [zj,Bool.and_eq_true,decide_eq_true_eq] at h
 exact h.2
structure GoodT (t:List ColB):Prop where
 ok:xl t=true
 fits:∀ c ∈ t,∀ x ∈ c.cells,-9223372036854775808≤x.int∧x.int≤9223372036854775807
theorem GoodT.few {t:List ColB} (h:GoodT t):1≤t.length∧t.length≤6:=(Vm h.ok).1
theorem GoodT.head {t:List ColB} (h:GoodT t) (c:Nat) (hc:c < t.length):zj (t[c]).name=true∧((t[c]).kind=0∨(t[c]).kind=1)∧0≤(t[c]).key∧(t[c]).key≤9:=by
 have h1:=h.ok
 simp only [xl,jQ,Bool.and_eq_true] at h1
 exact JF (zX h1.1.1 (Nat.le_refl _) c hc).1
theorem GoodT.cells {t:List ColB} (h:GoodT t) (c:Nat) (hc:c < t.length):(t[c]).cells.length=jY t∧(t[c]).cells.length≤60∧∀ x ∈ (t[c]).cells,qt x:=by
 obtain ⟨h1,h2⟩:=(Vm h.ok).2 t[c] (List.getElem_mem hc)
 have hf:=h.fits t[c] (List.getElem_mem hc)
 simp only [jR,Bool.and_eq_true,Bool.or_eq_true,decide_eq_true_eq,List.all_eq_true] at h1
 refine ⟨h2,h1.1.2,fun x hx=>⟨(hf x hx).1,(hf x hx).2,?_⟩⟩
 have:=h1.2 x hx
 unfold qM at this
 split at this
 ·simp at this;rw [this.2];simp
 ·split at this
  ·simp at this;rw [this];simp
  ·simp at this;exact this.2
theorem GoodT.rows {t:List ColB} (h:GoodT t):jY t≤60:=by
 obtain ⟨h1,_⟩:=h.few
 have h2:=h.cells 0 (by omega)
 omega
theorem zg {t:List ColB} {c:Nat} (h:c < t.length):je t c=t[c]:=by simp [je,h]
theorem KV {t:List ColB} (h:GoodT t) {s:SpotB} (hs:s.c < t.length) (hm:s.many≤60):(qP t s).length≤3500:=by
 obtain ⟨_,_,h3⟩:=h.cells s.c hs
 have hsm:∀ x ∈ ((je t s.c).cells.drop s.start).take s.many,qt x:=by
  rw [zg hs]
  exact fun x hx=>h3 x (List.mem_of_mem_drop (List.mem_of_mem_take hx))
 have hl:(((je t s.c).cells.drop s.start).take s.many).length≤60:=by rw [List.length_take];omega
 unfold qP
 split
 ·have:=Id (je t s.c).kind _ hsm hl;omega
 ·exact Ps _ _ hsm hl
theorem Ux (plain:List UInt8) (st:StB):(zP plain st).out.length=st.out.length+plain.length+2:=by
 simp only [zP,List.length_append,jv];omega
theorem Ve (d:Int) (n:Nat):(xM d n).length=4:=rfl
theorem Kq (d:Int) (s e p:List UInt8) (st:StB):(zA d s e p st).out.length=st.out.length+p.length+8∧(zA d s e p st).log.length=st.log.length+1:=by
 refine ⟨?_,by simp [zA]⟩
 simp only [zA,List.length_append,jv,Ve,xK]
 omega
theorem YG (j:JobB) (r:List KeyB) (key:Int) (sort:UInt8) (g c p:Nat) (plain:List UInt8) (st:StB) :
  (Qe j r key sort g c p plain st).out.length≤st.out.length+plain.length+8∧(Qe j r key sort g c p plain st).log.length≤st.log.length+1:=by
 unfold Qe
 split
 ·rw [Ux];simp only [zP];omega
 ·have:=Kq j.draw (jl r key) (qE j.pre sort g c p) plain st;omega
theorem Ku {j:JobB} {r:List KeyB} (h:GoodT j.table) (l:List SpotB):∀ st:StB,(∀ s ∈ l,s.c < j.table.length∧s.many≤60) →
  (qw j r st l).out.length≤st.out.length+3508*l.length∧(qw j r st l).log.length≤st.log.length+l.length:=by
 induction l with
 | nil=>intro st _;simp [qw]
 | cons s l ih =>
  intro st hl
  obtain ⟨a0,a1⟩:=hl s (List.mem_cons_self ..)
  have h1:=KV h a0 a1
  have h2:=YG j r (je j.table s.c).key s.sort s.g s.c s.p (qP j.table s) st
  have h3:=ih (zF j r st s) (fun x hx=>hl x (List.mem_cons_of_mem _ hx))
  have e:qw j r st (s :: l)=qw j r (zF j r st s) l:=rfl
  rw [e]
  simp only [List.length_cons]
  have e2:zF j r st s=Qe j r (je j.table s.c).key s.sort s.g s.c s.p (qP j.table s) st:=rfl
  rw [← e2] at h2
  omega
theorem Qo (j:JobB) (r:List KeyB) (st:StB) (R G P g C:Nat):(qC j r st true (jp R G P g C)).length=C:=by
 induction C with
 | zero=>rfl
 | succ C ih=>rw [zE,zu,List.length_append,ih,JP,UD];rfl
theorem Qz (j:JobB) (r:List KeyB) (st:StB) (R C G P n:Nat):(qC j r st true (jy R C G P n)).length=n*C:=by
 induction n with
 | zero=>simp [jy,qC]
 | succ n ih=>rw [zC,zu,List.length_append,ih,XZ,Qo,Nat.succ_mul]
theorem CV {j:JobB} {r:List KeyB} (h:GoodT j.table) (l:List SpotB):∀ (st:StB) (b:Bool),(∀ s ∈ l,s.c < j.table.length∧s.many≤60) →
  ∀ p ∈ qC j r st b l,p≤st.out.length+3508*l.length:=by
 induction l with
 | nil=>intro st b _ p hp;simp [qC] at hp
 | cons s l ih =>
  intro st b hl p hp
  simp only [qC,List.mem_append] at hp
  rcases hp with hp|hp
  ·split at hp
   ·simp only [List.mem_cons,List.not_mem_nil,or_false] at hp;simp only [List.length_cons];omega
   ·simp at hp
  ·obtain ⟨a0,a1⟩:=hl s (List.mem_cons_self ..)
   have h1:=KV h a0 a1
   have h2:=YG j r (je j.table s.c).key s.sort s.g s.c s.p (qP j.table s) st
   have e2:zF j r st s=Qe j r (je j.table s.c).key s.sort s.g s.c s.p (qP j.table s) st:=rfl
   rw [← e2] at h2
   have:=ih _ _ (fun x hx=>hl x (List.mem_cons_of_mem _ hx)) p hp
   simp only [List.length_cons]
   omega
theorem Kw {α:Type} (f:α→List UInt8) (m:Nat) (l:List α) (h:∀ x ∈ l,(f x).length≤m):(l.flatMap f).length≤m*l.length:=by
 induction l with
 | nil=>simp
 | cons a l ih =>
  have h1:=h a (List.mem_cons_self ..)
  have h2:=ih (fun x hx=>h x (List.mem_cons_of_mem _ hx))
  rw [List.flatMap_cons,List.length_append,List.length_cons,Nat.mul_succ]
  omega
theorem VY {c:ColB} (h:c.name.length≤8) (h1:c.kind=0∨c.kind=1) (h2:0≤c.key∧c.key≤9):(jT c).length≤38:=by
 have a:=jS c.name.length (by omega)
 have b:=jS c.kind.toNat (by omega)
 have d:=jS c.key.toNat (by omega)
 simp only [jT,xB,List.length_append];omega
theorem Ar {t:List ColB} (h:GoodT t) {p:PlanB} (hp:qB p=true) (places:List Nat) (hl:places.length≤360) (hb:∀ x ∈ places,x < 18446744073709551616):(qd (jY t) p t places).length≤3900:=by
 have h0:=h.rows
 obtain ⟨_,h6⟩:=h.few
 have hc:∀ c ∈ t,(jT c).length≤38:=by
  intro c hc
  obtain ⟨k,hk,rfl⟩:=List.mem_iff_getElem.1 hc
  obtain ⟨a,b,d⟩:=h.head k hk
  exact VY (ZF a).2 b d
 have h1:=Kw jT 38 t hc
 have h2:=Kw uB 10 places (fun x hx=>jS x (hb x hx))
 simp only [qB,Bool.and_eq_true,decide_eq_true_eq] at hp
 have a:=jS (jY t) (by omega)
 have b:=jS p.group.toNat (by omega)
 have d:=jS p.page.toNat (by omega)
 have e:=jS p.foot.toNat (by omega)
 have f:=jS t.length (by omega)
 simp only [qd,List.length_append]
 omega
structure GoodJ (j:JobB) (r:List KeyB):Prop where
 table:GoodT j.table
 plan:qB j.plan=true
 pre:j.pre.length≤20
 draw:0≤j.draw∧j.draw≤65535
 ring:xG r=true
 has:ZM j r=false
theorem GoodJ.sizes {j:JobB} {r:List KeyB} (h:GoodJ j r):(1≤j.plan.group.toNat∧j.plan.group.toNat≤60)∧(1≤j.plan.page.toNat∧j.plan.page.toNat≤60)∧1≤j.plan.foot∧j.plan.foot≤9:=by
 have hp:=h.plan
 simp only [qB,Bool.and_eq_true,decide_eq_true_eq] at hp
 exact ⟨⟨by omega,by omega⟩,⟨by omega,by omega⟩,by omega,by omega⟩
theorem GoodJ.spotIn {j:JobB} {r:List KeyB} (h:GoodJ j r):∀ s ∈ qS j,SpotIn j.table s:=by
 obtain ⟨⟨a,b⟩,⟨c,d⟩,_⟩:=h.sizes
 exact TF rfl h.table.rows a c b h.table.few.2
theorem GoodJ.spotLen {j:JobB} {r:List KeyB} (h:GoodJ j r):(qS j).length≤21960:=by
 obtain ⟨⟨a,b⟩,⟨c,d⟩,_⟩:=h.sizes
 have h1:=RX (jY j.table) j.table.length j.plan.group.toNat j.plan.page.toNat (jZ (jY j.table) j.plan.group.toNat) c b h.table.few.2
 have h2:=Qq (n:=jY j.table) a
 have h3:=h.table.rows
 unfold qS qi
 omega
theorem GoodJ.foot {j:JobB} {r:List KeyB} (h:GoodJ j r):(zq j r).length≤360∧(∀ x ∈ zq j r,x≤80000000)∧(xX j r).length≤3900:=by
 obtain ⟨⟨a,b⟩,⟨c,d⟩,_⟩:=h.sizes
 have h1:=Qz j r ⟨za j.plan,[]⟩ (jY j.table) j.table.length j.plan.group.toNat j.plan.page.toNat (jZ (jY j.table) j.plan.group.toNat)
 have h2:=Qq (n:=jY j.table) a
 have h3:=h.table.rows
 have h4:=h.table.few.2
 have h5:jZ (jY j.table) j.plan.group.toNat*j.table.length≤60*6:=Nat.mul_le_mul (by omega) h4
 have hl:(zq j r).length≤360:=by
  unfold zq qS qi
  omega
 have h6:=CV (r:=r) h.table (qS j) ⟨za j.plan,[]⟩ true (fun s hs=>⟨(h.spotIn s hs).col,(h.spotIn s hs).few.2.2.2.2⟩)
 have h7:=h.spotLen
 have h8:(za j.plan).length=4:=rfl
 have hb:∀ x ∈ zq j r,x≤80000000:=by
  intro x hx
  have:=h6 x hx
  simp only [h8] at this
  omega
 exact ⟨hl,hb,Ar h.table h.plan _ hl (fun x hx=>by have:=hb x hx;omega)⟩
theorem GoodJ.body {j:JobB} {r:List KeyB} (h:GoodJ j r) (n:Nat):(qw j r ⟨za j.plan,[]⟩ ((qS j).take n)).out.length≤80000000∧(qw j r ⟨za j.plan,[]⟩ ((qS j).take n)).log.length≤21960:=by
 have h6:=Ku (r:=r) h.table ((qS j).take n) ⟨za j.plan,[]⟩ (fun s hs=>⟨(h.spotIn s (List.mem_of_mem_take hs)).col,(h.spotIn s (List.mem_of_mem_take hs)).few.2.2.2.2⟩)
 have h7:=h.spotLen
 have h8:(za j.plan).length=4:=rfl
 have h9:((qS j).take n).length≤(qS j).length:=by rw [List.length_take];omega
 simp only [h8,List.length_nil] at h6
 omega
end
end Go.Proofs.YthhpbhpfagoapaaGreat
