import Derived.Test.YthhpbhpfagoapabGreatJAU
import Derived.Lib.AppendStr
import Derived.Test.YthhpbhpfagoapabGreatJAN
namespace Go.Proofs.YthhpbhpfagoapabGreat
set_option linter.unusedVariables false
set_option linter.unusedSimpArgs false
set_option maxRecDepth 100000
set_option maxHeartbeats 16000000
section
open Go.RowKit
theorem Km {W:World} {base n:Nat} {v:Value} {l:List UInt8} (h:W.ownsRow base 5 1 v n (qw l)) :
  Sem.run Tryz.prog (convert 64 9 v) W=.ok (strB l) W:=by
 have hn:l.length=n:=by simpa [qw] using h.1
 rcases h.2 with ⟨rfl,rfl⟩|⟨g,cap,cur,rfl,_⟩
 ·have:l=[]:=List.eq_nil_of_length_eq_zero hn
  subst this
  exact run_convert_bytes_nil (P:=Tryz.prog) W 64 5 Tryz.underlying64 Tryz.underlying5 0 0 9 Tryz.underlying9
 ·exact Du h hn
theorem Ug (parts:List ByteArray) (k:Nat) (h:k < parts.length):(xH (parts.take (k+1))).length=(xH (parts.take k)).length+parts[k].size:=by
 rw [Vl parts k h,List.length_append]
 simp
theorem QH (parts:List ByteArray) (k:Nat):(xH (parts.take k)).length≤(xH parts).length:=by
 have:xH parts=xH (parts.take k)++xH (parts.drop k):=by
  unfold xH
  rw [← List.flatMap_append,List.take_append_drop]
 rw [this,List.length_append]
 omega
theorem AI (s:ByteArray):Lib.strCells s=qw s.data.toList:=rfl
theorem Xl (a b:List UInt8):qw (a++b)=qw a++qw b:=by simp [qw]
theorem MI {w wr w2:World} {v v':Value} {n:Nat} {l:List UInt8} {s:ByteArray} (hB:Below w.heap.size w wr) (hown:wr.ownsRow w.heap.size 5 1 v n (qw l))
  (hown2:w2.ownsRow w.heap.size 5 1 v' (n+s.size) (qw l++Lib.strCells s)) (hgr:wr.grownBy w2 v.ownBlock) :
  w2.ownsRow w.heap.size 5 1 v' (n+s.size) (qw (l++s.data.toList))∧Below w.heap.size w w2:=by
 rw [Xl,← AI]
 exact ⟨hown2,hB.grown hgr hB.size (fun k hk=>(hown.lt k hk).1)⟩
theorem DI (parts:List ByteArray) (b cap:Nat) (w:World) (hn:parts.length≤1000) (hs:(xH parts).length≤1000000) (hb:b < w.heap.size)
  (hc:∀ j (h:j < parts.length),w.cell? ⟨b,j,none⟩=some (.string parts[j])) :
  Calls Tryz.prog 93 #[.slice (some ⟨b,0,none⟩) parts.length cap] w fun e w'=>e=.returned (strB (xH parts))∧Below w.heap.size w w':=by
 obtain ⟨i0,hi,hz0,hz1,hz2⟩:=info_parts Tryz.infoU8
 have Hc:=hid hc
 clear hc
 go_enter Tryz.func93,Tryz.ntmps93
 go_wp2
 go_loop [3,11] (fun t i=>∃ k:Nat,k≤parts.length∧i=.int .i64 k∧t=.int .i64 ((xH (parts.take k)).length:Int)) (fun _ i=>parts.length - (intOf i).toNat)
 case atStart=>exact ⟨0,Nat.zero_le _,rfl,rfl⟩
 case round =>
  obtain ⟨k,hk,rfl,rfl⟩:=hrel
  by_cases hlt:k < parts.length
  ·have hck:=Hc.out k hlt
   have hm1:=QH parts k
   have hm2:=QH parts (k+1)
   have hm3:=Ug parts k hlt
   have HS:=hid hm3
   have hm4:(parts[k]'hlt).size≤1000000:=by omega
   clear hm2 hm3
   generalize (xH (parts.take k)).length=m0 at *
   generalize (parts[k]'hlt)=part at *
   go_wp2
   go_round
   case rel=>exact ⟨k+1,by omega,by go_num,by rw [HS.out];go_num⟩
   case measure=>simp [intOf];omega
  ·have hke:k=parts.length:=by omega
   subst hke
   rw [List.take_length]
   generalize hL:(xH parts).length=L at *
   have HL:=hid hL
   clear hL
   go_wp2_with (at_make;refine wpList_make_own _ rfl (.const (.int .i64 0)) (.tmp 20) 64 rfl w.heap.size 5 i0 (.int .u8 0) 1 Tryz.underlying64 hi hz0 hz1 .i64 .i64 _ L rfl rfl rfl (by rw [hz2];omega) (by unfold maxLen;omega) (Nat.le_refl _) ?_;intro w3 hown hgr)
   have hB3:Below w.heap.size w w3:=(Below.refl _ _).grown hgr (Nat.le_refl _) (fun _ h=>by cases h)
   clear hgr
   go_loopw [6,24] (fun v i wr=>∃ k:Nat,k≤parts.length∧i=.int .i64 k∧wr.ownsRow w.heap.size 5 1 v (xH (parts.take k)).length (qw (xH (parts.take k)))∧Below w.heap.size w wr)
    (fun _ i _=>parts.length - (intOf i).toNat)
   case atStart=>exact ⟨0,Nat.zero_le _,rfl,hown,hB3⟩
   case round =>
    clear hown hB3
    obtain ⟨k,hk,rfl,hown,hB⟩:=hrel
    by_cases hlt:k < parts.length
    ·have hck:wr.cell? ⟨b,k,none⟩=some (.string (parts[k]'hlt)):=(hB.cell (p:=⟨b,k,none⟩) hb).trans (Hc.out k hlt)
     have hm1:=QH parts k
     have hm2:=QH parts (k+1)
     have hm3:=Ug parts k hlt
     have HS:=hid hm3
     have HF:=hid (Vl parts k hlt)
     have hLe:=HL.out
     have hm4:(xH (parts.take k)).length+(parts[k]'hlt).size≤1000000:=by omega
     clear hm2 hm3 hLe
     generalize xH (parts.take k)=l0 at *
     generalize (parts[k]'hlt)=part at *
     go_wp2_with (at_builtin;refine Lib.wpList_append_own_string _ rfl (.tmp 28) (.tmp 29) 64 9 rfl w.heap.size 5 i0 Tryz.underlying64 Tryz.underlying9 hi hz0 hz1 hz2 _ _ _ rfl hown part rfl (by unfold maxLen;omega) (by omega) hB.size ?_;intro v2 w2 hown2 hgr2 _)
     have HR:=hid (MI hB hown hown2 hgr2)
     clear hown hown2 hgr2 hB hck
     go_wp2
     go_roundw
     case rel=>exact ⟨k+1,by omega,by go_num,by rw [HS.out,HF.out];exact HR.out.1,HR.out.2⟩
     case measure=>simp [intOf];omega
    ·have hke:k=parts.length:=by omega
     subst hke
     rw [List.take_length] at hown
     have hcv:=Km hown
     go_wp2
     go_ret
     exact ⟨rfl,hB⟩
end
section
structure ColB where
 name:List UInt8
 kind:Int
 key:Int
 cells:List CellB
structure KeyB where
 number:Int
 secret:List UInt8
structure PlanB where
 group:Int
 page:Int
 foot:Int
 told:Bool
structure JobB where
 table:List ColB
 plan:PlanB
 pre:List UInt8
 draw:Int
structure SealB where
 secret:List UInt8
 nonce:List UInt8
 extra:List UInt8
 body:List UInt8
def zG (s:List UInt8):Bool:=s.all (fun b=>decide (97≤b.toNat) && decide (b.toNat≤122)) && (decide (1≤s.length) && decide (s.length≤8))
def QL (c:ColB):Bool:=zG c.name && ((decide (0≤c.kind) && decide (c.kind≤1)) && (decide (0≤c.key) && decide (c.key≤9)))
def zf (t:List ColB) (s:List UInt8):Bool:=t.any fun c=>c.name == s
def Jl (t:List ColB):Nat→Bool
 | 0=>true
 | k+1=>Jl t k && (match t[k]? with|some c=>QL c && !zf (t.take k) c.name|none=>true)
def jX (t:List ColB):Bool:=Jl t t.length && (decide (1≤t.length) && decide (t.length≤6))
def qb:List ColB→Nat
 | []=>0
 | c :: _=>c.cells.length
def xy (t:List ColB):Bool:=jX t && t.all fun c=>qC c.kind c.cells && decide (c.cells.length=qb t)
def qM (p:PlanB):Bool:=(decide (1≤p.group) && decide (p.group≤60)) && ((decide (1≤p.page) && decide (p.page≤60)) && (decide (1≤p.foot) && decide (p.foot≤9)))
def jw (r:List KeyB) (n:Int):Bool:=r.any fun k=>decide (k.number=n)
def Xh (k:KeyB):Bool:=(decide (1≤k.number) && decide (k.number≤9)) && decide (k.secret.length=8)
def XX (r:List KeyB):Nat→Bool
 | 0=>true
 | k+1=>XX r k && (match r[k]? with|some c=>Xh c && !jw (r.take k) c.number|none=>true)
def xI (r:List KeyB):Bool:=XX r r.length
def KW (r:List KeyB) (n:Int):Option (List UInt8):=(r.find? fun k=>decide (k.number=n)).map (·.secret)
def ji (r:List KeyB) (n:Int):List UInt8:=(KW r n).getD []
def KC (j:JobB) (r:List KeyB):Bool:=!jw r j.plan.foot || j.table.any fun c=>decide (0 < c.key) && !jw r c.key
def zH (j:JobB) (r:List KeyB):Int :=
 if xy j.table=false then 5
 else if (qM j.plan && (decide (j.pre.length≤20) && (decide (0≤j.draw) && decide (j.draw≤65535))))=false then 7
 else if xI r=false then 1
 else if KC j r=true then 8 else 0
def jR (pre:List UInt8) (sort:UInt8) (g c p:Nat):List UInt8:=xB pre++[sort]++qz (g:Int)++qz (c:Int)++qz (p:Int)
def jp (n size i:Nat):Nat:=min size (n - i*size)
def jY (n size:Nat):Nat:=(n+size - 1) / size
structure SpotB where
 sort:UInt8
 g:Nat
 c:Nat
 p:Nat
 start:Nat
 many:Nat
def jt (P g c start n:Nat) (k:Nat):List SpotB:=(List.range k).map fun p=>⟨80,g,c,p,start+p*P,jp n P p⟩
def jh (R G P g c:Nat):List SpotB:=jt P g c (g*G) (jp R G g) (jY (jp R G g) P)++[⟨77,g,c,0,g*G,jp R G g⟩]
def jr (R G P g C:Nat):List SpotB:=(List.range C).flatMap fun c=>jh R G P g c
def jH (R C G P n:Nat):List SpotB:=(List.range n).flatMap fun g=>jr R G P g C
def qm (R C G P:Nat):List SpotB:=jH R C G P (jY R G)
def QM (l:List CellB):Int→Int:=fun x=>l.foldl (fun m c=>if c.int < m then c.int else m) x
def ZI (l:List CellB):Int→Int:=fun x=>l.foldl (fun m c=>if m < c.int then c.int else m) x
def qT:List CellB→Int
 | []=>0
 | c :: _=>c.int
def Qv (kind:Int) (l:List CellB):List UInt8 :=
 uB (l.length - (jm l).length)++if kind=0∧jm l≠[] then [1]++zB (QM (jm l) (qT (jm l)))++zB (ZI (jm l) (qT (jm l))) else [0]
def jf (t:List ColB) (c:Nat):ColB:=t.getD c ⟨[],0,0,[]⟩
def qS (t:List ColB) (s:SpotB):List UInt8 :=
 if s.sort=77 then Qv (jf t s.c).kind (((jf t s.c).cells.drop s.start).take s.many) else xN (jf t s.c).kind (((jf t s.c).cells.drop s.start).take s.many)
structure StB where
 out:List UInt8
 log:List SealB
def zU (plain:List UInt8) (st:StB):StB:=⟨st.out++(qz (plain.length:Int)++plain),st.log⟩
def xo (draw:Int) (n:Nat):List UInt8:=qz draw++qz (n:Int)
def zx (draw:Int) (secret extra plain:List UInt8) (st:StB):StB :=
 ⟨st.out++(qz ((za secret (xo draw st.log.length) extra plain).length:Int)++(xo draw st.log.length++za secret (xo draw st.log.length) extra plain)),
  st.log++[⟨secret,xo draw st.log.length,extra,za secret (xo draw st.log.length) extra plain⟩]⟩
def QA (j:JobB) (r:List KeyB) (key:Int) (sort:UInt8) (g c p:Nat) (plain:List UInt8) (st:StB):StB :=
 if key=0 then zU plain st else zx j.draw (ji r key) (jR j.pre sort g c p) plain st
def zM (j:JobB) (r:List KeyB) (st:StB) (s:SpotB):StB:=QA j r (jf j.table s.c).key s.sort s.g s.c s.p (qS j.table s) st
def qA (j:JobB) (r:List KeyB) (st:StB) (l:List SpotB):StB:=l.foldl (zM j r) st
def xS (b:Bool):List SpotB→Bool
 | []=>b
 | s :: l=>xS (decide (s.sort=77)) l
def qP (j:JobB) (r:List KeyB):StB→Bool→List SpotB→List Nat
 | st,b,[]=>[]
 | st,b,s :: l=>(if b=true then [st.out.length] else [])++qP j r (zM j r st s) (decide (s.sort=77)) l
def jZ (c:ColB):List UInt8:=xB c.name++uB c.kind.toNat++uB c.key.toNat
def qn (rows:Nat) (p:PlanB) (t:List ColB) (places:List Nat):List UInt8 :=
 uB rows++uB p.group.toNat++uB p.page.toNat++uB p.foot.toNat++uB t.length++t.flatMap jZ++places.flatMap uB
def zw (p:PlanB):List UInt8:=[67,70]++[if p.told=true then 79 else 69]++[byB p.foot]
def qG (j:JobB):List SpotB:=qm (qb j.table) j.table.length j.plan.group.toNat j.plan.page.toNat
def xC (j:JobB) (r:List KeyB):StB:=qA j r ⟨zw j.plan,[]⟩ (qG j)
def zI (j:JobB) (r:List KeyB):List Nat:=qP j r ⟨zw j.plan,[]⟩ true (qG j)
def xZ (j:JobB) (r:List KeyB):List UInt8:=qn (qb j.table) j.plan j.table (zI j r)
def Jb (j:JobB) (r:List KeyB) (f:List UInt8) (st:StB):StB :=
 if j.plan.told=true then zx j.draw (ji r j.plan.foot) (jR j.pre 83 0 0 0++f) [] (zU f st)
 else zx j.draw (ji r j.plan.foot) (jR j.pre 70 0 0 0) f st
def zr (j:JobB) (r:List KeyB):List UInt8 :=
 (Jb j r (xZ j r) (xC j r)).out++(qz (((Jb j r (xZ j r) (xC j r)).out.length - (xC j r).out.length:Nat):Int)++[67,70])
def Jg (j:JobB) (r:List KeyB):List SealB:=(Jb j r (xZ j r) (xC j r)).log
/- The laws of these. -/
theorem Jp (l m:List SpotB):∀ b,xS b (l++m)=xS (xS b l) m:=by
 induction l with
 | nil=>intro b;rfl
 | cons s l ih=>intro b;simp only [List.cons_append,xS];exact ih _
theorem XY (j:JobB) (r:List KeyB) (st:StB) (l m:List SpotB):qA j r st (l++m)=qA j r (qA j r st l) m:=by
 unfold qA;rw [List.foldl_append]
theorem zW (j:JobB) (r:List KeyB) (l m:List SpotB):∀ st b,qP j r st b (l++m)=qP j r st b l++qP j r (qA j r st l) (xS b l) m:=by
 induction l with
 | nil=>intro st b;rfl
 | cons s l ih =>
  intro st b
  simp only [List.cons_append,qP,xS,List.append_assoc]
  rw [ih]
  rfl
theorem Is (j:JobB) (r:List KeyB) (l:List SpotB) (h:∀ s ∈ l,s.sort=80):∀ st,qP j r st false l=[]:=by
 induction l with
 | nil=>intro st;rfl
 | cons s l ih =>
  intro st
  have h1:=h s (List.mem_cons_self ..)
  simp only [qP,h1]
  exact ih (fun x hx=>h x (List.mem_cons_of_mem _ hx)) _
theorem Ur (l:List SpotB) (h:∀ s ∈ l,s.sort=80):l≠[]→∀ b,xS b l=false:=by
 induction l with
 | nil=>intro h0;exact absurd rfl h0
 | cons s l ih =>
  intro _ b
  have h1:=h s (List.mem_cons_self ..)
  simp only [xS,h1]
  by_cases hl:l=[]
  ·subst hl;rfl
  ·exact ih (fun x hx=>h x (List.mem_cons_of_mem _ hx)) hl _
theorem Zd (P g c start n k:Nat):∀ s ∈ jt P g c start n k,s.sort=80:=by
 intro s hs
 simp only [jt,List.mem_map] at hs
 obtain ⟨p,_,rfl⟩:=hs
 rfl
theorem VF (j:JobB) (r:List KeyB) (st:StB) (R G P g c:Nat):qP j r st true (jh R G P g c)=[st.out.length]:=by
 unfold jh
 have hs:=Zd P g c (g*G) (jp R G g) (jY (jp R G g) P)
 generalize jt P g c (g*G) (jp R G g) (jY (jp R G g) P)=L at *
 cases L with
 | nil=>simp [qP]
 | cons s l =>
  have h1:=hs s (List.mem_cons_self ..)
  have hl:∀ x ∈ l,x.sort=80:=fun x hx=>hs x (List.mem_cons_of_mem _ hx)
  simp only [List.cons_append,qP,h1,if_true]
  rw [zW]
  have e1:(decide ((80:UInt8)=77))=false:=by decide
  rw [e1,Is j r l hl]
  have e2:xS false l=false:=by
   by_cases h0:l=[]
   ·subst h0;rfl
   ·exact Ur l hl h0 _
  rw [e2]
  simp [qP]
theorem NT (b:Bool) (R G P g c:Nat):xS b (jh R G P g c)=true:=by
 unfold jh
 rw [Jp]
 rfl
theorem QB (R G P g C:Nat):xS true (jr R G P g C)=true:=by
 unfold jr
 induction C with
 | zero=>rfl
 | succ C ih=>rw [List.range_succ,List.flatMap_append,Jp,ih];simp only [List.flatMap_cons,List.flatMap_nil,List.append_nil];exact NT _ _ _ _ _ _
theorem ZJ (R C G P n:Nat):xS true (jH R C G P n)=true:=by
 unfold jH
 induction n with
 | zero=>rfl
 | succ n ih=>rw [List.range_succ,List.flatMap_append,Jp,ih];simp only [List.flatMap_cons,List.flatMap_nil,List.append_nil];exact QB _ _ _ _ _
theorem zL (R G P g C:Nat):jr R G P g (C+1)=jr R G P g C++jh R G P g C:=by
 unfold jr;rw [List.range_succ,List.flatMap_append];simp
theorem zK (R C G P n:Nat):jH R C G P (n+1)=jH R C G P n++jr R G P n C:=by
 unfold jH;rw [List.range_succ,List.flatMap_append];simp
theorem Qs (P g c start n k:Nat):jt P g c start n (k+1)=jt P g c start n k++[⟨80,g,c,k,start+k*P,jp n P k⟩]:=by
 unfold jt;rw [List.range_succ,List.map_append];rfl
theorem Ju {n size i:Nat} (hs:1≤size):i < jY n size ↔ i*size < n:=by
 unfold jY
 rw [Nat.lt_div_iff_mul_lt (by omega)]
 constructor<;>intro h<;>omega
theorem Ql {n size:Nat} (hs:1≤size):jY n size≤n:=by
 rcases Nat.lt_or_ge n (jY n size) with h|h
 ·have h2:=(Ju (n:=n) (i:=n) hs).1 h
  have:n*1≤n*size:=Nat.mul_le_mul (Nat.le_refl _) hs
  omega
 ·exact h
theorem Jy (n size i:Nat):jp n size i≤size∧jp n size i≤n:=by unfold jp;omega
theorem XB (n size i:Nat) (h:i*size < n):i*size+jp n size i=min (i*size+size) n:=by unfold jp;omega
theorem Up {n size i:Nat} (hs:1≤size):0 < jp n size i ↔ i*size < n:=by unfold jp;omega
theorem TF (R G P g c:Nat) (hP:1≤P) (hG:G≤60):(jh R G P g c).length≤61:=by
 unfold jh jt
 have h1:=Ql (n:=jp R G g) hP
 have h2:=(Jy R G g).1
 simp;omega
theorem YS (R G P g C:Nat) (hP:1≤P) (hG:G≤60):(jr R G P g C).length≤61*C:=by
 induction C with
 | zero=>simp [jr]
 | succ C ih=>have:=TF R G P g C hP hG;rw [zL,List.length_append];omega
theorem Ea (R C G P n:Nat) (hP:1≤P) (hG:G≤60) (hC:C≤6):(jH R C G P n).length≤366*n:=by
 induction n with
 | zero=>simp [jH]
 | succ n ih=>have:=YS R G P n C hP hG;rw [zK,List.length_append];omega
theorem VJ (kind:Int) (v:List CellB) (k:Nat):(jQ kind v (k+1)).length≤(Xz (ZW kind 0) v).length:=by
 induction k with
 | zero=>simp [jQ]
 | succ k ih =>
  rw [jQ]
  split
  ·rename_i h
   rcases h with h|h
   ·omega
   ·omega
  ·exact ih
theorem LD (kind:Int) (l:List CellB) (h:∀ c ∈ l,qF c) (hn:l.length≤60):(xN kind l).length≤3500:=by
 have h1:=UM l hn
 have hv:(jm l).length≤60:=Nat.le_trans (List.length_filter_le ..) hn
 have hs:∀ c ∈ jm l,qF c:=fun c hc=>h c (List.mem_filter.1 hc).1
 have h2:(jQ kind (jm l) 3).length≤_:=VJ kind (jm l) 2
 have h3:(Xz (ZW kind 0) (jm l)).length≤2401:=by
  have h4:=zD (ZW kind 0) (jm l) hs hv (jm l).length
  have h5:ZW kind 0≠3:=by unfold ZW;split<;>simp
  simp only [Xz,qL,if_neg h5,List.length_cons,List.nil_append]
  omega
 unfold xN
 split
 ·omega
 ·rw [List.length_append];omega
theorem Ui (l:List CellB) (h:∀ c ∈ l,qF c):∀ x:Int,(-9223372036854775808≤x∧x≤9223372036854775807)→-9223372036854775808≤QM l x∧QM l x≤9223372036854775807:=by
 induction l with
 | nil=>intro x hx;exact hx
 | cons c l ih =>
  intro x hx
  obtain ⟨c0,c1,_⟩:=h c (List.mem_cons_self ..)
  refine ih (fun y hy=>h y (List.mem_cons_of_mem _ hy)) _ ?_
  dsimp only
  split<;>omega
theorem Vp (l:List CellB) (h:∀ c ∈ l,qF c):∀ x:Int,(-9223372036854775808≤x∧x≤9223372036854775807)→-9223372036854775808≤ZI l x∧ZI l x≤9223372036854775807:=by
 induction l with
 | nil=>intro x hx;exact hx
 | cons c l ih =>
  intro x hx
  obtain ⟨c0,c1,_⟩:=h c (List.mem_cons_self ..)
  refine ih (fun y hy=>h y (List.mem_cons_of_mem _ hy)) _ ?_
  dsimp only
  split<;>omega
theorem Qz (l:List CellB) (h:∀ c ∈ l,qF c):-9223372036854775808≤qT l∧qT l≤9223372036854775807:=by
 cases l with
 | nil=>simp [qT]
 | cons c l=>obtain ⟨c0,c1,_⟩:=h c (List.mem_cons_self ..);exact ⟨c0,c1⟩
theorem Dj (kind:Int) (l:List CellB) (h:∀ c ∈ l,qF c) (hn:l.length≤60):(Qv kind l).length≤40:=by
 have hs:∀ c ∈ jm l,qF c:=fun c hc=>h c (List.mem_filter.1 hc).1
 have h1:=qa (l.length - (jm l).length) (by omega)
 have hf:=Qz _ hs
 obtain ⟨a0,a1⟩:=Ui _ hs _ hf
 obtain ⟨b0,b1⟩:=Vp _ hs _ hf
 have h2:=Gi _ a0 a1
 have h3:=Gi _ b0 b1
 unfold Qv
 rw [List.length_append]
 split
 ·simp only [List.length_append,List.length_cons,List.length_nil];omega
 ·simp only [List.length_cons,List.length_nil];omega
theorem JO (pre:List UInt8) (sort:UInt8) (g c p:Nat) (h:pre.length≤20):(jR pre sort g c p).length≤40:=by
 have:=qa pre.length (by omega)
 simp only [jR,xB,List.length_append,jx,List.length_cons,List.length_nil];omega
structure SpotIn (t:List ColB) (s:SpotB):Prop where
 sort:s.sort=80∨s.sort=77
 col:s.c < t.length
 rows:s.start+s.many≤qb t
 few:s.g < 60∧s.c < 60∧s.p < 60∧s.start < 60∧s.many≤60
theorem Tb {t:List ColB} {R G P g c k:Nat} (hR:R=qb t) (hr:R≤60) (hG:1≤G) (hP:1≤P) (hG6:G≤60) (hc:c < t.length) (hC:t.length≤6) (hg:g*G < R) (hk:k*P < jp R G g) :
  SpotIn t ⟨80,g,c,k,g*G+k*P,jp (jp R G g) P k⟩:=by
 have h1:g*1≤g*G:=Nat.mul_le_mul (Nat.le_refl _) hG
 have h2:k*1≤k*P:=Nat.mul_le_mul (Nat.le_refl _) hP
 have h3:=XB R G g hg
 have h4:=XB (jp R G g) P k hk
 have h5:=Jy R G g
 refine ⟨.inl rfl,hc,?_,?_,?_,?_,?_,?_⟩<;>simp only<;>omega
theorem Bh {t:List ColB} {R G g c:Nat} (hR:R=qb t) (hr:R≤60) (hG:1≤G) (hG6:G≤60) (hc:c < t.length) (hC:t.length≤6) (hg:g*G < R) :
  SpotIn t ⟨77,g,c,0,g*G,jp R G g⟩:=by
 have h1:g*1≤g*G:=Nat.mul_le_mul (Nat.le_refl _) hG
 have h3:=XB R G g hg
 have h5:=Jy R G g
 refine ⟨.inr rfl,hc,?_,?_,?_,?_,?_,?_⟩<;>simp only<;>omega
theorem SA {t:List ColB} {R G P g c:Nat} (hR:R=qb t) (hr:R≤60) (hG:1≤G) (hP:1≤P) (hG6:G≤60) (hc:c < t.length) (hC:t.length≤6) (hg:g*G < R) :
  ∀ s ∈ jh R G P g c,SpotIn t s:=by
 intro s hs
 rcases List.mem_append.1 hs with hs|hs
 ·simp only [jt,List.mem_map,List.mem_range] at hs
  obtain ⟨k,hk,rfl⟩:=hs
  exact Tb hR hr hG hP hG6 hc hC hg ((Ju hP).1 hk)
 ·simp only [List.mem_cons,List.not_mem_nil,or_false] at hs
  subst hs
  exact Bh hR hr hG hG6 hc hC hg
theorem Ls {t:List ColB} {R G P:Nat} (hR:R=qb t) (hr:R≤60) (hG:1≤G) (hP:1≤P) (hG6:G≤60) (hC:t.length≤6) :
  ∀ s ∈ qm R t.length G P,SpotIn t s:=by
 intro s hs
 simp only [qm,jH,jr,List.mem_flatMap,List.mem_range] at hs
 obtain ⟨g,hg,c,hc,hs⟩:=hs
 exact SA hR hr hG hP hG6 hc hC ((Ju hG).1 hg) s hs
theorem Ga {t:List ColB} (h:xy t=true):(1≤t.length∧t.length≤6)∧∀ c ∈ t,qC c.kind c.cells=true∧c.cells.length=qb t:=by
 simp only [xy,jX,Bool.and_eq_true,decide_eq_true_eq,List.all_eq_true] at h
 exact ⟨h.1.2,h.2⟩
theorem JF {t:List ColB} {n:Nat} (h:Jl t n=true) (hn:n≤t.length):∀ k (hk:k < n),QL (t[k]'(by omega))=true∧zf (t.take k) (t[k]'(by omega)).name=false:=by
 induction n with
 | zero=>intro k hk;omega
 | succ n ih =>
  intro k hk
  simp only [Jl,Bool.and_eq_true] at h
  rcases Nat.lt_or_ge k n with hkn|hkn
  ·exact ih h.1 (by omega) k hkn
  ·have:k=n:=by omega
   subst this
   have h2:=h.2
   rw [List.getElem?_eq_getElem (by omega)] at h2
   simpa using h2
theorem Qi {c:ColB} (h:QL c=true):zG c.name=true∧(c.kind=0∨c.kind=1)∧0≤c.key∧c.key≤9:=by
 simp only [QL,Bool.and_eq_true,decide_eq_true_eq] at h
 exact ⟨h.1,by omega,h.2.2.1,h.2.2.2⟩
theorem Ku {s:List UInt8} (h:zG s=true):1≤s.length∧s.length≤8:=by
 simp only [zG,Bool.and_eq_true,decide_eq_true_eq] at h
 exact h.2
structure GoodT (t:List ColB):Prop where
 ok:xy t=true
 fits:∀ c ∈ t,∀ x ∈ c.cells,-9223372036854775808≤x.int∧x.int≤9223372036854775807
theorem GoodT.few {t:List ColB} (h:GoodT t):1≤t.length∧t.length≤6:=(Ga h.ok).1
theorem GoodT.head {t:List ColB} (h:GoodT t) (c:Nat) (hc:c < t.length):zG (t[c]).name=true∧((t[c]).kind=0∨(t[c]).kind=1)∧0≤(t[c]).key∧(t[c]).key≤9:=by
 have h1:=h.ok
 simp only [xy,jX,Bool.and_eq_true] at h1
 exact Qi (JF h1.1.1 (Nat.le_refl _) c hc).1
theorem GoodT.cells {t:List ColB} (h:GoodT t) (c:Nat) (hc:c < t.length):(t[c]).cells.length=qb t∧(t[c]).cells.length≤60∧∀ x ∈ (t[c]).cells,qF x:=by
 obtain ⟨h1,h2⟩:=(Ga h.ok).2 t[c] (List.getElem_mem hc)
 have hf:=h.fits t[c] (List.getElem_mem hc)
 simp only [qC,Bool.and_eq_true,Bool.or_eq_true,decide_eq_true_eq,List.all_eq_true] at h1
 refine ⟨h2,h1.1.2,fun x hx=>⟨(hf x hx).1,(hf x hx).2,?_⟩⟩
 have:=h1.2 x hx
 unfold xh at this
 split at this
 ·simp at this;rw [this.2];simp
 ·split at this
  ·simp at this;rw [this];simp
  ·simp at this;exact this.2
theorem GoodT.rows {t:List ColB} (h:GoodT t):qb t≤60:=by
 obtain ⟨h1,_⟩:=h.few
 have h2:=h.cells 0 (by omega)
 omega
theorem xz {t:List ColB} {c:Nat} (h:c < t.length):jf t c=t[c]:=by simp [jf,h]
theorem UD {t:List ColB} (h:GoodT t) {s:SpotB} (hs:s.c < t.length) (hm:s.many≤60):(qS t s).length≤3500:=by
 obtain ⟨_,_,h3⟩:=h.cells s.c hs
 have hsm:∀ x ∈ ((jf t s.c).cells.drop s.start).take s.many,qF x:=by
  rw [xz hs]
  exact fun x hx=>h3 x (List.mem_of_mem_drop (List.mem_of_mem_take hx))
 have hl:(((jf t s.c).cells.drop s.start).take s.many).length≤60:=by rw [List.length_take];omega
 unfold qS
 split
 ·have:=Dj (jf t s.c).kind _ hsm hl;omega
 ·exact LD _ _ hsm hl
theorem VR (plain:List UInt8) (st:StB):(zU plain st).out.length=st.out.length+plain.length+2:=by
 simp only [zU,List.length_append,jx];omega
theorem GA (d:Int) (n:Nat):(xo d n).length=4:=rfl
theorem QD (d:Int) (s e p:List UInt8) (st:StB):(zx d s e p st).out.length=st.out.length+p.length+8∧(zx d s e p st).log.length=st.log.length+1:=by
 refine ⟨?_,by simp [zx]⟩
 simp only [zx,List.length_append,jx,GA,zc]
 omega
theorem EY (j:JobB) (r:List KeyB) (key:Int) (sort:UInt8) (g c p:Nat) (plain:List UInt8) (st:StB) :
  (QA j r key sort g c p plain st).out.length≤st.out.length+plain.length+8∧(QA j r key sort g c p plain st).log.length≤st.log.length+1:=by
 unfold QA
 split
 ·rw [VR];simp only [zU];omega
 ·have:=QD j.draw (ji r key) (jR j.pre sort g c p) plain st;omega
theorem Un {j:JobB} {r:List KeyB} (h:GoodT j.table) (l:List SpotB):∀ st:StB,(∀ s ∈ l,s.c < j.table.length∧s.many≤60) →
  (qA j r st l).out.length≤st.out.length+3508*l.length∧(qA j r st l).log.length≤st.log.length+l.length:=by
 induction l with
 | nil=>intro st _;simp [qA]
 | cons s l ih =>
  intro st hl
  obtain ⟨a0,a1⟩:=hl s (List.mem_cons_self ..)
  have h1:=UD h a0 a1
  have h2:=EY j r (jf j.table s.c).key s.sort s.g s.c s.p (qS j.table s) st
  have h3:=ih (zM j r st s) (fun x hx=>hl x (List.mem_cons_of_mem _ hx))
  have e:qA j r st (s :: l)=qA j r (zM j r st s) l:=rfl
  rw [e]
  simp only [List.length_cons]
  have e2:zM j r st s=QA j r (jf j.table s.c).key s.sort s.g s.c s.p (qS j.table s) st:=rfl
  rw [← e2] at h2
  omega
theorem Xc (j:JobB) (r:List KeyB) (st:StB) (R G P g C:Nat):(qP j r st true (jr R G P g C)).length=C:=by
 induction C with
 | zero=>rfl
 | succ C ih=>rw [zL,zW,List.length_append,ih,QB,VF];rfl
theorem JZ (j:JobB) (r:List KeyB) (st:StB) (R C G P n:Nat):(qP j r st true (jH R C G P n)).length=n*C:=by
 induction n with
 | zero=>simp [jH,qP]
 | succ n ih=>rw [zK,zW,List.length_append,ih,ZJ,Xc,Nat.succ_mul]
theorem TX {j:JobB} {r:List KeyB} (h:GoodT j.table) (l:List SpotB):∀ (st:StB) (b:Bool),(∀ s ∈ l,s.c < j.table.length∧s.many≤60) →
  ∀ p ∈ qP j r st b l,p≤st.out.length+3508*l.length:=by
 induction l with
 | nil=>intro st b _ p hp;simp [qP] at hp
 | cons s l ih =>
  intro st b hl p hp
  simp only [qP,List.mem_append] at hp
  rcases hp with hp|hp
  ·split at hp
   ·simp only [List.mem_cons,List.not_mem_nil,or_false] at hp;simp only [List.length_cons];omega
   ·simp at hp
  ·obtain ⟨a0,a1⟩:=hl s (List.mem_cons_self ..)
   have h1:=UD h a0 a1
   have h2:=EY j r (jf j.table s.c).key s.sort s.g s.c s.p (qS j.table s) st
   have e2:zM j r st s=QA j r (jf j.table s.c).key s.sort s.g s.c s.p (qS j.table s) st:=rfl
   rw [← e2] at h2
   have:=ih _ _ (fun x hx=>hl x (List.mem_cons_of_mem _ hx)) p hp
   simp only [List.length_cons]
   omega
theorem Ub {α:Type} (f:α→List UInt8) (m:Nat) (l:List α) (h:∀ x ∈ l,(f x).length≤m):(l.flatMap f).length≤m*l.length:=by
 induction l with
 | nil=>simp
 | cons a l ih =>
  have h1:=h a (List.mem_cons_self ..)
  have h2:=ih (fun x hx=>h x (List.mem_cons_of_mem _ hx))
  rw [List.flatMap_cons,List.length_append,List.length_cons,Nat.mul_succ]
  omega
theorem GX {c:ColB} (h:c.name.length≤8) (h1:c.kind=0∨c.kind=1) (h2:0≤c.key∧c.key≤9):(jZ c).length≤38:=by
 have a:=qa c.name.length (by omega)
 have b:=qa c.kind.toNat (by omega)
 have d:=qa c.key.toNat (by omega)
 simp only [jZ,xB,List.length_append];omega
theorem MU {t:List ColB} (h:GoodT t) {p:PlanB} (hp:qM p=true) (places:List Nat) (hl:places.length≤360) (hb:∀ x ∈ places,x < 18446744073709551616):(qn (qb t) p t places).length≤3900:=by
 have h0:=h.rows
 obtain ⟨_,h6⟩:=h.few
 have hc:∀ c ∈ t,(jZ c).length≤38:=by
  intro c hc
  obtain ⟨k,hk,rfl⟩:=List.mem_iff_getElem.1 hc
  obtain ⟨a,b,d⟩:=h.head k hk
  exact GX (Ku a).2 b d
 have h1:=Ub jZ 38 t hc
 have h2:=Ub uB 10 places (fun x hx=>qa x (hb x hx))
 simp only [qM,Bool.and_eq_true,decide_eq_true_eq] at hp
 have a:=qa (qb t) (by omega)
 have b:=qa p.group.toNat (by omega)
 have d:=qa p.page.toNat (by omega)
 have e:=qa p.foot.toNat (by omega)
 have f:=qa t.length (by omega)
 simp only [qn,List.length_append]
 omega
structure GoodJ (j:JobB) (r:List KeyB):Prop where
 table:GoodT j.table
 plan:qM j.plan=true
 pre:j.pre.length≤20
 draw:0≤j.draw∧j.draw≤65535
 ring:xI r=true
 has:KC j r=false
theorem GoodJ.sizes {j:JobB} {r:List KeyB} (h:GoodJ j r):(1≤j.plan.group.toNat∧j.plan.group.toNat≤60)∧(1≤j.plan.page.toNat∧j.plan.page.toNat≤60)∧1≤j.plan.foot∧j.plan.foot≤9:=by
 have hp:=h.plan
 simp only [qM,Bool.and_eq_true,decide_eq_true_eq] at hp
 exact ⟨⟨by omega,by omega⟩,⟨by omega,by omega⟩,by omega,by omega⟩
theorem GoodJ.spotIn {j:JobB} {r:List KeyB} (h:GoodJ j r):∀ s ∈ qG j,SpotIn j.table s:=by
 obtain ⟨⟨a,b⟩,⟨c,d⟩,_⟩:=h.sizes
 exact Ls rfl h.table.rows a c b h.table.few.2
theorem GoodJ.spotLen {j:JobB} {r:List KeyB} (h:GoodJ j r):(qG j).length≤21960:=by
 obtain ⟨⟨a,b⟩,⟨c,d⟩,_⟩:=h.sizes
 have h1:=Ea (qb j.table) j.table.length j.plan.group.toNat j.plan.page.toNat (jY (qb j.table) j.plan.group.toNat) c b h.table.few.2
 have h2:=Ql (n:=qb j.table) a
 have h3:=h.table.rows
 unfold qG qm
 omega
theorem GoodJ.foot {j:JobB} {r:List KeyB} (h:GoodJ j r):(zI j r).length≤360∧(∀ x ∈ zI j r,x≤80000000)∧(xZ j r).length≤3900:=by
 obtain ⟨⟨a,b⟩,⟨c,d⟩,_⟩:=h.sizes
 have h1:=JZ j r ⟨zw j.plan,[]⟩ (qb j.table) j.table.length j.plan.group.toNat j.plan.page.toNat (jY (qb j.table) j.plan.group.toNat)
 have h2:=Ql (n:=qb j.table) a
 have h3:=h.table.rows
 have h4:=h.table.few.2
 have h5:jY (qb j.table) j.plan.group.toNat*j.table.length≤60*6:=Nat.mul_le_mul (by omega) h4
 have hl:(zI j r).length≤360:=by
  unfold zI qG qm
  omega
 have h6:=TX (r:=r) h.table (qG j) ⟨zw j.plan,[]⟩ true (fun s hs=>⟨(h.spotIn s hs).col,(h.spotIn s hs).few.2.2.2.2⟩)
 have h7:=h.spotLen
 have h8:(zw j.plan).length=4:=rfl
 have hb:∀ x ∈ zI j r,x≤80000000:=by
  intro x hx
  have:=h6 x hx
  simp only [h8] at this
  omega
 exact ⟨hl,hb,MU h.table h.plan _ hl (fun x hx=>by have:=hb x hx;omega)⟩
theorem GoodJ.body {j:JobB} {r:List KeyB} (h:GoodJ j r) (n:Nat):(qA j r ⟨zw j.plan,[]⟩ ((qG j).take n)).out.length≤80000000∧(qA j r ⟨zw j.plan,[]⟩ ((qG j).take n)).log.length≤21960:=by
 have h6:=Un (r:=r) h.table ((qG j).take n) ⟨zw j.plan,[]⟩ (fun s hs=>⟨(h.spotIn s (List.mem_of_mem_take hs)).col,(h.spotIn s (List.mem_of_mem_take hs)).few.2.2.2.2⟩)
 have h7:=h.spotLen
 have h8:(zw j.plan).length=4:=rfl
 have h9:((qG j).take n).length≤(qG j).length:=by rw [List.length_take];omega
 simp only [h8,List.length_nil] at h6
 omega
end
end Go.Proofs.YthhpbhpfagoapabGreat
