import Derived.Test.YthhpbhpfagoapabGreatKJob
import Derived.Test.YthhpbhpfagoapabGreatJAM
import Derived.Deep.RegionHeld3
import Derived.Deep.CutBlock
namespace Go.Proofs.YthhpbhpfagoapabGreat
set_option linter.unusedVariables false
set_option linter.unusedSimpArgs false
set_option maxRecDepth 100000
set_option maxHeartbeats 16000000
open Go.RowKit
theorem XK {w w':World} {q:Nat} {o:Obj} (hb:Below w.heap.size w w') (h:w.heap[q]?=some o):w'.heap[q]?=some o :=
 (hb.block q (Array.getElem?_eq_some_iff.1 h).1).trans h
theorem XP {w:World} {g:Nat} {c0 c1 c2 c3 c4 c5 c6:Value} {t:TypeId} (h:w.heap[g]?=some (.cells #[c0,c1,c2,c3,c4,c5,c6] t (0,0))) :
  w.cell? ⟨g,0,none⟩=some c0∧w.cell? ⟨g,1,none⟩=some c1∧w.cell? ⟨g,2,none⟩=some c2∧w.cell? ⟨g,3,none⟩=some c3∧w.cell? ⟨g,4,none⟩=some c4∧w.cell? ⟨g,5,none⟩=some c5∧w.cell? ⟨g,6,none⟩=some c6 :=
 ⟨by rw [jb h];rfl,by rw [jb h];rfl,by rw [jb h];rfl,by rw [jb h];rfl,by rw [jb h];rfl,by rw [jb h];rfl,by rw [jb h];rfl⟩
theorem FP {w:World} {g:Nat} {c0 c1 c2 c3 c4 c5 c6:Value} {t:TypeId} (h:w.heap[g]?=some (.cells #[c0,c1,c2,c3,c4,c5,c6] t (0,0))) (v1 v2 v3 v4:Value) :
  ((((w.setCell ⟨g,1,none⟩ v1).setCell ⟨g,2,none⟩ v2).setCell ⟨g,3,none⟩ v3).setCell ⟨g,4,none⟩ v4).heap[g]?=some (.cells #[c0,v1,v2,v3,v4,c5,c6] t (0,0)):=by
 have h1:=heap_setCell_same w g 1 _ t v1 h
 have h2:=heap_setCell_same _ g 2 _ t v2 h1
 have h3:=heap_setCell_same _ g 3 _ t v3 h2
 have h4:=heap_setCell_same _ g 4 _ t v4 h3
 rw [h4];rfl
theorem MA {w:World} {q:Nat} {g:Nat} (hne:q≠g) {o:Obj} (h:w.heap[q]?=some o) (v1 v2 v3 v4:Value) :
  ((((w.setCell ⟨g,1,none⟩ v1).setCell ⟨g,2,none⟩ v2).setCell ⟨g,3,none⟩ v3).setCell ⟨g,4,none⟩ v4).heap[q]?=some o:=by
 rw [heap_setCell_other _ ⟨g,4,none⟩ q v4 hne,heap_setCell_other _ ⟨g,3,none⟩ q v3 hne,heap_setCell_other _ ⟨g,2,none⟩ q v2 hne,heap_setCell_other _ ⟨g,1,none⟩ q v1 hne]
 exact h
theorem LU {w:World} {o:Obj} {g j:Nat} {v:Value} (h:w.cell? ⟨g,j,none⟩=some v):(w.alloc o).cell? ⟨g,j,none⟩=some v:=by
 have hg:g < w.heap.size:=by
  rcases Nat.lt_or_ge g w.heap.size with h1|h1
  ·exact h1
  ·simp [World.cell?,Array.getElem?_eq_none h1] at h
 exact (((Below.refl w.heap.size w).alloc (Nat.le_refl _) o).cell (p:=⟨g,j,none⟩) hg).trans h
theorem BU {w:World} {g G j:Nat} {v a b c:Value} (hne:g≠G) (h:w.cell? ⟨g,j,none⟩=some v):(((w.setCell ⟨G,0,none⟩ a).setCell ⟨G,1,none⟩ b).setCell ⟨G,2,none⟩ c).cell? ⟨g,j,none⟩=some v:=by
 have e:∀ (w:World) (i:Nat) (x:Value),(w.setCell ⟨G,i,none⟩ x).cell? ⟨g,j,none⟩=w.cell? ⟨g,j,none⟩:=by
  intro w i x
  exact World.cell?_of_block (w:=w) (heap_setCell_other w ⟨G,i,none⟩ g x hne)
 rw [e,e,e];exact h
theorem EH {w w':World} {o:Obj} (h:Below w.heap.size w w'):Below w.heap.size w (w'.alloc o):=h.alloc h.size _
theorem Le (w:World) {w6:World} {x y z:Value} {t:TypeId} (hb:Below (w.alloc (.cells #[x,y,z] t)).drew.heap.size (w.alloc (.cells #[x,y,z] t)).drew w6) :
  w6.cell? ⟨w.heap.size,0,none⟩=some x∧w6.cell? ⟨w.heap.size,1,none⟩=some y∧w6.cell? ⟨w.heap.size,2,none⟩=some z∧w6.frozen? ⟨w.heap.size,0,none⟩=false∧w6.frozen? ⟨w.heap.size,1,none⟩=false∧w6.frozen? ⟨w.heap.size,2,none⟩=false:=by
 have h:w6.heap[w.heap.size]?=some (.cells #[x,y,z] t (0,0)):=(hb.block w.heap.size (by show w.heap.size < (w.alloc _).heap.size;rw [World.size_alloc];exact Nat.lt_succ_self _)).trans (heap_alloc_new w _)
 exact ⟨by rw [jb h];rfl,by rw [jb h];rfl,by rw [jb h];rfl,frozen_of_row w6 _ 0 _ _ h,frozen_of_row w6 _ 1 _ _ h,frozen_of_row w6 _ 2 _ _ h⟩
theorem FR {wr w6:World} (hb:Below wr.drew.heap.size wr.drew w6) (C:Array Value) (t:TypeId) :
  Below wr.heap.size wr (w6.alloc (.cells C t))∧(w6.alloc (.cells C t)).heap[w6.heap.size]?=some (.cells C t (0,0)):=by
 have h0:Below wr.heap.size wr w6:=jl hb
 exact ⟨h0.alloc h0.size _,heap_alloc_new w6 _⟩
theorem Wb {wr w6:World} {x y z:Value} {t:TypeId} (hb:Below (wr.alloc (.cells #[x,y,z] t)).drew.heap.size (wr.alloc (.cells #[x,y,z] t)).drew w6) (a b c:Value) :
  Below wr.heap.size wr (((w6.setCell ⟨wr.heap.size,0,none⟩ a).setCell ⟨wr.heap.size,1,none⟩ b).setCell ⟨wr.heap.size,2,none⟩ c)∧(((w6.setCell ⟨wr.heap.size,0,none⟩ a).setCell ⟨wr.heap.size,1,none⟩ b).setCell ⟨wr.heap.size,2,none⟩ c).heap[wr.heap.size]?=some (.cells #[a,b,c] t (0,0)):=by
 have hb':Below (wr.alloc (.cells #[x,y,z] t)).heap.size (wr.alloc (.cells #[x,y,z] t)) w6:=jl hb
 have h0:Below wr.heap.size wr (wr.alloc (.cells #[x,y,z] t)):=(Below.refl _ _).alloc (Nat.le_refl _) _
 have h1:Below wr.heap.size wr w6:=h0.trans (hb'.mono h0.size)
 have h2:w6.heap[wr.heap.size]?=some (.cells #[x,y,z] t (0,0)):=(hb'.block wr.heap.size (by rw [World.size_alloc];exact Nat.lt_succ_self _)).trans (heap_alloc_new wr _)
 exact ⟨((h1.setCell (p:=⟨wr.heap.size,0,none⟩) (Nat.le_refl _) a).setCell (p:=⟨wr.heap.size,1,none⟩) (Nat.le_refl _) b).setCell (p:=⟨wr.heap.size,2,none⟩) (Nat.le_refl _) c,Hi h2⟩
theorem Jf {w:World} {b e s n:Nat} {u:Value} {xs:List Value} (h:w.ownsRow b e s u n xs):∃ a c,u=.slice a n c:=by
 rcases h.2 with ⟨rfl,rfl⟩|⟨g,cap,cur,rfl,_⟩
 ·exact ⟨none,0,rfl⟩
 ·exact ⟨_,cap,rfl⟩
theorem Ce {wA W7 w8:World} {px m:Nat} {xv v2:Value} {C0 C1 C2:Value} {L:List CellB} {c:CellB} {o:Obj}
  (hX:W7.heap[px]?=some (.cells #[C0,C1,C2,xv] 31 (0,0))) (hB:Below px wA W7) (hown:W7.ownsRow px 34 3 xv m (qx L))
  (hown8:w8.ownsRow px 34 3 v2 (m+1) (qx L++[.bool c.null,.int .i64 c.int,strB c.text])) (hg:(W7.alloc o).grownBy w8 xv.ownBlock) :
  (w8.cell? ⟨px,3,none⟩=some xv∧w8.frozen? ⟨px,3,none⟩=false)∧(w8.setCell ⟨px,3,none⟩ v2).heap[px]?=some (.cells #[C0,C1,C2,v2] 31 (0,0)) ∧
   (w8.setCell ⟨px,3,none⟩ v2).ownsRow px 34 3 v2 (m+1) (qx (L++[c]))∧Below px wA (w8.setCell ⟨px,3,none⟩ v2)∧px < (w8.setCell ⟨px,3,none⟩ v2).heap.size:=by
 have hlt:px < W7.heap.size:=(Array.getElem?_eq_some_iff.1 hX).1
 have hne:some px≠xv.ownBlock:=by
  rcases hown.2 with ⟨rfl,_⟩|⟨g,cap,cur,rfl,_,hg',_⟩
  ·simp [Value.ownBlock]
  ·simp only [Value.ownBlock,ne_eq,Option.some.injEq]
   intro e
   subst e
   rw [hX] at hg'
   simp at hg'
 have h8:w8.heap[px]?=some (.cells #[C0,C1,C2,xv] 31 (0,0)) :=
  (hg.block px (by rw [World.size_alloc];omega) hne).trans ((((Below.refl W7.heap.size W7).alloc (Nat.le_refl _) o).block px hlt).trans hX)
 have hB8:Below px wA w8:=(hB.alloc (by omega) o).grown hg (by rw [World.size_alloc];omega) (fun k hk=>(hown.lt k hk).1)
 have hk:KeptT [31] px w8 (w8.setCell ⟨px,3,none⟩ v2):=(KeptT.refl _ _ _).set h8 (Nat.le_refl _) (by simp) v2
 refine ⟨⟨by rw [jb h8];rfl,frozen_of_row w8 px 3 _ _ h8⟩,by rw [heap_setCell_same w8 px 3 _ _ v2 h8];rfl,?_,hB8.setCell (p:=⟨px,3,none⟩) (Nat.le_refl _) v2,?_⟩
 ·rw [ZX]
  exact hk.owns hown8 (by decide)
 ·have:=(Array.getElem?_eq_some_iff.1 h8).1
  simpa using this
theorem Br {w:World} {g:Nat} {c0 c1 c2 c3:Value} {t:TypeId} (h:w.heap[g]?=some (.cells #[c0,c1,c2,c3] t (0,0))) :
  w.cell? ⟨g,0,none⟩=some c0∧w.cell? ⟨g,1,none⟩=some c1∧w.cell? ⟨g,2,none⟩=some c2∧w.cell? ⟨g,3,none⟩=some c3 :=
 ⟨by rw [jb h];rfl,by rw [jb h];rfl,by rw [jb h];rfl,by rw [jb h];rfl⟩
theorem Xv {P:List (ColB × Value)} {t:List ColB} (h:P.map Prod.fst=t):P.length=t.length:=by rw [← h,List.length_map]
structure RowsT (w:World) (base:Nat) (tv:Value) (P:List (ColB × Value)):Prop where
 table:w.ownsRow base 31 4 tv P.length (Kq P)
 cells:∀ p ∈ P,w.ownsRow base 34 3 p.2 p.1.cells.length (qx p.1.cells)
 apart:∀ i k (hi:i < P.length) (hk:k < P.length),i≠k→(P[i]).2.ownBlock=none∨(P[i]).2.ownBlock≠(P[k]).2.ownBlock
theorem RowsT.keptT {T:List TypeId} {B:Nat} {w w':World} {base:Nat} {tv:Value} {P:List (ColB × Value)} (h:RowsT w base tv P) (hk:KeptT T B w w') (hT:¬ 34 ∈ T) (hT2:¬ 31 ∈ T):RowsT w' base tv P :=
 ⟨hk.owns h.table hT2,fun p hp=>hk.owns (h.cells p hp) hT,h.apart⟩
theorem Ml {W7 w8:World} {pj base k:Nat} {tv tv' C1 C2 C3 C4 C5 C6:Value} {xs:List Value} {o:Obj} (hJ:W7.heap[pj]?=some (.cells #[tv,C1,C2,C3,C4,C5,C6] 27 (0,0))) (hown:W7.ownsRow base 31 4 tv k xs) (hg:(W7.alloc o).grownBy w8 tv.ownBlock) :
  (w8.cell? ⟨pj,0,none⟩=some tv∧w8.frozen? ⟨pj,0,none⟩=false)∧(w8.setCell ⟨pj,0,none⟩ tv').heap[pj]?=some (.cells #[tv',C1,C2,C3,C4,C5,C6] 27 (0,0))∧KeptT [27] pj w8 (w8.setCell ⟨pj,0,none⟩ tv'):=by
 have hlt:pj < W7.heap.size:=(Array.getElem?_eq_some_iff.1 hJ).1
 have hne:some pj≠tv.ownBlock:=by
  rcases hown.2 with ⟨rfl,_⟩|⟨g,cap,cur,rfl,_,hg',_⟩
  ·simp [Value.ownBlock]
  ·simp only [Value.ownBlock,ne_eq,Option.some.injEq]
   intro e
   subst e
   rw [hJ] at hg'
   simp at hg'
 have h8:w8.heap[pj]?=some (.cells #[tv,C1,C2,C3,C4,C5,C6] 27 (0,0)) :=
  (hg.block pj (by rw [World.size_alloc];omega) hne).trans ((((Below.refl W7.heap.size W7).alloc (Nat.le_refl _) o).block pj hlt).trans hJ)
 exact ⟨⟨by rw [jb h8];rfl,frozen_of_row w8 pj 0 _ _ h8⟩,by rw [heap_setCell_same w8 pj 0 _ _ tv' h8];rfl,(KeptT.refl _ _ _).set h8 (Nat.le_refl _) (by simp) tv'⟩
theorem RowsT.base_ {w:World} {b b':Nat} {tv:Value} {P:List (ColB × Value)} (h:RowsT w b tv P) (hb:b'≤b):RowsT w b' tv P:=by
 have key:∀ {e s n:Nat} {v:Value} {xs:List Value},w.ownsRow b e s v n xs→w.ownsRow b' e s v n xs:=by
  rintro e s n v xs ⟨h1,h2⟩
  refine ⟨h1,?_⟩
  rcases h2 with h2|⟨g,cap,cur,hv,hg,rest⟩
  ·exact .inl h2
  ·exact .inr ⟨g,cap,cur,hv,Nat.le_trans hb hg,rest⟩
 exact ⟨key h.table,fun p hp=>key (h.cells p hp),h.apart⟩
theorem Fc {w:World} {g B:Nat} {c0 c1 c2 c3 c4 c5 c6:Value} {t:TypeId} (h:w.heap[g]?=some (.cells #[c0,c1,c2,c3,c4,c5,c6] t (0,0))) (hB:B≤g) (v0 v1 v2 v3 v4 v5 v6:Value) :
  (((((((w.setCell ⟨g,0,none⟩ v0).setCell ⟨g,1,none⟩ v1).setCell ⟨g,2,none⟩ v2).setCell ⟨g,3,none⟩ v3).setCell ⟨g,4,none⟩ v4).setCell ⟨g,5,none⟩ v5).setCell ⟨g,6,none⟩ v6).heap[g]?=some (.cells #[v0,v1,v2,v3,v4,v5,v6] t (0,0)) ∧
   KeptT [t] B w (((((((w.setCell ⟨g,0,none⟩ v0).setCell ⟨g,1,none⟩ v1).setCell ⟨g,2,none⟩ v2).setCell ⟨g,3,none⟩ v3).setCell ⟨g,4,none⟩ v4).setCell ⟨g,5,none⟩ v5).setCell ⟨g,6,none⟩ v6):=by
 have k0:=(KeptT.refl [t] B w).set h hB (by simp) v0 (j:=0)
 have h0:=heap_setCell_same w g 0 _ t v0 h
 have k1:=k0.set h0 hB (by simp) v1 (j:=1)
 have h1:=heap_setCell_same _ g 1 _ t v1 h0
 have k2:=k1.set h1 hB (by simp) v2 (j:=2)
 have h2:=heap_setCell_same _ g 2 _ t v2 h1
 have k3:=k2.set h2 hB (by simp) v3 (j:=3)
 have h3:=heap_setCell_same _ g 3 _ t v3 h2
 have k4:=k3.set h3 hB (by simp) v4 (j:=4)
 have h4:=heap_setCell_same _ g 4 _ t v4 h3
 have k5:=k4.set h4 hB (by simp) v5 (j:=5)
 have h5:=heap_setCell_same _ g 5 _ t v5 h4
 have k6:=k5.set h5 hB (by simp) v6 (j:=6)
 have h6:=heap_setCell_same _ g 6 _ t v6 h5
 exact ⟨by rw [h6];rfl,k6⟩
theorem RowsT.nil (w:World) (base:Nat):RowsT w base (.slice none 0 0) [] :=
 ⟨World.ownsRow_nil _ _ _ _,(fun p h=>by cases h),fun i k hi=>by simp at hi⟩
theorem RowsT.later {w w':World} {base:Nat} {tv:Value} {P:List (ColB × Value)} (h:RowsT w base tv P) (hb:Below w.heap.size w w'):RowsT w' base tv P :=
 ⟨Qn h.table hb,fun p hp=>Qn (h.cells p hp) hb,h.apart⟩
theorem RowsT.snoc {w0 w w':World} {base:Nat} {tv tv':Value} {P:List (ColB × Value)} {c:ColB} {v:Value} (h:RowsT w0 base tv P) (hB:Below w0.heap.size w0 w) (hv:w.ownsRow w0.heap.size 34 3 v c.cells.length (qx c.cells)) (hb:base≤w0.heap.size)
  (ht:w'.ownsRow base 31 4 tv' (P.length+1) (Kq P++[strB c.name,.int .i64 c.kind,.int .i64 c.key,v])) (hg:w.grownBy w' tv.ownBlock):RowsT w' base tv' (P++[(c,v)]):=by
 have hcell:∀ p ∈ P,w.ownsRow base 34 3 p.2 p.1.cells.length (qx p.1.cells):=fun p hp=>Qn (h.cells p hp) hB
 have ht0:=Qn h.table hB
 refine ⟨?_,?_,?_⟩
 ·rw [EK,List.length_append];exact ht
 ·intro p hp
  rcases List.mem_append.1 hp with hp|hp
  ·exact (hcell p hp).kept hg (Vk (hcell p hp) ht0 (by decide))
  ·simp only [List.mem_cons,List.not_mem_nil,or_false] at hp
   subst hp
   have hv':=hv.kept hg (Vk hv ht0 (by decide))
   obtain ⟨h1,h2⟩:=hv'
   refine ⟨h1,?_⟩
   rcases h2 with h2|⟨g,cap,cur,e1,e2,rest⟩
   ·exact .inl h2
   ·exact .inr ⟨g,cap,cur,e1,Nat.le_trans hb e2,rest⟩
 ·have key:∀ i (hi:i < P.length),((P[i]).2.ownBlock=none∨(P[i]).2.ownBlock≠v.ownBlock)∧(v.ownBlock=none∨v.ownBlock≠(P[i]).2.ownBlock):=by
   intro i hi
   have hc:=h.cells P[i] (List.getElem_mem hi)
   cases e1:(P[i]).2.ownBlock with
   | none =>
    refine ⟨.inl rfl,?_⟩
    cases e2:v.ownBlock with
    | none=>exact .inl rfl
    | some g=>exact .inr (by simp)
   | some q =>
    have hq:=(hc.lt q e1).2
    cases e2:v.ownBlock with
    | none=>exact ⟨.inr (by simp),.inl rfl⟩
    | some g =>
     have hg2:=(hv.lt g e2).1
     have hne:q≠g:=by omega
     exact ⟨.inr (by simpa using hne),.inr (by simpa using fun e=>hne e.symm)⟩
  intro i k hi hk hne
  simp only [List.length_append,List.length_cons,List.length_nil] at hi hk
  by_cases hi':i < P.length
  ·rw [List.getElem_append_left hi']
   by_cases hk':k < P.length
   ·rw [List.getElem_append_left hk']
    exact h.apart i k hi' hk' hne
   ·have:k=P.length:=by omega
    subst this
    rw [List.getElem_append_right (Nat.le_refl _)]
    simpa using (key i hi').1
  ·have:i=P.length:=by omega
   subst this
   rw [List.getElem_append_right (Nat.le_refl _)]
   have hk':k < P.length:=by omega
   rw [List.getElem_append_left hk']
   simpa using (key k hk').2
theorem RowsT.lies {w:World} {base:Nat} {tv:Value} {P:List (ColB × Value)} (h:RowsT w base tv P) (hok:∀ p ∈ P,Tc p.1∧(∀ x ∈ p.1.cells,okC x)∧p.1.cells.length*32≤140737488351232) :
  ∃ a cap,tv=.slice a P.length cap∧P.length≤cap∧LiesT w a (P.map Prod.fst):=by
 have hcap:∃ a cap,tv=.slice a P.length cap∧P.length≤cap∧(P≠[]→∃ g,a=some ⟨g,0,none⟩):=by
  rcases h.table.2 with ⟨rfl,h0⟩|⟨g,cap,cur,rfl,_,_,hc,_⟩
  ·exact ⟨none,0,by rw [h0],by omega,fun hne=>absurd (List.eq_nil_of_length_eq_zero h0) hne⟩
  ·exact ⟨_,cap,rfl,hc,fun _=>⟨g,rfl⟩⟩
 obtain ⟨a,cap,rfl,hc,hne⟩:=hcap
 refine ⟨a,cap,rfl,hc,?_,fun hn=>?_⟩
 ·intro c hcm
  obtain ⟨p,hp,rfl⟩:=List.mem_map.1 hcm
  exact (hok p hp).1
 ·obtain ⟨g,rfl⟩:=hne (fun e=>hn (by rw [e];rfl))
  refine ⟨g,0,rfl,(h.table.lt g rfl).2,fun j hj=>?_⟩
  rw [List.length_map] at hj
  obtain ⟨c1,c2,c3,c4⟩:=Ac P j hj
  simp only [List.getElem_map,Nat.zero_add]
  have hlen:=h.table.1
  rw [KA] at hlen
  have hcl:(Kq P).length=P.length*4:=KA P
  refine ⟨by rw [h.table.cellAt _ (by omega)];exact c1,by rw [h.table.cellAt _ (by omega)];exact c2,by rw [h.table.cellAt _ (by omega)];exact c3,(P[j]).2,by rw [h.table.cellAt _ (by omega)];exact c4,?_⟩
  have hcell:=h.cells P[j] (List.getElem_mem hj)
  obtain ⟨_,o2,o3⟩:=hok P[j] (List.getElem_mem hj)
  obtain ⟨ca,ccap,hv,_,hl⟩:=RI hcell o2
  refine ⟨ca,ccap,hv,?_,hl,o3⟩
  rcases hcell.2 with ⟨e,h0⟩|⟨g',cap',cur',e,_,_,hc',_⟩
  ·rw [h0];exact Nat.zero_le _
  ·rw [hv] at e
   simp only [Value.slice.injEq] at e
   omega
theorem NF (a:Option Addr) (cap:Nat) (raw:List Int) (pre:List UInt8) (w:World) (hl:LiesI w a raw) (hp:pre.length≤maxLen) :
  Calls Tryz.prog 6 #[.slice a raw.length cap,strB pre] w fun e w'=>∃ tv P,e=.returned (jobV tv (qo raw pre))∧P.map Prod.fst=(qo raw pre).table∧RowsT w' w.heap.size tv P∧Below w.heap.size w w':=by
 obtain ⟨i1,hi1,hy0,hy1,hy2⟩:=info_parts Tryz.infoCell
 obtain ⟨i2,hi2,hx0,hx1,hx2⟩:=info_parts Tryz.infoColumn
 have Hl:=hid hl
 have HA:Hid (∀ (i:Nat) w',i≤100000→Below w.heap.size w w'→Calls Tryz.prog 7 #[.slice a raw.length cap,.int .i64 (i:Int)] w' fun e w2=>e=.returned (.int .i64 (atB raw i))∧w2=w') :=
  fun i w' hi hb=>Fe a cap raw i w' (hl.later hb) hi
 have HI:=hid (fun i=>YZ raw i hl.ok)
 have HP:Hid (∀ (i:Nat) (n:Int) w',0 < n→n≤9223372036854775807→Calls Tryz.prog 8 #[.int .i64 (atB raw i),.int .i64 n] w' fun e w2=>e=.returned (.int .i64 (qj (atB raw i) n))∧w2=w') :=
  fun i n w' h0 h1=>Jn (atB raw i) n w' (HI.out i).1 (HI.out i).2 h0 h1
 have HJ:Hid (qo raw pre=⟨Qb raw (Jj raw),Uz raw,pre.take 20,qj (atB raw 2) 65536⟩):=rfl
 obtain ⟨hc1,hc4⟩:=Ka raw
 have hr19:=Kc raw
 have HCR:Hid ((Jj raw:Int)=1+qj (atB raw 0) 4):=by
  have:=qD (atB raw 0) 4 (by decide)
  show ((1+qj (atB raw 0) 4).toNat:Int)=_;omega
 have HRR:Hid ((qB raw:Int)=qj (atB raw 1) 20):=by
  have:=qD (atB raw 1) 20 (by decide)
  show ((qj (atB raw 1) 20).toNat:Int)=_;omega
 have q0:=qD (atB raw 0) 4 (by decide)
 clear hl
 go_enter Tryz.func6,Tryz.ntmps6
 go_wp2_with fail
 obtain ⟨hbR,hsR,_,hhR⟩:=jK w #[.slice none 0 0,.int .i64 0,.int .i64 0,.int .i64 0,.bool false,.string ⟨#[]⟩,.int .i64 0] 27
 have hzR:(w.alloc (.cells #[.slice none 0 0,.int .i64 0,.int .i64 0,.int .i64 0,.bool false,.string ⟨#[]⟩,.int .i64 0] 27)).heap.size=w.heap.size+1:=by simp
 generalize w.alloc (.cells #[.slice none 0 0,.int .i64 0,.int .i64 0,.int .i64 0,.bool false,.string ⟨#[]⟩,.int .i64 0] 27)=w1 at *
 have HzR:=hid hzR
 have HhR:=hid hhR
 clear hzR hhR
 refine (HA.out 0 w1 (by decide) hbR).mono ?_
 rintro e w1 ⟨rfl,rfl⟩
 go_wp2_with fail
 refine (HP.out 0 4 w1 (by decide) (by decide)).mono ?_
 rintro e w1 ⟨rfl,rfl⟩
 go_wp2_with fail
 refine (HA.out 1 w1 (by decide) hbR).mono ?_
 rintro e w1 ⟨rfl,rfl⟩
 go_wp2_with fail
 refine (HP.out 1 20 w1 (by decide) (by decide)).mono ?_
 rintro e w1 ⟨rfl,rfl⟩
 rw [← HRR.out]
 go_wp2_with fail
 refine (HA.out 2 w1 (by decide) hbR).mono ?_
 rintro e w1 ⟨rfl,rfl⟩
 go_wp2_with fail
 refine (HP.out 2 65536 w1 (by decide) (by decide)).mono ?_
 rintro e w1 ⟨rfl,rfl⟩
 go_upto_region 4 with fail
 obtain ⟨hbJ,hsJ,_,hhJ⟩:=jK w1 #[.slice none 0 0,.int .i64 0,.int .i64 0,.int .i64 0,.bool false,strB pre,.int .i64 (qj (atB raw 2) 65536)] 27
 generalize w1.alloc (.cells #[.slice none 0 0,.int .i64 0,.int .i64 0,.int .i64 0,.bool false,.string ⟨pre.toArray⟩,.int .i64 (qj (atB raw 2) 65536)] 27)=w2 at *
 have HhR2:=hid (XK hbJ HhR.out)
 have hB2:=hbR.trans (hbJ.mono hbR.size)
 generalize hpj:w1.heap.size=pj at *
 have hpj1:w.heap.size < pj:=by have:=HzR.out;omega
 have Hpj:=hid hpj
 clear HhR HzR hbR hbJ hpj hsR
 have H20:∃ w3,w3.heap[pj]?=some (.cells #[.slice none 0 0,.int .i64 0,.int .i64 0,.int .i64 0,.bool false,strB (pre.take 20),.int .i64 (qj (atB raw 2) 65536)] 27 (0,0))∧w3.heap[w.heap.size]?=some (.cells #[.slice none 0 0,.int .i64 0,.int .i64 0,.int .i64 0,.bool false,.string ⟨#[]⟩,.int .i64 0] 27 (0,0))∧Below w.heap.size w w3∧pj < w3.heap.size ∧
   ((20 < pre.length∧w3=w2.setCell ⟨pj,5,none⟩ (strB (pre.take 20)))∨(¬ 20 < pre.length∧w3=w2)):=by
  by_cases h20:20 < pre.length
  ·refine ⟨_,?_,?_,hB2.setCell (p:=⟨pj,5,none⟩) (Nat.le_of_lt hpj1) _,?_,.inl ⟨h20,rfl⟩⟩
   ·rw [heap_setCell_same w2 pj 5 _ _ _ hhJ];rfl
   ·rw [heap_setCell_other w2 ⟨pj,5,none⟩ w.heap.size _ (by simp;omega)];exact HhR2.out
   ·simpa using hsJ
  ·refine ⟨w2,?_,HhR2.out,hB2,hsJ,.inr ⟨h20,rfl⟩⟩
   rw [List.take_of_length_le (by omega)];exact hhJ
 obtain ⟨w3,hhJ3,hhR3,hB3,hs3,hc20⟩:=H20
 have HhJ3:=hid hhJ3
 have HhR3:=hid hhR3
 clear hhJ3 hhR3 HhR2
 have hcJ:w2.cell? ⟨pj,5,none⟩=some (strB pre)∧w2.frozen? ⟨pj,5,none⟩=false:=⟨by rw [jb hhJ];rfl,frozen_of_row w2 pj 5 _ _ hhJ⟩
 clear hhJ hB2 hsJ
 unfold maxLen at hp
 have q3:=qD (atB raw 3) 12 (by decide)
 have q4:=qD (atB raw 4) 6 (by decide)
 have HPL:Hid (Uz raw=⟨1+qj (atB raw 3) 12,1+qj (atB raw 4) 6,5,qj (atB raw 5) 2 == 1⟩):=rfl
 rcases hc20 with ⟨h20,hw3⟩|⟨h20,hw3⟩
 case' inl =>
  obtain ⟨y5,f5⟩:=hcJ
  have h20i:(20:Int) < (pre.length:Int):=by omega
  have Hw3:=hid hw3
  clear hw3
  go_upto_region 6 with fail
  rw [show Value.string (({ data:=pre.toArray }:ByteArray).extract 0 20)=strB (pre.take 20) from congrArg Value.string (by apply ByteArray.ext;simp)]
  rw [← Hw3.out]
  clear y5 f5 Hw3 h20i h20
 case' inr =>
  subst hw3
  have h20i:¬ (20:Int) < (pre.length:Int):=by omega
  go_upto_region 6 with fail
  clear h20i h20 hcJ
 all_goals
  go_wp2_with fail
  refine (HA.out 3 w3 (by decide) hB3).mono ?_
  rintro e w3 ⟨rfl,rfl⟩
  go_wp2_with fail
  refine (HP.out 3 12 w3 (by decide) (by decide)).mono ?_
  rintro e w3 ⟨rfl,rfl⟩
  go_wp2_with fail
  refine (HA.out 4 w3 (by decide) hB3).mono ?_
  rintro e w3 ⟨rfl,rfl⟩
  go_wp2_with fail
  refine (HP.out 4 6 w3 (by decide) (by decide)).mono ?_
  rintro e w3 ⟨rfl,rfl⟩
  go_wp2_with fail
  refine (HA.out 5 w3 (by decide) hB3).mono ?_
  rintro e w3 ⟨rfl,rfl⟩
  go_wp2_with fail
  refine (HP.out 5 2 w3 (by decide) (by decide)).mono ?_
  rintro e w3 ⟨rfl,rfl⟩
  obtain ⟨_,y1,y2,y3,y4,_,_⟩:=XP HhJ3.out
  have f1:=frozen_of_row w3 pj 1 _ _ HhJ3.out
  have f2:=frozen_of_row w3 pj 2 _ _ HhJ3.out
  have f3:=frozen_of_row w3 pj 3 _ _ HhJ3.out
  have f4:=frozen_of_row w3 pj 4 _ _ HhJ3.out
  have HJ4:=hid (FP HhJ3.out (.int .i64 (1+qj (atB raw 3) 12)) (.int .i64 (1+qj (atB raw 4) 6)) (.int .i64 5) (.bool (qj (atB raw 5) 2 == 1)))
  have HR4:=hid (MA (q:=w.heap.size) (g:=pj) (by omega) HhR3.out (.int .i64 (1+qj (atB raw 3) 12)) (.int .i64 (1+qj (atB raw 4) 6)) (.int .i64 5) (.bool (qj (atB raw 5) 2 == 1)))
  have HB4:=hid ((((hB3.setCell (p:=⟨pj,1,none⟩) (Nat.le_of_lt hpj1) (.int .i64 (1+qj (atB raw 3) 12))).setCell (p:=⟨pj,2,none⟩) (Nat.le_of_lt hpj1) (.int .i64 (1+qj (atB raw 4) 6))).setCell (p:=⟨pj,3,none⟩) (Nat.le_of_lt hpj1) (.int .i64 5)).setCell (p:=⟨pj,4,none⟩) (Nat.le_of_lt hpj1) (.bool (qj (atB raw 5) 2 == 1)))
  generalize qj (atB raw 3) 12=p3 at *
  generalize qj (atB raw 4) 6=p4 at *
  generalize qj (atB raw 5) 2=p5 at *
  go_upto_block 0 with fail
  have hs4:pj < ((((w3.setCell ⟨pj,1,none⟩ (.int .i64 (1+p3))).setCell ⟨pj,2,none⟩ (.int .i64 (1+p4))).setCell ⟨pj,3,none⟩ (.int .i64 5)).setCell ⟨pj,4,none⟩ (.bool (p5 == 1))).heap.size:=by simpa using hs3
  clear y1 y2 y3 y4 f1 f2 f3 f4 hB3 HhJ3 HhR3 hs3
  generalize (((w3.setCell ⟨pj,1,none⟩ (.int .i64 (1+p3))).setCell ⟨pj,2,none⟩ (.int .i64 (1+p4))).setCell ⟨pj,3,none⟩ (.int .i64 5)).setCell ⟨pj,4,none⟩ (.bool (p5 == 1))=w4 at *
  rw [← HCR.out]
  have HT0:=hid (RowsT.nil w4 w4.heap.size)
  have hb4s:=HB4.out.size
  generalize hbase:w4.heap.size=base at *
  have hbb:base≤w4.heap.size:=by omega
  clear hbase q0
  have hpb:pj < base:=hs4
  clear hs4
  generalize qj (atB raw 2) 65536=dr at *
  go_wp2_with fail
  go_loopw [8] (fun i wr=>∃ (n:Nat) (tv:Value) (P:List (ColB × Value)),n≤Jj raw∧i=.int .i64 (n:Int)∧P.map Prod.fst=Qb raw n∧RowsT wr base tv P∧wr.heap[pj]?=some (.cells #[tv,.int .i64 (1+p3),.int .i64 (1+p4),.int .i64 5,.bool (p5 == 1),strB (pre.take 20),.int .i64 dr] 27 (0,0)) ∧
    wr.heap[w.heap.size]?=some (.cells #[.slice none 0 0,.int .i64 0,.int .i64 0,.int .i64 0,.bool false,.string ⟨#[]⟩,.int .i64 0] 27 (0,0))∧Below w.heap.size w wr∧base≤wr.heap.size) (fun i _=>Jj raw - (intOf i).toNat)
  case atStart=>exact ⟨0,_,[],Nat.zero_le _,rfl,rfl,HT0.out,HJ4.out,HR4.out,HB4.out,hbb⟩
  case round =>
   clear HT0 HJ4 HR4 HB4 hbb hb4s
   obtain ⟨n,tv,P,hn,rfl,hP,hT,hJ,hR,hB,hbs⟩:=hrel
   have HPm:=hid hP
   have HT:=hid hT
   have HJn:=hid hJ
   have HRn:=hid hR
   clear hP hT hJ hR
   by_cases hlt:n < Jj raw
   ·have HA6:Hid (∀ w',Below w.heap.size w w'→Calls Tryz.prog 7 #[.slice a raw.length cap,.int .i64 (6+(n:Int))] w' fun e w2=>e=.returned (.int .i64 (atB raw (6+n)))∧w2=w'):=by
     intro w' hb
     have:=HA.out (6+n) w' (by omega) hb
     rwa [show (((6+n:Nat)):Int)=6+(n:Int) by omega] at this
    have HA10:Hid (∀ w',Below w.heap.size w w'→Calls Tryz.prog 7 #[.slice a raw.length cap,.int .i64 (10+(n:Int))] w' fun e w2=>e=.returned (.int .i64 (atB raw (10+n)))∧w2=w'):=by
     intro w' hb
     have:=HA.out (10+n) w' (by omega) hb
     rwa [show (((10+n:Nat)):Int)=10+(n:Int) by omega] at this
    have hki:(n:Int) < (Jj raw:Int):=by omega
    go_wp2_with fail
    refine (SF n wr (by omega)).mono ?_
    rintro e wA ⟨rfl,hbA⟩
    have hBA:=hB.trans (hbA.mono hB.size)
    have HTA:=hid (HT.out.later hbA)
    have HJA:=hid (XK hbA HJn.out)
    have HRA:=hid (XK hbA HRn.out)
    have hbsA:base≤wA.heap.size:=Nat.le_trans hbs hbA.size
    clear hB hbA HT HJn HRn hbs
    go_wp2_with fail
    refine (HA6.out wA hBA).mono ?_
    rintro e wA ⟨rfl,rfl⟩
    go_wp2_with fail
    refine (HP.out (6+n) 2 wA (by decide) (by decide)).mono ?_
    rintro e wA ⟨rfl,rfl⟩
    go_wp2_with fail
    refine (HA10.out wA hBA).mono ?_
    rintro e wA ⟨rfl,rfl⟩
    go_wp2_with fail
    refine (HP.out (10+n) 5 wA (by decide) (by decide)).mono ?_
    rintro e wA ⟨rfl,rfl⟩
    have HKd:=hid (Ke raw n)
    have HKe:Hid (qj (atB raw (6+n)) 2=Xm raw n):=rfl
    rw [HKe.out]
    have HCO:Hid (∀ m,Zv raw n m=⟨Xq n,Xm raw n,qj (atB raw (10+n)) 5,(List.range m).map fun k=>zA (Xm raw n) (atB raw (14+n*qB raw+k))⟩):=fun _=>rfl
    generalize qj (atB raw (10+n)) 5=ky at *
    generalize Xm raw n=kd at *
    generalize Xq n=nm at *
    clear HKe HA6 HA10
    go_upto_region 11 with fail
    obtain ⟨hbx,hsx,_,hhx⟩:=jK wA #[strB nm,.int .i64 kd,.int .i64 ky,.slice none 0 0] 31
    generalize wA.alloc (.cells #[.string ⟨nm.toArray⟩,.int .i64 kd,.int .i64 ky,.slice none 0 0] 31)=wx at *
    have HBx:=hid hbx
    have HHx:=hid hhx
    clear hbx hhx
    generalize hpx:wA.heap.size=px at *
    have Hpx:=hid hpx
    clear hpx
    go_wp2_with fail
    go_loopw [10] (fun k wr=>∃ (m:Nat) (xv:Value),m≤qB raw∧k=.int .i64 (m:Int)∧wr.heap[px]?=some (.cells #[strB nm,.int .i64 kd,.int .i64 ky,xv] 31 (0,0))∧wr.ownsRow px 34 3 xv m (qx ((List.range m).map fun k=>zA kd (atB raw (14+n*qB raw+k))))∧Below px wA wr∧px < wr.heap.size) (fun k _=>qB raw - (intOf k).toNat)
    case atStart=>exact ⟨0,_,Nat.zero_le _,rfl,HHx.out,World.ownsRow_nil _ _ _ _,HBx.out,hsx⟩
    case round =>
     clear HBx HHx hsx
     obtain ⟨m,xv,hm,rfl,hx,hown,hB,hpw⟩:=hrel
     have HX:=hid hx
     have Hown:=hid hown
     clear hx hown
     by_cases hltm:m < qB raw
     ·have hprod:n*qB raw≤3*19:=Nat.mul_le_mul (by omega) hr19
      have hBw:Below w.heap.size w wr:=hBA.trans (hB.mono (by have:=hBA.size;rw [Hpx.out] at this;exact this))
      have HA14:Hid (∀ w',Below w.heap.size w w'→Calls Tryz.prog 7 #[.slice a raw.length cap,.int .i64 (14+(n:Int)*(qB raw:Int)+(m:Int))] w' fun e w2=>e=.returned (.int .i64 (atB raw (14+n*qB raw+m)))∧w2=w'):=by
       intro w' hb
       have:=HA.out (14+n*qB raw+m) w' (by omega) hb
       rwa [show (((14+n*qB raw+m:Nat)):Int)=14+(n:Int)*(qB raw:Int)+(m:Int) by rw [Int.natCast_add,Int.natCast_add,Int.natCast_mul];rfl] at this
      have hpi0:0≤(n:Int)*(qB raw:Int):=Int.mul_nonneg (by omega) (by omega)
      have hpi1:(n:Int)*(qB raw:Int)≤57:=by rw [← Int.natCast_mul];omega
      have HC:Hid (∀ w',px < w'.heap.size→w'.cell? ⟨px,1,none⟩=some (.int .i64 kd)→Calls Tryz.prog 21 #[.int .i64 kd,.int .i64 (atB raw (14+n*qB raw+m))] w' fun e w2=>e=.returned (cellV (zA kd (atB raw (14+n*qB raw+m))))∧Below w'.heap.size w' w2∧w2.cell? ⟨px,1,none⟩=some (.int .i64 kd)) :=
       fun w' h1 h2=>(TU kd _ w' HKd.out (HI.out _).1 (HI.out _).2).mono fun e w2 ⟨he,hb⟩=>⟨he,hb,(hb.cell (p:=⟨px,1,none⟩) h1).trans h2⟩
      have hS0:wr.cell? ⟨px,1,none⟩=some (.int .i64 kd):=by rw [jb HX.out];rfl
      have hSd:wr.drew.cell? ⟨px,1,none⟩=some (.int .i64 kd):=hS0
      have hSa:∀ o,(wr.alloc o).drew.cell? ⟨px,1,none⟩=some (.int .i64 kd):=fun o=>LU hS0
      have hpd:px < wr.drew.heap.size:=hpw
      have hpa:∀ o,px < (wr.alloc o).drew.heap.size:=fun o=>by show px < (wr.alloc o).heap.size;rw [World.size_alloc];exact Nat.lt_succ_of_lt hpw
      have hBd:Below w.heap.size w wr.drew:=hBw.drew
      have hBda:∀ o,Below w.heap.size w (wr.alloc o).drew:=fun o=>(EH hBw).drew
      have hpne:px≠wr.heap.size:=by omega
      generalize hcx:zA kd (atB raw (14+n*qB raw+m))=cx at *
      have Hcx:=hid hcx
      clear hcx
      obtain ⟨xn,xi,xt⟩:=cx
      have HCd:=hid (HC.out wr.drew hpd hSd)
      have HCa:=hid ((HC.out (wr.alloc (.cells #[.bool false,.int .i64 0,.string ⟨#[]⟩] 34)).drew (hpa _) (hSa _)).mono fun e w2 ⟨h1,h2,h3⟩=>(⟨h1,h2,h3,Le wr h2⟩:_∧_∧_∧_))
      clear HC
      have hw1:IntKind.i64.wrap ((n:Int)*(qB raw:Int))=(n:Int)*(qB raw:Int):=IntWalk.i64_in _ ⟨by omega,by omega⟩
      have hw2:IntKind.i64.wrap (14+(n:Int)*(qB raw:Int))=14+(n:Int)*(qB raw:Int):=IntWalk.i64_in _ ⟨by omega,by omega⟩
      have hw3:IntKind.i64.wrap (14+(n:Int)*(qB raw:Int)+(m:Int))=14+(n:Int)*(qB raw:Int)+(m:Int):=IntWalk.i64_in _ ⟨by omega,by omega⟩
      go_upto_region 14 with fail
      go_region_held3 (fun w'=>w'.cell? ⟨px,1,none⟩=some (.int .i64 kd))
       (first|with_reducible exact hSd|with_reducible exact hSa _|with_reducible exact Y6|with_reducible exact LU Y6|with_reducible exact BU hpne Y6|with_reducible exact BU (by omega) (LU Y6))
       (first
        | (go_at_call 7;refine (HA14.out _ (by first|with_reducible exact hBd|with_reducible exact hBda _)).mono ?_;rintro e w5 ⟨rfl,rfl⟩)
        | (go_at_call 21;with_reducible refine HCa.out.mono ?_;rintro e w6 ⟨rfl,hb6,Y6,z0,z1,z2,k0,k1,k2⟩)
        | (go_at_call 21;with_reducible refine HCd.out.mono ?_;rintro e w6 ⟨rfl,hb6,Y6⟩))
      all_goals
       first
       | (with_reducible have F7:=Wb hb6 (.bool xn) (.int .i64 xi) (.string ⟨xt.toArray⟩);generalize ((w6.setCell ⟨wr.heap.size,0,none⟩ (.bool xn)).setCell ⟨wr.heap.size,1,none⟩ (.int .i64 xi)).setCell ⟨wr.heap.size,2,none⟩ (.string ⟨xt.toArray⟩)=w7 at *;obtain ⟨hB7,hx7⟩:=F7;obtain ⟨G,hG⟩:∃ G,G=wr.heap.size:=⟨_,rfl⟩;rw [← hG] at hx7 ⊢;clear hG)
       | (have F7:=FR hb6 #[.bool xn,.int .i64 xi,.string ⟨xt.toArray⟩] 34;generalize w6.alloc (.cells #[.bool xn,.int .i64 xi,.string ⟨xt.toArray⟩] 34)=w7 at *;obtain ⟨hB7,hx7⟩:=F7;generalize w6.heap.size=G at *)
      all_goals
       have hX7:=XK hB7 HX.out
       have hown7:=Qn Hown.out hB7
       have hBx7:Below px wA w7:=hB.trans (hB7.mono (Nat.le_of_lt hpw))
       have X3:w7.cell? ⟨px,3,none⟩=some xv:=by rw [jb hX7];rfl
       obtain ⟨⟨v0,v1,v2⟩,_⟩:=EN hx7
       clear hS0 hSd hSa hpd hpa hBd hBda hpne HCd HCa HA14 hw1 hw2 hw3 hpi0 hpi1 hBw
       go_wp2_with (at_builtin;refine wpList_append_own _ rfl (.tmp 79) (.tmp 81) 29 rfl px 34 i1 (.agg #[.bool false,.int .i64 0,.string ⟨#[]⟩]) 3 32 Tryz.underlying29 hi1 hy0 hy1 hy2 rfl (by decide) _ _ _ rfl (hown7.alloc _) ⟨_,0,none⟩ 1 1 [.bool xn,.int .i64 xi,.string ⟨xt.toArray⟩] rfl rfl (qE w7 #[.bool xn,.int .i64 xi,.string ⟨xt.toArray⟩] 34) (by intro u hu;simp at hu;rcases hu with rfl|rfl|rfl<;>rfl) (by unfold maxLen;omega) (by omega) (by have:=hB7.size;simp;omega) ?_;intro v8 w8 hown8 hgr8 _;obtain ⟨⟨c3,fz3⟩,F8⟩:=Ce (c:=⟨xn,xi,xt⟩) hX7 hBx7 hown7 hown8 hgr8;have H8:=hid F8;obtain ⟨va,vc,rfl⟩:=Jf hown8;clear hown8 hgr8 F8 hX7 hown7 hBx7 X3 v0 v1 v2)
       go_wp2
       refine ⟨⟨m+1,_,by omega,by go_num,H8.out.1,?_,H8.out.2.2.1,H8.out.2.2.2⟩,by simp [intOf];omega⟩
       rw [List.range_succ,List.map_append]
       simp only [List.map_cons,List.map_nil]
       rw [Hcx.out]
       exact H8.out.2.1
     ·have hme:m=qB raw:=by omega
      subst hme
      have hpxA:pj < px:=by omega
      have hJw:=(hB.block pj hpxA).trans HJA.out
      have hRw:=(hB.block w.heap.size (by omega)).trans HRA.out
      have hBw':Below wA.heap.size wA wr:=by rw [Hpx.out];exact hB
      have HTw:=hid (HTA.out.later hBw')
      have hPl:P.length≤4:=by rw [Xv HPm.out,XE];omega
      obtain ⟨j0,_⟩:=XP hJw
      obtain ⟨x0,x1,x2,x3⟩:=Br HX.out
      obtain ⟨xa,xc,rfl⟩:=Jf Hown.out
      have hTt:=HTw.out.table
      obtain ⟨ta,tc,rfl⟩:=Jf hTt
      go_wp2_with (at_builtin;refine wpList_append_own _ rfl (.tmp 85) (.tmp 87) 23 rfl base 31 i2 (.agg #[.string ⟨#[]⟩,.int .i64 0,.int .i64 0,.slice none 0 0]) 4 56 Tryz.underlying23 hi2 hx0 hx1 hx2 rfl (by decide) _ _ _ rfl (hTt.alloc _) ⟨_,0,none⟩ 1 1 [.string ⟨nm.toArray⟩,.int .i64 kd,.int .i64 ky,.slice xa (qB raw) xc] rfl rfl (qE wr #[.string ⟨nm.toArray⟩,.int .i64 kd,.int .i64 ky,.slice xa (qB raw) xc] 31) (by intro u hu;simp at hu;rcases hu with rfl|rfl|rfl|rfl<;>rfl) (by unfold maxLen;omega) (by omega) (by have:=hB.size;simp;omega) ?_;intro v8 w8 hown8 hgr8 _;obtain ⟨va,vc,rfl⟩:=Jf hown8;obtain ⟨⟨c0,fz0⟩,F8⟩:=Ml (tv':=.slice va (P.length+1) vc) hJw hTt hgr8)
      have HSN:=hid (RowsT.snoc (c:=Zv raw n (qB raw)) (v:=.slice xa (qB raw) xc) HTA.out (hBw'.alloc hBw'.size _) (by rw [HCO.out,Hpx.out];simpa using Hown.out.alloc _) (by rw [Hpx.out];omega) (by rw [HCO.out];exact hown8) hgr8)
      have hRn:some w.heap.size≠(Value.slice ta P.length tc).ownBlock:=by
       intro e
       have:=(hTt.lt w.heap.size e.symm).1
       omega
      have hsw:w.heap.size < wr.heap.size:=by omega
      have HR8:=hid ((hgr8.block w.heap.size (by rw [World.size_alloc];omega) hRn).trans ((((Below.refl wr.heap.size wr).alloc (Nat.le_refl _) _).block w.heap.size hsw).trans hRw))
      have HB8:Hid (Below w.heap.size w w8):=by
       have h1:Below w.heap.size w wr:=hBA.trans (hB.mono (by omega))
       exact (h1.alloc h1.size _).grown hgr8 (by rw [World.size_alloc];have:=h1.size;omega) (fun k hk=>by have:=(hTt.lt k hk).1;omega)
      have H8:=hid F8
      have hs8:=hgr8.size
      rw [World.size_alloc] at hs8
      clear hown8 hgr8 F8 hTt j0 x0 x1 x2 x3 hJw hRw hBw' HTw
      go_wp2
      refine ⟨⟨n+1,_,P++[(Zv raw n (qB raw),.slice xa (qB raw) xc)],by omega,by go_num,?_,HSN.out.keptT H8.out.2 (by decide) (by decide),H8.out.1,?_,(HB8.out.trans (H8.out.2.below.mono (by omega))),?_⟩,by simp [intOf];omega⟩
      ·rw [List.map_append,HPm.out]
       simp only [Qb,List.range_succ,List.map_append,List.map_cons,List.map_nil]
      ·exact (H8.out.2.block w.heap.size (by omega)).trans HR8.out
      ·have:=H8.out.2.size
       omega
   ·have hne:n=Jj raw:=by omega
    subst hne
    obtain ⟨j0,j1,j2,j3,j4,j5,j6⟩:=XP HJn.out
    obtain ⟨r0,r1,r2,r3,r4,r5,r6⟩:=XP HRn.out
    have f0:=frozen_of_row wr w.heap.size 0 _ _ HRn.out
    have f1:=frozen_of_row wr w.heap.size 1 _ _ HRn.out
    have f2:=frozen_of_row wr w.heap.size 2 _ _ HRn.out
    have f3:=frozen_of_row wr w.heap.size 3 _ _ HRn.out
    have f4:=frozen_of_row wr w.heap.size 4 _ _ HRn.out
    have f5:=frozen_of_row wr w.heap.size 5 _ _ HRn.out
    have f6:=frozen_of_row wr w.heap.size 6 _ _ HRn.out
    obtain ⟨ta,tc,rfl⟩:=Jf HT.out.table
    have HW:=hid (Fc HRn.out (B:=w.heap.size) (Nat.le_refl _) (.slice ta P.length tc) (.int .i64 (1+p3)) (.int .i64 (1+p4)) (.int .i64 5) (.bool (p5 == 1)) (strB (pre.take 20)) (.int .i64 dr))
    go_wp2
    generalize ((((((wr.setCell _ _).setCell _ _).setCell _ _).setCell _ _).setCell _ _).setCell _ _).setCell _ _=W at *
    obtain ⟨d0,d1,d2,d3,d4,d5,d6⟩:=XP HW.out.1
    exact bodyPost_ret (v:=jobV (.slice ta P.length tc) (qo raw pre)) (by rw [HJ.out,HPL.out];simp [results,Tryz.results6,go_sem,d0,d1,d2,d3,d4,d5,d6]) rfl ⟨_,P,rfl,by rw [HJ.out];exact HPm.out,(HT.out.keptT HW.out.2 (by decide) (by decide)).base_ (by omega),hB.trans HW.out.2.below⟩
end Go.Proofs.YthhpbhpfagoapabGreat
