import Derived.Test.YthhpbhpfagoapaaGreatWSeal
import Derived.Test.YthhpbhpfagoapaaGreatJAN
import Derived.Test.YthhpbhpfagoapaaGreatJAS
import Derived.Deep.CutBlock
import Derived.Test.YthhpbhpfagoapaaGreatXRChunk
import Derived.Test.YthhpbhpfagoapaaGreatJAM
import Derived.Test.YthhpbhpfagoapaaGreatJAV
import Derived.Test.YthhpbhpfagoapaaGreatJAF
import Derived.Test.YthhpbhpfagoapaaGreatJAI
import Derived.Test.YthhpbhpfagoapaaGreatJAO
namespace Go.Proofs.YthhpbhpfagoapaaGreat
set_option linter.unusedVariables false
set_option linter.unusedSimpArgs false
set_option maxRecDepth 100000
set_option maxHeartbeats 16000000
section
open Go.RowKit
theorem Lies.part {w:World} {b off:Nat} {l:List CellB} (hok:∀ c ∈ l,okC c) (hb:b < w.heap.size) (h:∀ j (h:j < l.length),
  w.cell? ⟨b,off+j*3,none⟩=some (.bool (l[j]).null)∧w.cell? ⟨b,off+j*3+1,none⟩=some (.int .i64 (l[j]).int)∧w.cell? ⟨b,off+j*3+2,none⟩=some (strB (l[j]).text)) (s n:Nat) :
  Lies w (some ⟨b,off+s*3,none⟩) ((l.drop s).take n):=by
 refine ⟨fun c hc=>hok c (List.mem_of_mem_drop (List.mem_of_mem_take hc)),fun hne=>⟨b,off+s*3,rfl,hb,fun j hj=>?_⟩⟩
 have hj2:s+j < l.length:=by rw [List.length_take,List.length_drop] at hj;omega
 have e:((l.drop s).take n)[j]=l[s+j]:=by simp
 obtain ⟨h1,h2,h3⟩:=h (s+j) hj2
 rw [e,show off+s*3+j*3=off+(s+j)*3 by omega]
 exact ⟨h1,h2,h3⟩
theorem CL (n size m k:Nat) (hk:k < m):(QD n size m)[k*2]?=some (.int .i64 ((k*size:Nat):Int))∧(QD n size m)[k*2+1]?=some (.int .i64 ((min (k*size+size) n:Nat):Int)):=by
 have h1:=Xp (NG n size) 2 (fun _=>rfl) (List.range m) k 0 (by simpa using hk) (by decide)
 have h2:=Xp (NG n size) 2 (fun _=>rfl) (List.range m) k 1 (by simpa using hk) (by decide)
 simp only [List.getElem_range] at h1 h2
 exact ⟨h1,h2⟩
theorem EK {w:World} {base n size m k:Nat} {sa:Option Addr} {sc:Nat} (h:w.ownsRow base 290 2 (.slice sa m sc) m (QD n size m)) (hk:k < m) :
  ∃ g,sa=some ⟨g,0,none⟩∧g < w.heap.size∧w.cell? ⟨g,k*2,none⟩=some (.int .i64 ((k*size:Nat):Int))∧w.cell? ⟨g,k*2+1,none⟩=some (.int .i64 ((min (k*size+size) n:Nat):Int)):=by
 obtain ⟨s1,s2⟩:=CL n size m k hk
 rcases h.2 with ⟨h0,h1⟩|⟨g,cap,cur,hv,_⟩
 ·omega
 ·simp only [Value.slice.injEq] at hv
  obtain ⟨rfl,_,rfl⟩:=hv
  exact ⟨g,rfl,(h.lt g rfl).2,by rw [h.cellAt _ (by omega)];exact s1,by rw [h.cellAt _ (by omega)];exact s2⟩
theorem Bh {w:World} {q:Nat} {x y:Value} {t:TypeId} (h:w.heap[q]?=some (.cells #[x,y] t (0,0))):w.cell? ⟨q,0,none⟩=some x∧w.cell? ⟨q,1,none⟩=some y :=
 ⟨by rw [jd h];rfl,by rw [jd h];rfl⟩
end
section
open Go.RowKit
structure Touch2 (w w':World) (p q:Nat):Prop where
 os:w'.os=w.os
 tape:w'.tape=w.tape
 output:w'.output=w.output
 size:w.heap.size≤w'.heap.size
 block:∀ k,k < w.heap.size→k≠p→k≠q→w'.heap[k]?=w.heap[k]?
theorem Touch2.refl (w:World) (p q:Nat):Touch2 w w p q:=⟨rfl,rfl,rfl,Nat.le_refl _,fun _ _ _ _=>rfl⟩
theorem Touch2.grown {w a b:World} {p q:Nat} {r:Option Nat} (h:Touch2 w a p q) (hg:a.grownBy b r) (hr:∀ k,r=some k→k=p∨k=q∨w.heap.size≤k):Touch2 w b p q:=by
 refine ⟨hg.os.trans h.os,hg.tape.trans h.tape,hg.output.trans h.output,Nat.le_trans h.size hg.size,fun k hk h1 h2=>?_⟩
 rw [hg.block k (Nat.lt_of_lt_of_le hk h.size) ?_]
 ·exact h.block k hk h1 h2
 ·intro e
  have:=hr k e.symm
  omega
theorem Touch2.later {w a b:World} {p q:Nat} (h:Touch2 w a p q) (hb:Below a.heap.size a b):Touch2 w b p q:=h.grown (jz (jL a none) hb) (fun k hk=>by cases hk)
theorem Touch2.below {w a:World} {p q B:Nat} (h:Touch2 w a p q) (hp:B≤p) (hq:B≤q) (hB:B≤w.heap.size):Below B w a:=⟨h.os,h.tape,h.output,h.size,fun k hk=>h.block k (by omega) (by omega) (by omega)⟩
theorem Touch2.keeps {w a:World} {p q k:Nat} {o:Obj} (h:Touch2 w a p q) (hk:w.heap[k]?=some o) (h1:k≠p) (h2:k≠q):a.heap[k]?=some o :=
 (h.block k (Array.getElem?_eq_some_iff.1 hk).1 h1 h2).trans hk
theorem Touch2.owns {w a:World} {p q base e size n:Nat} {v:Value} {xs:List Value} {Cp Cq:Array Value} {tp tq:TypeId} (h:Touch2 w a p q) (ho:w.ownsRow base e size v n xs) (hp:w.heap[p]?=some (.cells Cp tp (0,0))) (hq:w.heap[q]?=some (.cells Cq tq (0,0))) (h1:tp≠e) (h2:tq≠e):a.ownsRow base e size v n xs:=by
 refine ⟨ho.1,?_⟩
 rcases ho.2 with hn|⟨g,cap,cur,rfl,hb',hg',rest⟩
 ·exact .inl hn
 ·refine .inr ⟨g,cap,cur,rfl,hb',h.keeps hg' ?_ ?_,rest⟩
  ·rintro rfl
   rw [hg'] at hp
   cases hp
   exact h1 rfl
  ·rintro rfl
   rw [hg'] at hq
   cases hq
   exact h2 rfl
def Zx (R G:Nat) (key:Int) (c:Nat) (Qm:Nat→Nat→ModF) (Pv:Nat→Nat→Value) (g:Nat):List Value:=[.int .i64 ((jv R G g:Nat):Int),Pv g c,strB [77],.int .i64 (g:Int),.int .i64 (c:Int),.int .i64 0,strB (jM key (Qm g c)).1,strB (jM key (Qm g c)).2]
def xN (R G:Nat) (key:Int) (c:Nat) (Qm:Nat→Nat→ModF) (Pv:Nat→Nat→Value) (k:Nat):List Value:=(List.range k).flatMap (Zx R G key c Qm Pv)
theorem XC (R G:Nat) (key:Int) (c:Nat) (Qm:Nat→Nat→ModF) (Pv:Nat→Nat→Value) (k:Nat):xN R G key c Qm Pv (k+1)=xN R G key c Qm Pv k++Zx R G key c Qm Pv k:=by
 unfold xN
 rw [List.range_succ,List.flatMap_append]
 simp
theorem ZW {R G:Nat} {key:Int} {c:Nat} {Qm Qm':Nat→Nat→ModF} {Pv Pv':Nat→Nat→Value} {k:Nat} (h1:∀ g,g < k→Qm g c=Qm' g c) (h2:∀ g,g < k→Pv g c=Pv' g c):xN R G key c Qm Pv k=xN R G key c Qm' Pv' k:=by
 induction k with
 | zero=>rfl
 | succ k ih =>
  rw [XC,XC,ih (fun g hg=>h1 g (by omega)) (fun g hg=>h2 g (by omega))]
  unfold Zx
  rw [h1 k (by omega),h2 k (by omega)]
structure ColIn (t:List ColB) (R G P base:Nat) (w:World) (c k:Nat) (v:Value) (Qp:Nat→Nat→List ModF) (Qm:Nat→Nat→ModF) (Pv:Nat→Nat→Value):Prop where
 row:w.ownsRow base 261 8 v k (xN R G (jk t c).key c Qm Pv k)
 pages:∀ g,g < k→w.ownsRow base 113 6 (Pv g c) (Qp g c).length (Jq (jk t c).key g c (Qp g c))
 ok:∀ g,g < k→ModsOk t (jh R G P g c) (Qp g c++[Qm g c])∧(Qp g c).length=jW (jv R G g) P
theorem ColIn.congr {t:List ColB} {R G P base:Nat} {w:World} {c k:Nat} {v:Value} {Qp Qp':Nat→Nat→List ModF} {Qm Qm':Nat→Nat→ModF} {Pv Pv':Nat→Nat→Value} (h:ColIn t R G P base w c k v Qp Qm Pv) (h1:∀ g,g < k→Qm g c=Qm' g c) (h2:∀ g,g < k→Pv g c=Pv' g c) (h3:∀ g,g < k→Qp g c=Qp' g c):ColIn t R G P base w c k v Qp' Qm' Pv':=by
 refine ⟨?_,fun g hg=>?_,fun g hg=>?_⟩
 ·rw [← ZW h1 h2];exact h.row
 ·rw [← h2 g hg,← h3 g hg];exact h.pages g hg
 ·rw [← h1 g hg,← h3 g hg];exact h.ok g hg
theorem ColIn.keep {t:List ColB} {R G P base:Nat} {w w':World} {c k:Nat} {v:Value} {Qp:Nat→Nat→List ModF} {Qm:Nat→Nat→ModF} {Pv:Nat→Nat→Value} (h:ColIn t R G P base w c k v Qp Qm Pv)
  (h1:∀ n xs,w.ownsRow base 261 8 v n xs→w'.ownsRow base 261 8 v n xs) (h2:∀ u n xs,w.ownsRow base 113 6 u n xs→w'.ownsRow base 113 6 u n xs):ColIn t R G P base w' c k v Qp Qm Pv :=
 ⟨h1 _ _ h.row,fun g hg=>h2 _ _ _ (h.pages g hg),h.ok⟩
structure ShAt (t:List ColB) (R G P n Q p Kb:Nat) (H:List Value) (w0 w:World) (g c:Nat) (V:Nat→Value) (Qp:Nat→Nat→List ModF) (Qm:Nat→Nat→ModF) (Pv:Nat→Nat→Value):Prop where
 touch:Touch2 w0 w p Q
 sheet:w.heap[Q]?=some (.cells (H++[Value.slice (some ⟨Kb,0,none⟩) n n]).toArray 120 (0,0))
 new:w0.heap.size≤Kb
 kb:w.heap[Kb]?=some (.cells ((List.range n).map V).toArray 258 (0,0))
 cols:∀ i,i < n→ColIn t R G P w0.heap.size w i (if i < c then g+1 else g) (V i) Qp Qm Pv
 apart:∀ i j,i < n→j < n→i≠j→(V i).ownBlock=none∨(V i).ownBlock≠(V j).ownBlock
def upd {α:Type} (f:Nat→α) (c:Nat) (x:α):Nat→α:=fun i=>if i=c then x else f i
def Xa {α:Type} (f:Nat→Nat→α) (g c:Nat) (x:α):Nat→Nat→α:=fun i j=>if i=g∧j=c then x else f i j
theorem Sw {V:Nat→Value} {n c:Nat} {v:Value} (hc:c < n):((List.range n).map V).set c v=(List.range n).map (upd V c v):=by
 apply List.ext_getElem
 ·simp
 ·intro i h1 h2
  rw [List.getElem_set]
  simp only [List.getElem_map,List.getElem_range,upd]
  by_cases h:c=i
  ·rw [if_pos h,if_pos h.symm]
  ·rw [if_neg h,if_neg (fun e=>h e.symm)]
theorem ShAt.step {t:List ColB} {R G P n Q p Kb:Nat} {H:List Value} {w0 w w1 w2:World} {g c gg gc:Nat} {V:Nat→Value} {Qp:Nat→Nat→List ModF} {Qm:Nat→Nat→ModF} {Pv:Nat→Nat→Value} {s r:List UInt8} {mp:List ModF} {mm:ModF} {pv:Value} {o:Obj}
  (h:ShAt t R G P n Q p Kb H w0 w g c V Qp Qm Pv) (hc:c < n) (hrd:qq w p s r) (hpw:p < w0.heap.size) (hQw:Q < w0.heap.size) (hpQ:p≠Q)
  (hg1:w.grownBy w1 (some p)) (hpv:w1.ownsRow w.heap.size 113 6 pv mp.length (Jq (jk t c).key g c mp)) (hok:ModsOk t (jh R G P g c) (mp++[mm])) (hml:mp.length=jW (jv R G g) P)
  (hown:w2.ownsRow w0.heap.size 261 8 (.slice (some ⟨gg,0,none⟩) (g+1) gc) (g+1) (xN R G (jk t c).key c Qm Pv g++[.int .i64 ((jv R G g:Nat):Int),pv,strB [77],.int .i64 (g:Int),.int .i64 (c:Int),.int .i64 0,strB (jM (jk t c).key mm).1,strB (jM (jk t c).key mm).2]))
  (hg2:(w1.alloc o).grownBy w2 (V c).ownBlock) (hat:(V c).ownBlock=some gg∨gg=(w1.alloc o).heap.size) :
  ShAt t R G P n Q p Kb H w0 (w2.setCell ⟨Kb,c,none⟩ (.slice (some ⟨gg,0,none⟩) (g+1) gc)) g (c+1) (upd V c (.slice (some ⟨gg,0,none⟩) (g+1) gc)) (Xa Qp g c mp) (Xa Qm g c mm) (Xa Pv g c pv):=by
 have hcc:=h.cols c hc
 rw [if_neg (by omega)] at hcc
 have hrowc:=hcc.row
 have hrb:=xS hrd
 have hrow1:=ql hrowc hg1 hrb (by decide)
 have hrowA:=hrow1.alloc o
 -- the block of the row is fresh
 have hfresh:∀ k,(V c).ownBlock=some k→w0.heap.size≤k:=fun k hk=>(hrowc.lt k hk).1
 have hneR:∀ (k:Nat) (C:Array Value) (T:TypeId),(w1.alloc o).heap[k]?=some (.cells C T (0,0))→T≠261→w2.heap[k]?=some (.cells C T (0,0)):=fun k C T hk hT=>jq hg2 hrowA hk hT
 have hs1:=h.touch.size
 have hs2:=hg1.size
 have hKp:Kb≠p:=by have:=h.new;omega
 have hKQ:Kb≠Q:=by have:=h.new;omega
 have hkb1:=jf hg1 h.kb hKp
 have hkb2:=hneR Kb _ _ (jt o hkb1) (by decide)
 have hsh1:=jf hg1 h.sheet (Ne.symm hpQ)
 have hsh2:=hneR Q _ _ (jt o hsh1) (by decide)
 have hset:=qn w2 Kb c (.slice (some ⟨gg,0,none⟩) (g+1) gc)
 have t1:Touch2 w0 w1 p Q:=h.touch.grown hg1 (fun k hk=>by cases hk;exact .inl rfl)
 have tA:Touch2 w0 (w1.alloc o) p Q:=t1.grown (World.grownBy_alloc w1 o none) (fun k hk=>by cases hk)
 have t2:Touch2 w0 w2 p Q:=tA.grown hg2 (fun k hk=>.inr (.inr (hfresh k hk)))
 have t3:=t2.grown hset (fun k hk=>by cases hk;exact .inr (.inr h.new))
 have keepP:∀ u n xs,w.ownsRow w0.heap.size 113 6 u n xs→(w2.setCell ⟨Kb,c,none⟩ (.slice (some ⟨gg,0,none⟩) (g+1) gc)).ownsRow w0.heap.size 113 6 u n xs:=by
  intro u n xs hu
  have a1:=(ql hu hg1 hrb (by decide)).alloc o
  exact ql (a1.kept hg2 (qc a1 hrowA (by decide))) hset hkb2 (by decide)
 refine ⟨t3,jf hset hsh2 hKQ.symm,h.new,?_,?_,?_⟩
 ·rw [heap_setCell_same w2 Kb c _ _ _ hkb2]
  congr 2
  rw [← Sw hc]
  simp
 ·intro i hi
  by_cases hic:i=c
  ·subst hic
   rw [if_pos (by omega)]
   refine ⟨?_,fun g' hg'=>?_,fun g' hg'=>?_⟩
   ·simp only [upd,if_true]
    rw [XC]
    have e1:xN R G (jk t i).key i (Xa Qm g i mm) (Xa Pv g i pv) g=xN R G (jk t i).key i Qm Pv g:=ZW (fun g' hg'=>by simp [Xa];omega) (fun g' hg'=>by simp [Xa];omega)
    rw [e1]
    have e2:Zx R G (jk t i).key i (Xa Qm g i mm) (Xa Pv g i pv) g=[.int .i64 ((jv R G g:Nat):Int),pv,strB [77],.int .i64 (g:Int),.int .i64 (i:Int),.int .i64 0,strB (jM (jk t i).key mm).1,strB (jM (jk t i).key mm).2]:=by simp [Zx,Xa]
    rw [e2]
    exact ql hown hset hkb2 (by decide)
   ·by_cases hgg:g'=g
    ·subst hgg
     simp only [Xa,and_self,if_true]
     have a1:=(jy hpv (show w0.heap.size≤w.heap.size from hs1)).alloc o
     exact ql (a1.kept hg2 (qc a1 hrowA (by decide))) hset hkb2 (by decide)
    ·have h1:=hcc.pages g' (by omega)
     simp only [Xa,hgg,false_and,if_false]
     exact keepP _ _ _ h1
   ·by_cases hgg:g'=g
    ·subst hgg
     simp only [Xa,and_self,if_true]
     exact ⟨hok,hml⟩
    ·simp only [Xa,hgg,false_and,if_false]
     exact hcc.ok g' (by omega)
  ·have hci:=h.cols i hi
   have hk:(if i < c+1 then g+1 else g)=(if i < c then g+1 else g):=by
    by_cases h1:i < c
    ·rw [if_pos h1,if_pos (by omega)]
    ·rw [if_neg h1,if_neg (by omega)]
   rw [hk]
   have hV:upd V c (.slice (some ⟨gg,0,none⟩) (g+1) gc) i=V i:=by simp [upd,hic]
   rw [hV]
   refine (hci.keep (fun n xs hu=>?_) keepP).congr (fun g' _=>by simp [Xa,hic]) (fun g' _=>by simp [Xa,hic]) (fun g' _=>by simp [Xa,hic])
   have a1:=(ql hu hg1 hrb (by decide)).alloc o
   exact ql (a1.kept hg2 (h.apart i c hi hc hic)) hset hkb2 (by decide)
 ·intro i j hi hj hij
  have hlt:∀ i,i < n→∀ k,(V i).ownBlock=some k→k < w.heap.size:=fun i hi k hk=>((h.cols i hi).row.lt k hk).2
  by_cases hic:i=c
  ·subst hic
   have hj':upd V i (.slice (some ⟨gg,0,none⟩) (g+1) gc) j=V j:=by simp [upd,Ne.symm hij]
   have hi':upd V i (.slice (some ⟨gg,0,none⟩) (g+1) gc) i=.slice (some ⟨gg,0,none⟩) (g+1) gc:=by simp [upd]
   rw [hj',hi']
   right
   show some gg≠_
   rcases hat with he|rfl
   ·rw [← he]
    rcases h.apart i j hi hj hij with h1|h1
    ·rw [h1] at he;cases he
    ·exact h1
   ·intro e
    have:=hlt j hj _ e.symm
    simp at this
    omega
  ·have hi':upd V c (.slice (some ⟨gg,0,none⟩) (g+1) gc) i=V i:=by simp [upd,hic]
   rw [hi']
   by_cases hjc:j=c
   ·subst hjc
    have hj':upd V j (.slice (some ⟨gg,0,none⟩) (g+1) gc) j=.slice (some ⟨gg,0,none⟩) (g+1) gc:=by simp [upd]
    rw [hj']
    show _∨_≠some gg
    rcases hat with he|rfl
    ·rw [← he]
     exact h.apart i j hi hj hij
    ·right
     intro e
     have:=hlt i hi _ e
     simp at this
     omega
   ·have hj':upd V c (.slice (some ⟨gg,0,none⟩) (g+1) gc) j=V j:=by simp [upd,hjc]
    rw [hj']
    exact h.apart i j hi hj hij
theorem ShAt.next {t:List ColB} {R G P n Q p Kb:Nat} {H:List Value} {w0 w:World} {g:Nat} {V:Nat→Value} {Qp:Nat→Nat→List ModF} {Qm:Nat→Nat→ModF} {Pv:Nat→Nat→Value} (h:ShAt t R G P n Q p Kb H w0 w g n V Qp Qm Pv):ShAt t R G P n Q p Kb H w0 w (g+1) 0 V Qp Qm Pv :=
 ⟨h.touch,h.sheet,h.new,h.kb,fun i hi=>by have:=h.cols i hi;rw [if_pos hi] at this;rw [if_neg (by omega)];exact this,h.apart⟩
theorem ShAt.later {t:List ColB} {R G P n Q p Kb:Nat} {H:List Value} {w0 w w':World} {g c:Nat} {V:Nat→Value} {Qp:Nat→Nat→List ModF} {Qm:Nat→Nat→ModF} {Pv:Nat→Nat→Value} (h:ShAt t R G P n Q p Kb H w0 w g c V Qp Qm Pv) (hb:Below w.heap.size w w'):ShAt t R G P n Q p Kb H w0 w' g c V Qp Qm Pv :=
 ⟨h.touch.later hb,jb hb h.sheet,h.new,jb hb h.kb,fun i hi=>(h.cols i hi).keep (fun n xs hu=>jw hu hb) (fun u n xs hu=>jw hu hb),h.apart⟩
end
section
theorem ZA {t:List ColB} {L:List SpotB} {M:List ModF} {L2:List SpotB} {rest q:List UInt8} {M':List ModF} (h:ModsOk t L M) (h':ModsOk t (L++L2) M') (e:jl t L M++rest=jl t (L++L2) M'++q) :
  ∃ M2,M'=M++M2∧ModsOk t L2 M2∧rest=jl t L2 M2++q:=by
 induction h generalizing M' with
 | nil=>exact ⟨M',rfl,h',by simpa [jl] using e⟩
 | cons hm _ ih =>
  cases h' with
  | cons hm' h2' =>
   simp only [List.cons_append,jl,List.append_assoc] at e
   obtain ⟨e1,e2⟩:=Qi hm hm' e
   obtain ⟨M2,h3,h4,h5⟩:=ih h2' e2
   exact ⟨M2,by rw [e1,h3];rfl,h4,h5⟩
def LS (R G P n k c:Nat):List SpotB:=jQ R n G P k++ju R G P k c
def MS (Qp:Nat→Nat→List ModF) (Qm:Nat→Nat→ModF) (n k c:Nat):List ModF:=qV (fun g c=>Qp g c++[Qm g c]) n k++xE (fun g c=>Qp g c++[Qm g c]) k c
theorem NV {R G P n k c:Nat} (hk:k < jW R G) (hc:c < n):∃ L3,jC R n G P=LS R G P n k c++(jh R G P k c++L3):=by
 obtain ⟨d,hd⟩:∃ d,jW R G=k+1+d:=⟨jW R G - (k+1),by omega⟩
 obtain ⟨f,hf⟩:∃ f,n=c+1+f:=⟨n - (c+1),by omega⟩
 have h1:jC R n G P=jQ R n G P (k+1)++((List.range d).map (k+1+·)).flatMap (fun g=>ju R G P g n):=by
  unfold jC
  rw [hd]
  unfold jQ
  rw [List.range_add,List.flatMap_append]
 have h2:ju R G P k n=ju R G P k (c+1)++((List.range f).map (c+1+·)).flatMap (fun c=>jh R G P k c):=by
  rw [hf]
  unfold ju
  rw [List.range_add,List.flatMap_append]
 rw [h1,Qc,h2,Qb]
 unfold LS
 simp only [List.append_assoc]
 exact ⟨_,rfl⟩
theorem DM (R G P n k c:Nat):LS R G P n k (c+1)=LS R G P n k c++jh R G P k c:=by
 unfold LS;rw [Qb,List.append_assoc]
theorem Eg (R G P n k:Nat):LS R G P n k n=LS R G P n (k+1) 0:=by
 unfold LS;rw [Qc];simp [ju]
theorem DU (Qp:Nat→Nat→List ModF) (Qm:Nat→Nat→ModF) (n k:Nat):MS Qp Qm n k n=MS Qp Qm n (k+1) 0:=by
 unfold MS;rw [QZ];simp [xE]
theorem DX (R G P n:Nat):LS R G P n 0 0=[]:=by simp [LS,jQ,ju]
theorem DI (Qp:Nat→Nat→List ModF) (Qm:Nat→Nat→ModF) (n:Nat):MS Qp Qm n 0 0=[]:=by simp [MS,qV,xE]
theorem Lt (R G P n:Nat):LS R G P n (jW R G) 0=jC R n G P:=by simp [LS,jC,ju]
theorem Lx (Qp:Nat→Nat→List ModF) (Qm:Nat→Nat→ModF) (n k:Nat):MS Qp Qm n k 0=qV (fun g c=>Qp g c++[Qm g c]) n k:=by simp [MS,xE]
theorem ZY {Q Q':Nat→Nat→List ModF} {g:Nat}:∀ {c:Nat},(∀ i,i < c→Q g i=Q' g i)→xE Q g c=xE Q' g c:=by
 intro c
 induction c with
 | zero=>intro _;rfl
 | succ c ih=>intro h;rw [Jy,Jy,ih (fun i hi=>h i (by omega)),h c (by omega)]
theorem YK {Q Q':Nat→Nat→List ModF} {n:Nat}:∀ {k:Nat},(∀ g,g < k→∀ i,i < n→Q g i=Q' g i)→qV Q n k=qV Q' n k:=by
 intro k
 induction k with
 | zero=>intro _;rfl
 | succ k ih=>intro h;rw [QZ,QZ,ih (fun g hg=>h g (by omega)),ZY (h k (by omega))]
theorem CZ {Qp:Nat→Nat→List ModF} {Qm:Nat→Nat→ModF} {n k c:Nat} {mp:List ModF} {mm:ModF}:MS (Xa Qp k c mp) (Xa Qm k c mm) n k (c+1)=MS Qp Qm n k c++(mp++[mm]):=by
 unfold MS
 rw [Jy,← List.append_assoc]
 have e1:qV (fun g c'=>Xa Qp k c mp g c'++[Xa Qm k c mm g c']) n k=qV (fun g c=>Qp g c++[Qm g c]) n k:=YK (fun g hg i _=>by
  have:¬ (g=k∧i=c):=by omega
  simp only [Xa,if_neg this])
 have e2:xE (fun g c'=>Xa Qp k c mp g c'++[Xa Qm k c mm g c']) k c=xE (fun g c=>Qp g c++[Qm g c]) k c:=ZY (fun i hi=>by
  have:i≠c:=by omega
  simp [Xa,this])
 rw [e1,e2]
 simp [Xa]
theorem SG {t:List ColB} {R G P n k c:Nat} {Qp:Nat→Nat→List ModF} {Qm:Nat→Nat→ModF} (hc:c≤n) (h:∀ i,i < n→∀ g,g < (if i < c then k+1 else k)→ModsOk t (jh R G P g i) (Qp g i++[Qm g i])):ModsOk t (LS R G P n k c) (MS Qp Qm n k c):=by
 refine (RZ (fun g hg i hi=>h i hi g ?_)).append (ZC (fun i hi=>h i (by omega) k ?_))
 ·split<;>omega
 ·rw [if_pos hi];omega
theorem SA (R G P n k c:Nat):qE true (LS R G P n k c)=true:=by
 unfold LS;rw [JW,Kh,Xz]
theorem Cc {t:List ColB} {R G P n k c:Nat} {M:List ModF} (h:ModsOk t (LS R G P n k c) M):(jp t 4 true (LS R G P n k c) M).length=k*n+c:=by
 rw [XE ⟨[],⟨0,0,0,false⟩,[],0⟩ [] _ _ _ _ ⟨[],[]⟩ (qQ h)]
 unfold LS
 rw [Qo,List.length_append,Zd,Kh,Zw]
theorem Nq {t:List ColB} {R G P n k c:Nat} {M M2:List ModF} (h:ModsOk t (LS R G P n k c) M) (h2:M2.length=(jh R G P k c).length) :
  jp t 4 true (LS R G P n k c++jh R G P k c) (M++M2)=jp t 4 true (LS R G P n k c) M++[4+(jl t (LS R G P n k c) M).length]:=by
 rw [Jn _ _ _ _ _ _ (qQ h),SA,Vj h2]
theorem Pt {t:List ColB} {R G P n k c:Nat} {M:List ModF} {rk:List UInt8} (hk:k < jW R G) (hc:c < n) (h:ModsOk t (LS R G P n k c) M) (hno:∀ M q,ModsOk t (jh R G P k c) M→rk≠jl t (jh R G P k c) M++q) :
  ∀ M' q,ModsOk t (jC R n G P) M'→jl t (LS R G P n k c) M++rk≠jl t (jC R n G P) M'++q:=by
 intro M' q hM' e
 obtain ⟨L3,hL3⟩:=NV (R:=R) (P:=P) hk hc
 rw [hL3] at hM' e
 obtain ⟨M2,rfl,h2,h3⟩:=ZA h hM' e
 obtain ⟨M3,M4,rfl,h4,h5⟩:=GU h2
 rw [zK _ _ _ _ (qQ h4),List.append_assoc] at h3
 exact hno M3 _ h4 h3
theorem Pw {t:List ColB} {R G P n k c:Nat} {M:List ModF} {rk:List UInt8} {pl:List Nat} (hk:k < jW R G) (hc:c < n) (h:ModsOk t (LS R G P n k c) M) (hi:k*n+c < pl.length) (hne:pl[k*n+c]≠4+(jl t (LS R G P n k c) M).length) :
  ∀ M' q,ModsOk t (jC R n G P) M'→jl t (LS R G P n k c) M++rk=jl t (jC R n G P) M'++q→pl≠jp t 4 true (jC R n G P) M':=by
 intro M' q hM' e hpl
 obtain ⟨L3,hL3⟩:=NV (R:=R) (P:=P) hk hc
 rw [hL3] at hM' e hpl
 obtain ⟨M2,rfl,h2,h3⟩:=ZA h hM' e
 obtain ⟨M3,M4,rfl,h4,h5⟩:=GU h2
 rw [← List.append_assoc,← List.append_assoc,Jn _ _ _ _ _ _ (qQ (h.append h4)),Nq h (qQ h4),List.append_assoc] at hpl
 apply hne
 have hl:=Cc h
 subst hpl
 rw [List.getElem_append_right (by omega)]
 simp [hl]
end
section
theorem En:∀ (l:List Nat),(∀ x ∈ l,x < 18446744073709551616)→(l.flatMap uB).length≤10*l.length:=by
 intro l
 induction l with
 | nil=>intro _;simp
 | cons x l ih =>
  intro h
  have h1:=jN x (h x (by simp))
  have h2:=ih (fun y hy=>h y (List.mem_cons_of_mem _ hy))
  rw [List.flatMap_cons,List.length_append,List.length_cons]
  omega
theorem Zr {foot:Nat} {parts footer:List UInt8} {S:SheetF} (hl:∀ x ∈ jp S.cols 4 true (qz S) S.mods,x < 18446744073709551616) (h:SheetOk foot parts footer S):footer.length≤4200:=by
 have hp:=h.plan
 simp only [qX,Bool.and_eq_true,decide_eq_true_eq] at hp
 have hh:=h.heads
 simp only [jV,Bool.and_eq_true,decide_eq_true_eq] at hh
 have hr:=h.rows
 have hc:∀ c ∈ S.cols,(jT c).length≤38:=by
  intro c hc
  obtain ⟨k,hk,rfl⟩:=List.mem_iff_getElem.1 hc
  obtain ⟨a,b,c,d⟩:=QE (QM hh.1 (Nat.le_refl _) k hk).1
  exact Ez (Nb a).2 b ⟨c,d⟩
 have h1:=NR jT 38 S.cols hc
 have h2:=En _ hl
 have h3:=Qr h
 have hcn:jW S.rows S.plan.group.toNat≤S.rows:=Xg (by omega)
 have h4:jW S.rows S.plan.group.toNat*S.cols.length≤60*6:=Nat.mul_le_mul (by omega) hh.2.2
 have u1:=jN S.rows (by omega)
 have u2:=jN S.plan.group.toNat (by omega)
 have u3:=jN S.plan.page.toNat (by omega)
 have u4:=jN S.plan.foot.toNat (by omega)
 have u5:=jN S.cols.length (by omega)
 rw [h.footer]
 unfold qH
 simp only [List.length_append]
 omega
end
section
theorem Dw (t:List ColB) (st:Option (List UInt8)) {L:List SpotB} {i:Nat} {s:SpotB} (h:L[i]?=some s):qI t st (L.take (i+1))=((qI t st (L.take i)).1++[(Kp (jk t s.c).key (qI t st (L.take i)).2).1],(Kp (jk t s.c).key (qI t st (L.take i)).2).2):=by
 rw [List.take_add_one,h]
 show qI t st (L.take i++[s])=_
 rw [Dm]
 rfl
theorem MC {t:List ColB} {parts rest:List UInt8} {L:List SpotB} {M:List ModF} (h:qI t (some parts) L=(M,some rest)):ModsOk t L M∧parts=jl t L M++rest∧M.length=L.length:=by
 obtain ⟨M1,h1,h2,h3⟩:=GZ t L [] parts rest M h
 rw [List.nil_append] at h1
 subst h1
 exact ⟨h2,h3,qQ h2⟩
theorem Gv {t:List ColB} {L:List SpotB} {i:Nat} {s:SpotB} (h:L[i]?=some s) {M:List ModF} (hM:M.length=i) (m:ModF) :
  jp t 4 true (L.take (i+1)) (M++[m])=jp t 4 true (L.take i) M++(if qE true (L.take i)=true then [4+(jl t (L.take i) M).length] else []):=by
 have hi:i < L.length:=(List.getElem?_eq_some_iff.1 h).1
 rw [List.take_add_one,h]
 show jp t 4 true (L.take i++[s]) (M++[m])=_
 rw [Jn _ _ _ _ _ _ (by simp;omega)]
 simp [jp]
theorem EQ {L:List SpotB}:∀ {k:Nat} {s:SpotB} (b:Bool),L[k]?=some s→qE b (L.take (k+1))=decide (s.sort=77):=by
 induction L with
 | nil=>intro k s b h;simp at h
 | cons x L ih =>
  intro k s b h
  rcases k with _|k
  ·simp at h
   subst h
   simp [qE]
  ·simp at h
   simp only [List.take_succ_cons,qE]
   exact ih _ h
end
section
open Go.RowKit
theorem Mb (st:Option (List UInt8)):qd 2 st=([],none)∨∃ a b r,st=some (a :: b :: r)∧qd 2 st=([a,b],some r):=by
 rcases st with _|l
 ·exact .inl rfl
 rcases l with _|⟨a,_|⟨b,r⟩⟩
 ·exact .inl (Qx (.inr (by simp)))
 ·exact .inl (Qx (.inr (by simp)))
 ·refine .inr ⟨a,b,r,rfl,?_⟩
  rw [zP (by decide) (by simp;omega)]
  rfl
theorem Si (a b:UInt8):wrap64 (wrap64 (((⟨#[a,b]⟩:ByteArray)[0]'(by simp [ByteArray.size])).toNat:Int)+wrap64 (256*wrap64 (((⟨#[a,b]⟩:ByteArray)[1]'(by simp [ByteArray.size])).toNat:Int)))=((Qe [a,b]:Nat):Int):=by
 have h1:=a.toNat_lt
 have h2:=b.toNat_lt
 show wrap64 (wrap64 (a.toNat:Int)+wrap64 (256*wrap64 (b.toNat:Int)))=((a.toNat+256*b.toNat:Nat):Int)
 generalize a.toNat=x at *
 generalize b.toNat=y at *
 simp only [wrap64]
 omega
theorem NP (p:Nat) (s:List UInt8) (st:Option (List UInt8)) (w:World) (hs:s.length≤maxLen) (hp:jS w p s st) :
  Calls Tryz.prog 148 #[.pointer (some ⟨p,0,none⟩)] w fun e w'=>e=.returned (.int .i64 ((xu st).1:Int))∧jS w' p s (xu st).2∧w.grownBy w' (some p):=by
 have Hp:=hid hp
 clear hp
 go_enter Tryz.func148,Tryz.ntmps148
 go_wp2_with fail
 refine (Qn p s st 2 _ hs (by decide) (by decide) Hp.out).mono ?_
 rintro e w1 ⟨rfl,hsp1,hg1⟩
 have hb1:=Kt hsp1
 have Hsp1:=hid hsp1
 have HG1:=hid hg1
 have HT:Hid (xu st=(Qe (qd 2 st).1,(qd 2 st).2)):=rfl
 clear hsp1 hg1
 rcases Mb st with ht|⟨a,b,r,rfl,ht⟩
 ·rw [ht] at hb1 Hsp1 HT ⊢
  simp only [JO] at hb1
  clear ht
  go_wp2
  go_ret
  rw [HT.out]
  exact ⟨rfl,Hsp1.out,HG1.out⟩
 ·rw [ht] at hb1 Hsp1 HT ⊢
  simp only [JO] at hb1
  clear ht
  have ha:=a.toNat_lt
  have hb:=b.toNat_lt
  go_wp2_with fail
  go_quiet (fail)
  go_wp2
  go_ret
  rw [HT.out]
  exact ⟨qZ (Si a b),Hsp1.out,zT HG1.out nq⟩
theorem qi {w w':World} {p B:Nat} {o:Obj} (hg:w.grownBy w' (some p)) (h:w.heap[B]?=some o) (hne:B≠p):w'.heap[B]?=some o:=by
 have hlt:=(Array.getElem?_eq_some_iff.1 h).1
 rw [hg.block B hlt (by intro e;injection e with e;exact hne e)]
 exact h
theorem Jz {w:World} {q:Nat} {o:Obj} (o':Obj) (h:w.heap[q]?=some o):(w.alloc o').heap[q]?=some o:=by
 have hlt:=(Array.getElem?_eq_some_iff.1 h).1
 rw [(World.grownBy_alloc w o' none).block q hlt (by simp)]
 exact h
theorem zS (w:World) (q i:Nat) (v:Value):w.grownBy (w.setCell ⟨q,i,none⟩ v) (some q) :=
 ⟨rfl,rfl,rfl,by simp,fun k _ hk=>heap_setCell_other w ⟨q,i,none⟩ k v (fun e=>hk (by simp [e]))⟩
theorem Qy (w:World) (q:Nat) (cs:Array Value):w.grownBy (w.setRow q cs) (some q) :=
 ⟨rfl,rfl,rfl,by simp,fun k _ hk=>setRow_other w q k cs (fun e=>hk (by rw [e]))⟩
theorem zi {w w' w2:World} {p q:Nat} (h:w.grownBy w' (some p)) (h2:w'.grownBy w2 (some q)) (hq:w.heap.size≤q):w.grownBy w2 (some p) :=
 ⟨h2.os.trans h.os,h2.tape.trans h.tape,h2.output.trans h.output,Nat.le_trans h.size h2.size,fun i hi hne=>(h2.block i (Nat.lt_of_lt_of_le hi h.size) (by intro e;injection e with e;omega)).trans (h.block i hi hne)⟩
theorem JS {w:World} {p:Nat} {s:List UInt8} {st:Option (List UInt8)} (h:jS w p s st):p < w.heap.size:=by
 obtain ⟨_,_,h,_⟩:=h
 exact (Array.getElem?_eq_some_iff.1 h).1
theorem xl {w w':World} {p q:Nat} {s:List UInt8} {st:Option (List UInt8)} (h:jS w p s st) (hg:w.grownBy w' (some q)) (hq:p≠q):jS w' p s st:=by
 obtain ⟨at_,bad,hrow,hat,hst⟩:=h
 exact ⟨at_,bad,qi hg hrow hq,hat,hst⟩
theorem KA (p:Nat) (s:List UInt8) (st:Option (List UInt8)) (w:World) (hs:s.length≤maxLen) (hp:jS w p s st) :
  Calls Tryz.prog 150 #[.pointer (some ⟨p,0,none⟩)] w fun e w'=>e=.returned (.agg #[strB (qm st).1.1,strB (qm st).1.2])∧jS w' p s (qm st).2∧w.grownBy w' (some p):=by
 have hpw:=JS hp
 obtain ⟨hb0,hl0,_,ho0⟩:=qg w #[Value.string { data:=#[] },Value.string { data:=#[] }] 167
 have HS0:=hid (zp hp hpw (.cells #[Value.string { data:=#[] },Value.string { data:=#[] }] 167))
 have HR:Hid (qm st=(((qd 4 (xu st).2).1,(qd ((xu st).1:Int) (qd 4 (xu st).2).2).1),if (xu st).1 < 2 then none else (qd ((xu st).1:Int) (qd 4 (xu st).2).2).2)):=rfl
 have hn:=Gz (qd 2 st).1
 have hn2:(xu st).1≤65535:=hn
 have HA0:=hid (World.grownBy_alloc w (.cells #[Value.string { data:=#[] },Value.string { data:=#[] }] 167) (some p))
 have Ho0:=hid ho0
 clear hp hb0 ho0 hn
 go_enter Tryz.func150,Tryz.ntmps150
 go_wp2_with fail
 generalize w.alloc _=W0 at *
 refine (NP p s st W0 hs HS0.out).mono ?_
 rintro e w1 ⟨rfl,hsp1,hg1⟩
 have HG1:=hid (ja HA0.out hg1)
 have Ho1:=hid (qi hg1 Ho0.out (by omega))
 have HS1:=hid hsp1
 clear hg1 hsp1 HS0
 generalize xu st=x at *
 obtain ⟨n,st1⟩:=x
 simp only at HR hn2 HS1 ⊢
 go_wp2_with fail
 refine (Qn p s st1 4 w1 hs (by decide) (by decide) HS1.out).mono ?_
 rintro e w2 ⟨rfl,hsp2,hg2⟩
 have HG2:=hid (ja HG1.out hg2)
 have Ho2:=hid (qi hg2 Ho1.out (by omega))
 have HS2:=hid hsp2
 clear hg2 hsp2 HS1 Ho1 HG1 Ho0
 generalize qd 4 st1=x at *
 obtain ⟨non,st2⟩:=x
 simp only at HR HS2 ⊢
 go_wp2_with fail
 obtain ⟨hb3,_,_,hB3⟩:=qg w2 #[Value.string { data:=non.toArray },Value.string { data:=#[] }] 167
 have hpB:=JS HS2.out
 have hwB:w.heap.size < w2.heap.size:=(Array.getElem?_eq_some_iff.1 Ho2.out).1
 have HS3:=hid (zp HS2.out hpB (.cells #[Value.string { data:=non.toArray },Value.string { data:=#[] }] 167))
 have Ho3:=hid (Jz (.cells #[Value.string { data:=non.toArray },Value.string { data:=#[] }] 167) Ho2.out)
 have HG3:=hid (xU HG2.out (.cells #[Value.string { data:=non.toArray },Value.string { data:=#[] }] 167))
 have HB3:=hid hB3
 clear hb3 hB3 HS2 Ho2
 generalize hW:w2.alloc _=W2 at *
 clear hW
 generalize w2.heap.size=B at *
 refine (Qn p s st2 (n:Int) W2 hs (by omega) (by omega) HS3.out).mono ?_
 rintro e w3 ⟨rfl,hsp4,hg4⟩
 have HG4:=hid (ja HG3.out hg4)
 have Ho4:=hid (qi hg4 Ho3.out (by omega))
 have HB4:=hid (qi hg4 HB3.out (by omega))
 have HS4:=hid hsp4
 clear hg4 hsp4 HG3 Ho3 HB3 HS3
 generalize qd (n:Int) st2=x at *
 obtain ⟨body,st3⟩:=x
 simp only at HR HS4 ⊢
 have hB0:w3.cell? ⟨B,1,none⟩=some (Value.string { data:=#[] }):=by rw [cell_of_row w3 B 1 _ _ (0,0) HB4.out];rfl
 have hz0:=frozen_of_row w3 B 1 _ _ HB4.out
 go_upto_region 4 with fail
 clear hB0 hz0
 have HB5:=hid (heap_setCell_same w3 B 1 _ _ (strB body) HB4.out)
 have HS5:=hid (Uj HS4.out (q:=⟨B,1,none⟩) (by show p≠B;omega) (strB body))
 have Ho5:=hid (qi (zS w3 B 1 (strB body)) Ho4.out (by omega))
 have HG5:=hid (zi HG4.out (zS w3 B 1 (strB body)) (by omega))
 clear HB4 HS4 Ho4 HG4
 generalize w3.setCell _ _=w5 at *
 obtain ⟨at_,bad,hrow,hat,hst⟩:=HS5.out
 obtain ⟨⟨c0,c1,c2⟩,cf⟩:=xi hrow
 have f2:=cf 2
 have Hrow:=hid hrow
 clear hrow cf c0 c1
 cases bad with
 | true =>
  go_upto_region 5 with fail
  obtain ⟨hb1,hb2⟩:=Xl (v:=.bool true) Hrow.out
  have HSX:Hid (jS (w5.setCell ⟨p,2,none⟩ (.bool true)) p s (qm st).2):=⟨at_,true,hb1,hat,by rw [HR.out];rw [hst];simp⟩
  have Ho6:=hid (qi hb2 Ho5.out (by omega))
  have HB6:=hid (qi hb2 HB5.out (by omega))
  have HG6:=hid (ja HG5.out hb2)
  clear hb1 hb2 c2 f2
  generalize w5.setCell _ _=w6 at *
  go_wp2_with (first|(refine wpList_load_row rfl 167 (.tmp 4) rfl B rfl 167 #[strB non,strB body] (0,0) _ HB6.out Tryz.underlying167 rfl (by kernel_rfl) ?_)|(refine wpList_store_row rfl 167 (.tmp 2) (.tmp 25) rfl w.heap.size #[strB non,strB body] rfl rfl 167 #[Value.string { data:=#[] },Value.string { data:=#[] }] Ho6.out (by kernel_rfl) rfl (by simp [Value.oneCell']) ?_))
  have HR1:Hid ((qm st).1=(non,body)):=by show _=_;rw [HR.out]
  rw [HR1.out]
  have Ho7:=hid (setRow_heap w6 w.heap.size _ #[strB non,strB body] 167 (0,0) Ho6.out)
  have HS7:=hid (xl HSX.out (Qy w6 w.heap.size #[strB non,strB body]) (by omega))
  have HG7:=hid (zi HG6.out (Qy w6 w.heap.size #[strB non,strB body]) (Nat.le_refl _))
  generalize w6.setRow _ _=w7 at *
  exact bodyPost_ret (v:=.agg #[strB non,strB body]) (results_cell_row (P:=Tryz.prog) (p:=2) (ty:=167) rfl _ _ w.heap.size 167 #[strB non,strB body] (0,0) _ rfl Ho7.out Tryz.underlying167 rfl (by kernel_rfl)) rfl ⟨rfl,HS7.out,HG7.out⟩
 | false =>
  by_cases hlt:n < 2
  ·have hni:(n:Int) < 2:=by omega
   have hd:decide ((n:Int) < 2)=true:=decide_eq_true hni
   go_upto_region 5 with fail
   obtain ⟨hb1,hb2⟩:=Xl (v:=.bool true) Hrow.out
   have HSX:Hid (jS (w5.setCell ⟨p,2,none⟩ (.bool true)) p s (qm st).2):=⟨at_,true,hb1,hat,by rw [HR.out];simp [hlt]⟩
   have Ho6:=hid (qi hb2 Ho5.out (by omega))
   have HB6:=hid (qi hb2 HB5.out (by omega))
   have HG6:=hid (ja HG5.out hb2)
   clear hb1 hb2 c2 f2
   generalize w5.setCell _ _=w6 at *
   go_wp2_with (first|(refine wpList_load_row rfl 167 (.tmp 4) rfl B rfl 167 #[strB non,strB body] (0,0) _ HB6.out Tryz.underlying167 rfl (by kernel_rfl) ?_)|(refine wpList_store_row rfl 167 (.tmp 2) (.tmp 25) rfl w.heap.size #[strB non,strB body] rfl rfl 167 #[Value.string { data:=#[] },Value.string { data:=#[] }] Ho6.out (by kernel_rfl) rfl (by simp [Value.oneCell']) ?_))
   have HR1:Hid ((qm st).1=(non,body)):=by show _=_;rw [HR.out]
   rw [HR1.out]
   have Ho7:=hid (setRow_heap w6 w.heap.size _ #[strB non,strB body] 167 (0,0) Ho6.out)
   have HS7:=hid (xl HSX.out (Qy w6 w.heap.size #[strB non,strB body]) (by omega))
   have HG7:=hid (zi HG6.out (Qy w6 w.heap.size #[strB non,strB body]) (Nat.le_refl _))
   generalize w6.setRow _ _=w7 at *
   exact bodyPost_ret (v:=.agg #[strB non,strB body]) (results_cell_row (P:=Tryz.prog) (p:=2) (ty:=167) rfl _ _ w.heap.size 167 #[strB non,strB body] (0,0) _ rfl Ho7.out Tryz.underlying167 rfl (by kernel_rfl)) rfl ⟨rfl,HS7.out,HG7.out⟩
  ·have hni:¬ (n:Int) < 2:=by omega
   have hd:decide ((n:Int) < 2)=false:=decide_eq_false hni
   go_upto_region 5 with fail
   obtain ⟨hb1,hb2⟩:=Xl (v:=.bool false) Hrow.out
   have HSX:Hid (jS (w5.setCell ⟨p,2,none⟩ (.bool false)) p s (qm st).2):=⟨at_,false,hb1,hat,by rw [HR.out];rw [hst];simp [hlt]⟩
   have Ho6:=hid (qi hb2 Ho5.out (by omega))
   have HB6:=hid (qi hb2 HB5.out (by omega))
   have HG6:=hid (ja HG5.out hb2)
   clear hb1 hb2 c2 f2
   generalize w5.setCell _ _=w6 at *
   go_wp2_with (first|(refine wpList_load_row rfl 167 (.tmp 4) rfl B rfl 167 #[strB non,strB body] (0,0) _ HB6.out Tryz.underlying167 rfl (by kernel_rfl) ?_)|(refine wpList_store_row rfl 167 (.tmp 2) (.tmp 25) rfl w.heap.size #[strB non,strB body] rfl rfl 167 #[Value.string { data:=#[] },Value.string { data:=#[] }] Ho6.out (by kernel_rfl) rfl (by simp [Value.oneCell']) ?_))
   have HR1:Hid ((qm st).1=(non,body)):=by show _=_;rw [HR.out]
   rw [HR1.out]
   have Ho7:=hid (setRow_heap w6 w.heap.size _ #[strB non,strB body] 167 (0,0) Ho6.out)
   have HS7:=hid (xl HSX.out (Qy w6 w.heap.size #[strB non,strB body]) (by omega))
   have HG7:=hid (zi HG6.out (Qy w6 w.heap.size #[strB non,strB body]) (Nat.le_refl _))
   generalize w6.setRow _ _=w7 at *
   exact bodyPost_ret (v:=.agg #[strB non,strB body]) (results_cell_row (P:=Tryz.prog) (p:=2) (ty:=167) rfl _ _ w.heap.size 167 #[strB non,strB body] (0,0) _ rfl Ho7.out Tryz.underlying167 rfl (by kernel_rfl)) rfl ⟨rfl,HS7.out,HG7.out⟩
end
end Go.Proofs.YthhpbhpfagoapaaGreat
