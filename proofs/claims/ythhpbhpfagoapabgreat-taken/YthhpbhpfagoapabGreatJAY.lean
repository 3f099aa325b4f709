import Derived.Test.YthhpbhpfagoapabGreatJBB
import Derived.Test.YthhpbhpfagoapabGreatJAS
namespace Go.Proofs.YthhpbhpfagoapabGreat
set_option linter.unusedVariables false
set_option linter.unusedSimpArgs false
set_option maxRecDepth 100000
set_option maxHeartbeats 16000000
open Go.RowKit
section
def SZ (T:List TypeId) (o:Obj):Prop:=∃ cur t,o=.cells cur t (0,0)∧t ∈ T
structure KeptT (T:List TypeId) (B:Nat) (w w':World):Prop where
 os:w'.os=w.os
 tape:w'.tape=w.tape
 output:w'.output=w.output
 size:w.heap.size≤w'.heap.size
 block:∀ k,k < B→w'.heap[k]?=w.heap[k]?
 other:∀ (k:Nat) (o:Obj),w.heap[k]?=some o→¬ SZ T o→w'.heap[k]?=some o
variable {T:List TypeId} {B:Nat}
theorem KeptT.refl (T:List TypeId) (B:Nat) (w:World):KeptT T B w w:=⟨rfl,rfl,rfl,Nat.le_refl _,fun _ _=>rfl,fun _ _ h _=>h⟩
theorem KeptT.trans {a b c:World} (h:KeptT T B a b) (k:KeptT T B b c):KeptT T B a c :=
 ⟨k.os.trans h.os,k.tape.trans h.tape,k.output.trans h.output,Nat.le_trans h.size k.size,fun i hi=>(k.block i hi).trans (h.block i hi),fun i o hi ho=>k.other i o (h.other i o hi ho) ho⟩
theorem KeptT.below {a b:World} (h:KeptT T B a b):Below B a b:=⟨h.os,h.tape,h.output,h.size,h.block⟩
theorem Below.keptT {a b:World} (h:Below a.heap.size a b) (hB:B≤a.heap.size):KeptT T B a b :=
 ⟨h.os,h.tape,h.output,h.size,fun k hk=>h.block k (by omega),fun k o hk _=>(h.block k (Array.getElem?_eq_some_iff.1 hk).1).trans hk⟩
theorem KeptT.drew {a b:World} (h:KeptT T B a b):KeptT T B a b.drew:=⟨h.os,h.tape,h.output,h.size,h.block,h.other⟩
theorem KeptT.undrew {a b:World} (h:KeptT T B a.drew b):KeptT T B a b:=⟨h.os,h.tape,h.output,h.size,h.block,h.other⟩
theorem KeptT.alloc {a b:World} (h:KeptT T B a b) (hB:B≤b.heap.size) (o:Obj):KeptT T B a (b.alloc o) :=
 h.trans (Below.keptT ((Below.refl _ _).alloc (Nat.le_refl _) _) hB)
theorem KeptT.grown {a b c:World} {row:Option Nat} (h:KeptT T B a b) (hg:b.grownBy c row) (hB:B≤b.heap.size)
  (hr:∀ k,row=some k→B≤k∧∃ o,b.heap[k]?=some o∧SZ T o):KeptT T B a c:=by
 refine h.trans ⟨hg.os,hg.tape,hg.output,hg.size,fun k hk=>hg.block k (by omega) (fun e=>by have:=(hr k e.symm).1;omega),fun k o hk ho=>?_⟩
 rw [hg.block k (Array.getElem?_eq_some_iff.1 hk).1 ?_]
 ·exact hk
 ·intro e
  obtain ⟨_,o',h1,h2⟩:=hr k e.symm
  rw [hk] at h1
  cases h1
  exact ho h2
theorem Ek {w:World} {base:Nat} {e:TypeId} {size:Nat} {v:Value} {n:Nat} {xs:List Value} (h:w.ownsRow base e size v n xs) (he:e ∈ T) :
  ∀ k,v.ownBlock=some k→base≤k∧∃ o,w.heap[k]?=some o∧SZ T o:=by
 intro k hk
 rcases h.2 with ⟨rfl,_⟩|⟨g,cap,cur,rfl,hb,hg,_⟩
 ·simp [Value.ownBlock] at hk
 ·simp [Value.ownBlock] at hk
  subst hk
  exact ⟨hb,_,hg,cur,e,rfl,he⟩
theorem KeptT.owns {w w':World} {base:Nat} {e:TypeId} {size:Nat} {v:Value} {n:Nat} {xs:List Value} (hk:KeptT T B w w') (h:w.ownsRow base e size v n xs) (he:¬ e ∈ T):w'.ownsRow base e size v n xs:=by
 refine ⟨h.1,?_⟩
 rcases h.2 with hn|⟨g,cap,cur,rfl,hb,hg,rest⟩
 ·exact .inl hn
 ·refine .inr ⟨g,cap,cur,rfl,hb,hk.other g _ hg ?_,rest⟩
  rintro ⟨cur',t,e1,ht⟩
  cases e1
  exact he ht
theorem KeptT.row {w w':World} {g:Nat} {cur:Array Value} {e:TypeId} (hk:KeptT T B w w') (h:w.heap[g]?=some (.cells cur e (0,0))) (he:¬ e ∈ T):w'.heap[g]?=some (.cells cur e (0,0)):=by
 refine hk.other g _ h ?_
 rintro ⟨cur',t,e1,ht⟩
 cases e1
 exact he ht
theorem jb {w:World} {g j:Nat} {cur:Array Value} {e:TypeId} (h:w.heap[g]?=some (.cells cur e (0,0))):w.cell? ⟨g,j,none⟩=cur[j]?:=cell_of_row w g j cur e (0,0) h
theorem KeptT.set {a w:World} {g j:Nat} {cur:Array Value} {e:TypeId} (h:KeptT T B a w) (hg:w.heap[g]?=some (.cells cur e (0,0))) (hB:B≤g) (he:e ∈ T) (v:Value):KeptT T B a (w.setCell ⟨g,j,none⟩ v):=by
 refine h.trans ⟨rfl,rfl,rfl,by simp,fun k hk=>heap_setCell_other w ⟨g,j,none⟩ k v (by simp;omega),fun k o hk ho=>?_⟩
 rw [heap_setCell_other w ⟨g,j,none⟩ k v ?_]
 ·exact hk
 ·intro e1
  simp only at e1
  subst e1
  rw [hg] at hk
  cases hk
  exact ho ⟨cur,e,rfl,he⟩
theorem Jw {α:Type} (f:α→List Value) (m:Nat) (hf:∀ x,(f x).length=m) (l:List α):∀ (j i:Nat) (hj:j < l.length) (hi:i < m),(l.flatMap f)[j*m+i]?=(f l[j])[i]?:=by
 induction l with
 | nil=>intro j i hj;simp at hj
 | cons x l ih =>
  intro j i hj hi
  rw [List.flatMap_cons]
  cases j with
  | zero=>rw [List.getElem?_append_left (by rw [hf];omega)];simp
  | succ j =>
   have hj':j < l.length:=by simpa using hj
   rw [List.getElem?_append_right (by rw [hf,Nat.succ_mul];omega),hf]
   rw [show (j+1)*m+i - m=j*m+i by rw [Nat.succ_mul];omega]
   exact ih j i hj' hi
theorem Ud {α:Type} (f:α→List Value) (m:Nat) (hf:∀ x,(f x).length=m) (l:List α):(l.flatMap f).length=l.length*m:=by
 induction l with
 | nil=>simp
 | cons x l ih=>rw [List.flatMap_cons,List.length_append,hf,ih,List.length_cons,Nat.succ_mul];omega
theorem jK (w:World) (C:Array Value) (t:TypeId):Below w.heap.size w (w.alloc (.cells C t))∧w.heap.size < (w.alloc (.cells C t)).heap.size∧(∀ j,(w.alloc (.cells C t)).cell? ⟨w.heap.size,j,none⟩=C[j]?)∧(w.alloc (.cells C t)).heap[w.heap.size]?=some (.cells C t (0,0)) :=
 ⟨(Below.refl _ _).alloc (Nat.le_refl _) _,by simp,fun j=>World.cell?_alloc_mark ..,heap_alloc_new w _⟩
theorem Xf (w:World):Below w.heap.size w w.drew:=jl (Below.refl _ _)
end
section
def Tc (c:ColB):Prop:=c.name.length≤maxLen∧(-9223372036854775808≤c.kind∧c.kind≤9223372036854775807)∧(-9223372036854775808≤c.key∧c.key≤9223372036854775807)
def CX (c:KeyB):Prop:=c.secret.length≤maxLen∧(-9223372036854775808≤c.number∧c.number≤9223372036854775807)
def HasCells (w:World) (v:Value) (l:List CellB):Prop:=∃ ca cap,v=.slice ca l.length cap∧l.length≤cap∧Lies w ca l∧l.length*32≤140737488351232
abbrev colV (c:ColB) (v:Value):Value:=.agg #[strB c.name,.int .i64 c.kind,.int .i64 c.key,v]
structure LiesT (w:World) (a:Option Addr) (t:List ColB):Prop where
 ok:∀ c ∈ t,Tc c
 at_:t≠[]→∃ b off,a=some ⟨b,off,none⟩∧b < w.heap.size∧∀ j (h:j < t.length),
  w.cell? ⟨b,off+j*4,none⟩=some (strB (t[j]).name)∧w.cell? ⟨b,off+j*4+1,none⟩=some (.int .i64 (t[j]).kind)∧w.cell? ⟨b,off+j*4+2,none⟩=some (.int .i64 (t[j]).key) ∧
   ∃ v,w.cell? ⟨b,off+j*4+3,none⟩=some v∧HasCells w v (t[j]).cells
structure LiesK (w:World) (a:Option Addr) (r:List KeyB):Prop where
 ok:∀ c ∈ r,CX c
 at_:r≠[]→∃ b off,a=some ⟨b,off,none⟩∧b < w.heap.size∧∀ j (h:j < r.length),
  w.cell? ⟨b,off+j*2,none⟩=some (.int .i64 (r[j]).number)∧w.cell? ⟨b,off+j*2+1,none⟩=some (strB (r[j]).secret)
theorem HasCells.later {w w':World} {v:Value} {l:List CellB} (h:HasCells w v l) (hb:Below w.heap.size w w'):HasCells w' v l:=by
 obtain ⟨ca,cap,hv,hc,hl,hm⟩:=h
 exact ⟨ca,cap,hv,hc,hl.later hb,hm⟩
theorem LiesT.later {w w':World} {a:Option Addr} {t:List ColB} (h:LiesT w a t) (hb:Below w.heap.size w w'):LiesT w' a t:=by
 refine ⟨h.ok,fun hne=>?_⟩
 obtain ⟨b,off,ha,hlt,hc⟩:=h.at_ hne
 refine ⟨b,off,ha,Nat.lt_of_lt_of_le hlt hb.size,fun j hj=>?_⟩
 obtain ⟨h1,h2,h3,v,h4,h5⟩:=hc j hj
 exact ⟨(hb.cell (p:=⟨b,_,none⟩) hlt).trans h1,(hb.cell (p:=⟨b,_,none⟩) hlt).trans h2,(hb.cell (p:=⟨b,_,none⟩) hlt).trans h3,v,(hb.cell (p:=⟨b,_,none⟩) hlt).trans h4,h5.later hb⟩
theorem LiesK.later {w w':World} {a:Option Addr} {r:List KeyB} (h:LiesK w a r) (hb:Below w.heap.size w w'):LiesK w' a r:=by
 refine ⟨h.ok,fun hne=>?_⟩
 obtain ⟨b,off,ha,hlt,hc⟩:=h.at_ hne
 refine ⟨b,off,ha,Nat.lt_of_lt_of_le hlt hb.size,fun j hj=>?_⟩
 obtain ⟨h1,h2⟩:=hc j hj
 exact ⟨(hb.cell (p:=⟨b,_,none⟩) hlt).trans h1,(hb.cell (p:=⟨b,_,none⟩) hlt).trans h2⟩
def qI (l:List SealB):List Value:=l.flatMap fun s=>[strB s.secret,strB s.nonce,strB s.extra,strB s.body]
theorem Xj (l:List SealB):(qI l).length=l.length*4:=Ud _ 4 (fun _=>rfl) l
theorem An (l:List SealB) (s:SealB):qI (l++[s])=qI l++[strB s.secret,strB s.nonce,strB s.extra,strB s.body]:=by simp [qI]
theorem Sd (l:List SealB) (j:Nat) (h:j < l.length):(qI l)[j*4]?=some (strB (l[j]).secret)∧(qI l)[j*4+1]?=some (strB (l[j]).nonce)∧(qI l)[j*4+2]?=some (strB (l[j]).extra)∧(qI l)[j*4+3]?=some (strB (l[j]).body) :=
 ⟨Jw _ 4 (fun _=>rfl) l j 0 h (by decide),Jw _ 4 (fun _=>rfl) l j 1 h (by decide),Jw _ 4 (fun _=>rfl) l j 2 h (by decide),Jw _ 4 (fun _=>rfl) l j 3 h (by decide)⟩
theorem Vr (l:List SealB):∀ v ∈ qI l,v.oneCell'=true:=by
 intro v hv
 simp only [qI,List.mem_flatMap] at hv
 obtain ⟨c,_,hc⟩:=hv
 simp at hc
 rcases hc with rfl|rfl|rfl|rfl<;>rfl
end
end Go.Proofs.YthhpbhpfagoapabGreat
