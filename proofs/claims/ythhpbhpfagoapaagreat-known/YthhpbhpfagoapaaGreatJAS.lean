import Derived.Test.YthhpbhpfagoapaaGreatRSpot
import Derived.Test.YthhpbhpfagoapaaGreatJAO
import Derived.Test.YthhpbhpfagoapaaGreatJAG
import Derived.Test.YthhpbhpfagoapaaGreatJAN
import Derived.Deep.DeepCutAuto
import Derived.Deep.RegionWith
import Derived.Test.YthhpbhpfagoapaaGreatJAM
namespace Go.Proofs.YthhpbhpfagoapaaGreat
set_option linter.unusedVariables false
set_option linter.unusedSimpArgs false
set_option maxRecDepth 100000
set_option maxHeartbeats 16000000
section
open Go.RowKit
theorem u64_i64 {n:Int} (h0:0≤n) (h1:n≤9223372036854775807):IntKind.i64.wrap n=n:=IntWalk.i64_in n ⟨by omega,by omega⟩
end
section
open Go.RowKit
theorem keep_row {wr w1:World} {B p e sz n:Nat} {v:Value} {xs:List Value} (h:wr.ownsRow B e sz v n xs) (hp:p < B) (hg:wr.grownBy w1 (some p)):w1.ownsRow B e sz v n xs:=by
 refine h.kept hg ?_
 cases hv:v.ownBlock with
 | none=>exact .inl rfl
 | some k =>
  right
  have:=(h.lt k hv).1
  simp only [ne_eq,Option.some.injEq]
  omega
theorem grown_alloc {w wr:World} {p:Option Nat} (h:w.grownBy wr p) (o:Obj):w.grownBy (wr.alloc o) p:=grown_trans h (World.grownBy_alloc wr o p)
theorem grown_own {w wr w2:World} {p q:Option Nat} (h:w.grownBy wr p) (hg:wr.grownBy w2 q) (hq:∀ k,q=some k→w.heap.size≤k):w.grownBy w2 p:=by
 refine ⟨hg.os.trans h.os,hg.tape.trans h.tape,hg.output.trans h.output,Nat.le_trans h.size hg.size,fun i hi hne=>?_⟩
 rw [hg.block i (Nat.lt_of_lt_of_le hi h.size) (fun e=>absurd (hq i e.symm) (by omega))]
 exact h.block i hi hne
theorem ownsRow_base {w:World} {b b' e s n:Nat} {v:Value} {xs:List Value} (h:w.ownsRow b e s v n xs) (hb:b'≤b):w.ownsRow b' e s v n xs:=by
 refine ⟨h.1,?_⟩
 rcases h.2 with h|⟨g,cap,cur,rfl,hg,rest⟩
 ·exact .inl h
 ·exact .inr ⟨g,cap,cur,rfl,Nat.le_trans hb hg,rest⟩
theorem grown_undrew {a b:World} {p:Option Nat} (h:(a.drew).grownBy b p):a.grownBy b p:=⟨h.os,h.tape,h.output,h.size,h.block⟩
end
section
theorem chunk_small {R G P g c:Nat}:∀ s ∈ chunkSpots R G P g c,s.c=c∧s.many≤G:=by
 intro s hs
 rcases List.mem_append.1 hs with hs|hs
 ·simp only [pageSpots,List.mem_map,List.mem_range] at hs
  obtain ⟨k,_,rfl⟩:=hs
  exact ⟨rfl,Nat.le_trans (part_le _ _ _).2 (part_le _ _ _).1⟩
 ·simp only [List.mem_cons,List.not_mem_nil,or_false] at hs
  subst hs
  exact ⟨rfl,(part_le _ _ _).1⟩
theorem group_small {R G P g C:Nat}:∀ s ∈ groupSpots R G P g C,s.c < C∧s.many≤G:=by
 intro s hs
 simp only [groupSpots,List.mem_flatMap,List.mem_range] at hs
 obtain ⟨c,hc,hs⟩:=hs
 obtain ⟨h1,h2⟩:=chunk_small s hs
 exact ⟨by omega,h2⟩
theorem to_small {R C G P n:Nat}:∀ s ∈ spotsTo R C G P n,s.c < C∧s.many≤G:=by
 intro s hs
 simp only [spotsTo,List.mem_flatMap,List.mem_range] at hs
 obtain ⟨g,_,hs⟩:=hs
 exact group_small s hs
end
section
open Go.RowKit
def RowOf (T:List TypeId) (o:Obj):Prop:=∃ cur t,o=.cells cur t (0,0)∧t ∈ T
structure KeptT (T:List TypeId) (B:Nat) (w w':World):Prop where
 os:w'.os=w.os
 tape:w'.tape=w.tape
 output:w'.output=w.output
 size:w.heap.size≤w'.heap.size
 block:∀ k,k < B→w'.heap[k]?=w.heap[k]?
 other:∀ (k:Nat) (o:Obj),w.heap[k]?=some o→¬ RowOf T o→w'.heap[k]?=some o
variable {T:List TypeId} {B:Nat}
theorem KeptT.refl (T:List TypeId) (B:Nat) (w:World):KeptT T B w w:=⟨rfl,rfl,rfl,Nat.le_refl _,fun _ _=>rfl,fun _ _ h _=>h⟩
theorem KeptT.trans {a b c:World} (h:KeptT T B a b) (k:KeptT T B b c):KeptT T B a c :=
 ⟨k.os.trans h.os,k.tape.trans h.tape,k.output.trans h.output,Nat.le_trans h.size k.size,fun i hi=>(k.block i hi).trans (h.block i hi),fun i o hi ho=>k.other i o (h.other i o hi ho) ho⟩
theorem KeptT.below {a b:World} (h:KeptT T B a b):Below B a b:=⟨h.os,h.tape,h.output,h.size,h.block⟩
theorem Below.keptT {a b:World} (h:Below a.heap.size a b) (hB:B≤a.heap.size):KeptT T B a b :=
 ⟨h.os,h.tape,h.output,h.size,fun k hk=>h.block k (by omega),fun k o hk _=>(h.block k (Array.getElem?_eq_some_iff.1 hk).1).trans hk⟩
theorem KeptT.undrew {a b:World} (h:KeptT T B a.drew b):KeptT T B a b:=⟨h.os,h.tape,h.output,h.size,h.block,h.other⟩
theorem KeptT.alloc {a b:World} (h:KeptT T B a b) (hB:B≤b.heap.size) (o:Obj):KeptT T B a (b.alloc o) :=
 h.trans (Below.keptT ((Below.refl _ _).alloc (Nat.le_refl _) _) hB)
theorem KeptT.grown {a b c:World} {row:Option Nat} (h:KeptT T B a b) (hg:b.grownBy c row) (hB:B≤b.heap.size)
  (hr:∀ k,row=some k→B≤k∧∃ o,b.heap[k]?=some o∧RowOf T o):KeptT T B a c:=by
 refine h.trans ⟨hg.os,hg.tape,hg.output,hg.size,fun k hk=>hg.block k (by omega) (fun e=>by have:=(hr k e.symm).1;omega),fun k o hk ho=>?_⟩
 rw [hg.block k (Array.getElem?_eq_some_iff.1 hk).1 ?_]
 ·exact hk
 ·intro e
  obtain ⟨_,o',h1,h2⟩:=hr k e.symm
  rw [hk] at h1
  cases h1
  exact ho h2
theorem rowOf_own {w:World} {base:Nat} {e:TypeId} {size:Nat} {v:Value} {n:Nat} {xs:List Value} (h:w.ownsRow base e size v n xs) (he:e ∈ T) :
  ∀ k,v.ownBlock=some k→base≤k∧∃ o,w.heap[k]?=some o∧RowOf T o:=by
 intro k hk
 rcases h.2 with ⟨rfl,_⟩|⟨g,cap,cur,rfl,hb,hg,_⟩
 ·simp [Value.ownBlock] at hk
 ·simp [Value.ownBlock] at hk
  subst hk
  exact ⟨hb,_,hg,cur,e,rfl,he⟩
theorem KeptT.owns {w w':World} {base:Nat} {e:TypeId} {size:Nat} {v:Value} {n:Nat} {xs:List Value} (hk:KeptT T B w w') (h:w.ownsRow base e size v n xs) (he:¬ e ∈ T):w'.ownsRow base e size v n xs:=by
 refine ⟨h.1,?_⟩
 rcases h.2 with hn|⟨g,cap,cur,rfl,hb,hg,rest⟩
 ·exact .inl hn
 ·refine .inr ⟨g,cap,cur,rfl,hb,hk.other g _ hg ?_,rest⟩
  rintro ⟨cur',t,e1,ht⟩
  cases e1
  exact he ht
theorem KeptT.row {w w':World} {g:Nat} {cur:Array Value} {e:TypeId} (hk:KeptT T B w w') (h:w.heap[g]?=some (.cells cur e (0,0))) (he:¬ e ∈ T):w'.heap[g]?=some (.cells cur e (0,0)):=by
 refine hk.other g _ h ?_
 rintro ⟨cur',t,e1,ht⟩
 cases e1
 exact he ht
theorem cell_of_heap {w:World} {g j:Nat} {cur:Array Value} {e:TypeId} (h:w.heap[g]?=some (.cells cur e (0,0))):w.cell? ⟨g,j,none⟩=cur[j]?:=cell_of_row w g j cur e (0,0) h
theorem KeptT.set {a w:World} {g j:Nat} {cur:Array Value} {e:TypeId} (h:KeptT T B a w) (hg:w.heap[g]?=some (.cells cur e (0,0))) (hB:B≤g) (he:e ∈ T) (v:Value):KeptT T B a (w.setCell ⟨g,j,none⟩ v):=by
 refine h.trans ⟨rfl,rfl,rfl,by simp,fun k hk=>heap_setCell_other w ⟨g,j,none⟩ k v (by simp;omega),fun k o hk ho=>?_⟩
 rw [heap_setCell_other w ⟨g,j,none⟩ k v ?_]
 ·exact hk
 ·intro e1
  simp only at e1
  subst e1
  rw [hg] at hk
  cases hk
  exact ho ⟨cur,e,rfl,he⟩
theorem flat_at {α:Type} (f:α→List Value) (m:Nat) (hf:∀ x,(f x).length=m) (l:List α):∀ (j i:Nat) (hj:j < l.length) (hi:i < m),(l.flatMap f)[j*m+i]?=(f l[j])[i]?:=by
 induction l with
 | nil=>intro j i hj;simp at hj
 | cons x l ih =>
  intro j i hj hi
  rw [List.flatMap_cons]
  cases j with
  | zero=>rw [List.getElem?_append_left (by rw [hf];omega)];simp
  | succ j =>
   have hj':j < l.length:=by simpa using hj
   rw [List.getElem?_append_right (by rw [hf,Nat.succ_mul];omega),hf]
   rw [show (j+1)*m+i - m=j*m+i by rw [Nat.succ_mul];omega]
   exact ih j i hj' hi
theorem flat_length {α:Type} (f:α→List Value) (m:Nat) (hf:∀ x,(f x).length=m) (l:List α):(l.flatMap f).length=l.length*m:=by
 induction l with
 | nil=>simp
 | cons x l ih=>rw [List.flatMap_cons,List.length_append,hf,ih,List.length_cons,Nat.succ_mul];omega
theorem boxedW (w:World) (C:Array Value) (t:TypeId):Below w.heap.size w (w.alloc (.cells C t))∧w.heap.size < (w.alloc (.cells C t)).heap.size∧(∀ j,(w.alloc (.cells C t)).cell? ⟨w.heap.size,j,none⟩=C[j]?)∧(w.alloc (.cells C t)).heap[w.heap.size]?=some (.cells C t (0,0)) :=
 ⟨(Below.refl _ _).alloc (Nat.le_refl _) _,by simp,fun j=>World.cell?_alloc_mark ..,heap_alloc_new w _⟩
theorem self_drew (w:World):Below w.heap.size w w.drew:=below_undrew (Below.refl _ _)
end
section
structure FormF where
 told:Bool
 foot:Nat
 parts:List UInt8
 footer:List UInt8
 nonce:List UInt8
 body:List UInt8
def footPart (f:FormF):List UInt8:=(if f.told=true then twoB (f.footer.length:Int)++f.footer else [])++(twoB (f.body.length:Int)++(f.nonce++f.body))
def fileOf (f:FormF):List UInt8:=([67,70]++[if f.told=true then 79 else 69]++[byB (f.foot:Int)])++(f.parts++(footPart f++(twoB ((footPart f).length:Int)++[67,70])))
structure FormOk (f:FormF):Prop where
 nonce:f.nonce.length=4
 body:2≤f.body.length
 foot:1≤f.foot∧f.foot≤9
 short:(fileOf f).length≤65000
 none_:f.told=false→f.footer=[]
theorem twoB_inj {a b:Nat} (ha:a≤65535) (hb:b≤65535) (h:twoB (a:Int)=twoB (b:Int)):a=b:=by
 unfold twoB at h
 simp only [List.cons.injEq,and_true] at h
 obtain ⟨h1,h2⟩:=h
 have e1:=congrArg UInt8.toNat h1
 have e2:=congrArg UInt8.toNat h2
 simp only [UInt8.toNat_ofNat'] at e1 e2
 omega
theorem FormOk.lens {f:FormF} (h:FormOk f):(footPart f).length≤64992∧f.body.length≤64992∧f.footer.length≤64992:=by
 have hs:=h.short
 have e:(fileOf f).length=4+(f.parts.length+((footPart f).length+4)):=by
  simp only [fileOf,List.length_append,List.length_cons,List.length_nil,twoB_length]
 have hfp:(footPart f).length=(if f.told=true then 2+f.footer.length else 0)+(2+(f.nonce.length+f.body.length)):=by
  unfold footPart
  rw [List.length_append]
  split<;>simp only [List.length_append,twoB_length,List.length_nil]
 refine ⟨by omega,by omega,?_⟩
 cases ht:f.told with
 | true=>rw [ht] at hfp;simp only [if_true] at hfp;omega
 | false=>rw [h.none_ ht];simp
theorem append_right_len {a b c d:List UInt8} (h:a++b=c++d) (hl:b.length=d.length):a=c∧b=d:=by
 have hlen:=congrArg List.length h
 rw [List.length_append,List.length_append] at hlen
 exact List.append_inj h (by omega)
theorem form_unique {f g:FormF} (hf:FormOk f) (hg:FormOk g) (h:fileOf f=fileOf g):f=g:=by
 obtain ⟨l1,l2,l3⟩:=hf.lens
 obtain ⟨m1,m2,m3⟩:=hg.lens
 unfold fileOf at h
 obtain ⟨h1,h2⟩:=List.append_inj h (by simp)
 have ht:f.told=g.told:=by
  cases e1:f.told<;>cases e2:g.told<;>simp_all
 have hft:f.foot=g.foot:=by
  simp only [ht,List.cons_append,List.nil_append,List.cons.injEq,and_true,true_and] at h1
  have e:=congrArg UInt8.toNat h1
  have b1:=byB_toNat (f.foot:Int) (by omega) (by have:=hf.foot;omega)
  have b2:=byB_toNat (g.foot:Int) (by omega) (by have:=hg.foot;omega)
  omega
 have h2':(f.parts++footPart f)++(twoB ((footPart f).length:Int)++[67,70])=(g.parts++footPart g)++(twoB ((footPart g).length:Int)++[67,70]):=by
  rw [List.append_assoc,List.append_assoc];exact h2
 obtain ⟨h3,h4⟩:=append_right_len h2' (by simp [twoB_length])
 obtain ⟨h5,_⟩:=List.append_inj h4 (by rw [twoB_length,twoB_length])
 have hl:=twoB_inj (by omega) (by omega) h5
 obtain ⟨h6,h7⟩:=append_right_len h3 hl
 have key:f.footer=g.footer∧f.nonce=g.nonce∧f.body=g.body:=by
  unfold footPart at h7
  rw [← ht] at h7
  have tail:∀ {a b:FormF},FormOk a→FormOk b→a.body.length≤65535→b.body.length≤65535→twoB (a.body.length:Int)++(a.nonce++a.body)=twoB (b.body.length:Int)++(b.nonce++b.body)→a.nonce=b.nonce∧a.body=b.body:=by
   intro a b ha hb _ _ e
   obtain ⟨_,e2⟩:=List.append_inj e (by rw [twoB_length,twoB_length])
   exact List.append_inj e2 (by rw [ha.nonce,hb.nonce])
  cases htt:f.told with
  | false =>
   rw [htt] at h7
   simp only [Bool.false_eq_true,if_false,List.nil_append] at h7
   obtain ⟨a,b⟩:=tail hf hg (by omega) (by omega) h7
   exact ⟨by rw [hf.none_ htt,hg.none_ (ht ▸ htt)],a,b⟩
  | true =>
   rw [htt] at h7
   simp only [if_true,List.append_assoc] at h7
   obtain ⟨e1,e2⟩:=List.append_inj h7 (by rw [twoB_length,twoB_length])
   have hlen:=twoB_inj (by omega) (by omega) e1
   obtain ⟨e3,e4⟩:=List.append_inj e2 hlen
   obtain ⟨a,b⟩:=tail hf hg (by omega) (by omega) e4
   exact ⟨e3,a,b⟩
 obtain ⟨k1,k2,k3⟩:=key
 cases f
 cases g
 simp_all
end
section
theorem uB_split:∀ (n m:Nat) (r q:List UInt8),uB n++r=uB m++q→n=m∧r=q:=by
 intro n
 induction n using Nat.strongRecOn with
 | _ n ih =>
  intro m r q h
  by_cases hn:n≤127
  ·by_cases hm:m≤127
   ·rw [uB_small hn,uB_small hm] at h
    simp only [List.cons_append,List.nil_append,List.cons.injEq] at h
    obtain ⟨h1,h2⟩:=h
    have e:=congrArg UInt8.toNat h1
    rw [byB_nat n (by omega),byB_nat m (by omega)] at e
    exact ⟨e,h2⟩
   ·exfalso
    rw [uB_small hn,uB_big (n:=m) (by omega)] at h
    simp only [List.cons_append,List.nil_append,List.cons.injEq] at h
    have e:=congrArg UInt8.toNat h.1
    have b1:=byB_toNat (n:Int) (by omega) (by omega)
    have b2:=byB_toNat ((m:Int) % 128+128) (by omega) (by omega)
    omega
  ·by_cases hm:m≤127
   ·exfalso
    rw [uB_small hm,uB_big (n:=n) (by omega)] at h
    simp only [List.cons_append,List.nil_append,List.cons.injEq] at h
    have e:=congrArg UInt8.toNat h.1
    have b1:=byB_toNat (m:Int) (by omega) (by omega)
    have b2:=byB_toNat ((n:Int) % 128+128) (by omega) (by omega)
    omega
   ·rw [uB_big (n:=n) (by omega),uB_big (n:=m) (by omega)] at h
    simp only [List.cons_append,List.cons.injEq] at h
    obtain ⟨h1,h2⟩:=h
    have e:=congrArg UInt8.toNat h1
    have b1:=byB_toNat ((n:Int) % 128+128) (by omega) (by omega)
    have b2:=byB_toNat ((m:Int) % 128+128) (by omega) (by omega)
    obtain ⟨h3,h4⟩:=ih (n / 128) (by omega) (m / 128) r q h2
    exact ⟨by omega,h4⟩
theorem xB_split {s t r q:List UInt8} (h:xB s++r=xB t++q):s=t∧r=q:=by
 unfold xB at h
 rw [List.append_assoc,List.append_assoc] at h
 obtain ⟨h1,h2⟩:=uB_split _ _ _ _ h
 exact List.append_inj h2 h1
theorem places_split:∀ (a b:List Nat),a.length=b.length→a.flatMap uB=b.flatMap uB→a=b:=by
 intro a
 induction a with
 | nil=>intro b hl _;cases b with
  | nil=>rfl
  | cons x l=>simp at hl
 | cons x l ih =>
  intro b hl h
  cases b with
  | nil=>simp at hl
  | cons y m =>
   rw [List.flatMap_cons,List.flatMap_cons] at h
   obtain ⟨h1,h2⟩:=uB_split _ _ _ _ h
   rw [h1,ih m (by simpa using hl) h2]
def headC (c:ColB):List UInt8 × Nat × Nat:=(c.name,c.kind.toNat,c.key.toNat)
theorem heads_split:∀ (a b:List ColB) (r q:List UInt8),a.length=b.length→a.flatMap colFoot++r=b.flatMap colFoot++q→a.map headC=b.map headC∧r=q:=by
 intro a
 induction a with
 | nil=>intro b r q hl h;cases b with
  | nil=>exact ⟨rfl,h⟩
  | cons x l=>simp at hl
 | cons x l ih =>
  intro b r q hl h
  cases b with
  | nil=>simp at hl
  | cons y m =>
   rw [List.flatMap_cons,List.flatMap_cons] at h
   simp only [colFoot,List.append_assoc] at h
   obtain ⟨h1,h2⟩:=xB_split h
   obtain ⟨h3,h4⟩:=uB_split _ _ _ _ h2
   obtain ⟨h5,h6⟩:=uB_split _ _ _ _ h4
   obtain ⟨h7,h8⟩:=ih m r q (by simpa using hl) h6
   refine ⟨?_,h8⟩
   simp only [List.map_cons,h7,headC,h1,h3,h5]
theorem footer_unique {R R':Nat} {p p':PlanB} {t t':List ColB} {pl pl':List Nat} (hl:pl.length=cntN R p.group.toNat*t.length) (hl':pl'.length=cntN R' p'.group.toNat*t'.length)
  (h:footerB R p t pl=footerB R' p' t' pl'):R=R'∧p.group.toNat=p'.group.toNat∧p.page.toNat=p'.page.toNat∧p.foot.toNat=p'.foot.toNat∧t.map headC=t'.map headC∧pl=pl':=by
 unfold footerB at h
 simp only [List.append_assoc] at h
 obtain ⟨h1,h⟩:=uB_split _ _ _ _ h
 obtain ⟨h2,h⟩:=uB_split _ _ _ _ h
 obtain ⟨h3,h⟩:=uB_split _ _ _ _ h
 obtain ⟨h4,h⟩:=uB_split _ _ _ _ h
 obtain ⟨h5,h⟩:=uB_split _ _ _ _ h
 obtain ⟨h6,h⟩:=heads_split t t' _ _ h5 h
 exact ⟨h1,h2,h3,h4,h6,places_split _ _ (by rw [hl,hl',h1,h2,h5]) h⟩
end
section
structure ModF where
 plain:List UInt8
 nonce:List UInt8
 body:List UInt8
def modBytes (key:Int) (m:ModF):List UInt8:=if key=0 then twoB (m.plain.length:Int)++m.plain else twoB (m.body.length:Int)++(m.nonce++m.body)
def ModOk (key:Int) (m:ModF):Prop:=(key=0∧m.nonce=[]∧m.body=[]∧m.plain.length≤65535)∨(key≠0∧m.plain=[]∧m.nonce.length=4∧2≤m.body.length∧m.body.length≤65535)
def modsBytes (t:List ColB):List SpotB→List ModF→List UInt8
 | s :: L,m :: M=>modBytes (colAt t s.c).key m++modsBytes t L M
 | _,_=>[]
def modsPlaces (t:List ColB):Nat→Bool→List SpotB→List ModF→List Nat
 | n,b,s :: L,m :: M=>(if b=true then [n] else [])++modsPlaces t (n+(modBytes (colAt t s.c).key m).length) (decide (s.sort=77)) L M
 | _,_,_,_=>[]
inductive ModsOk (t:List ColB):List SpotB→List ModF→Prop
 | nil:ModsOk t [] []
 | cons {s:SpotB} {L:List SpotB} {m:ModF} {M:List ModF}:ModOk (colAt t s.c).key m→ModsOk t L M→ModsOk t (s :: L) (m :: M)
theorem modBytes_split {key:Int} {m m':ModF} {r q:List UInt8} (h:ModOk key m) (h':ModOk key m') (e:modBytes key m++r=modBytes key m'++q):m=m'∧r=q:=by
 unfold modBytes at e
 rcases h with ⟨hk,a1,a2,a3⟩|⟨hk,a1,a2,a3,a4⟩
 ·rcases h' with ⟨_,b1,b2,b3⟩|⟨hk',_⟩
  ·rw [if_pos hk,if_pos hk,List.append_assoc,List.append_assoc] at e
   obtain ⟨e1,e2⟩:=List.append_inj e (by rw [twoB_length,twoB_length])
   have hl:=twoB_inj a3 b3 e1
   obtain ⟨e3,e4⟩:=List.append_inj e2 hl
   refine ⟨?_,e4⟩
   cases m;cases m';simp_all
  ·exact absurd hk hk'
 ·rcases h' with ⟨hk',_⟩|⟨_,b1,b2,b3,b4⟩
  ·exact absurd hk' hk
  ·rw [if_neg hk,if_neg hk,List.append_assoc,List.append_assoc,List.append_assoc,List.append_assoc] at e
   obtain ⟨e1,e2⟩:=List.append_inj e (by rw [twoB_length,twoB_length])
   have hl:=twoB_inj a4 b4 e1
   obtain ⟨e3,e4⟩:=List.append_inj e2 (by rw [a2,b2])
   obtain ⟨e5,e6⟩:=List.append_inj e4 hl
   refine ⟨?_,e6⟩
   cases m;cases m';simp_all
theorem mods_unique {t:List ColB} {L:List SpotB} {M M':List ModF} (h:ModsOk t L M) (h':ModsOk t L M') (e:modsBytes t L M=modsBytes t L M'):M=M':=by
 induction h generalizing M' with
 | nil=>cases h';rfl
 | cons hm _ ih =>
  cases h' with
  | cons hm' h2' =>
   simp only [modsBytes] at e
   obtain ⟨e1,e2⟩:=modBytes_split hm hm' e
   rw [e1,ih h2' e2]
structure SheetF where
 rows:Nat
 plan:PlanB
 cols:List ColB
 mods:List ModF
def spotsF (S:SheetF):List SpotB:=spotsB S.rows S.cols.length S.plan.group.toNat S.plan.page.toNat
structure SheetOk (foot:Nat) (parts footer:List UInt8) (S:SheetF):Prop where
 rows:S.rows≤60
 plan:planOkB S.plan=true
 told:S.plan.told=false
 foot:S.plan.foot=(foot:Int)
 heads:headsOkB S.cols=true
 bare:∀ c ∈ S.cols,c.cells=[]
 mods:ModsOk S.cols (spotsF S) S.mods
 parts:parts=modsBytes S.cols (spotsF S) S.mods
 footer:footer=footerB S.rows S.plan S.cols (modsPlaces S.cols 4 true (spotsF S) S.mods)
theorem modsOk_len {t:List ColB} {L:List SpotB} {M:List ModF} (h:ModsOk t L M):M.length=L.length:=by
 induction h with
 | nil=>rfl
 | cons _ _ ih=>simp [ih]
theorem modsPlaces_len {t:List ColB} (j:JobB) (r:List KeyB):∀ (L:List SpotB) (M:List ModF) (n:Nat) (b:Bool) (st:StB),M.length=L.length→(modsPlaces t n b L M).length=(placesB j r st b L).length:=by
 intro L
 induction L with
 | nil=>intro M n b st h;cases M with
  | nil=>rfl
  | cons m M=>simp at h
 | cons s L ih =>
  intro M n b st h
  cases M with
  | nil=>simp at h
  | cons m M =>
   simp only [modsPlaces,placesB,List.length_append]
   rw [ih M _ _ (spotSt j r st s) (by simpa using h)]
   cases b<;>rfl
theorem sheet_places {foot:Nat} {parts footer:List UInt8} {S:SheetF} (h:SheetOk foot parts footer S):(modsPlaces S.cols 4 true (spotsF S) S.mods).length=cntN S.rows S.plan.group.toNat*S.cols.length:=by
 rw [modsPlaces_len ⟨[],⟨0,0,0,false⟩,[],0⟩ [] _ _ _ _ ⟨[],[]⟩ (modsOk_len h.mods)]
 exact places_to_len _ _ _ _ _ _ _ _
theorem plan_eq {p q:PlanB} (hp:planOkB p=true) (hq:planOkB q=true) (ht:p.told=q.told) (h1:p.group.toNat=q.group.toNat) (h2:p.page.toNat=q.page.toNat) (h3:p.foot.toNat=q.foot.toNat):p=q:=by
 simp only [planOkB,Bool.and_eq_true,decide_eq_true_eq] at hp hq
 have e1:p.group=q.group:=by omega
 have e2:p.page=q.page:=by omega
 have e3:p.foot=q.foot:=by omega
 cases p;cases q;simp_all
theorem cols_eq {a b:List ColB} (ha:headsOkB a=true) (hb:headsOkB b=true) (ca:∀ c ∈ a,c.cells=[]) (cb:∀ c ∈ b,c.cells=[]) (h:a.map headC=b.map headC):a=b:=by
 have hl:a.length=b.length:=by have:=congrArg List.length h;simpa using this
 have parts:∀ {t:List ColB},headsOkB t=true→∀ k (hk:k < t.length),0≤(t[k]).kind∧0≤(t[k]).key:=by
  intro t ht k hk
  simp only [headsOkB,Bool.and_eq_true] at ht
  obtain ⟨_,h1,h2,_⟩:=head_parts (headsTo_at ht.1 (Nat.le_refl _) k hk).1
  exact ⟨by omega,h2⟩
 apply List.ext_getElem hl
 intro k h1 h2
 have e:headC a[k]=headC b[k]:=by
  have:(a.map headC)[k]'(by simpa using h1)=(b.map headC)[k]'(by simpa using h2):=by simp only [h]
  simpa using this
 obtain ⟨p1,p2⟩:=parts ha k h1
 obtain ⟨q1,q2⟩:=parts hb k h2
 have c1:=ca a[k] (List.getElem_mem h1)
 have c2:=cb b[k] (List.getElem_mem h2)
 generalize a[k]=x at *
 generalize b[k]=y at *
 simp only [headC,Prod.mk.injEq] at e
 obtain ⟨e1,e2,e3⟩:=e
 have k1:x.kind=y.kind:=by omega
 have k2:x.key=y.key:=by omega
 cases x;cases y;simp_all
theorem sheet_unique {foot:Nat} {parts footer:List UInt8} {S S':SheetF} (h:SheetOk foot parts footer S) (h':SheetOk foot parts footer S'):S=S':=by
 have hf:=h.footer.symm.trans h'.footer
 obtain ⟨e1,e2,e3,e4,e5,e6⟩:=footer_unique (sheet_places h) (sheet_places h') hf
 have hp:=plan_eq h.plan h'.plan (h.told.trans h'.told.symm) e2 e3 e4
 have hc:=cols_eq h.heads h'.heads h.bare h'.bare e5
 have hm:=h.parts.symm.trans h'.parts
 have hs:spotsF S=spotsF S':=by unfold spotsF;rw [e1,hp,hc]
 rw [hs,hc] at hm
 have m1:=h.mods
 rw [hs,hc] at m1
 have e7:=mods_unique m1 h'.mods hm
 cases S;cases S';simp_all
end
section
noncomputable def formAt (file:List UInt8):Option FormF:=by
 classical exact if h:∃ f,FormOk f∧fileOf f=file then some (Classical.choose h) else none
theorem formAt_some {f:FormF} (h:FormOk f):formAt (fileOf f)=some f:=by
 have hex:∃ g,FormOk g∧fileOf g=fileOf f:=⟨f,h,rfl⟩
 unfold formAt
 rw [dif_pos hex]
 have hc:=Classical.choose_spec hex
 exact congrArg some (form_unique hc.1 h hc.2)
theorem formAt_none {file:List UInt8} (h:∀ f,FormOk f→fileOf f≠file):formAt file=none:=by
 unfold formAt
 rw [dif_neg]
 rintro ⟨f,h1,h2⟩
 exact h f h1 h2
noncomputable def sheetAt (foot:Nat) (parts footer:List UInt8):Option SheetF:=by
 classical exact if h:∃ S,SheetOk foot parts footer S then some (Classical.choose h) else none
theorem sheetAt_some {foot:Nat} {parts footer:List UInt8} {S:SheetF} (h:SheetOk foot parts footer S):sheetAt foot parts footer=some S:=by
 have hex:∃ S,SheetOk foot parts footer S:=⟨S,h⟩
 unfold sheetAt
 rw [dif_pos hex]
 exact congrArg some (sheet_unique (Classical.choose_spec hex) h)
theorem sheetAt_none {foot:Nat} {parts footer:List UInt8} (h:∀ S,¬ SheetOk foot parts footer S):sheetAt foot parts footer=none:=by
 unfold sheetAt
 rw [dif_neg]
 rintro ⟨S,h1⟩
 exact h S h1
def openF (sec non ext body:List UInt8):Option (List UInt8) :=
 if body.length≤5002∧2≤body.length∧bodyB sec non ext (stirB sec non (body.take (body.length - 2)))=body then some (stirB sec non (body.take (body.length - 2))) else none
structure FoundB where
 name:List UInt8
 kind:Int
 key:Int
 state:Int
 cells:List CellB
def plainF (pre:List UInt8) (r:List KeyB) (key:Int) (s:SpotB) (m:ModF):Option (List UInt8) :=
 if key=0 then some m.plain else openF (secretB r key) m.nonce (boundB pre s.sort s.g s.c s.p) m.body
def stepF (pre:List UInt8) (r:List KeyB) (kind key:Int) (cells:List CellB) (s:SpotB) (m:ModF):Option (List CellB) :=
 match plainF pre r key s m with
 | none=>none
 | some plain =>
  if s.sort=77 then (if plain=metaB kind (cells.drop s.start) then some cells else none)
  else match unpageB kind plain with
   | none=>none
   | some l=>if l.length=s.many then some (cells++l) else none
def cellsF (pre:List UInt8) (r:List KeyB) (kind key:Int) (c:Nat):Option (List CellB)→List SpotB→List ModF→Option (List CellB)
 | none,_,_=>none
 | some cells,s :: L,m :: M=>cellsF pre r kind key c (if s.c=c then stepF pre r kind key cells s m else some cells) L M
 | some cells,_,_=>some cells
def foundF (pre:List UInt8) (r:List KeyB) (S:SheetF) (c:Nat):FoundB :=
 if 0 < (colAt S.cols c).key∧hasNumB r (colAt S.cols c).key=false then ⟨(colAt S.cols c).name,(colAt S.cols c).kind,(colAt S.cols c).key,1,[]⟩
 else match cellsF pre r (colAt S.cols c).kind (colAt S.cols c).key c (some []) (spotsF S) S.mods with
  | none=>⟨(colAt S.cols c).name,(colAt S.cols c).kind,(colAt S.cols c).key,2,[]⟩
  | some cells=>⟨(colAt S.cols c).name,(colAt S.cols c).kind,(colAt S.cols c).key,0,cells⟩
noncomputable def sheetF (file pre:List UInt8) (r:List KeyB) (trust:Bool):Int × Option SheetF :=
 if 20 < pre.length then (7,none)
 else if ringOkB r=false then (1,none)
 else match formAt file with
  | none=>(9,none)
  | some f =>
   if f.told=true then
    match sheetAt f.foot f.parts f.footer with
    | none=>(9,none)
    | some S =>
     if trust=true then (0,some S)
     else if hasNumB r (f.foot:Int)=false then (8,none)
     else if openF (secretB r (f.foot:Int)) f.nonce (boundB pre 83 0 0 0++f.footer) f.body=some [] then (0,some S) else (4,none)
   else if hasNumB r (f.foot:Int)=false then (8,none)
   else match openF (secretB r (f.foot:Int)) f.nonce (boundB pre 70 0 0 0) f.body with
    | none=>(4,none)
    | some footer =>
     match sheetAt f.foot f.parts footer with
     | none=>(9,none)
     | some S=>(0,some S)
end
section
theorem modsBytes_append {t:List ColB}:∀ (L:List SpotB) (M:List ModF) (L2:List SpotB) (M2:List ModF),M.length=L.length→modsBytes t (L++L2) (M++M2)=modsBytes t L M++modsBytes t L2 M2:=by
 intro L
 induction L with
 | nil=>intro M L2 M2 h;rw [List.eq_nil_of_length_eq_zero h];simp [modsBytes]
 | cons s L ih =>
  intro M L2 M2 h
  cases M with
  | nil=>simp at h
  | cons m M =>
   simp only [List.cons_append,modsBytes,List.append_assoc]
   rw [ih M L2 M2 (by simpa using h)]
theorem ModsOk.append {t:List ColB} {L:List SpotB} {M:List ModF} {L2:List SpotB} {M2:List ModF} (h:ModsOk t L M) (h2:ModsOk t L2 M2):ModsOk t (L++L2) (M++M2):=by
 induction h with
 | nil=>exact h2
 | cons hm _ ih=>exact .cons hm ih
theorem mods_cut {t:List ColB} {L:List SpotB}:∀ {L2:List SpotB} {M:List ModF},ModsOk t (L++L2) M→∃ M1 M2,M=M1++M2∧ModsOk t L M1∧ModsOk t L2 M2:=by
 induction L with
 | nil=>intro L2 M h;exact ⟨[],M,rfl,.nil,h⟩
 | cons s L ih =>
  intro L2 M h
  cases h with
  | cons hm h2 =>
   obtain ⟨M1,M2,h3,h4,h5⟩:=ih h2
   exact ⟨_ :: M1,M2,by rw [h3];rfl,.cons hm h4,h5⟩
theorem modsPlaces_append {t:List ColB}:∀ (L:List SpotB) (M:List ModF) (L2:List SpotB) (M2:List ModF) (n:Nat) (b:Bool),M.length=L.length→modsPlaces t n b (L++L2) (M++M2)=modsPlaces t n b L M++modsPlaces t (n+(modsBytes t L M).length) (metaLast b L) L2 M2:=by
 intro L
 induction L with
 | nil=>intro M L2 M2 n b h;rw [List.eq_nil_of_length_eq_zero h];simp [modsPlaces,modsBytes,metaLast]
 | cons s L ih =>
  intro M L2 M2 n b h
  cases M with
  | nil=>simp at h
  | cons m M =>
   simp only [List.cons_append,modsBytes,modsPlaces,List.append_assoc,metaLast,List.length_append]
   rw [ih M L2 M2 _ _ (by simpa using h),Nat.add_assoc]
def groupMods (Q:Nat→Nat→List ModF) (g C:Nat):List ModF:=(List.range C).flatMap fun c=>Q g c
def modsTo (Q:Nat→Nat→List ModF) (C n:Nat):List ModF:=(List.range n).flatMap fun g=>groupMods Q g C
theorem groupMods_succ (Q:Nat→Nat→List ModF) (g C:Nat):groupMods Q g (C+1)=groupMods Q g C++Q g C:=by simp [groupMods,List.range_succ]
theorem modsTo_succ (Q:Nat→Nat→List ModF) (C n:Nat):modsTo Q C (n+1)=modsTo Q C n++groupMods Q n C:=by simp [modsTo,List.range_succ]
theorem groupMods_ok {t:List ColB} {Q:Nat→Nat→List ModF} {R G P g:Nat}:∀ {C:Nat},(∀ c,c < C→ModsOk t (chunkSpots R G P g c) (Q g c))→ModsOk t (groupSpots R G P g C) (groupMods Q g C):=by
 intro C
 induction C with
 | zero=>intro _;exact .nil
 | succ C ih=>intro h;rw [groupMods_succ,group_succ];exact (ih (fun c hc=>h c (by omega))).append (h C (by omega))
theorem modsTo_ok {t:List ColB} {Q:Nat→Nat→List ModF} {R C G P:Nat}:∀ {n:Nat},(∀ g,g < n→∀ c,c < C→ModsOk t (chunkSpots R G P g c) (Q g c))→ModsOk t (spotsTo R C G P n) (modsTo Q C n):=by
 intro n
 induction n with
 | zero=>intro _;exact .nil
 | succ n ih=>intro h;rw [modsTo_succ,spots_succ];exact (ih (fun g hg=>h g (by omega))).append (groupMods_ok (h n (by omega)))
theorem modsPlaces_pages {t:List ColB}:∀ (L:List SpotB) (M:List ModF) (n:Nat),(∀ s ∈ L,s.sort=80)→modsPlaces t n false L M=[]:=by
 intro L
 induction L with
 | nil=>intro M n _;cases M<;>rfl
 | cons s L ih =>
  intro M n h
  cases M with
  | nil=>rfl
  | cons m M =>
   have hs:=h s (by simp)
   simp only [modsPlaces,hs]
   rw [show decide ((80:UInt8)=77)=false from by decide,ih M _ (fun x hx=>h x (List.mem_cons_of_mem _ hx))]
   rfl
theorem modsPlaces_chunk {t:List ColB} {R G P g c n:Nat} {M:List ModF} (h:M.length=(chunkSpots R G P g c).length):modsPlaces t n true (chunkSpots R G P g c) M=[n]:=by
 cases hp:pageSpots P g c (g*G) (partN R G g) (cntN (partN R G g) P) with
 | nil =>
  unfold chunkSpots at h ⊢
  rw [hp] at h ⊢
  obtain ⟨m,rfl⟩:=List.length_eq_one_iff.1 h
  rfl
 | cons s L =>
  have hsort:=pageSpots_sort P g c (g*G) (partN R G g) (cntN (partN R G g) P)
  rw [hp] at hsort
  unfold chunkSpots at h ⊢
  rw [hp] at h ⊢
  obtain ⟨M0,m,rfl⟩:∃ M0 m,M=M0++[m]:=by
   have hne:M≠[]:=by intro e;rw [e] at h;simp at h
   exact ⟨M.dropLast,M.getLast hne,(List.dropLast_concat_getLast hne).symm⟩
  have hl:M0.length=(s :: L).length:=by simp at h ⊢;omega
  rw [modsPlaces_append _ _ _ _ _ _ hl]
  cases M0 with
  | nil=>simp at hl
  | cons m0 M0 =>
   have hm:metaLast true (s :: L)=false:=metaLast_pages _ hsort (by simp) true
   simp only [modsPlaces]
   rw [hm,show decide (s.sort=77)=false from by rw [hsort s (by simp)];decide,modsPlaces_pages L M0 _ (fun x hx=>hsort x (List.mem_cons_of_mem _ hx))]
   rfl
theorem cellsF_none (pre:List UInt8) (r:List KeyB) (kind key:Int) (c:Nat) (L:List SpotB) (M:List ModF):cellsF pre r kind key c none L M=none:=by cases L<;>cases M<;>rfl
theorem cellsF_append (pre:List UInt8) (r:List KeyB) (kind key:Int) (c:Nat):∀ (L:List SpotB) (M:List ModF) (L2:List SpotB) (M2:List ModF) (x:Option (List CellB)),M.length=L.length →
  cellsF pre r kind key c x (L++L2) (M++M2)=cellsF pre r kind key c (cellsF pre r kind key c x L M) L2 M2:=by
 intro L
 induction L with
 | nil=>intro M L2 M2 x h;rw [List.eq_nil_of_length_eq_zero h];cases x<;>simp [cellsF,cellsF_none]
 | cons s L ih =>
  intro M L2 M2 x h
  cases M with
  | nil=>simp at h
  | cons m M =>
   cases x with
   | none=>simp [cellsF_none]
   | some cells =>
    simp only [List.cons_append,cellsF]
    exact ih M L2 M2 _ (by simpa using h)
theorem cellsF_skip (pre:List UInt8) (r:List KeyB) (kind key:Int) (c:Nat):∀ (L:List SpotB) (M:List ModF) (x:Option (List CellB)),(∀ s ∈ L,s.c≠c)→cellsF pre r kind key c x L M=x:=by
 intro L
 induction L with
 | nil=>intro M x _;cases x<;>cases M<;>rfl
 | cons s L ih =>
  intro M x h
  cases x with
  | none=>exact cellsF_none ..
  | some cells =>
   cases M with
   | nil=>rfl
   | cons m M =>
    simp only [cellsF]
    rw [if_neg (h s (by simp))]
    exact ih M _ (fun y hy=>h y (List.mem_cons_of_mem _ hy))
theorem chunk_col {R G P g c:Nat}:∀ s ∈ chunkSpots R G P g c,s.c=c:=by
 intro s hs
 simp only [chunkSpots,pageSpots,List.mem_append,List.mem_map,List.mem_range,List.mem_singleton] at hs
 rcases hs with ⟨p,_,rfl⟩|rfl<;>rfl
theorem cellsF_group {t:List ColB} {Q:Nat→Nat→List ModF} {R G P g:Nat} (pre:List UInt8) (r:List KeyB) (kind key:Int) (c:Nat) (x:Option (List CellB)):∀ {C:Nat},(∀ i,i < C→ModsOk t (chunkSpots R G P g i) (Q g i)) →
  cellsF pre r kind key c x (groupSpots R G P g C) (groupMods Q g C)=if c < C then cellsF pre r kind key c x (chunkSpots R G P g c) (Q g c) else x:=by
 intro C
 induction C with
 | zero=>intro _;simp [groupSpots,groupMods];cases x<;>rfl
 | succ C ih =>
  intro h
  rw [groupMods_succ,group_succ,cellsF_append _ _ _ _ _ _ _ _ _ _ (modsOk_len (groupMods_ok (fun i hi=>h i (by omega)))),ih (fun i hi=>h i (by omega))]
  by_cases hc:c < C
  ·rw [if_pos hc,if_pos (by omega),cellsF_skip]
   intro s hs
   rw [chunk_col s hs];omega
  ·rw [if_neg hc]
   by_cases he:c=C
   ·subst he;rw [if_pos (by omega)]
   ·rw [if_neg (by omega),cellsF_skip]
    intro s hs
    rw [chunk_col s hs];omega
theorem cellsF_to {t:List ColB} {Q:Nat→Nat→List ModF} {R C G P:Nat} (pre:List UInt8) (r:List KeyB) (kind key:Int) {c:Nat} (hc:c < C) (x:Option (List CellB)) {n:Nat} (h:∀ g,g < n+1→∀ i,i < C→ModsOk t (chunkSpots R G P g i) (Q g i)) :
  cellsF pre r kind key c x (spotsTo R C G P (n+1)) (modsTo Q C (n+1))=cellsF pre r kind key c (cellsF pre r kind key c x (spotsTo R C G P n) (modsTo Q C n)) (chunkSpots R G P n c) (Q n c):=by
 rw [modsTo_succ,spots_succ,cellsF_append _ _ _ _ _ _ _ _ _ _ (modsOk_len (modsTo_ok (fun g hg=>h g (by omega)))),cellsF_group pre r kind key c _ (h n (by omega)),if_pos hc]
theorem cellsF_one (pre:List UInt8) (r:List KeyB) (kind key:Int) (s:SpotB) (m:ModF) (cells:List CellB):cellsF pre r kind key s.c (some cells) [s] [m]=stepF pre r kind key cells s m:=by
 simp only [cellsF,if_true]
 cases stepF pre r kind key cells s m<;>rfl
theorem cellsF_shift (pre:List UInt8) (r:List KeyB) (kind key:Int) (c:Nat) (cells:List CellB):∀ (L:List SpotB) (M:List ModF) (x:List CellB),(∀ s ∈ L,s.sort=80)→cellsF pre r kind key c (some (cells++x)) L M=(cellsF pre r kind key c (some x) L M).map (cells++·):=by
 intro L
 induction L with
 | nil=>intro M x _;cases M<;>rfl
 | cons s L ih =>
  intro M x h
  cases M with
  | nil=>rfl
  | cons m M =>
   simp only [cellsF]
   by_cases hc:s.c=c
   ·rw [if_pos hc,if_pos hc]
    have hs:¬ s.sort=77:=by rw [h s (by simp)];decide
    unfold stepF
    simp only [if_neg hs]
    cases plainF pre r key s m with
    | none=>simp [cellsF_none]
    | some plain =>
     dsimp only
     cases hu:unpageB kind plain with
     | none=>simp [cellsF_none]
     | some l =>
      dsimp only
      by_cases hm:l.length=s.many
      ·rw [if_pos hm,if_pos hm,List.append_assoc];exact ih M _ (fun y hy=>h y (List.mem_cons_of_mem _ hy))
      ·rw [if_neg hm,if_neg hm];simp [cellsF_none]
   ·rw [if_neg hc,if_neg hc]
    exact ih M _ (fun y hy=>h y (List.mem_cons_of_mem _ hy))
def chunkPages (R G P g c:Nat):List SpotB:=pageSpots P g c (g*G) (partN R G g) (cntN (partN R G g) P)
def chunkMeta (R G g c:Nat):SpotB:=⟨77,g,c,0,g*G,partN R G g⟩
theorem chunkSpots_eq (R G P g c:Nat):chunkSpots R G P g c=chunkPages R G P g c++[chunkMeta R G g c]:=rfl
theorem cellsF_chunk (pre:List UInt8) (r:List KeyB) (kind key:Int) {R G P g c:Nat} (cells:List CellB) (hl:cells.length=g*G) (mp:List ModF) (mm:ModF) (hm:mp.length=(chunkPages R G P g c).length) :
  cellsF pre r kind key c (some cells) (chunkSpots R G P g c) (mp++[mm])=(cellsF pre r kind key c (some []) (chunkPages R G P g c) mp).bind fun part=>if plainF pre r key (chunkMeta R G g c) mm=some (metaB kind part) then some (cells++part) else none:=by
 rw [chunkSpots_eq,cellsF_append _ _ _ _ _ _ _ _ _ _ hm]
 have h1:=cellsF_shift pre r kind key c cells (chunkPages R G P g c) mp [] (pageSpots_sort _ _ _ _ _ _)
 rw [List.append_nil] at h1
 rw [h1]
 cases cellsF pre r kind key c (some []) (chunkPages R G P g c) mp with
 | none=>simp [cellsF_none]
 | some part =>
  simp only [Option.map_some,Option.bind_some]
  have:=cellsF_one pre r kind key (chunkMeta R G g c) mm (cells++part)
  rw [show (chunkMeta R G g c).c=c from rfl] at this
  rw [this]
  unfold stepF
  have hd:(cells++part).drop (chunkMeta R G g c).start=part:=by
   show (cells++part).drop (g*G)=part
   rw [← hl,List.drop_left]
  rw [hd]
  cases plainF pre r key (chunkMeta R G g c) mm with
  | none=>simp
  | some plain=>simp only [Option.some.injEq,if_pos (show (chunkMeta R G g c).sort=77 from rfl)]
theorem cellsF_pages_len (pre:List UInt8) (r:List KeyB) (kind key:Int) {P g c start n:Nat}:∀ (k:Nat) (mp:List ModF) (part:List CellB),mp.length=k→k*P≤n+P→cellsF pre r kind key c (some []) (pageSpots P g c start n k) mp=some part→part.length=min (k*P) n:=by
 intro k
 induction k with
 | zero=>intro mp part hl _ h;rw [List.eq_nil_of_length_eq_zero hl] at h;simp [pageSpots,cellsF] at h;subst h;simp
 | succ k ih =>
  intro mp part hl hk h
  obtain ⟨M0,m,rfl⟩:∃ M0 m,mp=M0++[m]:=by
   have hne:mp≠[]:=by intro e;rw [e] at hl;simp at hl
   exact ⟨mp.dropLast,mp.getLast hne,(List.dropLast_concat_getLast hne).symm⟩
  have hl0:M0.length=k:=by simp at hl;omega
  rw [page_succ,cellsF_append _ _ _ _ _ _ _ _ _ _ (by rw [hl0];simp [pageSpots])] at h
  rw [Nat.succ_mul] at hk ⊢
  cases hc:cellsF pre r kind key c (some []) (pageSpots P g c start n k) M0 with
  | none=>rw [hc,cellsF_none] at h;cases h
  | some x =>
   rw [hc] at h
   have hx:=ih M0 x hl0 (by omega) hc
   have:=cellsF_one pre r kind key ⟨80,g,c,k,start+k*P,partN n P k⟩ m x
   simp only at this
   rw [this] at h
   unfold stepF at h
   simp only [show ¬ ((80:UInt8)=77) from by decide,if_false] at h
   split at h
   ·cases h
   ·split at h
    ·cases h
    ·split at h
     ·rename_i hmany
      cases h
      rw [List.length_append,hx,hmany]
      unfold partN
      omega
     ·cases h
theorem cnt_mul {n size:Nat} (hs:1≤size):n≤cntN n size*size∧cntN n size*size≤n+size:=by
 have h1:=(cnt_lt (n:=n) (i:=cntN n size) hs)
 have h2:¬ cntN n size*size < n:=fun h=>by have:=h1.2 h;omega
 refine ⟨by omega,?_⟩
 rcases Nat.eq_zero_or_pos (cntN n size) with h0|h0
 ·rw [h0];omega
 ·have h3:=(cnt_lt (n:=n) (i:=cntN n size - 1) hs).1 (by omega)
  have h4:(cntN n size - 1)*size+size=cntN n size*size:=by rw [← Nat.succ_mul];congr 1;omega
  omega
theorem cellsF_part_len (pre:List UInt8) (r:List KeyB) (kind key:Int) {R G P g c:Nat} (hP:1≤P) {mp:List ModF} {part:List CellB} (hm:mp.length=(chunkPages R G P g c).length) (h:cellsF pre r kind key c (some []) (chunkPages R G P g c) mp=some part):part.length=partN R G g:=by
 have hk:mp.length=cntN (partN R G g) P:=by rw [hm];simp [chunkPages,pageSpots]
 have h1:=cnt_mul (n:=partN R G g) hP
 have:=cellsF_pages_len pre r kind key _ mp part hk h1.2 h
 omega
theorem cellsF_to_len {t:List ColB} {Q:Nat→Nat→List ModF} {R C G P:Nat} (pre:List UInt8) (r:List KeyB) (kind key:Int) {c:Nat} (hc:c < C) (hP:1≤P):∀ {n:Nat} {cells:List CellB},(∀ g,g < n→∀ i,i < C→ModsOk t (chunkSpots R G P g i) (Q g i))→n*G≤R+G →
  cellsF pre r kind key c (some []) (spotsTo R C G P n) (modsTo Q C n)=some cells→cells.length=min (n*G) R:=by
 intro n
 induction n with
 | zero=>intro cells _ _ h;simp [spotsTo,cellsF] at h;subst h;simp
 | succ n ih =>
  intro cells h hn e
  rw [cellsF_to pre r kind key hc _ h] at e
  rw [Nat.succ_mul] at hn ⊢
  cases hx:cellsF pre r kind key c (some []) (spotsTo R C G P n) (modsTo Q C n) with
  | none=>rw [hx,cellsF_none] at e;cases e
  | some x =>
   rw [hx] at e
   have hl:=ih (fun g hg=>h g (by omega)) (by omega) hx
   have hq:=modsOk_len (h n (by omega) c hc)
   obtain ⟨mp,mm,hmm⟩:∃ mp mm,Q n c=mp++[mm]:=by
    have hne:Q n c≠[]:=by intro e;rw [e] at hq;simp [chunkSpots] at hq
    exact ⟨(Q n c).dropLast,(Q n c).getLast hne,(List.dropLast_concat_getLast hne).symm⟩
   have hmp:mp.length=(chunkPages R G P n c).length:=by rw [hmm,chunkSpots_eq] at hq;simpa using hq
   rw [hmm,cellsF_chunk pre r kind key x (by omega) mp mm hmp] at e
   cases hp:cellsF pre r kind key c (some []) (chunkPages R G P n c) mp with
   | none=>rw [hp] at e;simp at e
   | some part =>
    rw [hp] at e
    have hpl:=cellsF_part_len pre r kind key hP hmp hp
    simp only [Option.bind_some] at e
    split at e
    ·cases e
     rw [List.length_append,hl,hpl]
     unfold partN
     omega
    ·cases e
end
section
theorem bodyB_cip (sec non ext p:List UInt8):(bodyB sec non ext p).take ((bodyB sec non ext p).length - 2)=stirB sec non p:=by
 rw [bodyB_length]
 unfold bodyB
 rw [show p.length+2 - 2=(stirB sec non p).length by rw [stirB_length];omega,List.take_left]
theorem openF_body (sec non ext p:List UInt8) (h:p.length≤5000):openF sec non ext (bodyB sec non ext p)=some p:=by
 have e:stirB sec non ((bodyB sec non ext p).take ((bodyB sec non ext p).length - 2))=p:=by rw [bodyB_cip,stirB_stirB]
 unfold openF
 rw [e,if_pos ⟨by rw [bodyB_length];omega,by rw [bodyB_length];omega,rfl⟩]
theorem openF_some {sec non ext b p:List UInt8} (h:openF sec non ext b=some p):b=bodyB sec non ext p∧b.length≤5002:=by
 unfold openF at h
 split at h
 ·rename_i hc
  cases h
  exact ⟨hc.2.2.symm,hc.1⟩
 ·cases h
def modsJ (j:JobB) (r:List KeyB):Nat→List SpotB→List ModF
 | _,[]=>[]
 | n,s :: L =>
  if (colAt j.table s.c).key=0 then ⟨plainB j.table s,[],[]⟩ :: modsJ j r n L
  else ⟨[],nonceB j.draw n,bodyB (secretB r (colAt j.table s.c).key) (nonceB j.draw n) (boundB j.pre s.sort s.g s.c s.p) (plainB j.table s)⟩ :: modsJ j r (n+1) L
theorem modsJ_out (j:JobB) (r:List KeyB):∀ (L:List SpotB) (st:StB),(spotsSt j r st L).out=st.out++modsBytes j.table L (modsJ j r st.log.length L):=by
 intro L
 induction L with
 | nil=>intro st;simp [spotsSt,modsJ,modsBytes]
 | cons s L ih =>
  intro st
  show (spotsSt j r (spotSt j r st s) L).out=_
  rw [ih]
  simp only [modsJ]
  by_cases hk:(colAt j.table s.c).key=0
  ·rw [if_pos hk]
   simp only [modsBytes,spotSt,modSt,hk,if_true,openSt,modBytes,List.append_assoc]
  ·rw [if_neg hk]
   simp only [modsBytes,spotSt,modSt,if_neg hk,sealSt,modBytes,List.append_assoc,List.length_append,List.length_cons,List.length_nil,Nat.zero_add]
theorem modsJ_places (j:JobB) (r:List KeyB):∀ (L:List SpotB) (st:StB) (b:Bool),placesB j r st b L=modsPlaces j.table st.out.length b L (modsJ j r st.log.length L):=by
 intro L
 induction L with
 | nil=>intro st b;simp [placesB,modsJ,modsPlaces]
 | cons s L ih =>
  intro st b
  simp only [placesB]
  rw [ih]
  simp only [modsJ]
  by_cases hk:(colAt j.table s.c).key=0
  ·rw [if_pos hk]
   simp only [modsPlaces,spotSt,modSt,hk,if_true,openSt,modBytes,List.length_append]
  ·rw [if_neg hk]
   simp only [modsPlaces,spotSt,modSt,if_neg hk,sealSt,modBytes,List.length_append,List.length_cons,List.length_nil,Nat.zero_add]
theorem modsJ_ok (j:JobB) (r:List KeyB):∀ (L:List SpotB) (n:Nat),(∀ s ∈ L,(plainB j.table s).length≤5000)→ModsOk j.table L (modsJ j r n L):=by
 intro L
 induction L with
 | nil=>intro n _;exact .nil
 | cons s L ih =>
  intro n h
  have hp:=h s (by simp)
  simp only [modsJ]
  by_cases hk:(colAt j.table s.c).key=0
  ·rw [if_pos hk]
   exact .cons (.inl ⟨hk,rfl,rfl,by show (plainB j.table s).length≤_;omega⟩) (ih _ (fun x hx=>h x (List.mem_cons_of_mem _ hx)))
  ·rw [if_neg hk]
   refine .cons (.inr ⟨hk,rfl,rfl,?_,?_⟩) (ih _ (fun x hx=>h x (List.mem_cons_of_mem _ hx)))
   ·show 2≤(bodyB ..).length;rw [bodyB_length];omega
   ·show (bodyB ..).length≤65535;rw [bodyB_length];omega
def bareC (c:ColB):ColB:=⟨c.name,c.kind,c.key,[]⟩
def bareT (t:List ColB):List ColB:=t.map bareC
theorem bare_at (t:List ColB) (c:Nat):colAt (bareT t) c=bareC (colAt t c):=by
 unfold colAt bareT
 rw [List.getD_eq_getElem?_getD,List.getD_eq_getElem?_getD,List.getElem?_map]
 cases t[c]?<;>rfl
theorem bare_bytes (t:List ColB):∀ (L:List SpotB) (M:List ModF),modsBytes (bareT t) L M=modsBytes t L M:=by
 intro L
 induction L with
 | nil=>intro M;rfl
 | cons s L ih=>intro M;cases M with
  | nil=>rfl
  | cons m M=>simp only [modsBytes,bare_at,ih];rfl
theorem bare_places (t:List ColB):∀ (L:List SpotB) (M:List ModF) (n:Nat) (b:Bool),modsPlaces (bareT t) n b L M=modsPlaces t n b L M:=by
 intro L
 induction L with
 | nil=>intro M n b;rfl
 | cons s L ih=>intro M n b;cases M with
  | nil=>rfl
  | cons m M=>simp only [modsPlaces,bare_at,ih];rfl
theorem bare_mods {t:List ColB} {L:List SpotB} {M:List ModF} (h:ModsOk t L M):ModsOk (bareT t) L M:=by
 induction h with
 | nil=>exact .nil
 | cons hm _ ih=>exact .cons (by rw [bare_at];exact hm) ih
theorem bare_footer (R:Nat) (p:PlanB) (b:Bool) (t:List ColB) (pl:List Nat):footerB R ⟨p.group,p.page,p.foot,b⟩ (bareT t) pl=footerB R p t pl:=by
 have e:(bareT t).flatMap colFoot=t.flatMap colFoot:=by
  unfold bareT
  rw [List.flatMap_map]
  rfl
 unfold footerB
 rw [e]
 simp [bareT]
theorem bare_name (t:List ColB) (s:List UInt8):hasNameB (bareT t) s=hasNameB t s:=by
 unfold hasNameB bareT
 rw [List.any_map]
 rfl
theorem bare_headsTo (t:List ColB):∀ n,headsTo (bareT t) n=headsTo t n:=by
 intro n
 induction n with
 | zero=>rfl
 | succ n ih =>
  simp only [headsTo,ih]
  have e:(bareT t)[n]?=(t[n]?).map bareC:=by unfold bareT;rw [List.getElem?_map]
  rw [e]
  cases h:t[n]? with
  | none=>rfl
  | some c =>
   have e2:(bareT t).take n=bareT (t.take n):=by unfold bareT;rw [List.map_take]
   simp only [Option.map_some,e2,bare_name]
   rfl
theorem bare_heads (t:List ColB):headsOkB (bareT t)=headsOkB t:=by
 unfold headsOkB
 rw [show (bareT t).length=t.length by simp [bareT],bare_headsTo]
def partsJ (j:JobB) (r:List KeyB):List UInt8:=modsBytes j.table (spotsJ j) (modsJ j r 0 (spotsJ j))
def sheetJ (j:JobB) (r:List KeyB):SheetF:=⟨rowsB j.table,⟨j.plan.group,j.plan.page,j.plan.foot,false⟩,bareT j.table,modsJ j r 0 (spotsJ j)⟩
theorem sheetJ_spots (j:JobB) (r:List KeyB):spotsF (sheetJ j r)=spotsJ j:=by
 simp [spotsF,sheetJ,spotsJ,bareT]
theorem GoodJ.plains {j:JobB} {r:List KeyB} (h:GoodJ j r):∀ s ∈ spotsJ j,(plainB j.table s).length≤5000:=by
 intro s hs
 have hi:=h.spotIn s hs
 have:=plain_len h.table hi.col hi.few.2.2.2.2
 omega
theorem sheetJ_ok {j:JobB} {r:List KeyB} (h:GoodJ j r):SheetOk j.plan.foot.toNat (partsJ j r) (footJ j r) (sheetJ j r):=by
 obtain ⟨_,_,hf1,hf2⟩:=h.sizes
 refine ⟨h.table.rows,?_,rfl,?_,?_,?_,?_,?_,?_⟩
 ·exact h.plan
 ·show j.plan.foot=_;omega
 ·show headsOkB (bareT j.table)=true
  rw [bare_heads]
  have:=h.table.ok
  simp only [tableOkB,Bool.and_eq_true] at this
  exact this.1
 ·intro c hc
  simp only [sheetJ,bareT,List.mem_map] at hc
  obtain ⟨x,_,rfl⟩:=hc
  rfl
 ·rw [sheetJ_spots]
  exact bare_mods (modsJ_ok j r _ 0 h.plains)
 ·rw [sheetJ_spots]
  exact (bare_bytes ..).symm
 ·rw [sheetJ_spots]
  show footJ j r=footerB (rowsB j.table) ⟨j.plan.group,j.plan.page,j.plan.foot,false⟩ (bareT j.table) (modsPlaces (bareT j.table) 4 true (spotsJ j) (modsJ j r 0 (spotsJ j)))
  rw [bare_footer,bare_places]
  unfold footJ placesJ
  rw [modsJ_places]
  rfl
def formJ (j:JobB) (r:List KeyB):FormF :=
 ⟨j.plan.told,j.plan.foot.toNat,partsJ j r,if j.plan.told=true then footJ j r else [],nonceB j.draw (bodySt j r).log.length,
  bodyB (secretB r j.plan.foot) (nonceB j.draw (bodySt j r).log.length) (if j.plan.told=true then boundB j.pre 83 0 0 0++footJ j r else boundB j.pre 70 0 0 0) (if j.plan.told=true then [] else footJ j r)⟩
theorem bodySt_out (j:JobB) (r:List KeyB):(bodySt j r).out=startB j.plan++partsJ j r:=modsJ_out j r (spotsJ j) ⟨startB j.plan,[]⟩
theorem formJ_file {j:JobB} {r:List KeyB} (h:GoodJ j r):fileB j r=fileOf (formJ j r):=by
 obtain ⟨_,_,hf1,hf2⟩:=h.sizes
 have hfoot:((j.plan.foot.toNat:Nat):Int)=j.plan.foot:=by omega
 have hout:(endSt j r (footJ j r) (bodySt j r)).out=(bodySt j r).out++footPart (formJ j r):=by
  unfold endSt footPart formJ
  cases ht:j.plan.told with
  | true=>simp only [if_true,sealSt,openSt,List.append_assoc]
  | false=>simp only [if_false,Bool.false_eq_true,sealSt,List.append_assoc,List.nil_append]
 have hlen:(endSt j r (footJ j r) (bodySt j r)).out.length - (bodySt j r).out.length=(footPart (formJ j r)).length:=by
  rw [hout,List.length_append];omega
 unfold fileB
 rw [hlen,hout,bodySt_out]
 unfold fileOf startB
 simp only [formJ,hfoot,List.append_assoc]
 rfl
theorem formJ_ok {j:JobB} {r:List KeyB} (h:GoodJ j r) (hs:(fileB j r).length≤65000):FormOk (formJ j r):=by
 obtain ⟨_,_,hf1,hf2⟩:=h.sizes
 refine ⟨nonce_len _ _,?_,?_,by rw [← formJ_file h];exact hs,?_⟩
 ·show 2≤(bodyB ..).length;rw [bodyB_length];omega
 ·show 1≤j.plan.foot.toNat∧j.plan.foot.toNat≤9;omega
 ·intro ht
  show (if j.plan.told=true then footJ j r else [])=[]
  rw [if_neg (by rw [show j.plan.told=false from ht];decide)]
theorem formAt_file {j:JobB} {r:List KeyB} (h:GoodJ j r) (hs:(fileB j r).length≤65000):formAt (fileB j r)=some (formJ j r):=by
 rw [formJ_file h]
 exact formAt_some (formJ_ok h hs)
inductive Plains (t:List ColB) (pre:List UInt8) (r:List KeyB) (c:Nat):List SpotB→List ModF→Prop
 | nil:Plains t pre r c [] []
 | cons {s:SpotB} {L:List SpotB} {m:ModF} {M:List ModF}:(s.c=c→plainF pre r (colAt t c).key s m=some (plainB t s))→Plains t pre r c L M→Plains t pre r c (s :: L) (m :: M)
theorem Plains.cut {t:List ColB} {pre:List UInt8} {r:List KeyB} {c:Nat} {L:List SpotB}:∀ {L2:List SpotB} {M:List ModF},Plains t pre r c (L++L2) M→∃ M1 M2,M=M1++M2∧M1.length=L.length∧Plains t pre r c L M1∧Plains t pre r c L2 M2:=by
 induction L with
 | nil=>intro L2 M h;exact ⟨[],M,rfl,rfl,.nil,h⟩
 | cons s L ih =>
  intro L2 M h
  cases h with
  | cons hm h2 =>
   obtain ⟨M1,M2,h3,h3',h4,h5⟩:=ih h2
   exact ⟨_ :: M1,M2,by rw [h3];rfl,by simp [h3'],.cons hm h4,h5⟩
theorem modsJ_plains {j:JobB} {r r2:List KeyB} {c:Nat} (hk:(colAt j.table c).key=0∨secretB r2 (colAt j.table c).key=secretB r (colAt j.table c).key):∀ (L:List SpotB) (n:Nat),(∀ s ∈ L,(plainB j.table s).length≤5000)→Plains j.table j.pre r2 c L (modsJ j r n L):=by
 intro L
 induction L with
 | nil=>intro n _;exact .nil
 | cons s L ih =>
  intro n h
  simp only [modsJ]
  by_cases h0:(colAt j.table s.c).key=0
  ·rw [if_pos h0]
   refine .cons (fun hc=>?_) (ih _ (fun x hx=>h x (List.mem_cons_of_mem _ hx)))
   rw [hc] at h0
   simp [plainF,h0]
  ·rw [if_neg h0]
   refine .cons (fun hc=>?_) (ih _ (fun x hx=>h x (List.mem_cons_of_mem _ hx)))
   rw [hc] at h0
   rcases hk with hk|hk
   ·exact absurd hk h0
   ·unfold plainF
    rw [if_neg h0,hk,hc]
    simp only [hc]
    exact openF_body _ _ _ _ (h s (by simp))
theorem take_slice {α:Type} (l:List α) (a n:Nat):l.take a++(l.drop a).take n=l.take (a+n):=(List.take_add).symm
theorem step_page {t:List ColB} {pre:List UInt8} {r:List KeyB} {s:SpotB} {m:ModF} (hg:GoodT t) (hc:s.c < t.length) (hsort:s.sort=80) (hend:s.start+s.many≤rowsB t) (hp:plainF pre r (colAt t s.c).key s m=some (plainB t s)) :
  stepF pre r (colAt t s.c).kind (colAt t s.c).key ((colAt t s.c).cells.take s.start) s m=some ((colAt t s.c).cells.take (s.start+s.many)):=by
 obtain ⟨h1,h2,h3⟩:=hg.cells s.c hc
 have hok:cellsOkB (t[s.c]).kind (((t[s.c]).cells.drop s.start).take s.many)=true:=by
  have:=(table_col hg.ok).2 t[s.c] (List.getElem_mem hc)
  have h4:=this.1
  simp only [cellsOkB,Bool.and_eq_true,Bool.or_eq_true,decide_eq_true_eq,List.all_eq_true] at h4 ⊢
  refine ⟨⟨h4.1.1,by rw [List.length_take];omega⟩,fun x hx=>h4.2 x (List.mem_of_mem_drop (List.mem_of_mem_take hx))⟩
 have hr:∀ x ∈ ((t[s.c]).cells.drop s.start).take s.many,rangeC x:=fun x hx=>by
  have:=h3 x (List.mem_of_mem_drop (List.mem_of_mem_take hx))
  exact ⟨this.1,this.2.1⟩
 rw [colAt_eq hc] at hp ⊢
 unfold stepF
 rw [hp]
 have hpl:plainB t s=pageB (t[s.c]).kind (((t[s.c]).cells.drop s.start).take s.many):=by
  unfold plainB
  rw [if_neg (by rw [hsort];decide),colAt_eq hc]
 simp only [hpl,if_neg (show ¬ s.sort=77 from by rw [hsort];decide),unpage_page _ _ hok hr]
 rw [if_pos (by rw [List.length_take,List.length_drop];omega),take_slice]
theorem step_meta {t:List ColB} {pre:List UInt8} {r:List KeyB} {s:SpotB} {m:ModF} (hc:s.c < t.length) (hsort:s.sort=77) (hp:plainF pre r (colAt t s.c).key s m=some (plainB t s)) :
  stepF pre r (colAt t s.c).kind (colAt t s.c).key ((colAt t s.c).cells.take (s.start+s.many)) s m=some ((colAt t s.c).cells.take (s.start+s.many)):=by
 unfold stepF
 rw [hp]
 have hpl:plainB t s=metaB (colAt t s.c).kind (((colAt t s.c).cells.drop s.start).take s.many):=by
  unfold plainB
  rw [if_pos hsort]
 simp only [hpl,if_pos hsort]
 rw [if_pos]
 rw [List.drop_take,Nat.add_sub_cancel_left]
theorem plains_pages {t:List ColB} {pre:List UInt8} {r:List KeyB} {R G P g c:Nat} (hg:GoodT t) (hR:R=rowsB t) (hG:g*G < R) (hc:c < t.length) (hP:1≤P):∀ (k:Nat) (M:List ModF),k≤cntN (partN R G g) P→Plains t pre r c (pageSpots P g c (g*G) (partN R G g) k) M →
  cellsF pre r (colAt t c).kind (colAt t c).key c (some ((colAt t c).cells.take (g*G))) (pageSpots P g c (g*G) (partN R G g) k) M=some ((colAt t c).cells.take (g*G+min (k*P) (partN R G g))):=by
 intro k
 induction k with
 | zero=>intro M _ h;cases h;simp [cellsF]
 | succ k ih =>
  intro M hk h
  rw [page_succ] at h ⊢
  obtain ⟨M1,M2,rfl,hl,h1,h2⟩:=h.cut
  rw [cellsF_append _ _ _ _ _ _ _ _ _ _ hl,ih M1 (by omega) h1]
  have hlt:=(cnt_lt (n:=partN R G g) (i:=k) hP).1 (by omega)
  have hpn:=partN R G g
  have hpe:g*G+partN R G g≤R:=by unfold partN;omega
  cases h2 with
  | cons hm h3 =>
   cases h3
   rename_i m
   have e1:min (k*P) (partN R G g)=k*P:=by omega
   rw [e1]
   have:=step_page (m:=m) (pre:=pre) (r:=r) (s:=⟨80,g,c,k,g*G+k*P,partN (partN R G g) P k⟩) hg hc rfl (by simp only [partN] at *;omega) (hm rfl)
   simp only at this
   have e2:=cellsF_one pre r (colAt t c).kind (colAt t c).key ⟨80,g,c,k,g*G+k*P,partN (partN R G g) P k⟩ m ((colAt t c).cells.take (g*G+k*P))
   simp only at e2
   rw [e2,this,Nat.succ_mul]
   congr 2
   have:partN (partN R G g) P k=min P (partN R G g - k*P):=rfl
   omega
theorem plains_chunk {t:List ColB} {pre:List UInt8} {r:List KeyB} {R G P g c:Nat} (hg:GoodT t) (hR:R=rowsB t) (hG:g*G < R) (hc:c < t.length) (hP:1≤P) {M:List ModF} (h:Plains t pre r c (chunkSpots R G P g c) M) :
  cellsF pre r (colAt t c).kind (colAt t c).key c (some ((colAt t c).cells.take (g*G))) (chunkSpots R G P g c) M=some ((colAt t c).cells.take (g*G+partN R G g)):=by
 unfold chunkSpots at h ⊢
 obtain ⟨M1,M2,rfl,hl,h1,h2⟩:=h.cut
 rw [cellsF_append _ _ _ _ _ _ _ _ _ _ hl,plains_pages hg hR hG hc hP _ M1 (Nat.le_refl _) h1]
 have hm:=cnt_mul (n:=partN R G g) hP
 rw [show min (cntN (partN R G g) P*P) (partN R G g)=partN R G g by omega]
 cases h2 with
 | cons hm h3 =>
  cases h3
  rename_i m
  have:=step_meta (m:=m) (pre:=pre) (r:=r) (s:=⟨77,g,c,0,g*G,partN R G g⟩) hc rfl (hm rfl)
  have e2:=cellsF_one pre r (colAt t c).kind (colAt t c).key ⟨77,g,c,0,g*G,partN R G g⟩ m ((colAt t c).cells.take (g*G+partN R G g))
  simp only at e2 this
  rw [e2,this]
theorem plains_group {t:List ColB} {pre:List UInt8} {r:List KeyB} {R G P g c:Nat} (hg:GoodT t) (hR:R=rowsB t) (hG:g*G < R) (hc:c < t.length) (hP:1≤P):∀ (C:Nat) (M:List ModF),Plains t pre r c (groupSpots R G P g C) M →
  cellsF pre r (colAt t c).kind (colAt t c).key c (some ((colAt t c).cells.take (g*G))) (groupSpots R G P g C) M=some ((colAt t c).cells.take (if c < C then g*G+partN R G g else g*G)):=by
 intro C
 induction C with
 | zero=>intro M h;cases h;simp [groupSpots,cellsF]
 | succ C ih =>
  intro M h
  rw [group_succ] at h ⊢
  obtain ⟨M1,M2,rfl,hl,h1,h2⟩:=h.cut
  rw [cellsF_append _ _ _ _ _ _ _ _ _ _ hl,ih M1 h1]
  by_cases hlt:c < C
  ·rw [if_pos hlt,if_pos (by omega),cellsF_skip]
   intro s hs;rw [chunk_col s hs];omega
  ·rw [if_neg hlt]
   by_cases he:c=C
   ·subst he
    rw [if_pos (by omega),plains_chunk hg hR hG hc hP h2]
   ·rw [if_neg (by omega),cellsF_skip]
    intro s hs;rw [chunk_col s hs];omega
theorem plains_to {t:List ColB} {pre:List UInt8} {r:List KeyB} {R G P c:Nat} (hg:GoodT t) (hR:R=rowsB t) (hG:1≤G) (hc:c < t.length) (hP:1≤P):∀ (n:Nat) (M:List ModF),n≤cntN R G→Plains t pre r c (spotsTo R t.length G P n) M →
  cellsF pre r (colAt t c).kind (colAt t c).key c (some []) (spotsTo R t.length G P n) M=some ((colAt t c).cells.take (min (n*G) R)):=by
 intro n
 induction n with
 | zero=>intro M _ h;cases h;simp [spotsTo,cellsF]
 | succ n ih =>
  intro M hn h
  rw [spots_succ] at h ⊢
  obtain ⟨M1,M2,rfl,hl,h1,h2⟩:=h.cut
  have hlt:=(cnt_lt (n:=R) (i:=n) hG).1 (by omega)
  rw [cellsF_append _ _ _ _ _ _ _ _ _ _ hl,ih M1 (by omega) h1]
  have e:min (n*G) R=n*G:=by omega
  rw [e,plains_group hg hR hlt hc hP _ M2 h2,if_pos hc,Nat.succ_mul]
  congr 2
  unfold partN
  omega
theorem cells_file {j:JobB} {r r2:List KeyB} {c:Nat} (h:GoodJ j r) (hc:c < j.table.length) (hk:(j.table[c]).key=0∨secretB r2 (j.table[c]).key=secretB r (j.table[c]).key) :
  cellsF j.pre r2 (j.table[c]).kind (j.table[c]).key c (some []) (spotsF (sheetJ j r)) (sheetJ j r).mods=some (j.table[c]).cells:=by
 obtain ⟨⟨a,b⟩,⟨d,e⟩,_⟩:=h.sizes
 rw [sheetJ_spots]
 rw [← colAt_eq hc] at hk
 have h1:=modsJ_plains (r:=r) (r2:=r2) hk (spotsJ j) 0 h.plains
 have h2:=plains_to (pre:=j.pre) (r:=r2) h.table rfl a hc d _ _ (Nat.le_refl _) h1
 show cellsF j.pre r2 _ _ c (some []) (spotsJ j) (modsJ j r 0 (spotsJ j))=_
 rw [colAt_eq hc] at h2
 unfold spotsJ spotsB at *
 rw [h2]
 congr 1
 obtain ⟨h3,_⟩:=h.table.cells c hc
 have h4:=cnt_mul (n:=rowsB j.table) a
 rw [show min (cntN (rowsB j.table) j.plan.group.toNat*j.plan.group.toNat) (rowsB j.table)=rowsB j.table by omega,← h3,List.take_length]
end
section
theorem placesU_len:∀ (l:List Nat),(∀ x ∈ l,x < 18446744073709551616)→(l.flatMap uB).length≤10*l.length:=by
 intro l
 induction l with
 | nil=>intro _;simp
 | cons x l ih =>
  intro h
  have h1:=uB_len10 x (h x (by simp))
  have h2:=ih (fun y hy=>h y (List.mem_cons_of_mem _ hy))
  rw [List.flatMap_cons,List.length_append,List.length_cons]
  omega
theorem sheet_footer_len {foot:Nat} {parts footer:List UInt8} {S:SheetF} (hl:∀ x ∈ modsPlaces S.cols 4 true (spotsF S) S.mods,x < 18446744073709551616) (h:SheetOk foot parts footer S):footer.length≤4200:=by
 have hp:=h.plan
 simp only [planOkB,Bool.and_eq_true,decide_eq_true_eq] at hp
 have hh:=h.heads
 simp only [headsOkB,Bool.and_eq_true,decide_eq_true_eq] at hh
 have hr:=h.rows
 have hc:∀ c ∈ S.cols,(colFoot c).length≤38:=by
  intro c hc
  obtain ⟨k,hk,rfl⟩:=List.mem_iff_getElem.1 hc
  obtain ⟨a,b,c,d⟩:=head_parts (headsTo_at hh.1 (Nat.le_refl _) k hk).1
  exact colFoot_len (name_len a).2 b ⟨c,d⟩
 have h1:=flat_len colFoot 38 S.cols hc
 have h2:=placesU_len _ hl
 have h3:=sheet_places h
 have hcn:cntN S.rows S.plan.group.toNat≤S.rows:=cnt_le (by omega)
 have h4:cntN S.rows S.plan.group.toNat*S.cols.length≤60*6:=Nat.mul_le_mul (by omega) hh.2.2
 have u1:=uB_len10 S.rows (by omega)
 have u2:=uB_len10 S.plan.group.toNat (by omega)
 have u3:=uB_len10 S.plan.page.toNat (by omega)
 have u4:=uB_len10 S.plan.foot.toNat (by omega)
 have u5:=uB_len10 S.cols.length (by omega)
 rw [h.footer]
 unfold footerB
 simp only [List.length_append]
 omega
end
end Go.Proofs.YthhpbhpfagoapaaGreat
