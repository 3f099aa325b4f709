import Derived.Test.YthhpbhpfagoapaaGreatYLay
import Derived.Test.YthhpbhpfagoapaaGreatYCol
import Derived.Test.YthhpbhpfagoapaaGreatJAG
namespace Go.Proofs.YthhpbhpfagoapaaGreat
set_option linter.unusedVariables false
set_option linter.unusedSimpArgs false
set_option maxRecDepth 100000
set_option maxHeartbeats 16000000
open Go.RowKit
section
theorem FoundsAt.aside {base b e s m:Nat} {x y:World} {v u:Value} {zs:List Value} {F:Nat→FoundB} {n:Nat} {Vs:Nat→Value} (h:FoundsAt base x v F n Vs) (hg:x.grownBy y u.ownBlock) (ho:x.ownsRow b e s u m zs) (h1:91≠e) (h2:58≠e):FoundsAt base y v F n Vs :=
 ⟨h.row.kept hg (qc h.row ho h1),fun j hj=>(h.cells j hj).kept hg (qc (h.cells j hj) ho h2),h.small,h.apart⟩
theorem FoundsAt.under {base B:Nat} {x y:World} {v:Value} {F:Nat→FoundB} {n:Nat} {Vs:Nat→Value} (h:FoundsAt base x v F n Vs) (hg:x.grownBy y (some B)) (hB:B < base):FoundsAt base y v F n Vs :=
 ⟨h.row.kept hg (Jg h.row hB),fun j hj=>(h.cells j hj).kept hg (Jg (h.cells j hj) hB),h.small,h.apart⟩
theorem ToldAt.aside {x y:World} {T base b e s m:Nat} {S:SheetF} {u:Value} {zs:List Value} (h:ToldAt x T base S) (hg:x.grownBy y u.ownBlock) (ho:x.ownsRow b e s u m zs) (h1:179≠e) (h2:61≠e) (h3:161≠e) (h4:9≠e) (h5:167≠e):ToldAt y T base S:=by
 obtain ⟨cv,sv,pv,ev,k1,k2,k3,k4,k5⟩:=h
 exact ⟨cv,sv,pv,ev,jq hg ho k1 h1,k2.kept hg (qc k2 ho h2),k3.kept hg (qc k3 ho h3),k4.kept hg (qc k4 ho h4),k5.kept hg (qc k5 ho h5)⟩
theorem ToldAt.box {x y:World} {T base B:Nat} {S:SheetF} {cs:Array Value} (h:ToldAt x T base S) (hg:x.grownBy y (some B)) (hB:x.heap[B]?=some (.cells cs 106 (0,0))):ToldAt y T base S:=by
 obtain ⟨cv,sv,pv,ev,k1,k2,k3,k4,k5⟩:=h
 have hne:T≠B:=by
  intro e
  subst e
  rw [hB] at k1
  injection k1 with k1
  injection k1 with _ k6 _
  exact absurd k6 (by decide)
 exact ⟨cv,sv,pv,ev,qi hg k1 hne,k2.kept hg (qM k2 hB (by decide)),k3.kept hg (qM k3 hB (by decide)),k4.kept hg (qM k4 hB (by decide)),k5.kept hg (qM k5 hB (by decide))⟩
structure RAt (x w:World) (fb ob:Nat) (f:FormF) (fv sv:Value) (F:Nat→FoundB) (k:Nat) (Vs:Nat→Value) (n:Nat) (xs:List Value):Prop where
 below:Below w.heap.size w x
 lo:w.heap.size≤fb
 lt:fb < ob
 file:x.heap[fb]?=some (.cells (fileC f) 169 (0,0))
 out:x.heap[ob]?=some (.cells #[fv,sv] 106 (0,0))
 found:FoundsAt (ob+1) x fv F k Vs
 seals:x.ownsRow (ob+1) 40 4 sv n xs
section
variable {x y w:World} {fb ob:Nat} {f:FormF} {fv sv:Value} {F:Nat→FoundB} {k:Nat} {Vs:Nat→Value} {n:Nat} {xs:List Value}
theorem RAt.size (h:RAt x w fb ob f fv sv F k Vs n xs):ob+1≤x.heap.size:=Nat.succ_le_of_lt (Array.getElem?_eq_some_iff.1 h.out).1
theorem RAt.later (h:RAt x w fb ob f fv sv F k Vs n xs) (hb:Below x.heap.size x y):RAt y w fb ob f fv sv F k Vs n xs :=
 ⟨h.below.trans (hb.mono h.below.size),h.lo,h.lt,jb hb h.file,jb hb h.out,h.found.later hb,jw h.seals hb⟩
theorem RAt.alloc (h:RAt x w fb ob f fv sv F k Vs n xs) (o:Obj):RAt (x.alloc o) w fb ob f fv sv F k Vs n xs :=
 h.later ((Below.refl x.heap.size x).alloc (Nat.le_refl _) o)
theorem RAt.drew (h:RAt x w fb ob f fv sv F k Vs n xs):RAt x.drew w fb ob f fv sv F k Vs n xs :=
 h.later (qa (Below.refl x.heap.size x))
theorem RAt.filec (h:RAt x w fb ob f fv sv F k Vs n xs):x.cell? ⟨fb,1,none⟩=some (.int .i64 (f.foot:Int))∧x.cell? ⟨fb,4,none⟩=some (strB f.nonce)∧x.cell? ⟨fb,5,none⟩=some (strB f.body):=by
 obtain ⟨_,h1,_,_,h4,h5⟩:=JU h.file
 exact ⟨h1,h4,h5⟩
theorem RAt.rowB (h:RAt x w fb ob f fv sv F k Vs n xs) (B:Nat) (cs:Array Value) {old:Array Value} (hw:ob+1≤B) (hB:x.heap[B]?=some (.cells old 40 (0,0))) (h2:sv.ownBlock=none∨sv.ownBlock≠some B):RAt (x.setRow B cs) w fb ob f fv sv F k Vs n xs:=by
 have hg:=Qy x B cs
 have:=h.lo
 have:=h.lt
 exact ⟨h.below.trans (jg hg (by omega) h.below.size),h.lo,h.lt,qi hg h.file (by omega),qi hg h.out (by omega),⟨h.found.row.kept hg (qM h.found.row hB (by decide)),fun j hj=>(h.found.cells j hj).kept hg (qM (h.found.cells j hj) hB (by decide)),h.found.small,h.found.apart⟩,h.seals.kept hg h2⟩
theorem RAt.sealUp (h:RAt x w fb ob f fv sv F k Vs n xs) {sv':Value} {n':Nat} {xs':List Value} (hg:x.grownBy y sv.ownBlock) (ho:y.ownsRow (ob+1) 40 4 sv' n' xs'):RAt (y.setCell ⟨ob,1,none⟩ sv') w fb ob f fv sv' F k Vs n' xs':=by
 have h1:=h.lo
 have h2:=h.lt
 have hout:=qY hg h.seals h.out (by omega)
 have hset:=zS y ob 1 sv'
 have hB:=zY h.below hg (fun k hk=>by have:=(h.seals.lt k hk).1;omega)
 refine ⟨hB.trans (jg hset (by omega) hB.size),h.lo,h.lt,qi hset (qY hg h.seals h.file (by omega)) (by omega),?_,(h.found.aside hg h.seals (by decide) (by decide)).under hset (by omega),ho.kept hset (Jg ho (by omega))⟩
 rw [heap_setCell_same y ob 1 _ _ sv' hout]
 rfl
theorem RAt.foundUp (h:RAt x w fb ob f fv sv F k Vs n xs) {fv' u:Value} {B:Nat} (hB:∀ j,j < k→∀ a,(Vs j).ownBlock=some a→a < B) (hu:x.ownsRow B 58 3 u (F k).cells.length (jG (F k).cells)) (hbB:ob+1≤B) (hs:∀ z ∈ (F k).cells,qz z)
  (hg:x.grownBy y fv.ownBlock) (ho:y.ownsRow (ob+1) 91 5 fv' (k+1) (JG F Vs k++Us (F k) u)):RAt (y.setCell ⟨ob,0,none⟩ fv') w fb ob f fv' sv F (k+1) (fun j=>if j=k then u else Vs j) n xs:=by
 have h1:=h.lo
 have h2:=h.lt
 have hout:=qY hg h.found.row h.out (by omega)
 have hset:=zS y ob 0 fv'
 have hBl:=zY h.below hg (fun k hk=>by have:=(h.found.row.lt k hk).1;omega)
 have hst:=h.found.step hB hu hbB hs hg ho
 refine ⟨hBl.trans (jg hset (by omega) hBl.size),h.lo,h.lt,qi hset (qY hg h.found.row h.file (by omega)) (by omega),?_,hst.under hset (by omega),(h.seals.kept hg (qc h.seals h.found.row (by decide))).kept hset (Jg (h.seals.kept hg (qc h.seals h.found.row (by decide))) (by omega))⟩
 rw [heap_setCell_same y ob 0 _ _ fv' hout]
 rfl
end
theorem xY {w:World} {q:Nat} {a b:Value} {t:TypeId} (hh:w.heap[q]?=some (.cells #[a,b] t (0,0))):w.cell? ⟨q,0,none⟩=some a∧w.cell? ⟨q,1,none⟩=some b:=by
 refine ⟨?_,?_⟩<;>rw [cell_of_row w q _ _ _ (0,0) hh]<;>rfl
theorem RR {file:List UInt8} {f:FormF} (h:zh file=some f):f.parts.length≤65000∧f.footer.length≤65000∧f.nonce.length=4∧f.body.length≤65000∧f.foot≤9:=by
 obtain ⟨h1,h2⟩:=RF h
 have h3:=h1.short
 have hl:=h1.lens
 refine ⟨?_,by omega,h1.nonce,by omega,h1.foot.2⟩
 unfold xj at h3
 simp only [List.length_append] at h3
 omega
end
section
noncomputable def Np (f:FormF) (pre:List UInt8) (r:List KeyB) (trust:Bool) (ft:List UInt8):Int × Option SheetF :=
 match xo f.foot f.parts ft with
 | none=>(9,none)
 | some S=>if (f.told && !trust)=true then (if jA r (f.foot:Int)=false then (8,none) else if qo (jm r (f.foot:Int)) f.nonce (qu pre 83 0 0 0++ft) f.body=some [] then (0,some S) else (4,none)) else (0,some S)
section
variable {file pre:List UInt8} {r:List KeyB} {trust:Bool} {f:FormF}
theorem Is (hp:¬ 20 < pre.length) (hr:xX r=true) (hf:zh file=some f) (ht:f.told=true):qL file pre r trust=Np f pre r trust f.footer:=by
 unfold qL Np
 rw [if_neg hp,if_neg (by rw [hr];decide),hf]
 simp only [ht,if_true,Bool.true_and]
 cases xo f.foot f.parts f.footer with
 | none=>rfl
 | some S=>cases trust<;>simp
theorem Mm (hp:¬ 20 < pre.length) (hr:xX r=true) (hf:zh file=some f) (ht:f.told=false) (hn:jA r (f.foot:Int)=false):qL file pre r trust=(8,none):=by
 unfold qL
 rw [if_neg hp,if_neg (by rw [hr];decide),hf]
 simp [ht,hn]
theorem IA (hp:¬ 20 < pre.length) (hr:xX r=true) (hf:zh file=some f) (ht:f.told=false) (hn:jA r (f.foot:Int)=true) (ho:qo (jm r (f.foot:Int)) f.nonce (qu pre 70 0 0 0) f.body=none):qL file pre r trust=(4,none):=by
 unfold qL
 rw [if_neg hp,if_neg (by rw [hr];decide),hf]
 simp [ht,hn,ho]
theorem Di (hp:¬ 20 < pre.length) (hr:xX r=true) (hf:zh file=some f) (ht:f.told=false) (hn:jA r (f.foot:Int)=true) {ft:List UInt8} (ho:qo (jm r (f.foot:Int)) f.nonce (qu pre 70 0 0 0) f.body=some ft):qL file pre r trust=Np f pre r trust ft:=by
 unfold qL Np
 rw [if_neg hp,if_neg (by rw [hr];decide),hf]
 simp only [ht,hn,ho,Bool.false_and]
 cases xo f.foot f.parts ft<;>simp
theorem Mr {sec non ext body p:List UInt8} (h:qo sec non ext body=some p):p.length≤65535:=by
 unfold qo at h
 split at h
 ·rename_i hc
  injection h with h
  subst h
  rw [zA,List.length_take]
  omega
 ·cases h
end
def F0:Nat→FoundB:=fun _=>⟨[],0,0,0,[]⟩
def V0:Nat→Value:=fun _=>nilV
theorem RAt.begin {x w:World} {fb ob:Nat} {f:FormF} {sv:Value} {F:Nat→FoundB} {Vs:Nat→Value} {n:Nat} {xs:List Value} (h:RAt x w fb ob f nilV sv F 0 Vs n xs) (F':Nat→FoundB) (Vs':Nat→Value):RAt x w fb ob f nilV sv F' 0 Vs' n xs :=
 ⟨h.below,h.lo,h.lt,h.file,h.out,⟨World.ownsRow_nil _ _ _ _,fun j hj=>absurd hj (by omega),fun j hj=>absurd hj (by omega),fun i j _ hj=>absurd hj (by omega)⟩,h.seals⟩
theorem ToldAt.boxT {x y:World} {T base B:Nat} {S:SheetF} {cs:Array Value} {e:TypeId} (h:ToldAt x T base S) (hg:x.grownBy y (some B)) (hB:x.heap[B]?=some (.cells cs e (0,0))) (h1:179≠e) (h2:61≠e) (h3:161≠e) (h4:9≠e) (h5:167≠e):ToldAt y T base S:=by
 obtain ⟨cv,sv,pv,ev,k1,k2,k3,k4,k5⟩:=h
 have hne:T≠B:=by
  intro e
  subst e
  rw [hB] at k1
  injection k1 with k1
  injection k1 with _ k6 _
  exact h1 k6.symm
 exact ⟨cv,sv,pv,ev,qi hg k1 hne,k2.kept hg (qM k2 hB h2),k3.kept hg (qM k3 hB h3),k4.kept hg (qM k4 hB h4),k5.kept hg (qM k5 hB h5)⟩
structure RTAt (T tb:Nat) (S:SheetF) (x w:World) (fb ob:Nat) (f:FormF) (fv sv:Value) (F:Nat→FoundB) (k:Nat) (Vs:Nat→Value) (n:Nat) (xs:List Value):Prop extends RAt x w fb ob f fv sv F k Vs n xs where
 told:ToldAt x T tb S
section
variable {x y w:World} {T tb:Nat} {S:SheetF} {fb ob:Nat} {f:FormF} {fv sv:Value} {F:Nat→FoundB} {k:Nat} {Vs:Nat→Value} {n:Nat} {xs:List Value}
theorem RTAt.later (h:RTAt T tb S x w fb ob f fv sv F k Vs n xs) (hb:Below x.heap.size x y):RTAt T tb S y w fb ob f fv sv F k Vs n xs:=⟨h.toRAt.later hb,h.told.later hb⟩
theorem RTAt.alloc (h:RTAt T tb S x w fb ob f fv sv F k Vs n xs) (o:Obj):RTAt T tb S (x.alloc o) w fb ob f fv sv F k Vs n xs :=
 h.later ((Below.refl x.heap.size x).alloc (Nat.le_refl _) o)
theorem RTAt.drew (h:RTAt T tb S x w fb ob f fv sv F k Vs n xs):RTAt T tb S x.drew w fb ob f fv sv F k Vs n xs :=
 h.later (qa (Below.refl x.heap.size x))
theorem RTAt.rowB (h:RTAt T tb S x w fb ob f fv sv F k Vs n xs) (B:Nat) (cs:Array Value) {old:Array Value} (hw:ob+1≤B) (hB:x.heap[B]?=some (.cells old 40 (0,0))) (h2:sv.ownBlock=none∨sv.ownBlock≠some B):RTAt T tb S (x.setRow B cs) w fb ob f fv sv F k Vs n xs :=
 ⟨h.toRAt.rowB B cs hw hB h2,h.told.boxT (Qy x B cs) hB (by decide) (by decide) (by decide) (by decide) (by decide)⟩
end
theorem VU (x:World) (b:Option Nat):x.grownBy x b:=⟨rfl,rfl,rfl,Nat.le_refl _,fun _ _ _=>rfl⟩
theorem CM (x:World) (A B:Array Value) (t:TypeId):Below x.heap.size x ((x.alloc (.cells A t)).setRow x.heap.size B):=by
 have h:=(Below.refl x.heap.size x).alloc (Nat.le_refl _) (.cells A t)
 exact h.trans (jg (Qy _ x.heap.size B) (Nat.le_refl _) h.size)
theorem Vu {file:List UInt8} {f:FormF} {ft:List UInt8} {S:SheetF} (hf:zh file=some f) (h:SheetOk f.foot f.parts ft S):ft.length≤4200:=by
 have hl:=RR hf
 exact Zy (fun x hx=>by
  have h1:=Ze _ _ _ _ x hx
  rw [← h.parts] at h1
  omega) h
end
end Go.Proofs.YthhpbhpfagoapaaGreat
