import Derived.Test.YthhpbhpfagoapabGreatJAS
import Derived.Test.YthhpbhpfagoapabGreatJAN
import Derived.Deep.QuietTactic
import Derived.BigQuiet
import Derived.WalkSmall
import Derived.Lib.Strings
import Derived.Test.YthhpbhpfagoapabGreatJBI
import Derived.Deep.DeepCutAuto
import Derived.Deep.RegionWith
import Derived.Test.YthhpbhpfagoapabGreatJAY
import Derived.Test.YthhpbhpfagoapabGreatJBB
namespace Go.Proofs.YthhpbhpfagoapabGreat
set_option linter.unusedVariables false
set_option linter.unusedSimpArgs false
set_option maxRecDepth 100000
set_option maxHeartbeats 16000000
open Go.RowKit
section
theorem jg {a b c:World} {p:Option Nat} (h:a.grownBy b p) (k:b.grownBy c p):a.grownBy c p :=
 ⟨k.os.trans h.os,k.tape.trans h.tape,k.output.trans h.output,Nat.le_trans h.size k.size,fun i hi hne=>(k.block i (Nat.lt_of_lt_of_le hi h.size) hne).trans (h.block i hi hne)⟩
end
section
theorem UJ {n:Int} (h0:0≤n) (h1:n≤9223372036854775807):IntKind.i64.wrap n=n:=IntWalk.i64_in n ⟨by omega,by omega⟩
end
section
theorem zT {wr w1:World} {B p e sz n:Nat} {v:Value} {xs:List Value} (h:wr.ownsRow B e sz v n xs) (hp:p < B) (hg:wr.grownBy w1 (some p)):w1.ownsRow B e sz v n xs:=by
 refine h.kept hg ?_
 cases hv:v.ownBlock with
 | none=>exact .inl rfl
 | some k =>
  right
  have:=(h.lt k hv).1
  simp only [ne_eq,Option.some.injEq]
  omega
theorem Us {w wr:World} {p:Option Nat} (h:w.grownBy wr p) (o:Obj):w.grownBy (wr.alloc o) p:=jg h (World.grownBy_alloc wr o p)
def Block3 (w:World) (g:Nat) (c:CellB):Prop:=w.heap[g]?=some (.cells #[.bool c.null,.int .i64 c.int,strB c.text] 34 (0,0))
theorem Block3.kept {w w1:World} {p g:Nat} {c:CellB} (h:Block3 w g c) (hg:w.grownBy w1 (some p)) (hlt:g < w.heap.size) (hne:g≠p):Block3 w1 g c:=by
 unfold Block3
 rw [hg.block g hlt (by simp [hne])]
 exact h
theorem JQ {w wr w2:World} {p q:Option Nat} (h:w.grownBy wr p) (hg:wr.grownBy w2 q) (hq:∀ k,q=some k→w.heap.size≤k):w.grownBy w2 p:=by
 refine ⟨hg.os.trans h.os,hg.tape.trans h.tape,hg.output.trans h.output,Nat.le_trans h.size hg.size,fun i hi hne=>?_⟩
 rw [hg.block i (Nat.lt_of_lt_of_le hi h.size) (fun e=>absurd (hq i e.symm) (by omega))]
 exact h.block i hi hne
theorem jS {w:World} {b b' e s n:Nat} {v:Value} {xs:List Value} (h:w.ownsRow b e s v n xs) (hb:b'≤b):w.ownsRow b' e s v n xs:=by
 refine ⟨h.1,?_⟩
 rcases h.2 with h|⟨g,cap,cur,rfl,hg,rest⟩
 ·exact .inl h
 ·exact .inr ⟨g,cap,cur,rfl,Nat.le_trans hb hg,rest⟩
theorem jP {a b:World} {p:Option Nat} (h:(a.drew).grownBy b p):a.grownBy b p:=⟨h.os,h.tape,h.output,h.size,h.block⟩
end
section
structure LiesS (w:World) (a:Option Addr) (l:List SealB):Prop where
 at_:l≠[]→∃ b,a=some ⟨b,0,none⟩∧b < w.heap.size∧∀ j (h:j < l.length),
  w.cell? ⟨b,j*4,none⟩=some (strB (l[j]).secret)∧w.cell? ⟨b,j*4+1,none⟩=some (strB (l[j]).nonce)∧w.cell? ⟨b,j*4+2,none⟩=some (strB (l[j]).extra)∧w.cell? ⟨b,j*4+3,none⟩=some (strB (l[j]).body)
theorem LiesS.later {w w':World} {a:Option Addr} {r:List SealB} (h:LiesS w a r) (hb:Below w.heap.size w w'):LiesS w' a r:=by
 refine ⟨fun hne=>?_⟩
 obtain ⟨b,ha,hlt,hc⟩:=h.at_ hne
 refine ⟨b,ha,Nat.lt_of_lt_of_le hlt hb.size,fun j hj=>?_⟩
 obtain ⟨h1,h2,h3,h4⟩:=hc j hj
 exact ⟨(hb.cell (p:=⟨b,_,none⟩) hlt).trans h1,(hb.cell (p:=⟨b,_,none⟩) hlt).trans h2,(hb.cell (p:=⟨b,_,none⟩) hlt).trans h3,(hb.cell (p:=⟨b,_,none⟩) hlt).trans h4⟩
theorem Kp {w:World} {base n:Nat} {v:Value} {l:List SealB} (h:w.ownsRow base 54 4 v n (qI l)) :
  ∃ a cap,v=.slice a l.length cap∧LiesS w a l:=by
 have hn:n=l.length:=by have:=h.1;rw [Xj] at this;omega
 subst hn
 rcases h.2 with ⟨rfl,h0⟩|⟨g,cap,cur,rfl,_,hg,_⟩
 ·have:l=[]:=List.eq_nil_of_length_eq_zero h0
  subst this
  exact ⟨none,0,rfl,⟨fun hne=>absurd rfl hne⟩⟩
 ·refine ⟨_,_,rfl,⟨fun _=>⟨g,rfl,(h.lt g rfl).2,fun j hj=>?_⟩⟩⟩
  obtain ⟨h1,h2,h3,h4⟩:=Sd l j hj
  exact ⟨by rw [h.cellAt (j*4) (by omega)];exact h1,by rw [h.cellAt (j*4+1) (by omega)];exact h2,by rw [h.cellAt (j*4+2) (by omega)];exact h3,by rw [h.cellAt (j*4+3) (by omega)];exact h4⟩
theorem GoodJ.logLen {j:JobB} {r:List KeyB} (h:GoodJ j r):(Jg j r).length≤100000:=by
 have:=(h.body (qG j).length).2
 rw [List.take_length] at this
 unfold Jg Jb
 have e:xC j r=qA j r ⟨zw j.plan,[]⟩ (qG j):=rfl
 rw [← e] at this
 split
 ·rw [(QD _ _ _ _ _).2];simp only [zU];omega
 ·rw [(QD _ _ _ _ _).2];omega
theorem Dk (j:JobB) (r:List KeyB):0 < (Jg j r).length:=by
 unfold Jg Jb
 split
 ·rw [(QD _ _ _ _ _).2];omega
 ·rw [(QD _ _ _ _ _).2];omega
end
end Go.Proofs.YthhpbhpfagoapabGreat
