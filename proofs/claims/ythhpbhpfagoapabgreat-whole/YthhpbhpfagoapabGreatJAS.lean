import Derived.Test.YthhpbhpfagoapabGreatJAU
import Derived.Test.YthhpbhpfagoapabGreatJAN
import Derived.WalkKit
import Derived.WalkSpells
import Derived.WalkLawsBesides
import Derived.Laws.IdiomStrings
namespace Go.Proofs.YthhpbhpfagoapabGreat
set_option linter.unusedVariables false
set_option linter.unusedSimpArgs false
set_option maxRecDepth 100000
set_option maxHeartbeats 16000000
open Go.RowKit
section
theorem IN (a b:List UInt8):(⟨a.toArray⟩++⟨b.toArray⟩:ByteArray)=⟨(a++b).toArray⟩:=ByteArray.mk_append_mk a b
def BV:Value→Nat
 | .int _ q=>q.toNat
 | _=>0
theorem VN {n:Int} (h0:0≤n) (h1:n≤9223372036854775807):IntKind.u64.wrap n=n:=by rw [IntKind.wrap_u64];omega
theorem Fd (n:Int):IntKind.u64.wrap n=n % 18446744073709551616:=by rw [IntKind.wrap_u64]
end
section
theorem qc {a b:Bool} (h:a=b):Ending.returned (.bool a)=.returned (.bool b):=by rw [h]
abbrev cellV (c:CellB):Value:=.agg #[.bool c.null,.int .i64 c.int,strB c.text]
def okC (c:CellB):Prop:=-9223372036854775808≤c.int∧c.int≤9223372036854775807∧c.text.length≤maxLen
structure Lies (w:World) (a:Option Addr) (l:List CellB):Prop where
 ok:∀ c ∈ l,okC c
 at_:l≠[]→∃ b off,a=some ⟨b,off,none⟩∧b < w.heap.size∧∀ j (h:j < l.length),
  w.cell? ⟨b,off+j*3,none⟩=some (.bool (l[j]).null)∧w.cell? ⟨b,off+j*3+1,none⟩=some (.int .i64 (l[j]).int)∧w.cell? ⟨b,off+j*3+2,none⟩=some (strB (l[j]).text)
theorem Lies.later {w w':World} {a:Option Addr} {l:List CellB} (h:Lies w a l) (hb:Below w.heap.size w w'):Lies w' a l:=by
 refine ⟨h.ok,fun hne=>?_⟩
 obtain ⟨b,off,ha,hlt,hc⟩:=h.at_ hne
 refine ⟨b,off,ha,Nat.lt_of_lt_of_le hlt hb.size,fun j hj=>?_⟩
 obtain ⟨h1,h2,h3⟩:=hc j hj
 exact ⟨(hb.cell (p:=⟨b,_,none⟩) hlt).trans h1,(hb.cell (p:=⟨b,_,none⟩) hlt).trans h2,(hb.cell (p:=⟨b,_,none⟩) hlt).trans h3⟩
end
section
def qx (l:List CellB):List Value:=l.flatMap fun c=>[.bool c.null,.int .i64 c.int,strB c.text]
theorem Qa (l:List CellB):(qx l).length=l.length*3:=by
 induction l with
 | nil=>rfl
 | cons c l ih=>simp only [qx,List.flatMap_cons,List.length_append,List.length_cons,List.length_nil] at ih ⊢;omega
theorem ZX (a b:List CellB):qx (a++b)=qx a++qx b:=by simp [qx]
theorem UN (l:List CellB):∀ (j:Nat) (h:j < l.length),(qx l)[j*3]?=some (.bool (l[j]).null)∧(qx l)[j*3+1]?=some (.int .i64 (l[j]).int)∧(qx l)[j*3+2]?=some (strB (l[j]).text):=by
 induction l with
 | nil=>intro j h;simp at h
 | cons c l ih =>
  intro j h
  cases j with
  | zero=>simp [qx]
  | succ j =>
   have hj:j < l.length:=by simpa using h
   have e:qx (c :: l)=[.bool c.null,.int .i64 c.int,strB c.text]++qx l:=by simp [qx]
   obtain ⟨h1,h2,h3⟩:=ih j hj
   rw [e]
   refine ⟨?_,?_,?_⟩
   ·rw [List.getElem?_append_right (by simp;omega)]
    simpa [show (j+1)*3 - 3=j*3 by omega] using h1
   ·rw [List.getElem?_append_right (by simp;omega)]
    simpa [show (j+1)*3+1 - 3=j*3+1 by omega] using h2
   ·rw [List.getElem?_append_right (by simp;omega)]
    simpa [show (j+1)*3+2 - 3=j*3+2 by omega] using h3
theorem RI {w:World} {base n:Nat} {v:Value} {l:List CellB} (h:w.ownsRow base 34 3 v n (qx l)) (hok:∀ c ∈ l,okC c) :
  ∃ a cap,v=.slice a l.length cap∧n=l.length∧Lies w a l:=by
 have hn:n=l.length:=by have:=h.1;rw [Qa] at this;omega
 subst hn
 rcases h.2 with ⟨rfl,h0⟩|⟨g,cap,cur,rfl,_,hg,_⟩
 ·have:l=[]:=List.eq_nil_of_length_eq_zero h0
  subst this
  exact ⟨none,0,rfl,rfl,hok,fun hne=>absurd rfl hne⟩
 ·refine ⟨_,_,rfl,rfl,hok,fun _=>⟨g,0,rfl,(h.lt g rfl).2,fun j hj=>?_⟩⟩
  obtain ⟨h1,h2,h3⟩:=UN l j hj
  simp only [Nat.zero_add]
  exact ⟨by rw [h.cellAt (j*3) (by omega)];exact h1,by rw [h.cellAt (j*3+1) (by omega)];exact h2,by rw [h.cellAt (j*3+2) (by omega)];exact h3⟩
theorem Tryz.infoCell:(Tryz.prog.info? 34).map (fun i=>(i.zero,i.size,i.bytes))=some (some (.agg #[.bool false,.int .i64 0,.string ⟨#[]⟩]),3,32):=by kernel_rfl
theorem qE (w:World) (C:Array Value) (t:TypeId):∀ (j:Nat) (u:Value),C.toList[j]?=some u→(w.alloc (.cells C t)).cell? ((⟨w.heap.size,0,none⟩:Addr).add j)=some u:=by
 intro j u h
 have:(⟨w.heap.size,0,none⟩:Addr).add j=⟨w.heap.size,j,none⟩:=by unfold Addr.add;split<;>simp_all
 rw [this,World.cell?_alloc_mark]
 simpa using h
end
end Go.Proofs.YthhpbhpfagoapabGreat
