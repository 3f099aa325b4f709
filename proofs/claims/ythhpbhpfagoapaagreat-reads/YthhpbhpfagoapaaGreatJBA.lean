import Derived.Test.YthhpbhpfagoapaaGreatJAA
import Derived.Test.YthhpbhpfagoapaaGreatTag
import Derived.Lib.AppendStr
namespace Go.Proofs.YthhpbhpfagoapaaGreat
set_option linter.unusedVariables false
set_option linter.unusedSimpArgs false
set_option maxRecDepth 100000
set_option maxHeartbeats 16000000
open Go.RowKit
section
theorem Vg {W:World} {base n:Nat} {v:Value} {l:List UInt8} (h:W.ownsRow base 5 1 v n (qL l)) :
  Sem.run Tryz.prog (convert 149 9 v) W=.ok (strB l) W:=by
 have hn:l.length=n:=by simpa [qL] using h.1
 rcases h.2 with ⟨rfl,rfl⟩|⟨g,cap,cur,rfl,_⟩
 ·have:l=[]:=ao hn
  subst this
  exact run_convert_bytes_nil (P:=Tryz.prog) W 149 5 Tryz.underlying149 Tryz.underlying5 0 0 9 Tryz.underlying9
 ·exact AA h hn
theorem KU (parts:List ByteArray) (k:Nat) (h:k < parts.length):(xQ (parts.take (k+1))).length=(xQ (parts.take k)).length+parts[k].size:=by
 rw [UM parts k h,ab]
 simp
theorem QG (parts:List ByteArray) (k:Nat):(xQ (parts.take k)).length≤(xQ parts).length:=by
 have:xQ parts=xQ (parts.take k)++xQ (parts.drop k):=by
  unfold xQ
  rw [← bf,aD]
 rw [this,ab]
 omega
theorem Io (s:ByteArray):Lib.strCells s=qL s.data.toList:=rfl
theorem ZC (a b:List UInt8):qL (a++b)=qL a++qL b:=by simp [qL]
theorem Dx {w wr w2:World} {v v':Value} {n:Nat} {l:List UInt8} {s:ByteArray} (hB:Below w.heap.size w wr) (hown:wr.ownsRow w.heap.size 5 1 v n (qL l))
  (hown2:w2.ownsRow w.heap.size 5 1 v' (n+s.size) (qL l++Lib.strCells s)) (hgr:wr.grownBy w2 v.ownBlock) :
  w2.ownsRow w.heap.size 5 1 v' (n+s.size) (qL (l++s.data.toList))∧Below w.heap.size w w2:=by
 rw [ZC,← Io]
 exact ⟨hown2,hB.grown hgr hB.size (fun k hk=>(hown.lt k hk).1)⟩
theorem SE (parts:List ByteArray) (b cap:Nat) (w:World) (hn:parts.length≤1000) (hs:(xQ parts).length≤1000000) (hb:b < w.heap.size)
  (hc:∀ j (h:j < parts.length),w.cell? ⟨b,j,none⟩=some (.string parts[j])) :
  Calls Tryz.prog 194 #[.slice (some ⟨b,0,none⟩) parts.length cap] w fun e w'=>e=.returned (strB (xQ parts))∧Below w.heap.size w w':=by
 obtain ⟨i0,hi,hz0,hz1,hz2⟩:=info_parts Tryz.infoU8
 have Hc:=hid hc
 clear hc
 go_enter Tryz.func194,Tryz.ntmps194
 go_wp2
 go_loop [3,11] (fun t i=>∃ k:Nat,k≤parts.length∧i=.int .i64 k∧t=.int .i64 ((xQ (parts.take k)).length:Int)) (fun _ i=>parts.length - (intOf i).toNat)
 case atStart=>exact ⟨0,ah _,rfl,rfl⟩
 case round =>
  obtain ⟨k,hk,rfl,rfl⟩:=hrel
  by_cases hlt:k < parts.length
  ·have hck:=Hc.out k hlt
   have hm1:=QG parts k
   have hm2:=QG parts (k+1)
   have hm3:=KU parts k hlt
   have HS:=hid hm3
   have hm4:(parts[k]'hlt).size≤1000000:=by omega
   clear hm2 hm3
   generalize (xQ (parts.take k)).length=m0 at *
   generalize (parts[k]'hlt)=part at *
   go_wp2
   go_round
   case rel=>exact ⟨k+1,by omega,by go_num,by rw [HS.out];go_num⟩
   case measure=>simp [intOf];omega
  ·have hke:k=parts.length:=by omega
   subst hke
   rw [aF]
   generalize hL:(xQ parts).length=L at *
   have HL:=hid hL
   clear hL
   go_wp2_with (at_make;refine wpList_make_own _ rfl (.const (.int .i64 0)) (.tmp 20) 149 rfl w.heap.size 5 i0 (.int .u8 0) 1 Tryz.underlying149 hi hz0 hz1 .i64 .i64 _ L rfl rfl rfl (by rw [hz2];omega) (by unfold maxLen;omega) (ae _) ?_;intro w3 hown hgr)
   have hB3:Below w.heap.size w w3:=(Below.refl _ _).grown hgr (ae _) (fun _ h=>by cases h)
   clear hgr
   go_loopw [6,24] (fun v i wr=>∃ k:Nat,k≤parts.length∧i=.int .i64 k∧wr.ownsRow w.heap.size 5 1 v (xQ (parts.take k)).length (qL (xQ (parts.take k)))∧Below w.heap.size w wr)
    (fun _ i _=>parts.length - (intOf i).toNat)
   case atStart=>exact ⟨0,ah _,rfl,hown,hB3⟩
   case round =>
    clear hown hB3
    obtain ⟨k,hk,rfl,hown,hB⟩:=hrel
    by_cases hlt:k < parts.length
    ·have hck:wr.cell? ⟨b,k,none⟩=some (.string (parts[k]'hlt)):=(hB.cell (p:=⟨b,k,none⟩) hb).trans (Hc.out k hlt)
     have hm1:=QG parts k
     have hm2:=QG parts (k+1)
     have hm3:=KU parts k hlt
     have HS:=hid hm3
     have HF:=hid (UM parts k hlt)
     have hLe:=HL.out
     have hm4:(xQ (parts.take k)).length+(parts[k]'hlt).size≤1000000:=by omega
     clear hm2 hm3 hLe
     generalize xQ (parts.take k)=l0 at *
     generalize (parts[k]'hlt)=part at *
     go_wp2_with (at_builtin;refine Lib.wpList_append_own_string _ rfl (.tmp 28) (.tmp 29) 149 9 rfl w.heap.size 5 i0 Tryz.underlying149 Tryz.underlying9 hi hz0 hz1 hz2 _ _ _ rfl hown part rfl (by unfold maxLen;omega) (by omega) hB.size ?_;intro v2 w2 hown2 hgr2 _)
     have HR:=hid (Dx hB hown hown2 hgr2)
     clear hown hown2 hgr2 hB hck
     go_wp2
     go_roundw
     case rel=>exact ⟨k+1,by omega,by go_num,by rw [HS.out,HF.out];exact HR.out.1,HR.out.2⟩
     case measure=>simp [intOf];omega
    ·have hke:k=parts.length:=by omega
     subst hke
     rw [aF] at hown
     have hcv:=Vg hown
     go_wp2
     go_ret
     exact ⟨rfl,hB⟩
end
section
theorem IA (a b:ByteArray):(a++b).data.toList=a.data.toList++b.data.toList:=by simp
theorem Be (sec non:ByteArray) (i:Nat):Ju 1 ((⟨#[75]⟩++sec++non++⟨(qE (i:Int)).toArray⟩:ByteArray).data.toList)=Ul sec.data.toList non.data.toList i:=by
 simp only [IA,Ul]
 simp
theorem De {w wr w5 w2:World} {v v':Value} {k:Nat} {sec non text:List UInt8} (b:UInt8) (x:Value) (o:Obj) (hbt:text.getD k 0=b) (hx:x=.int .u8 (bits .xor .u8 (b.toNat:Int) (Ul sec non k % 256)))
  (hB:Below w.heap.size w wr) (hown:wr.ownsRow w.heap.size 5 1 v k (qL (Ji sec non text k))) (hb5:Below wr.heap.size wr w5)
  (hown2:w2.ownsRow w.heap.size 5 1 v' (k+1) (qL (Ji sec non text k)++[x])) (hgr:(w5.alloc o).grownBy w2 v.ownBlock) :
  w2.ownsRow w.heap.size 5 1 v' (k+1) (qL (Ji sec non text (k+1)))∧Below w.heap.size w w2:=by
 subst hbt
 rw [Ax] at hx
 subst hx
 have hz:=hb5.size
 have hz0:=hB.size
 refine ⟨?_,?_⟩
 ·rw [GR]
  simpa [qL,UC] using hown2
 ·exact ((hB.trans (hb5.mono hz0)).alloc (by omega) _).grown hgr (by simp;omega) (fun k hk=>(hown.lt k hk).1)
theorem Gs (sec non text:ByteArray) (w:World) (h1:sec.size≤1000) (h2:non.size≤1000) (h3:text.size≤5000) :
  Calls Tryz.prog 122 #[.string sec,.string non,.string text] w fun e w' =>
   e=.returned (strB (zw sec.data.toList non.data.toList text.data.toList))∧Below w.heap.size w w':=by
 obtain ⟨i0,hi,hz0,hz1,hz2⟩:=info_parts Tryz.infoU8
 go_enter Tryz.func122,Tryz.ntmps122
 go_wp2
 go_loopw [7,8] (fun v i wr=>∃ k:Nat,k≤text.size∧i=.int .i64 k∧wr.ownsRow w.heap.size 5 1 v k (qL (Ji sec.data.toList non.data.toList text.data.toList k))∧Below w.heap.size w wr)
  (fun _ i _=>text.size - (intOf i).toNat)
 case atStart=>exact ⟨0,ah _,rfl,World.ownsRow_nil _ _ _ _,Below.refl _ _⟩
 case round =>
  obtain ⟨k,hk,rfl,hown,hB⟩:=hrel
  by_cases hlt:k < text.size
  ·obtain ⟨hkr1,hkr2⟩:=Rj sec.data.toList non.data.toList k
   have Hgd:=hid (YA text k hlt)
   have HK:=hid (Be sec non k)
   have ht2:(qE (k:Int)).length≤2:=Nat.le_of_eq (jG _)
   go_wp2_with fail
   refine (QP _ _ (by omega) (by omega)).mono ?_
   rintro e w4 ⟨rfl,hb4⟩
   go_wp2_with fail
   refine (Ra _ w4 ?_).mono ?_
   ·simp only [ByteArray.size_append',jR];unfold maxLen;simp;omega
   rintro e w5 ⟨rfl,rfl⟩
   rw [HK.out]
   have hk4:=hown.kept (EI hb4) (Classical.em _)
   go_wp2_with (at_builtin;refine wpList_append_own _ rfl (.tmp 24) (.tmp 32) 149 rfl w.heap.size 5 i0 (.int .u8 0) 1 1 Tryz.underlying149 hi hz0 hz1 hz2 rfl (by decide) _ _ _ rfl (hk4.alloc _) ⟨w5.heap.size,0,none⟩ 1 1 [.int .u8 (bits .xor .u8 ((text[k]'hlt).toNat:Int) (Ul sec.data.toList non.data.toList k % 256))] rfl rfl ?c1 ?c2 ?c3 ?c4 ?c5 ?_)
   case c1=>intro j u hj;exact cell_one_new _ _ _ j u hj
   case c2=>intro u hu;simp at hu;subst hu;rfl
   case c3=>unfold maxLen;omega
   case c4=>omega
   case c5=>have:=hB.size;have:=hb4.size;simp;omega
   intro v2 w2 hown2 hgr2 _
   have HR:=hid (De (text[k]'hlt) _ _ Hgd.out rfl hB hown hb4 hown2 hgr2)
   clear hown hown2 hgr2 hB hb4 hk4
   go_wp2
   go_roundw
   case rel=>exact ⟨k+1,by omega,by go_num,HR.out.1,HR.out.2⟩
   case measure=>simp [intOf];omega
  ·have hke:k=text.size:=by omega
   subst hke
   have hcv:=Vg hown
   go_wp2
   go_ret
   exact ⟨by simp [zw],hB⟩
end
section
def LH (T:List TypeId) (o:Obj):Prop:=∃ cur t,o=.cells cur t (0,0)∧t ∈ T
structure KeptT (T:List TypeId) (B:Nat) (w w':World):Prop where
 os:w'.os=w.os
 tape:w'.tape=w.tape
 output:w'.output=w.output
 size:w.heap.size≤w'.heap.size
 block:∀ k,k < B→w'.heap[k]?=w.heap[k]?
 other:∀ (k:Nat) (o:Obj),w.heap[k]?=some o→¬ LH T o→w'.heap[k]?=some o
variable {T:List TypeId} {B:Nat}
theorem KeptT.refl (T:List TypeId) (B:Nat) (w:World):KeptT T B w w:=⟨rfl,rfl,rfl,ae _,fun _ _=>rfl,fun _ _ h _=>h⟩
theorem KeptT.trans {a b c:World} (h:KeptT T B a b) (k:KeptT T B b c):KeptT T B a c :=
 ⟨k.os.trans h.os,k.tape.trans h.tape,k.output.trans h.output,ar h.size k.size,fun i hi=>(k.block i hi).trans (h.block i hi),fun i o hi ho=>k.other i o (h.other i o hi ho) ho⟩
theorem KeptT.below {a b:World} (h:KeptT T B a b):Below B a b:=⟨h.os,h.tape,h.output,h.size,h.block⟩
theorem Below.keptT {a b:World} (h:Below a.heap.size a b) (hB:B≤a.heap.size):KeptT T B a b :=
 ⟨h.os,h.tape,h.output,h.size,fun k hk=>h.block k (by omega),fun k o hk _=>(h.block k (ag.1 hk).1).trans hk⟩
theorem KeptT.drew {a b:World} (h:KeptT T B a b):KeptT T B a b.drew:=⟨h.os,h.tape,h.output,h.size,h.block,h.other⟩
theorem KeptT.alloc {a b:World} (h:KeptT T B a b) (hB:B≤b.heap.size) (o:Obj):KeptT T B a (b.alloc o) :=
 h.trans (Below.keptT ((Below.refl _ _).alloc (ae _) _) hB)
theorem KeptT.grown {a b c:World} {row:Option Nat} (h:KeptT T B a b) (hg:b.grownBy c row) (hB:B≤b.heap.size)
  (hr:∀ k,row=some k→B≤k∧∃ o,b.heap[k]?=some o∧LH T o):KeptT T B a c:=by
 refine h.trans ⟨hg.os,hg.tape,hg.output,hg.size,fun k hk=>hg.block k (by omega) (fun e=>by have:=(hr k e.symm).1;omega),fun k o hk ho=>?_⟩
 rw [hg.block k (ag.1 hk).1 ?_]
 ·exact hk
 ·intro e
  obtain ⟨_,o',h1,h2⟩:=hr k e.symm
  rw [hk] at h1
  cases h1
  exact ho h2
theorem KeptT.owns {w w':World} {base:Nat} {e:TypeId} {size:Nat} {v:Value} {n:Nat} {xs:List Value} (hk:KeptT T B w w') (h:w.ownsRow base e size v n xs) (he:¬ e ∈ T):w'.ownsRow base e size v n xs:=by
 refine ⟨h.1,?_⟩
 rcases h.2 with hn|⟨g,cap,cur,rfl,hb,hg,rest⟩
 ·exact .inl hn
 ·refine .inr ⟨g,cap,cur,rfl,hb,hk.other g _ hg ?_,rest⟩
  rintro ⟨cur',t,e1,ht⟩
  cases e1
  exact he ht
theorem KeptT.row {w w':World} {g:Nat} {cur:Array Value} {e:TypeId} (hk:KeptT T B w w') (h:w.heap[g]?=some (.cells cur e (0,0))) (he:¬ e ∈ T):w'.heap[g]?=some (.cells cur e (0,0)):=by
 refine hk.other g _ h ?_
 rintro ⟨cur',t,e1,ht⟩
 cases e1
 exact he ht
theorem jd {w:World} {g j:Nat} {cur:Array Value} {e:TypeId} (h:w.heap[g]?=some (.cells cur e (0,0))):w.cell? ⟨g,j,none⟩=cur[j]?:=cell_of_row w g j cur e (0,0) h
theorem KeptT.set {a w:World} {g j:Nat} {cur:Array Value} {e:TypeId} (h:KeptT T B a w) (hg:w.heap[g]?=some (.cells cur e (0,0))) (hB:B≤g) (he:e ∈ T) (v:Value):KeptT T B a (w.setCell ⟨g,j,none⟩ v):=by
 refine h.trans ⟨rfl,rfl,rfl,by simp,fun k hk=>heap_setCell_other w ⟨g,j,none⟩ k v (by simp;omega),fun k o hk ho=>?_⟩
 rw [heap_setCell_other w ⟨g,j,none⟩ k v ?_]
 ·exact hk
 ·intro e1
  simp only at e1
  subst e1
  rw [hg] at hk
  cases hk
  exact ho ⟨cur,e,rfl,he⟩
theorem Xz {α:Type} (f:α→List Value) (m:Nat) (hf:∀ x,(f x).length=m) (l:List α):∀ (j i:Nat) (hj:j < l.length) (hi:i < m),(l.flatMap f)[j*m+i]?=(f l[j])[i]?:=by
 induction l with
 | nil=>intro j i hj;simp at hj
 | cons x l ih =>
  intro j i hj hi
  rw [a9]
  cases j with
  | zero=>rw [bA (by rw [hf];omega)];simp
  | succ j =>
   have hj':j < l.length:=by simpa using hj
   rw [aU (by rw [hf,bL];omega),hf]
   rw [show (j+1)*m+i - m=j*m+i by rw [bL];omega]
   exact ih j i hj' hi
theorem Zr {α:Type} (f:α→List Value) (m:Nat) (hf:∀ x,(f x).length=m) (l:List α):(l.flatMap f).length=l.length*m:=by
 induction l with
 | nil=>simp
 | cons x l ih=>rw [a9,ab,hf,ih,aH,bL];omega
theorem qm (w:World) (C:Array Value) (t:TypeId):Below w.heap.size w (w.alloc (.cells C t))∧w.heap.size < (w.alloc (.cells C t)).heap.size∧(∀ j,(w.alloc (.cells C t)).cell? ⟨w.heap.size,j,none⟩=C[j]?)∧(w.alloc (.cells C t)).heap[w.heap.size]?=some (.cells C t (0,0)) :=
 ⟨(Below.refl _ _).alloc (ae _) _,by simp,fun j=>World.cell?_alloc_mark ..,heap_alloc_new w _⟩
end
end Go.Proofs.YthhpbhpfagoapaaGreat
