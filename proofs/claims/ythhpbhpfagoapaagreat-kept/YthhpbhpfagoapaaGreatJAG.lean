import Derived.Test.YthhpbhpfagoapaaGreatJAL
import Derived.Lib.AppendStr
import Derived.BigQuiet
import Derived.Test.YthhpbhpfagoapaaGreatJAM
import Derived.RowKit
namespace Go.Proofs.YthhpbhpfagoapaaGreat
set_option linter.unusedVariables false
set_option linter.unusedSimpArgs false
set_option maxRecDepth 100000
set_option maxHeartbeats 16000000
section
open Go.RowKit
theorem conv_any {W:World} {base n:Nat} {v:Value} {l:List UInt8} (h:W.ownsRow base 5 1 v n (cellsB l)) :
  Sem.run Tryz.prog (convert 149 9 v) W=.ok (strB l) W:=by
 have hn:l.length=n:=by simpa [cellsB] using h.1
 rcases h.2 with ⟨rfl,rfl⟩|⟨g,cap,cur,rfl,_⟩
 ·have:l=[]:=List.eq_nil_of_length_eq_zero hn
  subst this
  exact run_convert_bytes_nil (P:=Tryz.prog) W 149 5 Tryz.underlying149 Tryz.underlying5 0 0 9 Tryz.underlying9
 ·exact conv_own h hn
theorem flatB_len_take (parts:List ByteArray) (k:Nat) (h:k < parts.length):(flatB (parts.take (k+1))).length=(flatB (parts.take k)).length+parts[k].size:=by
 rw [flatB_take parts k h,List.length_append]
 simp
theorem flatB_len_mono (parts:List ByteArray) (k:Nat):(flatB (parts.take k)).length≤(flatB parts).length:=by
 have:flatB parts=flatB (parts.take k)++flatB (parts.drop k):=by
  unfold flatB
  rw [← List.flatMap_append,List.take_append_drop]
 rw [this,List.length_append]
 omega
theorem strCells_eq (s:ByteArray):Lib.strCells s=cellsB s.data.toList:=rfl
theorem cellsB_append (a b:List UInt8):cellsB (a++b)=cellsB a++cellsB b:=by simp [cellsB]
theorem join_round {w wr w2:World} {v v':Value} {n:Nat} {l:List UInt8} {s:ByteArray} (hB:Below w.heap.size w wr) (hown:wr.ownsRow w.heap.size 5 1 v n (cellsB l))
  (hown2:w2.ownsRow w.heap.size 5 1 v' (n+s.size) (cellsB l++Lib.strCells s)) (hgr:wr.grownBy w2 v.ownBlock) :
  w2.ownsRow w.heap.size 5 1 v' (n+s.size) (cellsB (l++s.data.toList))∧Below w.heap.size w w2:=by
 rw [cellsB_append,← strCells_eq]
 exact ⟨hown2,hB.grown hgr hB.size (fun k hk=>(hown.lt k hk).1)⟩
theorem join_any (parts:List ByteArray) (b cap:Nat) (w:World) (hn:parts.length≤1000) (hs:(flatB parts).length≤1000000) (hb:b < w.heap.size)
  (hc:∀ j (h:j < parts.length),w.cell? ⟨b,j,none⟩=some (.string parts[j])) :
  Calls Tryz.prog 194 #[.slice (some ⟨b,0,none⟩) parts.length cap] w fun e w'=>e=.returned (strB (flatB parts))∧Below w.heap.size w w':=by
 obtain ⟨i0,hi,hz0,hz1,hz2⟩:=info_parts Tryz.infoU8
 have Hc:=hid hc
 clear hc
 go_enter Tryz.func194,Tryz.ntmps194
 go_wp2
 go_loop [3,11] (fun t i=>∃ k:Nat,k≤parts.length∧i=.int .i64 k∧t=.int .i64 ((flatB (parts.take k)).length:Int)) (fun _ i=>parts.length - (intOf i).toNat)
 case atStart=>exact ⟨0,Nat.zero_le _,rfl,rfl⟩
 case round =>
  obtain ⟨k,hk,rfl,rfl⟩:=hrel
  by_cases hlt:k < parts.length
  ·have hck:=Hc.out k hlt
   have hm1:=flatB_len_mono parts k
   have hm2:=flatB_len_mono parts (k+1)
   have hm3:=flatB_len_take parts k hlt
   have HS:=hid hm3
   have hm4:(parts[k]'hlt).size≤1000000:=by omega
   clear hm2 hm3
   generalize (flatB (parts.take k)).length=m0 at *
   generalize (parts[k]'hlt)=part at *
   go_wp2
   go_round
   case rel=>exact ⟨k+1,by omega,by go_num,by rw [HS.out];go_num⟩
   case measure=>simp [intOf];omega
  ·have hke:k=parts.length:=by omega
   subst hke
   rw [List.take_length]
   generalize hL:(flatB parts).length=L at *
   have HL:=hid hL
   clear hL
   go_wp2_with (at_make;refine wpList_make_own _ rfl (.const (.int .i64 0)) (.tmp 20) 149 rfl w.heap.size 5 i0 (.int .u8 0) 1 Tryz.underlying149 hi hz0 hz1 .i64 .i64 _ L rfl rfl rfl (by rw [hz2];omega) (by unfold maxLen;omega) (Nat.le_refl _) ?_;intro w3 hown hgr)
   have hB3:Below w.heap.size w w3:=(Below.refl _ _).grown hgr (Nat.le_refl _) (fun _ h=>by cases h)
   clear hgr
   go_loopw [6,24] (fun v i wr=>∃ k:Nat,k≤parts.length∧i=.int .i64 k∧wr.ownsRow w.heap.size 5 1 v (flatB (parts.take k)).length (cellsB (flatB (parts.take k)))∧Below w.heap.size w wr)
    (fun _ i _=>parts.length - (intOf i).toNat)
   case atStart=>exact ⟨0,Nat.zero_le _,rfl,hown,hB3⟩
   case round =>
    clear hown hB3
    obtain ⟨k,hk,rfl,hown,hB⟩:=hrel
    by_cases hlt:k < parts.length
    ·have hck:wr.cell? ⟨b,k,none⟩=some (.string (parts[k]'hlt)):=(hB.cell (p:=⟨b,k,none⟩) hb).trans (Hc.out k hlt)
     have hm1:=flatB_len_mono parts k
     have hm2:=flatB_len_mono parts (k+1)
     have hm3:=flatB_len_take parts k hlt
     have HS:=hid hm3
     have HF:=hid (flatB_take parts k hlt)
     have hLe:=HL.out
     have hm4:(flatB (parts.take k)).length+(parts[k]'hlt).size≤1000000:=by omega
     clear hm2 hm3 hLe
     generalize flatB (parts.take k)=l0 at *
     generalize (parts[k]'hlt)=part at *
     go_wp2_with (at_builtin;refine Lib.wpList_append_own_string _ rfl (.tmp 28) (.tmp 29) 149 9 rfl w.heap.size 5 i0 Tryz.underlying149 Tryz.underlying9 hi hz0 hz1 hz2 _ _ _ rfl hown part rfl (by unfold maxLen;omega) (by omega) hB.size ?_;intro v2 w2 hown2 hgr2 _)
     have HR:=hid (join_round hB hown hown2 hgr2)
     clear hown hown2 hgr2 hB hck
     go_wp2
     go_roundw
     case rel=>exact ⟨k+1,by omega,by go_num,by rw [HS.out,HF.out];exact HR.out.1,HR.out.2⟩
     case measure=>simp [intOf];omega
    ·have hke:k=parts.length:=by omega
     subst hke
     rw [List.take_length] at hown
     have hcv:=conv_any hown
     go_wp2
     go_ret
     exact ⟨rfl,hB⟩
end
section
open Go.RowKit
theorem flatB_two (a b:List UInt8):flatB [⟨a.toArray⟩,⟨b.toArray⟩]=a++b:=by simp [flatB]
theorem tagB_length (sec non ext cip:List UInt8):(tagB sec non ext cip).length=2:=rfl
theorem sjoin_lit (parts:List ByteArray) (C:Array Value) (n:Nat) (w:World) (hC:C=(parts.map Value.string).toArray) (hl:parts.length=n) (hn:n≤1000) (hs:(flatB parts).length≤1000000) :
  Calls Tryz.prog 194 #[.slice (some ⟨w.heap.size,0,none⟩) n n] (w.alloc (.cells C 9)) fun e w'=>e=.returned (strB (flatB parts))∧Below (w.heap.size+1) (w.alloc (.cells C 9)) w':=by
 subst hl
 refine (join_any parts w.heap.size parts.length _ hn hs (by simp) (cells_parts w parts C hC _)).mono ?_
 rintro e w' ⟨h1,h2⟩
 exact ⟨h1,by simpa using h2⟩
theorem body_any (sec non ext plain:ByteArray) (w:World) (h1:sec.size≤1000) (h2:non.size≤1000) (h3:ext.size≤5000) (h4:plain.size≤5000) :
  Calls Tryz.prog 257 #[.string sec,.string non,.string ext,.string plain] w fun e w' =>
   e=.returned (strB (bodyB sec.data.toList non.data.toList ext.data.toList plain.data.toList))∧Below w.heap.size w w':=by
 have hm:(1000:Nat)≤maxLen:=by decide
 have hm5:(5000:Nat)≤maxLen:=by decide
 go_enter Tryz.func257,Tryz.ntmps257
 go_wp2_with fail
 refine (mask_any sec non plain w (Nat.le_trans h1 hm) (Nat.le_trans h2 hm) h4).mono ?_
 rintro e w1 ⟨rfl,hb1⟩
 have hl:=stirB_length sec.data.toList non.data.toList plain.data.toList
 have hl2:(stirB sec.data.toList non.data.toList plain.data.toList).length≤5000:=by rw [hl];simpa using h4
 clear hl
 have HF:Hid (∀ c,c=stirB sec.data.toList non.data.toList plain.data.toList→c++tagB sec.data.toList non.data.toList ext.data.toList c=bodyB sec.data.toList non.data.toList ext.data.toList plain.data.toList):=by
  intro c hc;subst hc;rfl
 have HF2:=hid (HF.out _ rfl)
 clear HF
 generalize stirB sec.data.toList non.data.toList plain.data.toList=cip at *
 go_wp2_with fail
 refine (tag_any sec non ext ⟨cip.toArray⟩ _ (Nat.le_trans h1 hm) (Nat.le_trans h2 hm) h3 (by rw [strB_size];omega)).mono ?_
 rintro e w2 ⟨rfl,hb2⟩
 go_wp2_with fail
 refine (sjoin_lit [⟨cip.toArray⟩,⟨(tagB sec.data.toList non.data.toList ext.data.toList cip).toArray⟩] _ 2 w2 rfl rfl (by decide) (by rw [flatB_two,List.length_append,tagB_length];omega)).mono ?_
 rintro e w3 ⟨rfl,hb3⟩
 rw [flatB_two,HF2.out]
 go_wp2
 go_ret
 refine ⟨rfl,?_⟩
 have z1:=hb1.size
 have z2:=hb2.size
 exact ((hb1.trans (hb2.mono z1)).alloc (by omega) _).trans (hb3.mono (by omega))
end
section
def firstB:List CellB→List UInt8→Nat
 | [],_=>0
 | c :: l,t=>if c.text=t then 0 else firstB l t+1
theorem firstB_lt (l:List CellB) (t:List UInt8):∀ m,m < firstB l t→∀ h:m < l.length,(l[m]).text≠t:=by
 induction l with
 | nil=>intro m h;simp [firstB] at h
 | cons c l ih =>
  intro m h hl
  simp only [firstB] at h
  split at h
  ·omega
  ·cases m with
   | zero=>simpa using ‹¬ c.text=t›
   | succ m=>simpa using ih m (by omega) (by simpa using hl)
theorem firstB_at (l:List CellB) (t:List UInt8) (h:∃ c ∈ l,c.text=t):∃ hl:firstB l t < l.length,(l[firstB l t]).text=t:=by
 induction l with
 | nil=>obtain ⟨c,hc,_⟩:=h;cases hc
 | cons c l ih =>
  by_cases hc:c.text=t
  ·have e:firstB (c :: l) t=0:=by simp [firstB,hc]
   exact ⟨by rw [e];simp,by simp only [e,List.getElem_cons_zero];exact hc⟩
  ·have e:firstB (c :: l) t=firstB l t+1:=by simp [firstB,hc]
   obtain ⟨h1,h2⟩:=ih (by
    obtain ⟨d,hd,ht⟩:=h
    rcases List.mem_cons.1 hd with rfl|hd
    ·exact absurd ht hc
    ·exact ⟨d,hd,ht⟩)
   exact ⟨by rw [e];simp;omega,by simp only [e,List.getElem_cons_succ];exact h2⟩
theorem firstB_le (l:List CellB) (k:Nat) (h:k < l.length):firstB l (l[k]).text≤k:=by
 rcases Nat.lt_or_ge k (firstB l (l[k]).text) with h1|h1
 ·exact absurd rfl (firstB_lt l _ k h1 h)
 ·exact h1
theorem firstB_len (l:List CellB) (t:List UInt8):firstB l t≤l.length:=by
 induction l with
 | nil=>exact Nat.le_refl _
 | cons c l ih=>simp only [firstB,List.length_cons];split<;>omega
def cellD:CellB:=⟨false,0,[]⟩
def nthB (l:List CellB) (i:Nat):CellB:=l.getD i cellD
theorem nthB_at (l:List CellB) (i:Nat) (h:i < l.length):nthB l i=l[i]:=by simp [nthB,List.getD,h]
def diffTo (l:List CellB):Nat→List CellB
 | 0=>[]
 | k+1=>diffTo l k++(if firstB l (nthB l k).text=k then [nthB l k] else [])
def diffB (l:List CellB):List CellB:=diffTo l l.length
theorem diffTo_len (l:List CellB) (k:Nat):(diffTo l k).length≤k:=by
 induction k with
 | zero=>exact Nat.le_refl _
 | succ k ih=>simp only [diffTo,List.length_append];split<;>simp<;>omega
theorem diffTo_mem (l:List CellB) (k:Nat) (hk:k≤l.length):∀ c ∈ diffTo l k,c ∈ l:=by
 induction k with
 | zero=>intro c hc;simp [diffTo] at hc
 | succ k ih =>
  intro c hc
  simp only [diffTo,List.mem_append] at hc
  rcases hc with hc|hc
  ·exact ih (by omega) c hc
  ·split at hc
   ·simp at hc;subst hc;rw [nthB_at l k (by omega)];exact List.getElem_mem _
   ·simp at hc
theorem diffTo_has (l:List CellB) (i:Nat) (hi:i < l.length) (hf:firstB l (l[i]).text=i):∀ k,i < k→k≤l.length→l[i] ∈ diffTo l k:=by
 intro k
 induction k with
 | zero=>intro h;omega
 | succ k ih =>
  intro h hk
  simp only [diffTo,List.mem_append]
  by_cases hik:i=k
  ·subst hik
   right
   rw [nthB_at l i hi,if_pos hf]
   simp
  ·left;exact ih (by omega) (by omega)
theorem diffB_has (l:List CellB) (i:Nat) (hi:i < l.length):∃ c ∈ diffB l,c.text=(l[i]).text:=by
 obtain ⟨h1,h2⟩:=firstB_at l (l[i]).text ⟨l[i],List.getElem_mem hi,rfl⟩
 have hf:firstB l (l[firstB l (l[i]).text]).text=firstB l (l[i]).text:=by rw [h2]
 exact ⟨_,diffTo_has l _ h1 hf _ h1 (Nat.le_refl _),h2⟩
def rowI (v:Int):List CellB→Nat
 | []=>0
 | c :: l=>if c.int=v then rowI v l+1 else 0
theorem rowI_le (v:Int) (l:List CellB):rowI v l≤l.length:=by
 induction l with
 | nil=>exact Nat.le_refl _
 | cons c l ih=>simp only [rowI,List.length_cons];split<;>omega
theorem rowI_lt (v:Int) (l:List CellB):∀ m,m < rowI v l→∃ h:m < l.length,(l[m]).int=v:=by
 induction l with
 | nil=>intro m h;simp [rowI] at h
 | cons c l ih =>
  intro m h
  simp only [rowI] at h
  split at h
  ·cases m with
   | zero=>exact ⟨by simp,by assumption⟩
   | succ m =>
    obtain ⟨h1,h2⟩:=ih m (by omega)
    exact ⟨by simp;omega,by simpa using h2⟩
  ·omega
theorem rowI_end (v:Int) (l:List CellB):∀ (h:rowI v l < l.length),(l[rowI v l]).int≠v:=by
 induction l with
 | nil=>intro h;simp [rowI] at h
 | cons c l ih =>
  intro h
  by_cases hc:c.int=v
  ·have e:rowI v (c :: l)=rowI v l+1:=by simp [rowI,hc]
   have h':rowI v l < l.length:=by rw [e] at h;simpa using h
   have:=ih h'
   simp only [e,List.getElem_cons_succ]
   exact this
  ·have e:rowI v (c :: l)=0:=by simp [rowI,hc]
   simp only [e,List.getElem_cons_zero]
   exact hc
def sharedB:List UInt8→List UInt8→Nat
 | a :: s,b :: t=>if a=b then sharedB s t+1 else 0
 | _,_=>0
theorem sharedB_le (s t:List UInt8):sharedB s t≤s.length∧sharedB s t≤t.length:=by
 induction s generalizing t with
 | nil=>simp [sharedB]
 | cons a s ih =>
  cases t with
  | nil=>simp [sharedB]
  | cons b t =>
   have:=ih t
   simp only [sharedB,List.length_cons]
   split<;>omega
theorem sharedB_lt (s t:List UInt8):∀ m,m < sharedB s t→∀ (h1:m < s.length) (h2:m < t.length),s[m]=t[m]:=by
 induction s generalizing t with
 | nil=>intro m h;simp [sharedB] at h
 | cons a s ih =>
  cases t with
  | nil=>intro m h;simp [sharedB] at h
  | cons b t =>
   intro m h h1 h2
   simp only [sharedB] at h
   split at h
   ·cases m with
    | zero=>simpa using ‹a=b›
    | succ m=>simpa using ih t m (by omega) (by simpa using h1) (by simpa using h2)
   ·omega
theorem sharedB_end (s t:List UInt8):∀ (h1:sharedB s t < s.length) (h2:sharedB s t < t.length),s[sharedB s t]≠t[sharedB s t]:=by
 induction s generalizing t with
 | nil=>intro h;simp [sharedB] at h
 | cons a s ih =>
  cases t with
  | nil=>intro h1 h2;simp [sharedB] at h2
  | cons b t =>
   intro h1 h2
   by_cases hab:a=b
   ·have e:sharedB (a :: s) (b :: t)=sharedB s t+1:=by simp [sharedB,hab]
    have h1':sharedB s t < s.length:=by rw [e] at h1;simpa using h1
    have h2':sharedB s t < t.length:=by rw [e] at h2;simpa using h2
    have:=ih t h1' h2'
    simp only [e,List.getElem_cons_succ]
    exact this
   ·have e:sharedB (a :: s) (b :: t)=0:=by simp [sharedB,hab]
    simp only [e,List.getElem_cons_zero]
    exact hab
def prevB (l:List CellB) (i:Nat):CellB:=if i=0 then cellD else nthB l (i - 1)
def stepB (n:Nat) (l:List CellB) (i:Nat):List UInt8 :=
 match n with
 | 0=>bB (nthB l i).int
 | 1=>zB (RowKit.wrap64 ((nthB l i).int - (prevB l i).int))
 | 2=>if i=0∨(nthB l i).int≠(prevB l i).int then uB (rowI (nthB l i).int (l.drop (i+1))+1)++zB (nthB l i).int else []
 | 3=>uB (firstB (diffB l) (nthB l i).text)
 | 4=>uB (sharedB (nthB l i).text (prevB l i).text)++xB ((nthB l i).text.drop (sharedB (nthB l i).text (prevB l i).text))
 | _=>xB (nthB l i).text
def stepsTo (n:Nat) (l:List CellB):Nat→List UInt8
 | 0=>[]
 | k+1=>stepsTo n l k++stepB n l k
def wordsTo (l:List CellB):Nat→List UInt8
 | 0=>uB l.length
 | k+1=>wordsTo l k++xB (nthB l k).text
def wayB (n:Nat) (l:List CellB):List UInt8:=(if n=3 then wordsTo (diffB l) (diffB l).length else [])++stepsTo n l l.length
def smallC (c:CellB):Prop:=-9223372036854775808≤c.int∧c.int≤9223372036854775807∧c.text.length≤12
theorem smallD:smallC cellD:=⟨by decide,by decide,by decide⟩
theorem small_nth (l:List CellB) (h:∀ c ∈ l,smallC c) (i:Nat):smallC (nthB l i):=by
 by_cases hi:i < l.length
 ·rw [nthB_at l i hi];exact h _ (List.getElem_mem hi)
 ·have:nthB l i=cellD:=by simp [nthB,List.getD,show l.length≤i by omega]
  rw [this];exact smallD
theorem small_prev (l:List CellB) (h:∀ c ∈ l,smallC c) (i:Nat):smallC (prevB l i):=by
 unfold prevB;split
 ·exact smallD
 ·exact small_nth l h _
theorem zB_len (n:Int) (h0:-9223372036854775808≤n) (h1:n≤9223372036854775807):(zB n).length≤10:=uB_len10 _ (zN_lt n h0 h1)
theorem xB_len (s:List UInt8) (h:s.length≤12):(xB s).length≤22:=by
 have:=uB_len10 s.length (by omega)
 simp only [xB,List.length_append];omega
theorem wrap64_range (n:Int):-9223372036854775808≤RowKit.wrap64 n∧RowKit.wrap64 n≤9223372036854775807:=by
 unfold RowKit.wrap64;omega
theorem stepB_len (n:Nat) (l:List CellB) (h:∀ c ∈ l,smallC c) (hn:l.length≤60) (i:Nat):(stepB n l i).length≤40:=by
 obtain ⟨a1,a2,a3⟩:=small_nth l h i
 obtain ⟨b1,b2,b3⟩:=small_prev l h i
 have hd:=diffTo_len l l.length
 unfold stepB
 split
 ·rw [bB_length];omega
 ·have:=wrap64_range ((nthB l i).int - (prevB l i).int)
  have:=zB_len _ this.1 this.2
  omega
 ·split
  ·have h1:=rowI_le (nthB l i).int (l.drop (i+1))
   rw [List.length_drop] at h1
   have h2:=uB_len10 (rowI (nthB l i).int (l.drop (i+1))+1) (by omega)
   have h3:=zB_len _ a1 a2
   rw [List.length_append];omega
  ·simp
 ·have h1:firstB (diffB l) (nthB l i).text≤(diffB l).length:=firstB_len _ _
  have h4:(diffB l).length≤l.length:=hd
  have h2:=uB_len10 (firstB (diffB l) (nthB l i).text) (by omega)
  omega
 ·have h1:=sharedB_le (nthB l i).text (prevB l i).text
  have h2:=uB_len10 (sharedB (nthB l i).text (prevB l i).text) (by omega)
  have h3:=xB_len ((nthB l i).text.drop (sharedB (nthB l i).text (prevB l i).text)) (by rw [List.length_drop];omega)
  rw [List.length_append];omega
 ·have:=xB_len _ a3;omega
theorem stepsTo_len (n:Nat) (l:List CellB) (h:∀ c ∈ l,smallC c) (hn:l.length≤60) (k:Nat):(stepsTo n l k).length≤40*k:=by
 induction k with
 | zero=>simp [stepsTo]
 | succ k ih =>
  have:=stepB_len n l h hn k
  simp only [stepsTo,List.length_append];omega
theorem wordsTo_len (l:List CellB) (h:∀ c ∈ l,smallC c) (hn:l.length≤60) (k:Nat):(wordsTo l k).length≤10+22*k:=by
 induction k with
 | zero=>have:=uB_len10 l.length (by omega);simp only [wordsTo];omega
 | succ k ih =>
  have:=xB_len (nthB l k).text (small_nth l h k).2.2
  simp only [wordsTo,List.length_append];omega
end
end Go.Proofs.YthhpbhpfagoapaaGreat
