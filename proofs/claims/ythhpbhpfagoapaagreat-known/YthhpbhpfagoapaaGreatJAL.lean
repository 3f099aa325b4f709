import Derived.WalkKit
import Derived.Laws.BitsAllLaws
import Derived.Test.YthhpbhpfagoapaaGreatRows
import Derived.WalkSpells
import Derived.WalkLawsBesides
import Derived.Laws.IdiomStrings
import Derived.Deep.RegionWith
namespace Go.Proofs.YthhpbhpfagoapaaGreat
set_option linter.unusedVariables false
set_option linter.unusedSimpArgs false
set_option maxRecDepth 100000
set_option maxHeartbeats 16000000
open Go.RowKit
section
def sumB:Int→List UInt8→Int
 | s,[]=>s
 | s,b :: l=>sumB ((s*263+(b.toNat:Int)+1) % 65521) l
theorem sumB_append (l m:List UInt8):∀ s:Int,sumB s (l++m)=sumB (sumB s l) m:=by
 induction l with
 | nil=>intro s;rfl
 | cons b l ih=>intro s;simp only [List.cons_append,sumB];exact ih _
theorem sumB_snoc (s:Int) (l:List UInt8) (b:UInt8):sumB s (l++[b])=(sumB s l*263+(b.toNat:Int)+1) % 65521:=by
 rw [sumB_append];rfl
theorem sumB_range (l:List UInt8):∀ s:Int,0≤s→s≤65520→0≤sumB s l∧sumB s l≤65520:=by
 induction l with
 | nil=>intro s h0 h1;exact ⟨h0,h1⟩
 | cons b l ih=>intro s h0 h1;exact ih _ (by omega) (by omega)
def twoB (n:Int):List UInt8:=[UInt8.ofNat (n % 256).toNat,UInt8.ofNat (n / 256).toNat]
theorem twoB_length (n:Int):(twoB n).length=2:=rfl
def keyB (sec non:List UInt8) (i:Nat):Int:=sumB 1 (75 :: (sec++non++twoB i))
theorem keyB_range (sec non:List UInt8) (i:Nat):0≤keyB sec non i∧keyB sec non i≤65520:=sumB_range _ 1 (by omega) (by omega)
def xorN (b:UInt8) (k:Int):Nat:=b.toNat ^^^ (k % 256).toNat
theorem xorN_lt (b:UInt8) (k:Int):xorN b k < 256:=by
 unfold xorN
 exact Nat.xor_lt_two_pow (n:=8) (by have:=b.toNat_lt;omega) (by omega)
theorem xor_bits (b:UInt8) (k:Int):bits .xor .u8 (b.toNat:Int) (k % 256)=(xorN b k:Int):=by
 have hb:=b.toNat_lt
 rw [u8_xor _ _ (by omega) (by omega) (by omega) (by omega)]
 simp [xorN]
def xorB (b:UInt8) (k:Int):UInt8:=UInt8.ofNat (xorN b k)
theorem xorB_toNat (b:UInt8) (k:Int):(xorB b k).toNat=xorN b k:=by
 unfold xorB
 simp only [UInt8.toNat_ofNat']
 exact Nat.mod_eq_of_lt (xorN_lt b k)
theorem xorB_xorB (b:UInt8) (k:Int):xorB (xorB b k) k=b:=by
 have h:xorN (xorB b k) k=b.toNat:=by
  unfold xorN
  rw [xorB_toNat]
  unfold xorN
  rw [Nat.xor_assoc,Nat.xor_self,Nat.xor_zero]
 unfold xorB at h ⊢
 rw [h]
 exact UInt8.ofNat_toNat
theorem getD_at (l:List UInt8) (i:Nat) (h:i < l.length):l.getD i 0=l[i]:=by simp [List.getD,h]
def stirTo (sec non text:List UInt8) (k:Nat):List UInt8:=(List.range k).map fun i=>xorB (text.getD i 0) (keyB sec non i)
theorem stirTo_length (sec non text:List UInt8) (k:Nat):(stirTo sec non text k).length=k:=by simp [stirTo]
theorem stirTo_succ (sec non text:List UInt8) (k:Nat):stirTo sec non text (k+1)=stirTo sec non text k++[xorB (text.getD k 0) (keyB sec non k)]:=by
 simp [stirTo,List.range_succ]
def stirB (sec non text:List UInt8):List UInt8:=stirTo sec non text text.length
theorem stirB_length (sec non text:List UInt8):(stirB sec non text).length=text.length:=stirTo_length _ _ _ _
theorem stirB_stirB (sec non text:List UInt8):stirB sec non (stirB sec non text)=text:=by
 apply List.ext_getElem
 ·simp [stirB_length]
 ·intro i h1 h2
  have e:(stirB sec non (stirB sec non text))[i]=xorB ((stirB sec non text).getD i 0) (keyB sec non i):=by
   simp [stirB,stirTo]
  have e2:(stirB sec non text).getD i 0=xorB (text.getD i 0) (keyB sec non i):=by
   have:i < (stirB sec non text).length:=by rw [stirB_length];exact h2
   rw [getD_at _ _ this]
   simp [stirB,stirTo]
  rw [e,e2,xorB_xorB,getD_at _ _ h2]
def tagB (sec non ext cip:List UInt8):List UInt8:=twoB (sumB 1 (84 :: (sec++non++twoB (ext.length:Int)++ext++cip)))
def bodyB (sec non ext plain:List UInt8):List UInt8:=stirB sec non plain++tagB sec non ext (stirB sec non plain)
theorem bodyB_length (sec non ext plain:List UInt8):(bodyB sec non ext plain).length=plain.length+2:=by
 simp [bodyB,stirB_length,tagB,twoB]
end
section
theorem hid {p:Prop} (h:p):Hid p:=h
abbrev strB (l:List UInt8):Value:=.string ⟨l.toArray⟩
theorem ret_str {l m:List UInt8} (h:l=m):Ending.returned (strB l)=.returned (strB m):=by rw [h]
theorem conv_two (w:World) (a b:Int) (ha:0≤a) (ha':a≤255) (hb:0≤b) (hb':b≤255) :
  Sem.run Tryz.prog (convert 149 9 (.slice (some ⟨w.heap.size,0,none⟩) 2 2)) (w.alloc (.cells #[.int .u8 a,.int .u8 b] 5)) =
   .ok (strB [UInt8.ofNat a.toNat,UInt8.ofNat b.toNat]) (w.alloc (.cells #[.int .u8 a,.int .u8 b] 5)):=by
 refine run_convert_bytes_back (P:=Tryz.prog) _ 149 9 5 ⟨w.heap.size,0,none⟩ 2 [UInt8.ofNat a.toNat,UInt8.ofNat b.toNat] Tryz.underlying149 Tryz.underlying5 Tryz.underlying9 ?_
 intro j hj
 match j,hj with
 | 0,_=>simp [Addr.add];omega
 | 1,_=>simp [Addr.add];omega
theorem two_any (n:Int) (w:World) (h0:0≤n) (h1:n≤65535) :
  Calls Tryz.prog 220 #[.int .i64 n] w fun e w'=>e=.returned (strB (twoB n))∧Below w.heap.size w w':=by
 have hc:=conv_two w (n % 256) (n / 256) (by omega) (by omega) (by omega) (by omega)
 go_enter Tryz.func220,Tryz.ntmps220
 go_wp2
 go_ret
 exact ⟨rfl,(Below.refl _ _).alloc (Nat.le_refl _) _⟩
theorem take_snoc (s:ByteArray) (k:Nat) (h:k < s.size):s.data.toList.take (k+1)=s.data.toList.take k++[s[k]]:=by
 rw [List.take_succ_eq_append_getElem (by simpa using h)];rfl
theorem ret_int {k:IntKind} {a b:Int} (h:a=b):Ending.returned (.int k a)=.returned (.int k b):=by rw [h]
def flatB (parts:List ByteArray):List UInt8:=parts.flatMap (·.data.toList)
theorem flatB_take (parts:List ByteArray) (k:Nat) (h:k < parts.length):flatB (parts.take (k+1))=flatB (parts.take k)++parts[k].data.toList:=by
 unfold flatB
 rw [List.take_succ_eq_append_getElem h]
 simp only [List.flatMap_append,List.flatMap_cons,List.flatMap_nil,List.append_nil]
theorem sumOn_any (s0:Int) (parts:List ByteArray) (b cap:Nat) (w:World) (h0:0≤s0) (h1:s0≤65520) (hn:parts.length≤1000)
  (hs:∀ x ∈ parts,x.size≤maxLen)
  (hc:∀ j (h:j < parts.length),w.cell? ⟨b,j,none⟩=some (.string parts[j])) :
  Calls Tryz.prog 264 #[.int .i64 s0,.slice (some ⟨b,0,none⟩) parts.length cap] w fun e w'=>e=.returned (.int .i64 (sumB s0 (flatB parts)))∧w'=w:=by
 go_enter Tryz.func264,Tryz.ntmps264
 go_wp2
 go_loop [0,10] (fun t i=>∃ k:Nat,k≤parts.length∧i=.int .i64 k∧t=.int .i64 (sumB s0 (flatB (parts.take k)))) (fun _ i=>parts.length - (intOf i).toNat)
 case atStart=>exact ⟨0,Nat.zero_le _,rfl,rfl⟩
 case round =>
  obtain ⟨k,hk,rfl,rfl⟩:=hrel
  by_cases hlt:k < parts.length
  ·have hck:=hc k hlt
   have hsz:(parts[k]'hlt).size≤maxLen:=hs _ (List.getElem_mem hlt)
   unfold maxLen at hsz
   have HS:Hid (sumB s0 (flatB (parts.take (k+1)))=sumB (sumB s0 (flatB (parts.take k))) (parts[k]'hlt).data.toList):=by
    rw [flatB_take parts k hlt,sumB_append];exact rfl
   obtain ⟨hd1,hd2⟩:=sumB_range (flatB (parts.take k)) s0 h0 h1
   generalize sumB s0 (flatB (parts.take k))=t0 at *
   generalize (parts[k]'hlt)=part at *
   clear hc hs
   go_wp2
   go_loop [0,16] (fun t i=>∃ m:Nat,m≤part.size∧i=.int .i64 m∧t=.int .i64 (sumB t0 (part.data.toList.take m))) (fun _ i=>part.size - (intOf i).toNat)
   case atStart=>exact ⟨0,Nat.zero_le _,rfl,rfl⟩
   case round =>
    obtain ⟨m,hm,rfl,rfl⟩:=hrel
    obtain ⟨he1,he2⟩:=sumB_range (part.data.toList.take m) t0 hd1 hd2
    by_cases hlm:m < part.size
    ·have hbt:=(part[m]'hlm).toNat_lt
     have HT:Hid (sumB t0 (part.data.toList.take (m+1))=(sumB t0 (part.data.toList.take m)*263+((part[m]'hlm).toNat:Int)+1) % 65521):=by
      rw [take_snoc part m hlm];exact sumB_snoc _ _ _
     go_wp2
     go_round
     case rel=>exact ⟨m+1,by omega,by go_num,by rw [HT.out]⟩
     case measure=>simp [intOf];omega
    ·go_wp2
     go_round
     case rel=>exact ⟨k+1,by omega,by go_num,by rw [HS.out,List.take_of_length_le (by simp;omega)]⟩
     case measure=>simp [intOf];omega
  ·go_wp2
   go_ret
   exact ⟨ret_int (by rw [List.take_of_length_le (by omega)]),rfl⟩
theorem sum_any (parts:List ByteArray) (b cap:Nat) (w:World) (hn:parts.length≤1000)
  (hs:∀ x ∈ parts,x.size≤maxLen)
  (hc:∀ j (h:j < parts.length),w.cell? ⟨b,j,none⟩=some (.string parts[j])) :
  Calls Tryz.prog 263 #[.slice (some ⟨b,0,none⟩) parts.length cap] w fun e w'=>e=.returned (.int .i64 (sumB 1 (flatB parts)))∧w'=w:=by
 have Hc:=hid hc
 have Hs:=hid hs
 clear hc hs
 go_enter Tryz.func263,Tryz.ntmps263
 go_wp2_with fail
 refine (sumOn_any 1 parts b cap w (by decide) (by decide) hn Hs.out Hc.out).mono ?_
 rintro e w' ⟨rfl,rfl⟩
 go_wp2
 go_ret
 exact ⟨rfl,rfl⟩
theorem cells_parts (w:World) (parts:List ByteArray) (C:Array Value) (hC:C=(parts.map Value.string).toArray) (t:TypeId) :
  ∀ j (h:j < parts.length),(w.alloc (.cells C t)).cell? ⟨w.heap.size,j,none⟩=some (.string parts[j]):=by
 intro j h
 rw [World.cell?_alloc_mark,hC]
 simp [h]
theorem sum_lit (parts:List ByteArray) (C:Array Value) (n:Nat) (w:World) (hC:C=(parts.map Value.string).toArray) (hl:parts.length=n) (hn:n≤1000) (hs:∀ x ∈ parts,x.size≤maxLen) :
  Calls Tryz.prog 263 #[.slice (some ⟨w.heap.size,0,none⟩) n n] (w.alloc (.cells C 9)) fun e w'=>e=.returned (.int .i64 (sumB 1 (flatB parts)))∧w.alloc (.cells C 9)=w':=by
 subst hl
 refine (sum_any parts w.heap.size parts.length _ hn hs (cells_parts w parts C hC _)).mono ?_
 rintro e w' ⟨h1,h2⟩
 exact ⟨h1,h2.symm⟩
theorem sumOn_lit (s0:Int) (parts:List ByteArray) (C:Array Value) (n:Nat) (w:World) (h0:0≤s0) (h1:s0≤65520) (hC:C=(parts.map Value.string).toArray) (hl:parts.length=n) (hn:n≤1000) (hs:∀ x ∈ parts,x.size≤maxLen) :
  Calls Tryz.prog 264 #[.int .i64 s0,.slice (some ⟨w.heap.size,0,none⟩) n n] (w.alloc (.cells C 9)) fun e w'=>e=.returned (.int .i64 (sumB s0 (flatB parts)))∧w.alloc (.cells C 9)=w':=by
 subst hl
 refine (sumOn_any s0 parts w.heap.size parts.length _ h0 h1 hn hs (cells_parts w parts C hC _)).mono ?_
 rintro e w' ⟨h1,h2⟩
 exact ⟨h1,h2.symm⟩
theorem strB_size (l:List UInt8):(⟨l.toArray⟩:ByteArray).size=l.length:=by simp [ByteArray.size]
end
section
theorem flatB_tag (sec non ext cip:ByteArray) (l:List UInt8):flatB [⟨#[84]⟩,sec,non,⟨l.toArray⟩,ext,cip]=84 :: (sec.data.toList++non.data.toList++l++ext.data.toList++cip.data.toList):=by
 simp [flatB]
theorem tag_any (sec non ext cip:ByteArray) (w:World) (h1:sec.size≤maxLen) (h2:non.size≤maxLen) (h3:ext.size≤5000) (h4:cip.size≤maxLen) :
  Calls Tryz.prog 239 #[.string sec,.string non,.string ext,.string cip] w fun e w' =>
   e=.returned (strB (tagB sec.data.toList non.data.toList ext.data.toList cip.data.toList))∧Below w.heap.size w w':=by
 go_enter Tryz.func239,Tryz.ntmps239
 go_wp2_with fail
 refine (two_any _ _ (by omega) (by omega)).mono ?_
 rintro e w1 ⟨rfl,hb1⟩
 go_wp2_with fail
 refine (sum_lit [⟨#[84]⟩,sec,non,⟨(twoB (ext.size:Int)).toArray⟩,ext,cip] _ 6 w1 rfl rfl (by decide) ?_).mono ?_
 ·intro x hx
  simp only [List.mem_cons,List.not_mem_nil,or_false] at hx
  rcases hx with rfl|rfl|rfl|rfl|rfl|rfl
  ·decide
  ·exact h1
  ·exact h2
  ·rw [strB_size,twoB_length];decide
  ·unfold maxLen;omega
  ·exact h4
 rintro e w2 ⟨rfl,rfl⟩
 go_wp2_with fail
 rw [flatB_tag]
 have hr:=sumB_range (84 :: (sec.data.toList++non.data.toList++twoB (ext.size:Int)++ext.data.toList++cip.data.toList)) 1 (by decide) (by decide)
 have HF:Hid (twoB (sumB 1 (84 :: (sec.data.toList++non.data.toList++twoB (ext.size:Int)++ext.data.toList++cip.data.toList)))=tagB sec.data.toList non.data.toList ext.data.toList cip.data.toList):=by
  unfold tagB;simp [Hid]
 generalize sumB 1 (84 :: (sec.data.toList++non.data.toList++twoB (ext.size:Int)++ext.data.toList++cip.data.toList))=t at *
 refine (two_any t _ (by omega) (by omega)).mono ?_
 rintro e w2 ⟨rfl,hb2⟩
 go_wp2
 go_ret
 refine ⟨ret_str HF.out,?_⟩
 have hz:=hb1.size
 exact (hb1.alloc hz _).trans (hb2.mono (by simp;omega))
theorem Tryz.infoU8:(Tryz.prog.info? 5).map (fun i=>(i.zero,i.size,i.bytes))=some (some (.int .u8 0),1,1):=by kernel_rfl
def cellsB (l:List UInt8):List Value:=l.map fun b=>.int .u8 (b.toNat:Int)
theorem set_mid (A:List Value) (z v:Value) (n k:Nat) (hA:A.length=k) (hk:k < n):(A++List.replicate (n - k) z).set k v=(A++[v])++List.replicate (n - (k+1)) z:=by
 obtain ⟨m,hm⟩:∃ m,n - k=m+1:=⟨n - k - 1,by omega⟩
 have hm2:n - (k+1)=m:=by omega
 rw [hm,hm2,List.set_append_right _ _ (by omega),List.replicate_succ,hA]
 simp
theorem mask_step {W:World} {base g n k:Nat} {sec non text:List UInt8} (h:W.ownsRow base 5 1 (.slice (some ⟨g,0,none⟩) n n) n (cellsB (stirTo sec non text k)++List.replicate (n - k) (.int .u8 0))) (hk:k < n) :
  (W.setCell ⟨g,k,none⟩ (.int .u8 (xorN (text.getD k 0) (keyB sec non k):Int))).ownsRow base 5 1 (.slice (some ⟨g,0,none⟩) n n) n (cellsB (stirTo sec non text (k+1))++List.replicate (n - (k+1)) (.int .u8 0)):=by
 have h1:=(h.stored k (.int .u8 (xorN (text.getD k 0) (keyB sec non k):Int))).1
 rw [set_mid _ _ _ n k (by simp [cellsB,stirTo_length]) hk] at h1
 rw [stirTo_succ]
 simpa [cellsB,xorB_toNat] using h1
theorem cell_zero {W:World} {base g n k:Nat} {A:List Value} (h:W.ownsRow base 5 1 (.slice (some ⟨g,0,none⟩) n n) n (A++List.replicate (n - k) (.int .u8 0))) (hA:A.length=k) (hk:k < n) :
  W.cell? ⟨g,k,none⟩=some (.int .u8 0):=by
 obtain ⟨m,hm⟩:∃ m,n - k=m+1:=⟨n - k - 1,by omega⟩
 rw [h.cellAt k (by omega),List.getElem?_append_right (by omega),hA,hm,Nat.sub_self,List.replicate_succ]
 rfl
theorem bgrown {W w1:World} (hb:Below W.heap.size W w1):W.grownBy w1 none:=⟨hb.os,hb.tape,hb.output,hb.size,fun k hk _=>hb.block k hk⟩
theorem below_undrew {B:Nat} {a b:World} (h:Below B a.drew b):Below B a b:=⟨h.os,h.tape,h.output,h.size,h.block⟩
theorem mask_round {w wr w4:World} {g n k:Nat} {sec non text:List UInt8} (b:UInt8) (o:Obj) (hbt:text.getD k 0=b)
  (h:wr.ownsRow w.heap.size 5 1 (.slice (some ⟨g,0,none⟩) n n) n (cellsB (stirTo sec non text k)++List.replicate (n - k) (.int .u8 0))) (hk:k < n)
  (hB:Below w.heap.size w wr) (hG:g < wr.heap.size) (hb4:Below wr.heap.size wr w4) :
  ((w4.setCell ⟨g,k,none⟩ (.int .u8 (bits .xor .u8 (b.toNat:Int) (keyB sec non k % 256)))).alloc o).ownsRow w.heap.size 5 1 (.slice (some ⟨g,0,none⟩) n n) n (cellsB (stirTo sec non text (k+1))++List.replicate (n - (k+1)) (.int .u8 0)) ∧
  Below w.heap.size w ((w4.setCell ⟨g,k,none⟩ (.int .u8 (bits .xor .u8 (b.toNat:Int) (keyB sec non k % 256)))).alloc o) ∧
  g < ((w4.setCell ⟨g,k,none⟩ (.int .u8 (bits .xor .u8 (b.toNat:Int) (keyB sec non k % 256)))).alloc o).heap.size:=by
 subst hbt
 rw [xor_bits]
 have h4:=h.kept (bgrown hb4) (.inr (by simp [Value.ownBlock]))
 have hg:=(h.lt g rfl).1
 have hz:=hb4.size
 have hz0:=hB.size
 refine ⟨(mask_step h4 hk).alloc _,?_,?_⟩
 ·exact ((hB.trans (hb4.mono hz0)).setCell hg _).alloc (by simp;omega) _
 ·simp;omega
theorem conv_own {W:World} {base g n cap:Nat} {l:List UInt8} (h:W.ownsRow base 5 1 (.slice (some ⟨g,0,none⟩) n cap) n (cellsB l)) (hl:l.length=n) :
  Sem.run Tryz.prog (convert 149 9 (.slice (some ⟨g,0,none⟩) n cap)) W=.ok (strB l) W:=by
 subst hl
 refine run_convert_bytes_back (P:=Tryz.prog) _ 149 9 5 ⟨g,0,none⟩ cap l Tryz.underlying149 Tryz.underlying5 Tryz.underlying9 ?_
 intro j hj
 have:(⟨g,0,none⟩:Addr).add j=⟨g,j,none⟩:=by unfold Addr.add;split<;>simp_all
 rw [this,h.cellAt j (by omega)]
 simp [cellsB,hj]
theorem byte_getD (s:ByteArray) (k:Nat) (h:k < s.size):s.data.toList.getD k 0=s[k]:=by
 have h':k < s.data.toList.length:=by simpa using h
 simp only [List.getD,List.getElem?_eq_getElem h',Option.getD_some]
 simp
 rfl
theorem flatB_one (l:List UInt8):flatB [⟨l.toArray⟩]=l:=by simp [flatB]
theorem flatB_key (sec non:ByteArray):flatB [⟨#[75]⟩,sec,non]=75 :: (sec.data.toList++non.data.toList):=by
 simp [flatB]
theorem mask_any (sec non text:ByteArray) (w:World) (h1:sec.size≤maxLen) (h2:non.size≤maxLen) (h3:text.size≤5000) :
  Calls Tryz.prog 240 #[.string sec,.string non,.string text] w fun e w' =>
   e=.returned (strB (stirB sec.data.toList non.data.toList text.data.toList))∧Below w.heap.size w w':=by
 obtain ⟨i0,hi,hz0,hz1,hz2⟩:=info_parts Tryz.infoU8
 go_enter Tryz.func240,Tryz.ntmps240
 go_wp2_with fail
 refine (sum_lit [⟨#[75]⟩,sec,non] _ 3 w rfl rfl (by decide) ?_).mono ?_
 ·intro x hx
  simp only [List.mem_cons,List.not_mem_nil,or_false] at hx
  rcases hx with rfl|rfl|rfl
  ·decide
  ·exact h1
  ·exact h2
 rintro e w2 ⟨rfl,rfl⟩
 rw [flatB_key]
 have hr:=sumB_range (75 :: (sec.data.toList++non.data.toList)) 1 (by decide) (by decide)
 obtain ⟨hr1,hr2⟩:=hr
 have HK:Hid (∀ i:Nat,sumB (sumB 1 (75 :: (sec.data.toList++non.data.toList))) (twoB i)=keyB sec.data.toList non.data.toList i):=by
  intro i;rw [← sumB_append];rfl
 generalize sumB 1 (75 :: (sec.data.toList++non.data.toList))=t at *
 go_wp2_with (at_make;refine wpList_make_full _ rfl (.tmp 15) (.tmp 15) 149 rfl w.heap.size 5 i0 (.int .u8 0) 1 Tryz.underlying149 hi hz0 hz1 .i64 .i64 _ _ text.size rfl rfl rfl rfl (by rw [hz2];omega) (by unfold maxLen;omega) (by simp) ?_;intro w3 hown hgr)
 have hg:(w.alloc (Obj.cells #[Value.string ⟨#[75]⟩,Value.string sec,Value.string non] 9)).heap.size=w.heap.size+1:=by simp
 rw [hg] at hown
 have hB3:Below w.heap.size w w3:=((Below.refl _ _).alloc (Nat.le_refl _) _).grown hgr (by rw [hg];omega) (fun _ h=>by cases h)
 have hG3:w.heap.size+1 < w3.heap.size:=(hown.lt _ rfl).2
 have hst:(madeCells (Value.int IntKind.u8 0).cells (text.size*1)).toList=cellsB (stirTo sec.data.toList non.data.toList text.data.toList 0)++List.replicate (text.size - 0) (.int .u8 0):=by
  show (madeCells #[Value.int IntKind.u8 0] (text.size*1)).toList=_
  rw [toList_madeCells_one];simp [cellsB,stirTo]
 rw [hst] at hown
 clear hst hgr hg
 generalize w.heap.size+1=g at *
 go_loopw [19] (fun i wr=>∃ k:Nat,k≤text.size∧i=.int .i64 k∧wr.ownsRow w.heap.size 5 1 (.slice (some ⟨g,0,none⟩) text.size text.size) text.size (cellsB (stirTo sec.data.toList non.data.toList text.data.toList k)++List.replicate (text.size - k) (.int .u8 0))∧Below w.heap.size w wr∧g < wr.heap.size)
  (fun i _=>text.size - (intOf i).toNat)
 case atStart=>exact ⟨0,Nat.zero_le _,rfl,hown,hB3,hG3⟩
 case round =>
  clear hown hB3 hG3
  obtain ⟨k,hk,rfl,hown,hB,hG⟩:=hrel
  by_cases hlt:k < text.size
  ·have hkt:=HK.out k
   have hc0:=cell_zero hown (by simp [cellsB,stirTo_length]) hlt
   have hf0:=hown.frozenAt k
   obtain ⟨hkr1,hkr2⟩:=keyB_range sec.data.toList non.data.toList k
   have hgd:=byte_getD text k hlt
   have Hgd:=hid hgd
   clear hgd
   go_wp2_with fail
   go_region_with (first
    | (go_at_call 220;refine (two_any _ _ (by omega) (by omega)).mono ?_;rintro e w4 ⟨rfl,hb4⟩;have f0:g < w4.heap.size:=Nat.lt_of_lt_of_le hG hb4.size;have f1:w4.cell? ⟨g,k,none⟩=some (.int .u8 0):=(hb4.cell (p:=⟨g,k,none⟩) hG).trans hc0;have f2:w4.frozen? ⟨g,k,none⟩=false:=(hb4.frozen (p:=⟨g,k,none⟩) hG).trans hf0)
    | (go_at_call 264;refine (sumOn_lit t [⟨(twoB (k:Int)).toArray⟩] _ 1 _ hr1 hr2 rfl rfl (by decide) (by intro x hx;simp only [List.mem_cons,List.not_mem_nil,or_false] at hx;subst hx;rw [strB_size,twoB_length];decide)).mono ?_;rintro e w5 ⟨rfl,rfl⟩;rw [flatB_one,hkt]))
   all_goals
    have R:=mask_round (text[k]'hlt) (Obj.cells #[Value.string ⟨(twoB (k:Int)).toArray⟩] 9) Hgd.out hown hlt hB hG (below_undrew hb4)
    clear hc0 hf0 f0 f1 f2 hb4 hkt hown hB hG
    have HR:=hid R
    clear R
    go_wp2
    go_roundw
    case rel=>exact ⟨k+1,by omega,by go_num,HR.out.1,HR.out.2.1,HR.out.2.2⟩
    case measure=>simp [intOf];omega
  ·have hke:k=text.size:=by omega
   subst hke
   have hcv:=conv_own (l:=stirB sec.data.toList non.data.toList text.data.toList) (by simpa [stirB] using hown) (by simp [stirB_length])
   go_wp2
   go_ret
   exact ⟨rfl,hB⟩
end
end Go.Proofs.YthhpbhpfagoapaaGreat
