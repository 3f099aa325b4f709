import Derived.WalkKit
import Derived.Laws.BitsAllLaws
import Derived.Test.YthhpbhpfagoapabGreatRows
import Derived.WalkSpells
import Derived.WalkLawsBesides
import Derived.Laws.IdiomStrings
import Derived.Deep.RegionWith
namespace Go.Proofs.YthhpbhpfagoapabGreat
set_option linter.unusedVariables false
set_option linter.unusedSimpArgs false
set_option maxRecDepth 100000
set_option maxHeartbeats 16000000
open Go.RowKit
section
def QH:Int→List UInt8→Int
 | s,[]=>s
 | s,b :: l=>QH ((s*263+(b.toNat:Int)+1) % 65521) l
theorem Ui (l m:List UInt8):∀ s:Int,QH s (l++m)=QH (QH s l) m:=by
 induction l with
 | nil=>intro s;rfl
 | cons b l ih=>intro s;simp only [List.cons_append,QH];exact ih _
theorem Pc (s:Int) (l:List UInt8) (b:UInt8):QH s (l++[b])=(QH s l*263+(b.toNat:Int)+1) % 65521:=by
 rw [Ui];rfl
theorem Zh (l:List UInt8):∀ s:Int,0≤s→s≤65520→0≤QH s l∧QH s l≤65520:=by
 induction l with
 | nil=>intro s h0 h1;exact ⟨h0,h1⟩
 | cons b l ih=>intro s h0 h1;exact ih _ (by omega) (by omega)
def qQ (n:Int):List UInt8:=[UInt8.ofNat (n % 256).toNat,UInt8.ofNat (n / 256).toNat]
theorem jy (n:Int):(qQ n).length=2:=rfl
def GV (sec non:List UInt8) (i:Nat):Int:=QH 1 (75 :: (sec++non++qQ i))
theorem Md (sec non:List UInt8) (i:Nat):0≤GV sec non i∧GV sec non i≤65520:=Zh _ 1 (by omega) (by omega)
def RH (b:UInt8) (k:Int):Nat:=b.toNat ^^^ (k % 256).toNat
theorem LK (b:UInt8) (k:Int):RH b k < 256:=by
 unfold RH
 exact Nat.xor_lt_two_pow (n:=8) (by have:=b.toNat_lt;omega) (by omega)
theorem SR (b:UInt8) (k:Int):bits .xor .u8 (b.toNat:Int) (k % 256)=(RH b k:Int):=by
 have hb:=b.toNat_lt
 rw [u8_xor _ _ (by omega) (by omega) (by omega) (by omega)]
 simp [RH]
def RZ (b:UInt8) (k:Int):UInt8:=UInt8.ofNat (RH b k)
theorem Rc (b:UInt8) (k:Int):(RZ b k).toNat=RH b k:=by
 unfold RZ
 simp only [UInt8.toNat_ofNat']
 exact Nat.mod_eq_of_lt (LK b k)
theorem Th (b:UInt8) (k:Int):RZ (RZ b k) k=b:=by
 have h:RH (RZ b k) k=b.toNat:=by
  unfold RH
  rw [Rc]
  unfold RH
  rw [Nat.xor_assoc,Nat.xor_self,Nat.xor_zero]
 unfold RZ at h ⊢
 rw [h]
 exact UInt8.ofNat_toNat
theorem Cx (l:List UInt8) (i:Nat) (h:i < l.length):l.getD i 0=l[i]:=by simp [List.getD,h]
def JY (sec non text:List UInt8) (k:Nat):List UInt8:=(List.range k).map fun i=>RZ (text.getD i 0) (GV sec non i)
theorem ZU (sec non text:List UInt8) (k:Nat):(JY sec non text k).length=k:=by simp [JY]
theorem Ax (sec non text:List UInt8) (k:Nat):JY sec non text (k+1)=JY sec non text k++[RZ (text.getD k 0) (GV sec non k)]:=by
 simp [JY,List.range_succ]
def zA (sec non text:List UInt8):List UInt8:=JY sec non text text.length
theorem JH (sec non text:List UInt8):(zA sec non text).length=text.length:=ZU _ _ _ _
theorem GQ (sec non text:List UInt8):zA sec non (zA sec non text)=text:=by
 apply List.ext_getElem
 ·simp [JH]
 ·intro i h1 h2
  have e:(zA sec non (zA sec non text))[i]=RZ ((zA sec non text).getD i 0) (GV sec non i):=by
   simp [zA,JY]
  have e2:(zA sec non text).getD i 0=RZ (text.getD i 0) (GV sec non i):=by
   have:i < (zA sec non text).length:=by rw [JH];exact h2
   rw [Cx _ _ this]
   simp [zA,JY]
  rw [e,e2,Th,Cx _ _ h2]
def NK (sec non ext cip:List UInt8):List UInt8:=qQ (QH 1 (84 :: (sec++non++qQ (ext.length:Int)++ext++cip)))
def xX (sec non ext plain:List UInt8):List UInt8:=zA sec non plain++NK sec non ext (zA sec non plain)
theorem za (sec non ext plain:List UInt8):(xX sec non ext plain).length=plain.length+2:=by
 simp [xX,JH,NK,qQ]
end
section
theorem hid {p:Prop} (h:p):Hid p:=h
abbrev strB (l:List UInt8):Value:=.string ⟨l.toArray⟩
theorem xh {l m:List UInt8} (h:l=m):Ending.returned (strB l)=.returned (strB m):=by rw [h]
theorem Dk (w:World) (a b:Int) (ha:0≤a) (ha':a≤255) (hb:0≤b) (hb':b≤255) :
  Sem.run Tryz.prog (convert 64 9 (.slice (some ⟨w.heap.size,0,none⟩) 2 2)) (w.alloc (.cells #[.int .u8 a,.int .u8 b] 5)) =
   .ok (strB [UInt8.ofNat a.toNat,UInt8.ofNat b.toNat]) (w.alloc (.cells #[.int .u8 a,.int .u8 b] 5)):=by
 refine run_convert_bytes_back (P:=Tryz.prog) _ 64 9 5 ⟨w.heap.size,0,none⟩ 2 [UInt8.ofNat a.toNat,UInt8.ofNat b.toNat] Tryz.underlying64 Tryz.underlying5 Tryz.underlying9 ?_
 intro j hj
 match j,hj with
 | 0,_=>simp [Addr.add];omega
 | 1,_=>simp [Addr.add];omega
theorem JW (n:Int) (w:World) (h0:0≤n) (h1:n≤65535) :
  Calls Tryz.prog 100 #[.int .i64 n] w fun e w'=>e=.returned (strB (qQ n))∧Below w.heap.size w w':=by
 have hc:=Dk w (n % 256) (n / 256) (by omega) (by omega) (by omega) (by omega)
 go_enter Tryz.func100,Tryz.ntmps100
 go_wp2
 go_ret
 exact ⟨rfl,(Below.refl _ _).alloc (Nat.le_refl _) _⟩
theorem Yj (s:ByteArray) (k:Nat) (h:k < s.size):s.data.toList.take (k+1)=s.data.toList.take k++[s[k]]:=by
 rw [List.take_succ_eq_append_getElem (by simpa using h)];rfl
theorem xb {k:IntKind} {a b:Int} (h:a=b):Ending.returned (.int k a)=.returned (.int k b):=by rw [h]
def xF (parts:List ByteArray):List UInt8:=parts.flatMap (·.data.toList)
theorem UZ (parts:List ByteArray) (k:Nat) (h:k < parts.length):xF (parts.take (k+1))=xF (parts.take k)++parts[k].data.toList:=by
 unfold xF
 rw [List.take_succ_eq_append_getElem h]
 simp only [List.flatMap_append,List.flatMap_cons,List.flatMap_nil,List.append_nil]
theorem YM (s0:Int) (parts:List ByteArray) (b cap:Nat) (w:World) (h0:0≤s0) (h1:s0≤65520) (hn:parts.length≤1000)
  (hs:∀ x ∈ parts,x.size≤maxLen)
  (hc:∀ j (h:j < parts.length),w.cell? ⟨b,j,none⟩=some (.string parts[j])) :
  Calls Tryz.prog 117 #[.int .i64 s0,.slice (some ⟨b,0,none⟩) parts.length cap] w fun e w'=>e=.returned (.int .i64 (QH s0 (xF parts)))∧w'=w:=by
 go_enter Tryz.func117,Tryz.ntmps117
 go_wp2
 go_loop [0,10] (fun t i=>∃ k:Nat,k≤parts.length∧i=.int .i64 k∧t=.int .i64 (QH s0 (xF (parts.take k)))) (fun _ i=>parts.length - (intOf i).toNat)
 case atStart=>exact ⟨0,Nat.zero_le _,rfl,rfl⟩
 case round =>
  obtain ⟨k,hk,rfl,rfl⟩:=hrel
  by_cases hlt:k < parts.length
  ·have hck:=hc k hlt
   have hsz:(parts[k]'hlt).size≤maxLen:=hs _ (List.getElem_mem hlt)
   unfold maxLen at hsz
   have HS:Hid (QH s0 (xF (parts.take (k+1)))=QH (QH s0 (xF (parts.take k))) (parts[k]'hlt).data.toList):=by
    rw [UZ parts k hlt,Ui];exact rfl
   obtain ⟨hd1,hd2⟩:=Zh (xF (parts.take k)) s0 h0 h1
   generalize QH s0 (xF (parts.take k))=t0 at *
   generalize (parts[k]'hlt)=part at *
   clear hc hs
   go_wp2
   go_loop [0,16] (fun t i=>∃ m:Nat,m≤part.size∧i=.int .i64 m∧t=.int .i64 (QH t0 (part.data.toList.take m))) (fun _ i=>part.size - (intOf i).toNat)
   case atStart=>exact ⟨0,Nat.zero_le _,rfl,rfl⟩
   case round =>
    obtain ⟨m,hm,rfl,rfl⟩:=hrel
    obtain ⟨he1,he2⟩:=Zh (part.data.toList.take m) t0 hd1 hd2
    by_cases hlm:m < part.size
    ·have hbt:=(part[m]'hlm).toNat_lt
     have HT:Hid (QH t0 (part.data.toList.take (m+1))=(QH t0 (part.data.toList.take m)*263+((part[m]'hlm).toNat:Int)+1) % 65521):=by
      rw [Yj part m hlm];exact Pc _ _ _
     go_wp2
     go_round
     case rel=>exact ⟨m+1,by omega,by go_num,by rw [HT.out]⟩
     case measure=>simp [intOf];omega
    ·go_wp2
     go_round
     case rel=>exact ⟨k+1,by omega,by go_num,by rw [HS.out,List.take_of_length_le (by simp;omega)]⟩
     case measure=>simp [intOf];omega
  ·go_wp2
   go_ret
   exact ⟨xb (by rw [List.take_of_length_le (by omega)]),rfl⟩
theorem LN (parts:List ByteArray) (b cap:Nat) (w:World) (hn:parts.length≤1000)
  (hs:∀ x ∈ parts,x.size≤maxLen)
  (hc:∀ j (h:j < parts.length),w.cell? ⟨b,j,none⟩=some (.string parts[j])) :
  Calls Tryz.prog 116 #[.slice (some ⟨b,0,none⟩) parts.length cap] w fun e w'=>e=.returned (.int .i64 (QH 1 (xF parts)))∧w'=w:=by
 have Hc:=hid hc
 have Hs:=hid hs
 clear hc hs
 go_enter Tryz.func116,Tryz.ntmps116
 go_wp2_with fail
 refine (YM 1 parts b cap w (by decide) (by decide) hn Hs.out Hc.out).mono ?_
 rintro e w' ⟨rfl,rfl⟩
 go_wp2
 go_ret
 exact ⟨rfl,rfl⟩
theorem Uc (w:World) (parts:List ByteArray) (C:Array Value) (hC:C=(parts.map Value.string).toArray) (t:TypeId) :
  ∀ j (h:j < parts.length),(w.alloc (.cells C t)).cell? ⟨w.heap.size,j,none⟩=some (.string parts[j]):=by
 intro j h
 rw [World.cell?_alloc_mark,hC]
 simp [h]
theorem Cd (parts:List ByteArray) (C:Array Value) (n:Nat) (w:World) (hC:C=(parts.map Value.string).toArray) (hl:parts.length=n) (hn:n≤1000) (hs:∀ x ∈ parts,x.size≤maxLen) :
  Calls Tryz.prog 116 #[.slice (some ⟨w.heap.size,0,none⟩) n n] (w.alloc (.cells C 9)) fun e w'=>e=.returned (.int .i64 (QH 1 (xF parts)))∧w.alloc (.cells C 9)=w':=by
 subst hl
 refine (LN parts w.heap.size parts.length _ hn hs (Uc w parts C hC _)).mono ?_
 rintro e w' ⟨h1,h2⟩
 exact ⟨h1,h2.symm⟩
theorem Pe (s0:Int) (parts:List ByteArray) (C:Array Value) (n:Nat) (w:World) (h0:0≤s0) (h1:s0≤65520) (hC:C=(parts.map Value.string).toArray) (hl:parts.length=n) (hn:n≤1000) (hs:∀ x ∈ parts,x.size≤maxLen) :
  Calls Tryz.prog 117 #[.int .i64 s0,.slice (some ⟨w.heap.size,0,none⟩) n n] (w.alloc (.cells C 9)) fun e w'=>e=.returned (.int .i64 (QH s0 (xF parts)))∧w.alloc (.cells C 9)=w':=by
 subst hl
 refine (YM s0 parts w.heap.size parts.length _ h0 h1 hn hs (Uc w parts C hC _)).mono ?_
 rintro e w' ⟨h1,h2⟩
 exact ⟨h1,h2.symm⟩
theorem jM (l:List UInt8):(⟨l.toArray⟩:ByteArray).size=l.length:=by simp [ByteArray.size]
end
section
theorem Td (sec non ext cip:ByteArray) (l:List UInt8):xF [⟨#[84]⟩,sec,non,⟨l.toArray⟩,ext,cip]=84 :: (sec.data.toList++non.data.toList++l++ext.data.toList++cip.data.toList):=by
 simp [xF]
theorem Ej (sec non ext cip:ByteArray) (w:World) (h1:sec.size≤maxLen) (h2:non.size≤maxLen) (h3:ext.size≤5000) (h4:cip.size≤maxLen) :
  Calls Tryz.prog 88 #[.string sec,.string non,.string ext,.string cip] w fun e w' =>
   e=.returned (strB (NK sec.data.toList non.data.toList ext.data.toList cip.data.toList))∧Below w.heap.size w w':=by
 go_enter Tryz.func88,Tryz.ntmps88
 go_wp2_with fail
 refine (JW _ _ (by omega) (by omega)).mono ?_
 rintro e w1 ⟨rfl,hb1⟩
 go_wp2_with fail
 refine (Cd [⟨#[84]⟩,sec,non,⟨(qQ (ext.size:Int)).toArray⟩,ext,cip] _ 6 w1 rfl rfl (by decide) ?_).mono ?_
 ·intro x hx
  simp only [List.mem_cons,List.not_mem_nil,or_false] at hx
  rcases hx with rfl|rfl|rfl|rfl|rfl|rfl
  ·decide
  ·exact h1
  ·exact h2
  ·rw [jM,jy];decide
  ·unfold maxLen;omega
  ·exact h4
 rintro e w2 ⟨rfl,rfl⟩
 go_wp2_with fail
 rw [Td]
 have hr:=Zh (84 :: (sec.data.toList++non.data.toList++qQ (ext.size:Int)++ext.data.toList++cip.data.toList)) 1 (by decide) (by decide)
 have HF:Hid (qQ (QH 1 (84 :: (sec.data.toList++non.data.toList++qQ (ext.size:Int)++ext.data.toList++cip.data.toList)))=NK sec.data.toList non.data.toList ext.data.toList cip.data.toList):=by
  unfold NK;simp [Hid]
 generalize QH 1 (84 :: (sec.data.toList++non.data.toList++qQ (ext.size:Int)++ext.data.toList++cip.data.toList))=t at *
 refine (JW t _ (by omega) (by omega)).mono ?_
 rintro e w2 ⟨rfl,hb2⟩
 go_wp2
 go_ret
 refine ⟨xh HF.out,?_⟩
 have hz:=hb1.size
 exact (hb1.alloc hz _).trans (hb2.mono (by simp;omega))
theorem Tryz.infoU8:(Tryz.prog.info? 5).map (fun i=>(i.zero,i.size,i.bytes))=some (some (.int .u8 0),1,1):=by kernel_rfl
def qu (l:List UInt8):List Value:=l.map fun b=>.int .u8 (b.toNat:Int)
theorem Ck (A:List Value) (z v:Value) (n k:Nat) (hA:A.length=k) (hk:k < n):(A++List.replicate (n - k) z).set k v=(A++[v])++List.replicate (n - (k+1)) z:=by
 obtain ⟨m,hm⟩:∃ m,n - k=m+1:=⟨n - k - 1,by omega⟩
 have hm2:n - (k+1)=m:=by omega
 rw [hm,hm2,List.set_append_right _ _ (by omega),List.replicate_succ,hA]
 simp
theorem Tr {W:World} {base g n k:Nat} {sec non text:List UInt8} (h:W.ownsRow base 5 1 (.slice (some ⟨g,0,none⟩) n n) n (qu (JY sec non text k)++List.replicate (n - k) (.int .u8 0))) (hk:k < n) :
  (W.setCell ⟨g,k,none⟩ (.int .u8 (RH (text.getD k 0) (GV sec non k):Int))).ownsRow base 5 1 (.slice (some ⟨g,0,none⟩) n n) n (qu (JY sec non text (k+1))++List.replicate (n - (k+1)) (.int .u8 0)):=by
 have h1:=(h.stored k (.int .u8 (RH (text.getD k 0) (GV sec non k):Int))).1
 rw [Ck _ _ _ n k (by simp [qu,ZU]) hk] at h1
 rw [Ax]
 simpa [qu,Rc] using h1
theorem CL {W:World} {base g n k:Nat} {A:List Value} (h:W.ownsRow base 5 1 (.slice (some ⟨g,0,none⟩) n n) n (A++List.replicate (n - k) (.int .u8 0))) (hA:A.length=k) (hk:k < n) :
  W.cell? ⟨g,k,none⟩=some (.int .u8 0):=by
 obtain ⟨m,hm⟩:∃ m,n - k=m+1:=⟨n - k - 1,by omega⟩
 rw [h.cellAt k (by omega),List.getElem?_append_right (by omega),hA,hm,Nat.sub_self,List.replicate_succ]
 rfl
theorem Mu {W w1:World} (hb:Below W.heap.size W w1):W.grownBy w1 none:=⟨hb.os,hb.tape,hb.output,hb.size,fun k hk _=>hb.block k hk⟩
theorem jl {B:Nat} {a b:World} (h:Below B a.drew b):Below B a b:=⟨h.os,h.tape,h.output,h.size,h.block⟩
theorem Mo {w wr w4:World} {g n k:Nat} {sec non text:List UInt8} (b:UInt8) (o:Obj) (hbt:text.getD k 0=b)
  (h:wr.ownsRow w.heap.size 5 1 (.slice (some ⟨g,0,none⟩) n n) n (qu (JY sec non text k)++List.replicate (n - k) (.int .u8 0))) (hk:k < n)
  (hB:Below w.heap.size w wr) (hG:g < wr.heap.size) (hb4:Below wr.heap.size wr w4) :
  ((w4.setCell ⟨g,k,none⟩ (.int .u8 (bits .xor .u8 (b.toNat:Int) (GV sec non k % 256)))).alloc o).ownsRow w.heap.size 5 1 (.slice (some ⟨g,0,none⟩) n n) n (qu (JY sec non text (k+1))++List.replicate (n - (k+1)) (.int .u8 0)) ∧
  Below w.heap.size w ((w4.setCell ⟨g,k,none⟩ (.int .u8 (bits .xor .u8 (b.toNat:Int) (GV sec non k % 256)))).alloc o) ∧
  g < ((w4.setCell ⟨g,k,none⟩ (.int .u8 (bits .xor .u8 (b.toNat:Int) (GV sec non k % 256)))).alloc o).heap.size:=by
 subst hbt
 rw [SR]
 have h4:=h.kept (Mu hb4) (.inr (by simp [Value.ownBlock]))
 have hg:=(h.lt g rfl).1
 have hz:=hb4.size
 have hz0:=hB.size
 refine ⟨(Tr h4 hk).alloc _,?_,?_⟩
 ·exact ((hB.trans (hb4.mono hz0)).setCell hg _).alloc (by simp;omega) _
 ·simp;omega
theorem AJ {W:World} {base g n cap:Nat} {l:List UInt8} (h:W.ownsRow base 5 1 (.slice (some ⟨g,0,none⟩) n cap) n (qu l)) (hl:l.length=n) :
  Sem.run Tryz.prog (convert 64 9 (.slice (some ⟨g,0,none⟩) n cap)) W=.ok (strB l) W:=by
 subst hl
 refine run_convert_bytes_back (P:=Tryz.prog) _ 64 9 5 ⟨g,0,none⟩ cap l Tryz.underlying64 Tryz.underlying5 Tryz.underlying9 ?_
 intro j hj
 have:(⟨g,0,none⟩:Addr).add j=⟨g,j,none⟩:=by unfold Addr.add;split<;>simp_all
 rw [this,h.cellAt j (by omega)]
 simp [qu,hj]
theorem TM (s:ByteArray) (k:Nat) (h:k < s.size):s.data.toList.getD k 0=s[k]:=by
 have h':k < s.data.toList.length:=by simpa using h
 simp only [List.getD,List.getElem?_eq_getElem h',Option.getD_some]
 simp
 rfl
theorem Tq (l:List UInt8):xF [⟨l.toArray⟩]=l:=by simp [xF]
theorem CZ (sec non:ByteArray):xF [⟨#[75]⟩,sec,non]=75 :: (sec.data.toList++non.data.toList):=by
 simp [xF]
theorem Dl (sec non text:ByteArray) (w:World) (h1:sec.size≤maxLen) (h2:non.size≤maxLen) (h3:text.size≤5000) :
  Calls Tryz.prog 89 #[.string sec,.string non,.string text] w fun e w' =>
   e=.returned (strB (zA sec.data.toList non.data.toList text.data.toList))∧Below w.heap.size w w':=by
 obtain ⟨i0,hi,hz0,hz1,hz2⟩:=info_parts Tryz.infoU8
 go_enter Tryz.func89,Tryz.ntmps89
 go_wp2_with fail
 refine (Cd [⟨#[75]⟩,sec,non] _ 3 w rfl rfl (by decide) ?_).mono ?_
 ·intro x hx
  simp only [List.mem_cons,List.not_mem_nil,or_false] at hx
  rcases hx with rfl|rfl|rfl
  ·decide
  ·exact h1
  ·exact h2
 rintro e w2 ⟨rfl,rfl⟩
 rw [CZ]
 have hr:=Zh (75 :: (sec.data.toList++non.data.toList)) 1 (by decide) (by decide)
 obtain ⟨hr1,hr2⟩:=hr
 have HK:Hid (∀ i:Nat,QH (QH 1 (75 :: (sec.data.toList++non.data.toList))) (qQ i)=GV sec.data.toList non.data.toList i):=by
  intro i;rw [← Ui];rfl
 generalize QH 1 (75 :: (sec.data.toList++non.data.toList))=t at *
 go_wp2_with (at_make;refine wpList_make_full _ rfl (.tmp 15) (.tmp 15) 64 rfl w.heap.size 5 i0 (.int .u8 0) 1 Tryz.underlying64 hi hz0 hz1 .i64 .i64 _ _ text.size rfl rfl rfl rfl (by rw [hz2];omega) (by unfold maxLen;omega) (by simp) ?_;intro w3 hown hgr)
 have hg:(w.alloc (Obj.cells #[Value.string ⟨#[75]⟩,Value.string sec,Value.string non] 9)).heap.size=w.heap.size+1:=by simp
 rw [hg] at hown
 have hB3:Below w.heap.size w w3:=((Below.refl _ _).alloc (Nat.le_refl _) _).grown hgr (by rw [hg];omega) (fun _ h=>by cases h)
 have hG3:w.heap.size+1 < w3.heap.size:=(hown.lt _ rfl).2
 have hst:(madeCells (Value.int IntKind.u8 0).cells (text.size*1)).toList=qu (JY sec.data.toList non.data.toList text.data.toList 0)++List.replicate (text.size - 0) (.int .u8 0):=by
  show (madeCells #[Value.int IntKind.u8 0] (text.size*1)).toList=_
  rw [toList_madeCells_one];simp [qu,JY]
 rw [hst] at hown
 clear hst hgr hg
 generalize w.heap.size+1=g at *
 go_loopw [19] (fun i wr=>∃ k:Nat,k≤text.size∧i=.int .i64 k∧wr.ownsRow w.heap.size 5 1 (.slice (some ⟨g,0,none⟩) text.size text.size) text.size (qu (JY sec.data.toList non.data.toList text.data.toList k)++List.replicate (text.size - k) (.int .u8 0))∧Below w.heap.size w wr∧g < wr.heap.size)
  (fun i _=>text.size - (intOf i).toNat)
 case atStart=>exact ⟨0,Nat.zero_le _,rfl,hown,hB3,hG3⟩
 case round =>
  clear hown hB3 hG3
  obtain ⟨k,hk,rfl,hown,hB,hG⟩:=hrel
  by_cases hlt:k < text.size
  ·have hkt:=HK.out k
   have hc0:=CL hown (by simp [qu,ZU]) hlt
   have hf0:=hown.frozenAt k
   obtain ⟨hkr1,hkr2⟩:=Md sec.data.toList non.data.toList k
   have hgd:=TM text k hlt
   have Hgd:=hid hgd
   clear hgd
   go_wp2_with fail
   go_region_with (first
    | (go_at_call 100;refine (JW _ _ (by omega) (by omega)).mono ?_;rintro e w4 ⟨rfl,hb4⟩;have f0:g < w4.heap.size:=Nat.lt_of_lt_of_le hG hb4.size;have f1:w4.cell? ⟨g,k,none⟩=some (.int .u8 0):=(hb4.cell (p:=⟨g,k,none⟩) hG).trans hc0;have f2:w4.frozen? ⟨g,k,none⟩=false:=(hb4.frozen (p:=⟨g,k,none⟩) hG).trans hf0)
    | (go_at_call 117;refine (Pe t [⟨(qQ (k:Int)).toArray⟩] _ 1 _ hr1 hr2 rfl rfl (by decide) (by intro x hx;simp only [List.mem_cons,List.not_mem_nil,or_false] at hx;subst hx;rw [jM,jy];decide)).mono ?_;rintro e w5 ⟨rfl,rfl⟩;rw [Tq,hkt]))
   all_goals
    have R:=Mo (text[k]'hlt) (Obj.cells #[Value.string ⟨(qQ (k:Int)).toArray⟩] 9) Hgd.out hown hlt hB hG (jl hb4)
    clear hc0 hf0 f0 f1 f2 hb4 hkt hown hB hG
    have HR:=hid R
    clear R
    go_wp2
    go_roundw
    case rel=>exact ⟨k+1,by omega,by go_num,HR.out.1,HR.out.2.1,HR.out.2.2⟩
    case measure=>simp [intOf];omega
  ·have hke:k=text.size:=by omega
   subst hke
   have hcv:=AJ (l:=zA sec.data.toList non.data.toList text.data.toList) (by simpa [zA] using hown) (by simp [JH])
   go_wp2
   go_ret
   exact ⟨rfl,hB⟩
end
end Go.Proofs.YthhpbhpfagoapabGreat
