import Derived.WalkKit
import Derived.Laws.BitsAllLaws
import Derived.Test.YthhpbhpfagoapabGreatRows
import Derived.WalkSpells
import Derived.WalkLawsBesides
import Derived.Laws.IdiomStrings
import Derived.Deep.RegionWith
namespace Go.Proofs.YthhpbhpfagoapabGreat
set_option linter.unusedVariables false
set_option linter.unusedSimpArgs false
set_option maxRecDepth 100000
set_option maxHeartbeats 16000000
open Go.RowKit
section
def QP:Int→List UInt8→Int
 | s,[]=>s
 | s,b :: l=>QP ((s*263+(b.toNat:Int)+1) % 65521) l
theorem Ue (l m:List UInt8):∀ s:Int,QP s (l++m)=QP (QP s l) m:=by
 induction l with
 | nil=>intro s;rfl
 | cons b l ih=>intro s;simp only [List.cons_append,QP];exact ih _
theorem Se (s:Int) (l:List UInt8) (b:UInt8):QP s (l++[b])=(QP s l*263+(b.toNat:Int)+1) % 65521:=by
 rw [Ue];rfl
theorem Zm (l:List UInt8):∀ s:Int,0≤s→s≤65520→0≤QP s l∧QP s l≤65520:=by
 induction l with
 | nil=>intro s h0 h1;exact ⟨h0,h1⟩
 | cons b l ih=>intro s h0 h1;exact ih _ (by omega) (by omega)
def qz (n:Int):List UInt8:=[UInt8.ofNat (n % 256).toNat,UInt8.ofNat (n / 256).toNat]
theorem jx (n:Int):(qz n).length=2:=rfl
def Nm (sec non:List UInt8) (i:Nat):Int:=QP 1 (75 :: (sec++non++qz i))
theorem DU (sec non:List UInt8) (i:Nat):0≤Nm sec non i∧Nm sec non i≤65520:=Zm _ 1 (by omega) (by omega)
def Rg (b:UInt8) (k:Int):Nat:=b.toNat ^^^ (k % 256).toNat
theorem BJ (b:UInt8) (k:Int):Rg b k < 256:=by
 unfold Rg
 exact Nat.xor_lt_two_pow (n:=8) (by have:=b.toNat_lt;omega) (by omega)
theorem Ld (b:UInt8) (k:Int):bits .xor .u8 (b.toNat:Int) (k % 256)=(Rg b k:Int):=by
 have hb:=b.toNat_lt
 rw [u8_xor _ _ (by omega) (by omega) (by omega) (by omega)]
 simp [Rg]
def Yp (b:UInt8) (k:Int):UInt8:=UInt8.ofNat (Rg b k)
theorem Rq (b:UInt8) (k:Int):(Yp b k).toNat=Rg b k:=by
 unfold Yp
 simp only [UInt8.toNat_ofNat']
 exact Nat.mod_eq_of_lt (BJ b k)
theorem PT (b:UInt8) (k:Int):Yp (Yp b k) k=b:=by
 have h:Rg (Yp b k) k=b.toNat:=by
  unfold Rg
  rw [Rq]
  unfold Rg
  rw [Nat.xor_assoc,Nat.xor_self,Nat.xor_zero]
 unfold Yp at h ⊢
 rw [h]
 exact UInt8.ofNat_toNat
theorem Ta (l:List UInt8) (i:Nat) (h:i < l.length):l.getD i 0=l[i]:=by simp [List.getD,h]
def Qj (sec non text:List UInt8) (k:Nat):List UInt8:=(List.range k).map fun i=>Yp (text.getD i 0) (Nm sec non i)
theorem ZZ (sec non text:List UInt8) (k:Nat):(Qj sec non text k).length=k:=by simp [Qj]
theorem Au (sec non text:List UInt8) (k:Nat):Qj sec non text (k+1)=Qj sec non text k++[Yp (text.getD k 0) (Nm sec non k)]:=by
 simp [Qj,List.range_succ]
def zC (sec non text:List UInt8):List UInt8:=Qj sec non text text.length
theorem JN (sec non text:List UInt8):(zC sec non text).length=text.length:=ZZ _ _ _ _
theorem GP (sec non text:List UInt8):zC sec non (zC sec non text)=text:=by
 apply List.ext_getElem
 ·simp [JN]
 ·intro i h1 h2
  have e:(zC sec non (zC sec non text))[i]=Yp ((zC sec non text).getD i 0) (Nm sec non i):=by
   simp [zC,Qj]
  have e2:(zC sec non text).getD i 0=Yp (text.getD i 0) (Nm sec non i):=by
   have:i < (zC sec non text).length:=by rw [JN];exact h2
   rw [Ta _ _ this]
   simp [zC,Qj]
  rw [e,e2,PT,Ta _ _ h2]
def Rd (sec non ext cip:List UInt8):List UInt8:=qz (QP 1 (84 :: (sec++non++qz (ext.length:Int)++ext++cip)))
def za (sec non ext plain:List UInt8):List UInt8:=zC sec non plain++Rd sec non ext (zC sec non plain)
theorem zc (sec non ext plain:List UInt8):(za sec non ext plain).length=plain.length+2:=by
 simp [za,JN,Rd,qz]
end
section
theorem hid {p:Prop} (h:p):Hid p:=h
abbrev strB (l:List UInt8):Value:=.string ⟨l.toArray⟩
theorem xj {l m:List UInt8} (h:l=m):Ending.returned (strB l)=.returned (strB m):=by rw [h]
theorem At (w:World) (a b:Int) (ha:0≤a) (ha':a≤255) (hb:0≤b) (hb':b≤255) :
  Sem.run Tryz.prog (convert 64 9 (.slice (some ⟨w.heap.size,0,none⟩) 2 2)) (w.alloc (.cells #[.int .u8 a,.int .u8 b] 5)) =
   .ok (strB [UInt8.ofNat a.toNat,UInt8.ofNat b.toNat]) (w.alloc (.cells #[.int .u8 a,.int .u8 b] 5)):=by
 refine run_convert_bytes_back (P:=Tryz.prog) _ 64 9 5 ⟨w.heap.size,0,none⟩ 2 [UInt8.ofNat a.toNat,UInt8.ofNat b.toNat] Tryz.underlying64 Tryz.underlying5 Tryz.underlying9 ?_
 intro j hj
 match j,hj with
 | 0,_=>simp [Addr.add];omega
 | 1,_=>simp [Addr.add];omega
theorem Qf (n:Int) (w:World) (h0:0≤n) (h1:n≤65535) :
  Calls Tryz.prog 100 #[.int .i64 n] w fun e w'=>e=.returned (strB (qz n))∧Below w.heap.size w w':=by
 have hc:=At w (n % 256) (n / 256) (by omega) (by omega) (by omega) (by omega)
 go_enter Tryz.func100,Tryz.ntmps100
 go_wp2
 go_ret
 exact ⟨rfl,(Below.refl _ _).alloc (Nat.le_refl _) _⟩
theorem Ej (s:ByteArray) (k:Nat) (h:k < s.size):s.data.toList.take (k+1)=s.data.toList.take k++[s[k]]:=by
 rw [List.take_succ_eq_append_getElem (by simpa using h)];rfl
theorem xd {k:IntKind} {a b:Int} (h:a=b):Ending.returned (.int k a)=.returned (.int k b):=by rw [h]
def xH (parts:List ByteArray):List UInt8:=parts.flatMap (·.data.toList)
theorem Vl (parts:List ByteArray) (k:Nat) (h:k < parts.length):xH (parts.take (k+1))=xH (parts.take k)++parts[k].data.toList:=by
 unfold xH
 rw [List.take_succ_eq_append_getElem h]
 simp only [List.flatMap_append,List.flatMap_cons,List.flatMap_nil,List.append_nil]
theorem Ee (s0:Int) (parts:List ByteArray) (b cap:Nat) (w:World) (h0:0≤s0) (h1:s0≤65520) (hn:parts.length≤1000)
  (hs:∀ x ∈ parts,x.size≤maxLen)
  (hc:∀ j (h:j < parts.length),w.cell? ⟨b,j,none⟩=some (.string parts[j])) :
  Calls Tryz.prog 117 #[.int .i64 s0,.slice (some ⟨b,0,none⟩) parts.length cap] w fun e w'=>e=.returned (.int .i64 (QP s0 (xH parts)))∧w'=w:=by
 go_enter Tryz.func117,Tryz.ntmps117
 go_wp2
 go_loop [0,10] (fun t i=>∃ k:Nat,k≤parts.length∧i=.int .i64 k∧t=.int .i64 (QP s0 (xH (parts.take k)))) (fun _ i=>parts.length - (intOf i).toNat)
 case atStart=>exact ⟨0,Nat.zero_le _,rfl,rfl⟩
 case round =>
  obtain ⟨k,hk,rfl,rfl⟩:=hrel
  by_cases hlt:k < parts.length
  ·have hck:=hc k hlt
   have hsz:(parts[k]'hlt).size≤maxLen:=hs _ (List.getElem_mem hlt)
   unfold maxLen at hsz
   have HS:Hid (QP s0 (xH (parts.take (k+1)))=QP (QP s0 (xH (parts.take k))) (parts[k]'hlt).data.toList):=by
    rw [Vl parts k hlt,Ue];exact rfl
   obtain ⟨hd1,hd2⟩:=Zm (xH (parts.take k)) s0 h0 h1
   generalize QP s0 (xH (parts.take k))=t0 at *
   generalize (parts[k]'hlt)=part at *
   clear hc hs
   go_wp2
   go_loop [0,16] (fun t i=>∃ m:Nat,m≤part.size∧i=.int .i64 m∧t=.int .i64 (QP t0 (part.data.toList.take m))) (fun _ i=>part.size - (intOf i).toNat)
   case atStart=>exact ⟨0,Nat.zero_le _,rfl,rfl⟩
   case round =>
    obtain ⟨m,hm,rfl,rfl⟩:=hrel
    obtain ⟨he1,he2⟩:=Zm (part.data.toList.take m) t0 hd1 hd2
    by_cases hlm:m < part.size
    ·have hbt:=(part[m]'hlm).toNat_lt
     have HT:Hid (QP t0 (part.data.toList.take (m+1))=(QP t0 (part.data.toList.take m)*263+((part[m]'hlm).toNat:Int)+1) % 65521):=by
      rw [Ej part m hlm];exact Se _ _ _
     go_wp2
     go_round
     case rel=>exact ⟨m+1,by omega,by go_num,by rw [HT.out]⟩
     case measure=>simp [intOf];omega
    ·go_wp2
     go_round
     case rel=>exact ⟨k+1,by omega,by go_num,by rw [HS.out,List.take_of_length_le (by simp;omega)]⟩
     case measure=>simp [intOf];omega
  ·go_wp2
   go_ret
   exact ⟨xd (by rw [List.take_of_length_le (by omega)]),rfl⟩
theorem BC (parts:List ByteArray) (b cap:Nat) (w:World) (hn:parts.length≤1000)
  (hs:∀ x ∈ parts,x.size≤maxLen)
  (hc:∀ j (h:j < parts.length),w.cell? ⟨b,j,none⟩=some (.string parts[j])) :
  Calls Tryz.prog 116 #[.slice (some ⟨b,0,none⟩) parts.length cap] w fun e w'=>e=.returned (.int .i64 (QP 1 (xH parts)))∧w'=w:=by
 have Hc:=hid hc
 have Hs:=hid hs
 clear hc hs
 go_enter Tryz.func116,Tryz.ntmps116
 go_wp2_with fail
 refine (Ee 1 parts b cap w (by decide) (by decide) hn Hs.out Hc.out).mono ?_
 rintro e w' ⟨rfl,rfl⟩
 go_wp2
 go_ret
 exact ⟨rfl,rfl⟩
theorem Uh (w:World) (parts:List ByteArray) (C:Array Value) (hC:C=(parts.map Value.string).toArray) (t:TypeId) :
  ∀ j (h:j < parts.length),(w.alloc (.cells C t)).cell? ⟨w.heap.size,j,none⟩=some (.string parts[j]):=by
 intro j h
 rw [World.cell?_alloc_mark,hC]
 simp [h]
theorem To (parts:List ByteArray) (C:Array Value) (n:Nat) (w:World) (hC:C=(parts.map Value.string).toArray) (hl:parts.length=n) (hn:n≤1000) (hs:∀ x ∈ parts,x.size≤maxLen) :
  Calls Tryz.prog 116 #[.slice (some ⟨w.heap.size,0,none⟩) n n] (w.alloc (.cells C 9)) fun e w'=>e=.returned (.int .i64 (QP 1 (xH parts)))∧w.alloc (.cells C 9)=w':=by
 subst hl
 refine (BC parts w.heap.size parts.length _ hn hs (Uh w parts C hC _)).mono ?_
 rintro e w' ⟨h1,h2⟩
 exact ⟨h1,h2.symm⟩
theorem Sr (s0:Int) (parts:List ByteArray) (C:Array Value) (n:Nat) (w:World) (h0:0≤s0) (h1:s0≤65520) (hC:C=(parts.map Value.string).toArray) (hl:parts.length=n) (hn:n≤1000) (hs:∀ x ∈ parts,x.size≤maxLen) :
  Calls Tryz.prog 117 #[.int .i64 s0,.slice (some ⟨w.heap.size,0,none⟩) n n] (w.alloc (.cells C 9)) fun e w'=>e=.returned (.int .i64 (QP s0 (xH parts)))∧w.alloc (.cells C 9)=w':=by
 subst hl
 refine (Ee s0 parts w.heap.size parts.length _ h0 h1 hn hs (Uh w parts C hC _)).mono ?_
 rintro e w' ⟨h1,h2⟩
 exact ⟨h1,h2.symm⟩
theorem jM (l:List UInt8):(⟨l.toArray⟩:ByteArray).size=l.length:=by simp [ByteArray.size]
end
section
theorem Tr (sec non ext cip:ByteArray) (l:List UInt8):xH [⟨#[84]⟩,sec,non,⟨l.toArray⟩,ext,cip]=84 :: (sec.data.toList++non.data.toList++l++ext.data.toList++cip.data.toList):=by
 simp [xH]
theorem Ie (sec non ext cip:ByteArray) (w:World) (h1:sec.size≤maxLen) (h2:non.size≤maxLen) (h3:ext.size≤5000) (h4:cip.size≤maxLen) :
  Calls Tryz.prog 88 #[.string sec,.string non,.string ext,.string cip] w fun e w' =>
   e=.returned (strB (Rd sec.data.toList non.data.toList ext.data.toList cip.data.toList))∧Below w.heap.size w w':=by
 go_enter Tryz.func88,Tryz.ntmps88
 go_wp2_with fail
 refine (Qf _ _ (by omega) (by omega)).mono ?_
 rintro e w1 ⟨rfl,hb1⟩
 go_wp2_with fail
 refine (To [⟨#[84]⟩,sec,non,⟨(qz (ext.size:Int)).toArray⟩,ext,cip] _ 6 w1 rfl rfl (by decide) ?_).mono ?_
 ·intro x hx
  simp only [List.mem_cons,List.not_mem_nil,or_false] at hx
  rcases hx with rfl|rfl|rfl|rfl|rfl|rfl
  ·decide
  ·exact h1
  ·exact h2
  ·rw [jM,jx];decide
  ·unfold maxLen;omega
  ·exact h4
 rintro e w2 ⟨rfl,rfl⟩
 go_wp2_with fail
 rw [Tr]
 have hr:=Zm (84 :: (sec.data.toList++non.data.toList++qz (ext.size:Int)++ext.data.toList++cip.data.toList)) 1 (by decide) (by decide)
 have HF:Hid (qz (QP 1 (84 :: (sec.data.toList++non.data.toList++qz (ext.size:Int)++ext.data.toList++cip.data.toList)))=Rd sec.data.toList non.data.toList ext.data.toList cip.data.toList):=by
  unfold Rd;simp [Hid]
 generalize QP 1 (84 :: (sec.data.toList++non.data.toList++qz (ext.size:Int)++ext.data.toList++cip.data.toList))=t at *
 refine (Qf t _ (by omega) (by omega)).mono ?_
 rintro e w2 ⟨rfl,hb2⟩
 go_wp2
 go_ret
 refine ⟨xj HF.out,?_⟩
 have hz:=hb1.size
 exact (hb1.alloc hz _).trans (hb2.mono (by simp;omega))
theorem Tryz.infoU8:(Tryz.prog.info? 5).map (fun i=>(i.zero,i.size,i.bytes))=some (some (.int .u8 0),1,1):=by kernel_rfl
def qw (l:List UInt8):List Value:=l.map fun b=>.int .u8 (b.toNat:Int)
theorem Td (A:List Value) (z v:Value) (n k:Nat) (hA:A.length=k) (hk:k < n):(A++List.replicate (n - k) z).set k v=(A++[v])++List.replicate (n - (k+1)) z:=by
 obtain ⟨m,hm⟩:∃ m,n - k=m+1:=⟨n - k - 1,by omega⟩
 have hm2:n - (k+1)=m:=by omega
 rw [hm,hm2,List.set_append_right _ _ (by omega),List.replicate_succ,hA]
 simp
theorem PL {W:World} {base g n k:Nat} {sec non text:List UInt8} (h:W.ownsRow base 5 1 (.slice (some ⟨g,0,none⟩) n n) n (qw (Qj sec non text k)++List.replicate (n - k) (.int .u8 0))) (hk:k < n) :
  (W.setCell ⟨g,k,none⟩ (.int .u8 (Rg (text.getD k 0) (Nm sec non k):Int))).ownsRow base 5 1 (.slice (some ⟨g,0,none⟩) n n) n (qw (Qj sec non text (k+1))++List.replicate (n - (k+1)) (.int .u8 0)):=by
 have h1:=(h.stored k (.int .u8 (Rg (text.getD k 0) (Nm sec non k):Int))).1
 rw [Td _ _ _ n k (by simp [qw,ZZ]) hk] at h1
 rw [Au]
 simpa [qw,Rq] using h1
theorem Sl {W:World} {base g n k:Nat} {A:List Value} (h:W.ownsRow base 5 1 (.slice (some ⟨g,0,none⟩) n n) n (A++List.replicate (n - k) (.int .u8 0))) (hA:A.length=k) (hk:k < n) :
  W.cell? ⟨g,k,none⟩=some (.int .u8 0):=by
 obtain ⟨m,hm⟩:∃ m,n - k=m+1:=⟨n - k - 1,by omega⟩
 rw [h.cellAt k (by omega),List.getElem?_append_right (by omega),hA,hm,Nat.sub_self,List.replicate_succ]
 rfl
theorem DW {W w1:World} (hb:Below W.heap.size W w1):W.grownBy w1 none:=⟨hb.os,hb.tape,hb.output,hb.size,fun k hk _=>hb.block k hk⟩
theorem jl {B:Nat} {a b:World} (h:Below B a.drew b):Below B a b:=⟨h.os,h.tape,h.output,h.size,h.block⟩
theorem ML {w wr w4:World} {g n k:Nat} {sec non text:List UInt8} (b:UInt8) (o:Obj) (hbt:text.getD k 0=b)
  (h:wr.ownsRow w.heap.size 5 1 (.slice (some ⟨g,0,none⟩) n n) n (qw (Qj sec non text k)++List.replicate (n - k) (.int .u8 0))) (hk:k < n)
  (hB:Below w.heap.size w wr) (hG:g < wr.heap.size) (hb4:Below wr.heap.size wr w4) :
  ((w4.setCell ⟨g,k,none⟩ (.int .u8 (bits .xor .u8 (b.toNat:Int) (Nm sec non k % 256)))).alloc o).ownsRow w.heap.size 5 1 (.slice (some ⟨g,0,none⟩) n n) n (qw (Qj sec non text (k+1))++List.replicate (n - (k+1)) (.int .u8 0)) ∧
  Below w.heap.size w ((w4.setCell ⟨g,k,none⟩ (.int .u8 (bits .xor .u8 (b.toNat:Int) (Nm sec non k % 256)))).alloc o) ∧
  g < ((w4.setCell ⟨g,k,none⟩ (.int .u8 (bits .xor .u8 (b.toNat:Int) (Nm sec non k % 256)))).alloc o).heap.size:=by
 subst hbt
 rw [Ld]
 have h4:=h.kept (DW hb4) (.inr (by simp [Value.ownBlock]))
 have hg:=(h.lt g rfl).1
 have hz:=hb4.size
 have hz0:=hB.size
 refine ⟨(PL h4 hk).alloc _,?_,?_⟩
 ·exact ((hB.trans (hb4.mono hz0)).setCell hg _).alloc (by simp;omega) _
 ·simp;omega
theorem Du {W:World} {base g n cap:Nat} {l:List UInt8} (h:W.ownsRow base 5 1 (.slice (some ⟨g,0,none⟩) n cap) n (qw l)) (hl:l.length=n) :
  Sem.run Tryz.prog (convert 64 9 (.slice (some ⟨g,0,none⟩) n cap)) W=.ok (strB l) W:=by
 subst hl
 refine run_convert_bytes_back (P:=Tryz.prog) _ 64 9 5 ⟨g,0,none⟩ cap l Tryz.underlying64 Tryz.underlying5 Tryz.underlying9 ?_
 intro j hj
 have:(⟨g,0,none⟩:Addr).add j=⟨g,j,none⟩:=by unfold Addr.add;split<;>simp_all
 rw [this,h.cellAt j (by omega)]
 simp [qw,hj]
theorem Pr (s:ByteArray) (k:Nat) (h:k < s.size):s.data.toList.getD k 0=s[k]:=by
 have h':k < s.data.toList.length:=by simpa using h
 simp only [List.getD,List.getElem?_eq_getElem h',Option.getD_some]
 simp
 rfl
theorem Tt (l:List UInt8):xH [⟨l.toArray⟩]=l:=by simp [xH]
theorem TV (sec non:ByteArray):xH [⟨#[75]⟩,sec,non]=75 :: (sec.data.toList++non.data.toList):=by
 simp [xH]
theorem Dl (sec non text:ByteArray) (w:World) (h1:sec.size≤maxLen) (h2:non.size≤maxLen) (h3:text.size≤5000) :
  Calls Tryz.prog 89 #[.string sec,.string non,.string text] w fun e w' =>
   e=.returned (strB (zC sec.data.toList non.data.toList text.data.toList))∧Below w.heap.size w w':=by
 obtain ⟨i0,hi,hz0,hz1,hz2⟩:=info_parts Tryz.infoU8
 go_enter Tryz.func89,Tryz.ntmps89
 go_wp2_with fail
 refine (To [⟨#[75]⟩,sec,non] _ 3 w rfl rfl (by decide) ?_).mono ?_
 ·intro x hx
  simp only [List.mem_cons,List.not_mem_nil,or_false] at hx
  rcases hx with rfl|rfl|rfl
  ·decide
  ·exact h1
  ·exact h2
 rintro e w2 ⟨rfl,rfl⟩
 rw [TV]
 have hr:=Zm (75 :: (sec.data.toList++non.data.toList)) 1 (by decide) (by decide)
 obtain ⟨hr1,hr2⟩:=hr
 have HK:Hid (∀ i:Nat,QP (QP 1 (75 :: (sec.data.toList++non.data.toList))) (qz i)=Nm sec.data.toList non.data.toList i):=by
  intro i;rw [← Ue];rfl
 generalize QP 1 (75 :: (sec.data.toList++non.data.toList))=t at *
 go_wp2_with (at_make;refine wpList_make_full _ rfl (.tmp 15) (.tmp 15) 64 rfl w.heap.size 5 i0 (.int .u8 0) 1 Tryz.underlying64 hi hz0 hz1 .i64 .i64 _ _ text.size rfl rfl rfl rfl (by rw [hz2];omega) (by unfold maxLen;omega) (by simp) ?_;intro w3 hown hgr)
 have hg:(w.alloc (Obj.cells #[Value.string ⟨#[75]⟩,Value.string sec,Value.string non] 9)).heap.size=w.heap.size+1:=by simp
 rw [hg] at hown
 have hB3:Below w.heap.size w w3:=((Below.refl _ _).alloc (Nat.le_refl _) _).grown hgr (by rw [hg];omega) (fun _ h=>by cases h)
 have hG3:w.heap.size+1 < w3.heap.size:=(hown.lt _ rfl).2
 have hst:(madeCells (Value.int IntKind.u8 0).cells (text.size*1)).toList=qw (Qj sec.data.toList non.data.toList text.data.toList 0)++List.replicate (text.size - 0) (.int .u8 0):=by
  show (madeCells #[Value.int IntKind.u8 0] (text.size*1)).toList=_
  rw [toList_madeCells_one];simp [qw,Qj]
 rw [hst] at hown
 clear hst hgr hg
 generalize w.heap.size+1=g at *
 go_loopw [19] (fun i wr=>∃ k:Nat,k≤text.size∧i=.int .i64 k∧wr.ownsRow w.heap.size 5 1 (.slice (some ⟨g,0,none⟩) text.size text.size) text.size (qw (Qj sec.data.toList non.data.toList text.data.toList k)++List.replicate (text.size - k) (.int .u8 0))∧Below w.heap.size w wr∧g < wr.heap.size)
  (fun i _=>text.size - (intOf i).toNat)
 case atStart=>exact ⟨0,Nat.zero_le _,rfl,hown,hB3,hG3⟩
 case round =>
  clear hown hB3 hG3
  obtain ⟨k,hk,rfl,hown,hB,hG⟩:=hrel
  by_cases hlt:k < text.size
  ·have hkt:=HK.out k
   have hc0:=Sl hown (by simp [qw,ZZ]) hlt
   have hf0:=hown.frozenAt k
   obtain ⟨hkr1,hkr2⟩:=DU sec.data.toList non.data.toList k
   have hgd:=Pr text k hlt
   have Hgd:=hid hgd
   clear hgd
   go_wp2_with fail
   go_region_with (first
    | (go_at_call 100;refine (Qf _ _ (by omega) (by omega)).mono ?_;rintro e w4 ⟨rfl,hb4⟩;have f0:g < w4.heap.size:=Nat.lt_of_lt_of_le hG hb4.size;have f1:w4.cell? ⟨g,k,none⟩=some (.int .u8 0):=(hb4.cell (p:=⟨g,k,none⟩) hG).trans hc0;have f2:w4.frozen? ⟨g,k,none⟩=false:=(hb4.frozen (p:=⟨g,k,none⟩) hG).trans hf0)
    | (go_at_call 117;refine (Sr t [⟨(qz (k:Int)).toArray⟩] _ 1 _ hr1 hr2 rfl rfl (by decide) (by intro x hx;simp only [List.mem_cons,List.not_mem_nil,or_false] at hx;subst hx;rw [jM,jx];decide)).mono ?_;rintro e w5 ⟨rfl,rfl⟩;rw [Tt,hkt]))
   all_goals
    have R:=ML (text[k]'hlt) (Obj.cells #[Value.string ⟨(qz (k:Int)).toArray⟩] 9) Hgd.out hown hlt hB hG (jl hb4)
    clear hc0 hf0 f0 f1 f2 hb4 hkt hown hB hG
    have HR:=hid R
    clear R
    go_wp2
    go_roundw
    case rel=>exact ⟨k+1,by omega,by go_num,HR.out.1,HR.out.2.1,HR.out.2.2⟩
    case measure=>simp [intOf];omega
  ·have hke:k=text.size:=by omega
   subst hke
   have hcv:=Du (l:=zC sec.data.toList non.data.toList text.data.toList) (by simpa [zC] using hown) (by simp [JN])
   go_wp2
   go_ret
   exact ⟨rfl,hB⟩
end
end Go.Proofs.YthhpbhpfagoapabGreat
