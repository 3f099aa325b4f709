import Derived.Test.YthhpbhpfagoapaaGreatRows
import Derived.WalkKit
import Derived.Laws.BitsAllLaws
import Derived.WalkSpells
import Derived.WalkLawsBesides
import Derived.Laws.IdiomStrings
namespace Go.Proofs.YthhpbhpfagoapaaGreat
set_option linter.unusedVariables false
set_option linter.unusedSimpArgs false
set_option maxRecDepth 100000
set_option maxHeartbeats 16000000
section
set_option linter.defProp false
def aa:=@Nat.lt_of_lt_of_le
def ab:=@List.length_append
def ae:=@Nat.le_refl
def af:=@List.append_assoc
def ag:=@Array.getElem?_eq_some_iff
def ah:=@Nat.zero_le
def ai:=@List.ne_nil_of_length_pos
def aj:=@if_neg
def al:=@List.getElem_mem
def an:=@List.length_drop
def ao:=@List.eq_nil_of_length_eq_zero
def aq:=@List.length_take
def ar:=@Nat.le_trans
def au:=@Bool.and_eq_true
def aw:=@if_pos
def ax:=@List.take_succ_eq_append_getElem
def ay:=@List.getElem?_eq_getElem
def az:=@decide_eq_true_eq
def aA:=@List.getElem?_eq_some_iff
def aB:=@List.append_nil
def aC:=@List.take_of_length_le
def aD:=@List.take_append_drop
def aE:=@List.length_replicate
def aF:=@List.take_length
def aG:=@World.block_lt_of_cell?
def aH:=@List.length_cons
def aI:=@Nat.lt_of_lt_of_eq
def aJ:=@List.mem_cons_of_mem
def aK:=@List.cons_append
def aL:=@Nat.lt_succ_self
def aM:=@List.mem_append
def aN:=@List.drop_eq_getElem_cons
def aO:=@List.getElem_cons_zero
def aP:=@Option.some.injEq
def aQ:=@beq_eq_false_iff_ne
def aR:=@List.length_nil
def aS:=@decide_eq_false
def aT:=@congrArg
def aU:=@List.getElem?_append_right
def aV:=@List.append_inj
def aW:=@List.cons.injEq
def aX:=@List.nil_append
def aY:=@Int.toNat_natCast
def aZ:=@List.getElem_drop
def a9:=@List.flatMap_cons
def ba:=@List.mem_cons
def bc:=@World.cell?_setCell_same
def bf:=@List.flatMap_append
def bg:=@List.mem_of_mem_take
def bj:=@List.getElem_toArray
def bk:=@Int.eq_ofNat_of_zero_le
def bl:=@Bool.false_eq_true
def bm:=@List.getElem?_cons_zero
def bn:=@List.getElem?_cons_succ
def bo:=@List.mem_cons_self
def bs:=@List.not_mem_nil
def bt:=@List.range_succ
def bu:=@Result.andThen_ok
def bw:=@List.getElem?_toArray
def bx:=@Nat.mul_le_mul
def bz:=@List.drop_drop
def bA:=@List.getElem?_append_left
def bC:=@List.mem_replicate
def bD:=@List.all_eq_true
def bE:=@List.length_filter_le
def bF:=@Value.slice.injEq
def bG:=@if_true
def bH:=@And.intro
def bI:=@Nat.add_assoc
def bJ:=@List.mem_filter
def bK:=@Nat.zero_add
def bL:=@Nat.succ_mul
def bM:=@List.flatten_append
def bN:=@List.mem_map
def bO:=@List.drop_left'
def bP:=@Sem.run_pure
def bQ:=@Sem.run_bind
def bS:=@UInt8.toNat_ofNat'
def bT:=@List.mem_flatMap
def bU:=@if_false
def bV:=@Prod.mk.injEq
def bW:=@List.mem_range
def bY:=@List.getElem_replicate
def bZ:=@List.getElem_cons_succ
def b8:=@List.take_succ_cons
def b9:=@List.length_pos_iff
def ch:=@List.length_map
def cj:=@Bool.or_eq_true
def cl:=@Classical.byContradiction
def cq:=@List.getElem?_eq_none
def cr:=@List.mem_singleton
def cu:=@List.filter_append
def cw:=@Nat.mod_eq_of_lt
def cx:=@List.ext_getElem
def cy:=@Addr.mk.injEq
def cz:=@List.mem_iff_getElem
def cA:=@List.mem_of_getElem?
def cB:=@List.take_append_of_le_length
def cC:=@decide_eq_false_iff_not
def cD:=@List.getElem_take
def cE:=@List.append_cancel_left
def cF:=@UInt8.toNat_inj
def cG:=@and_true
def cH:=@decide_eq_true
def cI:=@beq_iff_eq
def cJ:=@Decidable.not_not
def cK:=@List.map_cons
def cL:=@List.replicate_succ
def cM:=@or_false
def cN:=@Option.bind_some
def cO:=@List.any_eq_true
def cP:=@Nat.add_zero
def cQ:=@Nat.eq_zero_or_pos
def cR:=@Nat.lt_or_ge
def cS:=@Nat.min_eq_left
def cT:=@List.map_append
def cU:=@List.dropLast_concat_getLast
def cV:=@List.set_append_right
def cW:=@Bool.and_eq_false_iff
def cX:=@List.getElem?_map
def cY:=@List.take_add_one
def cZ:=@Classical.not_not
def db:=@Nat.two_pow_add_eq_or_of_lt
end
section
open Go.RowKit
def Ju:Int→List UInt8→Int
 | s,[]=>s
 | s,b :: l=>Ju ((s*263+(b.toNat:Int)+1) % 65521) l
theorem KG (l m:List UInt8):∀ s:Int,Ju s (l++m)=Ju (Ju s l) m:=by
 induction l with
 | nil=>intro s;rfl
 | cons b l ih=>intro s;simp only [aK,Ju];exact ih _
theorem Yt (s:Int) (l:List UInt8) (b:UInt8):Ju s (l++[b])=(Ju s l*263+(b.toNat:Int)+1) % 65521:=by
 rw [KG];rfl
theorem Qr (l:List UInt8):∀ s:Int,0≤s→s≤65520→0≤Ju s l∧Ju s l≤65520:=by
 induction l with
 | nil=>intro s h0 h1;exact ⟨h0,h1⟩
 | cons b l ih=>intro s h0 h1;exact ih _ (by omega) (by omega)
def qE (n:Int):List UInt8:=[UInt8.ofNat (n % 256).toNat,UInt8.ofNat (n / 256).toNat]
theorem jG (n:Int):(qE n).length=2:=rfl
def Ul (sec non:List UInt8) (i:Nat):Int:=Ju 1 (75 :: (sec++non++qE i))
theorem Rj (sec non:List UInt8) (i:Nat):0≤Ul sec non i∧Ul sec non i≤65520:=Qr _ 1 (by omega) (by omega)
def Rt (b:UInt8) (k:Int):Nat:=b.toNat ^^^ (k % 256).toNat
theorem Lh (b:UInt8) (k:Int):Rt b k < 256:=by
 unfold Rt
 exact Nat.xor_lt_two_pow (n:=8) (by have:=b.toNat_lt;omega) (by omega)
theorem Ax (b:UInt8) (k:Int):bits .xor .u8 (b.toNat:Int) (k % 256)=(Rt b k:Int):=by
 have hb:=b.toNat_lt
 rw [u8_xor _ _ (by omega) (by omega) (by omega) (by omega)]
 simp [Rt]
def RP (b:UInt8) (k:Int):UInt8:=UInt8.ofNat (Rt b k)
theorem UC (b:UInt8) (k:Int):(RP b k).toNat=Rt b k:=by
 unfold RP
 simp only [bS]
 exact cw (Lh b k)
theorem Ce (b:UInt8) (k:Int):RP (RP b k) k=b:=by
 have h:Rt (RP b k) k=b.toNat:=by
  unfold Rt
  rw [UC]
  unfold Rt
  rw [Nat.xor_assoc,Nat.xor_self,Nat.xor_zero]
 unfold RP at h ⊢
 rw [h]
 exact UInt8.ofNat_toNat
theorem Mn (l:List UInt8) (i:Nat) (h:i < l.length):l.getD i 0=l[i]:=by simp [List.getD,h]
def Ji (sec non text:List UInt8) (k:Nat):List UInt8:=(List.range k).map fun i=>RP (text.getD i 0) (Ul sec non i)
theorem Zw (sec non text:List UInt8) (k:Nat):(Ji sec non text k).length=k:=by simp [Ji]
theorem GR (sec non text:List UInt8) (k:Nat):Ji sec non text (k+1)=Ji sec non text k++[RP (text.getD k 0) (Ul sec non k)]:=by
 simp [Ji,bt]
def zw (sec non text:List UInt8):List UInt8:=Ji sec non text text.length
theorem zP (sec non text:List UInt8):(zw sec non text).length=text.length:=Zw _ _ _ _
theorem ET (sec non text:List UInt8):zw sec non (zw sec non text)=text:=by
 apply cx
 ·simp [zP]
 ·intro i h1 h2
  have e:(zw sec non (zw sec non text))[i]=RP ((zw sec non text).getD i 0) (Ul sec non i):=by
   simp [zw,Ji]
  have e2:(zw sec non text).getD i 0=RP (text.getD i 0) (Ul sec non i):=by
   have:i < (zw sec non text).length:=by rw [zP];exact h2
   rw [Mn _ _ this]
   simp [zw,Ji]
  rw [e,e2,Ce,Mn _ _ h2]
def RO (sec non ext cip:List UInt8):List UInt8:=qE (Ju 1 (84 :: (sec++non++qE (ext.length:Int)++ext++cip)))
def XU (sec non ext plain:List UInt8):List UInt8:=zw sec non plain++RO sec non ext (zw sec non plain)
theorem ZU (sec non ext plain:List UInt8):(XU sec non ext plain).length=plain.length+2:=by
 simp [XU,zP,RO,qE]
end
section
open Go.RowKit
theorem hid {p:Prop} (h:p):Hid p:=h
abbrev strB (l:List UInt8):Value:=.string ⟨l.toArray⟩
theorem qC {l m:List UInt8} (h:l=m):Ending.returned (strB l)=.returned (strB m):=by rw [h]
theorem Sn (n:Int):bits .and .i64 n 255=n % 256:=by
 have h255:(BitVec.ofInt 64 255).toNat=2 ^ 8 - 1:=by decide
 have key:(BitVec.ofInt 64 n &&& BitVec.ofInt 64 255).toNat=(n % ((2 ^ 64:Nat):Int)).toNat % 2 ^ 8:=by
  rw [BitVec.toNat_and,BitVec.toNat_ofInt,h255,Nat.and_two_pow_sub_one_eq_mod]
 show IntKind.i64.wrap ((BitVec.ofInt 64 n &&& BitVec.ofInt 64 255).toNat:Nat)=n % 256
 rw [key,IntKind.wrap_i64]
 omega
theorem It (w:World) (a b:Int) (ha:0≤a) (ha':a≤255) (hb:0≤b) (hb':b≤255) :
  Sem.run Tryz.prog (convert 149 9 (.slice (some ⟨w.heap.size,0,none⟩) 2 2)) (w.alloc (.cells #[.int .u8 a,.int .u8 b] 5)) =
   .ok (strB [UInt8.ofNat a.toNat,UInt8.ofNat b.toNat]) (w.alloc (.cells #[.int .u8 a,.int .u8 b] 5)):=by
 refine run_convert_bytes_back (P:=Tryz.prog) _ 149 9 5 ⟨w.heap.size,0,none⟩ 2 [UInt8.ofNat a.toNat,UInt8.ofNat b.toNat] Tryz.underlying149 Tryz.underlying5 Tryz.underlying9 ?_
 intro j hj
 match j,hj with
 | 0,_=>simp [Addr.add];omega
 | 1,_=>simp [Addr.add];omega
theorem KV (n:Int) (w:World) (h0:0≤n) (h1:n≤65535) :
  Calls Tryz.prog 220 #[.int .i64 n] w fun e w'=>e=.returned (strB (qE n))∧Below w.heap.size w w':=by
 have hc:=It w (n % 256) (n / 256) (by omega) (by omega) (by omega) (by omega)
 go_enter Tryz.func220,Tryz.ntmps220
 go_wp2
 go_ret
 exact ⟨rfl,(Below.refl _ _).alloc (ae _) _⟩
theorem QP (n:Int) (w:World) (h0:0≤n) (h1:n≤65535) :
  Calls Tryz.prog 84 #[.int .i64 n] w fun e w'=>e=.returned (strB (qE n))∧Below w.heap.size w w':=by
 have hc:=It w (n % 256) (n / 256) (by omega) (by omega) (by omega) (by omega)
 have e1:bits .and .i64 n 255=n % 256:=Sn n
 have e2:bits .and .i64 (n / 256) 255=n / 256:=by rw [Sn];omega
 go_enter Tryz.func84,Tryz.ntmps84
 go_wp2
 go_ret
 exact ⟨rfl,(Below.refl _ _).alloc (ae _) _⟩
theorem KZ (s:ByteArray) (k:Nat) (h:k < s.size):s.data.toList.take (k+1)=s.data.toList.take k++[s[k]]:=by
 rw [ax (by simpa using h)];rfl
theorem xm {k:IntKind} {a b:Int} (h:a=b):Ending.returned (.int k a)=.returned (.int k b):=by rw [h]
theorem Ra (s:ByteArray) (w:World) (hs:s.size≤maxLen) :
  Calls Tryz.prog 123 #[.string s] w fun e w'=>e=.returned (.int .i64 (Ju 1 s.data.toList))∧w'=w:=by
 unfold maxLen at hs
 go_enter Tryz.func123,Tryz.ntmps123
 go_wp2
 go_loop [3,4] (fun t i=>∃ k:Nat,k≤s.size∧i=.int .i64 k∧t=.int .i64 (Ju 1 (s.data.toList.take k))) (fun _ i=>s.size - (intOf i).toNat)
 case atStart=>exact ⟨0,ah _,rfl,rfl⟩
 case round =>
  obtain ⟨k,hk,rfl,rfl⟩:=hrel
  have hd:=Qr (s.data.toList.take k) 1 (by omega) (by omega)
  obtain ⟨hd1,hd2⟩:=hd
  by_cases hlt:k < s.size
  ·have hbt:=(s[k]'hlt).toNat_lt
   have HS:Hid (Ju 1 (s.data.toList.take (k+1))=(Ju 1 (s.data.toList.take k)*263+((s[k]'hlt).toNat:Int)+1) % 65521):=by
    rw [KZ s k hlt];exact Yt _ _ _
   go_wp2
   go_round
   case rel=>exact ⟨k+1,by omega,by go_num,by rw [HS.out,Int.mul_comm]⟩
   case measure=>simp [intOf];omega
  ·go_wp2
   go_ret
   exact ⟨xm (by rw [aC (by simp;omega)]),rfl⟩
def xQ (parts:List ByteArray):List UInt8:=parts.flatMap (·.data.toList)
theorem UM (parts:List ByteArray) (k:Nat) (h:k < parts.length):xQ (parts.take (k+1))=xQ (parts.take k)++parts[k].data.toList:=by
 unfold xQ
 rw [ax h]
 simp only [bf,a9,List.flatMap_nil,aB]
theorem YD (s0:Int) (parts:List ByteArray) (b cap:Nat) (w:World) (h0:0≤s0) (h1:s0≤65520) (hn:parts.length≤1000)
  (hs:∀ x ∈ parts,x.size≤maxLen)
  (hc:∀ j (h:j < parts.length),w.cell? ⟨b,j,none⟩=some (.string parts[j])) :
  Calls Tryz.prog 264 #[.int .i64 s0,.slice (some ⟨b,0,none⟩) parts.length cap] w fun e w'=>e=.returned (.int .i64 (Ju s0 (xQ parts)))∧w'=w:=by
 go_enter Tryz.func264,Tryz.ntmps264
 go_wp2
 go_loop [0,10] (fun t i=>∃ k:Nat,k≤parts.length∧i=.int .i64 k∧t=.int .i64 (Ju s0 (xQ (parts.take k)))) (fun _ i=>parts.length - (intOf i).toNat)
 case atStart=>exact ⟨0,ah _,rfl,rfl⟩
 case round =>
  obtain ⟨k,hk,rfl,rfl⟩:=hrel
  by_cases hlt:k < parts.length
  ·have hck:=hc k hlt
   have hsz:(parts[k]'hlt).size≤maxLen:=hs _ (al hlt)
   unfold maxLen at hsz
   have HS:Hid (Ju s0 (xQ (parts.take (k+1)))=Ju (Ju s0 (xQ (parts.take k))) (parts[k]'hlt).data.toList):=by
    rw [UM parts k hlt,KG];exact rfl
   obtain ⟨hd1,hd2⟩:=Qr (xQ (parts.take k)) s0 h0 h1
   generalize Ju s0 (xQ (parts.take k))=t0 at *
   generalize (parts[k]'hlt)=part at *
   clear hc hs
   go_wp2
   go_loop [0,16] (fun t i=>∃ m:Nat,m≤part.size∧i=.int .i64 m∧t=.int .i64 (Ju t0 (part.data.toList.take m))) (fun _ i=>part.size - (intOf i).toNat)
   case atStart=>exact ⟨0,ah _,rfl,rfl⟩
   case round =>
    obtain ⟨m,hm,rfl,rfl⟩:=hrel
    obtain ⟨he1,he2⟩:=Qr (part.data.toList.take m) t0 hd1 hd2
    by_cases hlm:m < part.size
    ·have hbt:=(part[m]'hlm).toNat_lt
     have HT:Hid (Ju t0 (part.data.toList.take (m+1))=(Ju t0 (part.data.toList.take m)*263+((part[m]'hlm).toNat:Int)+1) % 65521):=by
      rw [KZ part m hlm];exact Yt _ _ _
     go_wp2
     go_round
     case rel=>exact ⟨m+1,by omega,by go_num,by rw [HT.out]⟩
     case measure=>simp [intOf];omega
    ·go_wp2
     go_round
     case rel=>exact ⟨k+1,by omega,by go_num,by rw [HS.out,aC (by simp;omega)]⟩
     case measure=>simp [intOf];omega
  ·go_wp2
   go_ret
   exact ⟨xm (by rw [aC (by omega)]),rfl⟩
theorem SH (parts:List ByteArray) (b cap:Nat) (w:World) (hn:parts.length≤1000)
  (hs:∀ x ∈ parts,x.size≤maxLen)
  (hc:∀ j (h:j < parts.length),w.cell? ⟨b,j,none⟩=some (.string parts[j])) :
  Calls Tryz.prog 263 #[.slice (some ⟨b,0,none⟩) parts.length cap] w fun e w'=>e=.returned (.int .i64 (Ju 1 (xQ parts)))∧w'=w:=by
 have Hc:=hid hc
 have Hs:=hid hs
 clear hc hs
 go_enter Tryz.func263,Tryz.ntmps263
 go_wp2_with fail
 refine (YD 1 parts b cap w (by decide) (by decide) hn Hs.out Hc.out).mono ?_
 rintro e w' ⟨rfl,rfl⟩
 go_wp2
 go_ret
 exact ⟨rfl,rfl⟩
theorem GJ (w:World) (parts:List ByteArray) (C:Array Value) (hC:C=(parts.map Value.string).toArray) (t:TypeId) :
  ∀ j (h:j < parts.length),(w.alloc (.cells C t)).cell? ⟨w.heap.size,j,none⟩=some (.string parts[j]):=by
 intro j h
 rw [World.cell?_alloc_mark,hC]
 simp [h]
theorem MC (parts:List ByteArray) (C:Array Value) (n:Nat) (w:World) (hC:C=(parts.map Value.string).toArray) (hl:parts.length=n) (hn:n≤1000) (hs:∀ x ∈ parts,x.size≤maxLen) :
  Calls Tryz.prog 263 #[.slice (some ⟨w.heap.size,0,none⟩) n n] (w.alloc (.cells C 9)) fun e w'=>e=.returned (.int .i64 (Ju 1 (xQ parts)))∧w.alloc (.cells C 9)=w':=by
 subst hl
 refine (SH parts w.heap.size parts.length _ hn hs (GJ w parts C hC _)).mono ?_
 rintro e w' ⟨h1,h2⟩
 exact ⟨h1,h2.symm⟩
theorem CX (s0:Int) (parts:List ByteArray) (C:Array Value) (n:Nat) (w:World) (h0:0≤s0) (h1:s0≤65520) (hC:C=(parts.map Value.string).toArray) (hl:parts.length=n) (hn:n≤1000) (hs:∀ x ∈ parts,x.size≤maxLen) :
  Calls Tryz.prog 264 #[.int .i64 s0,.slice (some ⟨w.heap.size,0,none⟩) n n] (w.alloc (.cells C 9)) fun e w'=>e=.returned (.int .i64 (Ju s0 (xQ parts)))∧w.alloc (.cells C 9)=w':=by
 subst hl
 refine (YD s0 parts w.heap.size parts.length _ h0 h1 hn hs (GJ w parts C hC _)).mono ?_
 rintro e w' ⟨h1,h2⟩
 exact ⟨h1,h2.symm⟩
theorem jR (l:List UInt8):(⟨l.toArray⟩:ByteArray).size=l.length:=by simp [ByteArray.size]
end
end Go.Proofs.YthhpbhpfagoapaaGreat
