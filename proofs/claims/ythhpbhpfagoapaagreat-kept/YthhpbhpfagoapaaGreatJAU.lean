import Derived.WalkKit
import Derived.Laws.BitsAllLaws
import Derived.Test.YthhpbhpfagoapaaGreatRows
import Derived.WalkSpells
import Derived.WalkLawsBesides
import Derived.Laws.IdiomStrings
import Derived.Deep.RegionWith
namespace Go.Proofs.YthhpbhpfagoapaaGreat
set_option linter.unusedVariables false
set_option linter.unusedSimpArgs false
set_option maxRecDepth 100000
set_option maxHeartbeats 16000000
open Go.RowKit
section
def Qd:Int→List UInt8→Int
 | s,[]=>s
 | s,b :: l=>Qd ((s*263+(b.toNat:Int)+1) % 65521) l
theorem Ks (l m:List UInt8):∀ s:Int,Qd s (l++m)=Qd (Qd s l) m:=by
 induction l with
 | nil=>intro s;rfl
 | cons b l ih=>intro s;simp only [List.cons_append,Qd];exact ih _
theorem Mf (s:Int) (l:List UInt8) (b:UInt8):Qd s (l++[b])=(Qd s l*263+(b.toNat:Int)+1) % 65521:=by
 rw [Ks];rfl
theorem XG (l:List UInt8):∀ s:Int,0≤s→s≤65520→0≤Qd s l∧Qd s l≤65520:=by
 induction l with
 | nil=>intro s h0 h1;exact ⟨h0,h1⟩
 | cons b l ih=>intro s h0 h1;exact ih _ (by omega) (by omega)
def qv (n:Int):List UInt8:=[UInt8.ofNat (n % 256).toNat,UInt8.ofNat (n / 256).toNat]
theorem jv (n:Int):(qv n).length=2:=rfl
def Gi (sec non:List UInt8) (i:Nat):Int:=Qd 1 (75 :: (sec++non++qv i))
theorem Au (sec non:List UInt8) (i:Nat):0≤Gi sec non i∧Gi sec non i≤65520:=XG _ 1 (by omega) (by omega)
def Nz (b:UInt8) (k:Int):Nat:=b.toNat ^^^ (k % 256).toNat
theorem PR (b:UInt8) (k:Int):Nz b k < 256:=by
 unfold Nz
 exact Nat.xor_lt_two_pow (n:=8) (by have:=b.toNat_lt;omega) (by omega)
theorem TW (b:UInt8) (k:Int):bits .xor .u8 (b.toNat:Int) (k % 256)=(Nz b k:Int):=by
 have hb:=b.toNat_lt
 rw [u8_xor _ _ (by omega) (by omega) (by omega) (by omega)]
 simp [Nz]
def Rc (b:UInt8) (k:Int):UInt8:=UInt8.ofNat (Nz b k)
theorem Nf (b:UInt8) (k:Int):(Rc b k).toNat=Nz b k:=by
 unfold Rc
 simp only [UInt8.toNat_ofNat']
 exact Nat.mod_eq_of_lt (PR b k)
theorem MV (b:UInt8) (k:Int):Rc (Rc b k) k=b:=by
 have h:Nz (Rc b k) k=b.toNat:=by
  unfold Nz
  rw [Nf]
  unfold Nz
  rw [Nat.xor_assoc,Nat.xor_self,Nat.xor_zero]
 unfold Rc at h ⊢
 rw [h]
 exact UInt8.ofNat_toNat
theorem DU (l:List UInt8) (i:Nat) (h:i < l.length):l.getD i 0=l[i]:=by simp [List.getD,h]
def JB (sec non text:List UInt8) (k:Nat):List UInt8:=(List.range k).map fun i=>Rc (text.getD i 0) (Gi sec non i)
theorem Zm (sec non text:List UInt8) (k:Nat):(JB sec non text k).length=k:=by simp [JB]
theorem Ie (sec non text:List UInt8) (k:Nat):JB sec non text (k+1)=JB sec non text k++[Rc (text.getD k 0) (Gi sec non k)]:=by
 simp [JB,List.range_succ]
def zo (sec non text:List UInt8):List UInt8:=JB sec non text text.length
theorem Jl (sec non text:List UInt8):(zo sec non text).length=text.length:=Zm _ _ _ _
theorem VF (sec non text:List UInt8):zo sec non (zo sec non text)=text:=by
 apply List.ext_getElem
 ·simp [Jl]
 ·intro i h1 h2
  have e:(zo sec non (zo sec non text))[i]=Rc ((zo sec non text).getD i 0) (Gi sec non i):=by
   simp [zo,JB]
  have e2:(zo sec non text).getD i 0=Rc (text.getD i 0) (Gi sec non i):=by
   have:i < (zo sec non text).length:=by rw [Jl];exact h2
   rw [DU _ _ this]
   simp [zo,JB]
  rw [e,e2,MV,DU _ _ h2]
def GU (sec non ext cip:List UInt8):List UInt8:=qv (Qd 1 (84 :: (sec++non++qv (ext.length:Int)++ext++cip)))
def xV (sec non ext plain:List UInt8):List UInt8:=zo sec non plain++GU sec non ext (zo sec non plain)
theorem xK (sec non ext plain:List UInt8):(xV sec non ext plain).length=plain.length+2:=by
 simp [xV,Jl,GU,qv]
end
section
theorem hid {p:Prop} (h:p):Hid p:=h
abbrev strB (l:List UInt8):Value:=.string ⟨l.toArray⟩
theorem qT {l m:List UInt8} (h:l=m):Ending.returned (strB l)=.returned (strB m):=by rw [h]
theorem IM (w:World) (a b:Int) (ha:0≤a) (ha':a≤255) (hb:0≤b) (hb':b≤255) :
  Sem.run Tryz.prog (convert 149 9 (.slice (some ⟨w.heap.size,0,none⟩) 2 2)) (w.alloc (.cells #[.int .u8 a,.int .u8 b] 5)) =
   .ok (strB [UInt8.ofNat a.toNat,UInt8.ofNat b.toNat]) (w.alloc (.cells #[.int .u8 a,.int .u8 b] 5)):=by
 refine run_convert_bytes_back (P:=Tryz.prog) _ 149 9 5 ⟨w.heap.size,0,none⟩ 2 [UInt8.ofNat a.toNat,UInt8.ofNat b.toNat] Tryz.underlying149 Tryz.underlying5 Tryz.underlying9 ?_
 intro j hj
 match j,hj with
 | 0,_=>simp [Addr.add];omega
 | 1,_=>simp [Addr.add];omega
theorem Jx (n:Int) (w:World) (h0:0≤n) (h1:n≤65535) :
  Calls Tryz.prog 220 #[.int .i64 n] w fun e w'=>e=.returned (strB (qv n))∧Below w.heap.size w w':=by
 have hc:=IM w (n % 256) (n / 256) (by omega) (by omega) (by omega) (by omega)
 go_enter Tryz.func220,Tryz.ntmps220
 go_wp2
 go_ret
 exact ⟨rfl,(Below.refl _ _).alloc (Nat.le_refl _) _⟩
theorem Rp (s:ByteArray) (k:Nat) (h:k < s.size):s.data.toList.take (k+1)=s.data.toList.take k++[s[k]]:=by
 rw [List.take_succ_eq_append_getElem (by simpa using h)];rfl
theorem qY {k:IntKind} {a b:Int} (h:a=b):Ending.returned (.int k a)=.returned (.int k b):=by rw [h]
def xj (parts:List ByteArray):List UInt8:=parts.flatMap (·.data.toList)
theorem Um (parts:List ByteArray) (k:Nat) (h:k < parts.length):xj (parts.take (k+1))=xj (parts.take k)++parts[k].data.toList:=by
 unfold xj
 rw [List.take_succ_eq_append_getElem h]
 simp only [List.flatMap_append,List.flatMap_cons,List.flatMap_nil,List.append_nil]
theorem RI (s0:Int) (parts:List ByteArray) (b cap:Nat) (w:World) (h0:0≤s0) (h1:s0≤65520) (hn:parts.length≤1000)
  (hs:∀ x ∈ parts,x.size≤maxLen)
  (hc:∀ j (h:j < parts.length),w.cell? ⟨b,j,none⟩=some (.string parts[j])) :
  Calls Tryz.prog 264 #[.int .i64 s0,.slice (some ⟨b,0,none⟩) parts.length cap] w fun e w'=>e=.returned (.int .i64 (Qd s0 (xj parts)))∧w'=w:=by
 go_enter Tryz.func264,Tryz.ntmps264
 go_wp2
 go_loop [0,10] (fun t i=>∃ k:Nat,k≤parts.length∧i=.int .i64 k∧t=.int .i64 (Qd s0 (xj (parts.take k)))) (fun _ i=>parts.length - (intOf i).toNat)
 case atStart=>exact ⟨0,Nat.zero_le _,rfl,rfl⟩
 case round =>
  obtain ⟨k,hk,rfl,rfl⟩:=hrel
  by_cases hlt:k < parts.length
  ·have hck:=hc k hlt
   have hsz:(parts[k]'hlt).size≤maxLen:=hs _ (List.getElem_mem hlt)
   unfold maxLen at hsz
   have HS:Hid (Qd s0 (xj (parts.take (k+1)))=Qd (Qd s0 (xj (parts.take k))) (parts[k]'hlt).data.toList):=by
    rw [Um parts k hlt,Ks];exact rfl
   obtain ⟨hd1,hd2⟩:=XG (xj (parts.take k)) s0 h0 h1
   generalize Qd s0 (xj (parts.take k))=t0 at *
   generalize (parts[k]'hlt)=part at *
   clear hc hs
   go_wp2
   go_loop [0,16] (fun t i=>∃ m:Nat,m≤part.size∧i=.int .i64 m∧t=.int .i64 (Qd t0 (part.data.toList.take m))) (fun _ i=>part.size - (intOf i).toNat)
   case atStart=>exact ⟨0,Nat.zero_le _,rfl,rfl⟩
   case round =>
    obtain ⟨m,hm,rfl,rfl⟩:=hrel
    obtain ⟨he1,he2⟩:=XG (part.data.toList.take m) t0 hd1 hd2
    by_cases hlm:m < part.size
    ·have hbt:=(part[m]'hlm).toNat_lt
     have HT:Hid (Qd t0 (part.data.toList.take (m+1))=(Qd t0 (part.data.toList.take m)*263+((part[m]'hlm).toNat:Int)+1) % 65521):=by
      rw [Rp part m hlm];exact Mf _ _ _
     go_wp2
     go_round
     case rel=>exact ⟨m+1,by omega,by go_num,by rw [HT.out]⟩
     case measure=>simp [intOf];omega
    ·go_wp2
     go_round
     case rel=>exact ⟨k+1,by omega,by go_num,by rw [HS.out,List.take_of_length_le (by simp;omega)]⟩
     case measure=>simp [intOf];omega
  ·go_wp2
   go_ret
   exact ⟨qY (by rw [List.take_of_length_le (by omega)]),rfl⟩
theorem PQ (parts:List ByteArray) (b cap:Nat) (w:World) (hn:parts.length≤1000)
  (hs:∀ x ∈ parts,x.size≤maxLen)
  (hc:∀ j (h:j < parts.length),w.cell? ⟨b,j,none⟩=some (.string parts[j])) :
  Calls Tryz.prog 263 #[.slice (some ⟨b,0,none⟩) parts.length cap] w fun e w'=>e=.returned (.int .i64 (Qd 1 (xj parts)))∧w'=w:=by
 have Hc:=hid hc
 have Hs:=hid hs
 clear hc hs
 go_enter Tryz.func263,Tryz.ntmps263
 go_wp2_with fail
 refine (RI 1 parts b cap w (by decide) (by decide) hn Hs.out Hc.out).mono ?_
 rintro e w' ⟨rfl,rfl⟩
 go_wp2
 go_ret
 exact ⟨rfl,rfl⟩
theorem Kj (w:World) (parts:List ByteArray) (C:Array Value) (hC:C=(parts.map Value.string).toArray) (t:TypeId) :
  ∀ j (h:j < parts.length),(w.alloc (.cells C t)).cell? ⟨w.heap.size,j,none⟩=some (.string parts[j]):=by
 intro j h
 rw [World.cell?_alloc_mark,hC]
 simp [h]
theorem DZ (parts:List ByteArray) (C:Array Value) (n:Nat) (w:World) (hC:C=(parts.map Value.string).toArray) (hl:parts.length=n) (hn:n≤1000) (hs:∀ x ∈ parts,x.size≤maxLen) :
  Calls Tryz.prog 263 #[.slice (some ⟨w.heap.size,0,none⟩) n n] (w.alloc (.cells C 9)) fun e w'=>e=.returned (.int .i64 (Qd 1 (xj parts)))∧w.alloc (.cells C 9)=w':=by
 subst hl
 refine (PQ parts w.heap.size parts.length _ hn hs (Kj w parts C hC _)).mono ?_
 rintro e w' ⟨h1,h2⟩
 exact ⟨h1,h2.symm⟩
theorem Cn (s0:Int) (parts:List ByteArray) (C:Array Value) (n:Nat) (w:World) (h0:0≤s0) (h1:s0≤65520) (hC:C=(parts.map Value.string).toArray) (hl:parts.length=n) (hn:n≤1000) (hs:∀ x ∈ parts,x.size≤maxLen) :
  Calls Tryz.prog 264 #[.int .i64 s0,.slice (some ⟨w.heap.size,0,none⟩) n n] (w.alloc (.cells C 9)) fun e w'=>e=.returned (.int .i64 (Qd s0 (xj parts)))∧w.alloc (.cells C 9)=w':=by
 subst hl
 refine (RI s0 parts w.heap.size parts.length _ h0 h1 hn hs (Kj w parts C hC _)).mono ?_
 rintro e w' ⟨h1,h2⟩
 exact ⟨h1,h2.symm⟩
theorem jP (l:List UInt8):(⟨l.toArray⟩:ByteArray).size=l.length:=by simp [ByteArray.size]
end
section
theorem CT (sec non ext cip:ByteArray) (l:List UInt8):xj [⟨#[84]⟩,sec,non,⟨l.toArray⟩,ext,cip]=84 :: (sec.data.toList++non.data.toList++l++ext.data.toList++cip.data.toList):=by
 simp [xj]
theorem YB (sec non ext cip:ByteArray) (w:World) (h1:sec.size≤maxLen) (h2:non.size≤maxLen) (h3:ext.size≤5000) (h4:cip.size≤maxLen) :
  Calls Tryz.prog 239 #[.string sec,.string non,.string ext,.string cip] w fun e w' =>
   e=.returned (strB (GU sec.data.toList non.data.toList ext.data.toList cip.data.toList))∧Below w.heap.size w w':=by
 go_enter Tryz.func239,Tryz.ntmps239
 go_wp2_with fail
 refine (Jx _ _ (by omega) (by omega)).mono ?_
 rintro e w1 ⟨rfl,hb1⟩
 go_wp2_with fail
 refine (DZ [⟨#[84]⟩,sec,non,⟨(qv (ext.size:Int)).toArray⟩,ext,cip] _ 6 w1 rfl rfl (by decide) ?_).mono ?_
 ·intro x hx
  simp only [List.mem_cons,List.not_mem_nil,or_false] at hx
  rcases hx with rfl|rfl|rfl|rfl|rfl|rfl
  ·decide
  ·exact h1
  ·exact h2
  ·rw [jP,jv];decide
  ·unfold maxLen;omega
  ·exact h4
 rintro e w2 ⟨rfl,rfl⟩
 go_wp2_with fail
 rw [CT]
 have hr:=XG (84 :: (sec.data.toList++non.data.toList++qv (ext.size:Int)++ext.data.toList++cip.data.toList)) 1 (by decide) (by decide)
 have HF:Hid (qv (Qd 1 (84 :: (sec.data.toList++non.data.toList++qv (ext.size:Int)++ext.data.toList++cip.data.toList)))=GU sec.data.toList non.data.toList ext.data.toList cip.data.toList):=by
  unfold GU;simp [Hid]
 generalize Qd 1 (84 :: (sec.data.toList++non.data.toList++qv (ext.size:Int)++ext.data.toList++cip.data.toList))=t at *
 refine (Jx t _ (by omega) (by omega)).mono ?_
 rintro e w2 ⟨rfl,hb2⟩
 go_wp2
 go_ret
 refine ⟨qT HF.out,?_⟩
 have hz:=hb1.size
 exact (hb1.alloc hz _).trans (hb2.mono (by simp;omega))
theorem Tryz.infoU8:(Tryz.prog.info? 5).map (fun i=>(i.zero,i.size,i.bytes))=some (some (.int .u8 0),1,1):=by kernel_rfl
def qo (l:List UInt8):List Value:=l.map fun b=>.int .u8 (b.toNat:Int)
theorem DV (A:List Value) (z v:Value) (n k:Nat) (hA:A.length=k) (hk:k < n):(A++List.replicate (n - k) z).set k v=(A++[v])++List.replicate (n - (k+1)) z:=by
 obtain ⟨m,hm⟩:∃ m,n - k=m+1:=⟨n - k - 1,by omega⟩
 have hm2:n - (k+1)=m:=by omega
 rw [hm,hm2,List.set_append_right _ _ (by omega),List.replicate_succ,hA]
 simp
theorem Mx {W:World} {base g n k:Nat} {sec non text:List UInt8} (h:W.ownsRow base 5 1 (.slice (some ⟨g,0,none⟩) n n) n (qo (JB sec non text k)++List.replicate (n - k) (.int .u8 0))) (hk:k < n) :
  (W.setCell ⟨g,k,none⟩ (.int .u8 (Nz (text.getD k 0) (Gi sec non k):Int))).ownsRow base 5 1 (.slice (some ⟨g,0,none⟩) n n) n (qo (JB sec non text (k+1))++List.replicate (n - (k+1)) (.int .u8 0)):=by
 have h1:=(h.stored k (.int .u8 (Nz (text.getD k 0) (Gi sec non k):Int))).1
 rw [DV _ _ _ n k (by simp [qo,Zm]) hk] at h1
 rw [Ie]
 simpa [qo,Nf] using h1
theorem MG {W:World} {base g n k:Nat} {A:List Value} (h:W.ownsRow base 5 1 (.slice (some ⟨g,0,none⟩) n n) n (A++List.replicate (n - k) (.int .u8 0))) (hA:A.length=k) (hk:k < n) :
  W.cell? ⟨g,k,none⟩=some (.int .u8 0):=by
 obtain ⟨m,hm⟩:∃ m,n - k=m+1:=⟨n - k - 1,by omega⟩
 rw [h.cellAt k (by omega),List.getElem?_append_right (by omega),hA,hm,Nat.sub_self,List.replicate_succ]
 rfl
theorem AY {W w1:World} (hb:Below W.heap.size W w1):W.grownBy w1 none:=⟨hb.os,hb.tape,hb.output,hb.size,fun k hk _=>hb.block k hk⟩
theorem ji {B:Nat} {a b:World} (h:Below B a.drew b):Below B a b:=⟨h.os,h.tape,h.output,h.size,h.block⟩
theorem AR {w wr w4:World} {g n k:Nat} {sec non text:List UInt8} (b:UInt8) (o:Obj) (hbt:text.getD k 0=b)
  (h:wr.ownsRow w.heap.size 5 1 (.slice (some ⟨g,0,none⟩) n n) n (qo (JB sec non text k)++List.replicate (n - k) (.int .u8 0))) (hk:k < n)
  (hB:Below w.heap.size w wr) (hG:g < wr.heap.size) (hb4:Below wr.heap.size wr w4) :
  ((w4.setCell ⟨g,k,none⟩ (.int .u8 (bits .xor .u8 (b.toNat:Int) (Gi sec non k % 256)))).alloc o).ownsRow w.heap.size 5 1 (.slice (some ⟨g,0,none⟩) n n) n (qo (JB sec non text (k+1))++List.replicate (n - (k+1)) (.int .u8 0)) ∧
  Below w.heap.size w ((w4.setCell ⟨g,k,none⟩ (.int .u8 (bits .xor .u8 (b.toNat:Int) (Gi sec non k % 256)))).alloc o) ∧
  g < ((w4.setCell ⟨g,k,none⟩ (.int .u8 (bits .xor .u8 (b.toNat:Int) (Gi sec non k % 256)))).alloc o).heap.size:=by
 subst hbt
 rw [TW]
 have h4:=h.kept (AY hb4) (.inr (by simp [Value.ownBlock]))
 have hg:=(h.lt g rfl).1
 have hz:=hb4.size
 have hz0:=hB.size
 refine ⟨(Mx h4 hk).alloc _,?_,?_⟩
 ·exact ((hB.trans (hb4.mono hz0)).setCell hg _).alloc (by simp;omega) _
 ·simp;omega
theorem IG {W:World} {base g n cap:Nat} {l:List UInt8} (h:W.ownsRow base 5 1 (.slice (some ⟨g,0,none⟩) n cap) n (qo l)) (hl:l.length=n) :
  Sem.run Tryz.prog (convert 149 9 (.slice (some ⟨g,0,none⟩) n cap)) W=.ok (strB l) W:=by
 subst hl
 refine run_convert_bytes_back (P:=Tryz.prog) _ 149 9 5 ⟨g,0,none⟩ cap l Tryz.underlying149 Tryz.underlying5 Tryz.underlying9 ?_
 intro j hj
 have:(⟨g,0,none⟩:Addr).add j=⟨g,j,none⟩:=by unfold Addr.add;split<;>simp_all
 rw [this,h.cellAt j (by omega)]
 simp [qo,hj]
theorem MX (s:ByteArray) (k:Nat) (h:k < s.size):s.data.toList.getD k 0=s[k]:=by
 have h':k < s.data.toList.length:=by simpa using h
 simp only [List.getD,List.getElem?_eq_getElem h',Option.getD_some]
 simp
 rfl
theorem Mm (l:List UInt8):xj [⟨l.toArray⟩]=l:=by simp [xj]
theorem Tc (sec non:ByteArray):xj [⟨#[75]⟩,sec,non]=75 :: (sec.data.toList++non.data.toList):=by
 simp [xj]
theorem IQ (sec non text:ByteArray) (w:World) (h1:sec.size≤maxLen) (h2:non.size≤maxLen) (h3:text.size≤5000) :
  Calls Tryz.prog 240 #[.string sec,.string non,.string text] w fun e w' =>
   e=.returned (strB (zo sec.data.toList non.data.toList text.data.toList))∧Below w.heap.size w w':=by
 obtain ⟨i0,hi,hz0,hz1,hz2⟩:=info_parts Tryz.infoU8
 go_enter Tryz.func240,Tryz.ntmps240
 go_wp2_with fail
 refine (DZ [⟨#[75]⟩,sec,non] _ 3 w rfl rfl (by decide) ?_).mono ?_
 ·intro x hx
  simp only [List.mem_cons,List.not_mem_nil,or_false] at hx
  rcases hx with rfl|rfl|rfl
  ·decide
  ·exact h1
  ·exact h2
 rintro e w2 ⟨rfl,rfl⟩
 rw [Tc]
 have hr:=XG (75 :: (sec.data.toList++non.data.toList)) 1 (by decide) (by decide)
 obtain ⟨hr1,hr2⟩:=hr
 have HK:Hid (∀ i:Nat,Qd (Qd 1 (75 :: (sec.data.toList++non.data.toList))) (qv i)=Gi sec.data.toList non.data.toList i):=by
  intro i;rw [← Ks];rfl
 generalize Qd 1 (75 :: (sec.data.toList++non.data.toList))=t at *
 go_wp2_with (at_make;refine wpList_make_full _ rfl (.tmp 15) (.tmp 15) 149 rfl w.heap.size 5 i0 (.int .u8 0) 1 Tryz.underlying149 hi hz0 hz1 .i64 .i64 _ _ text.size rfl rfl rfl rfl (by rw [hz2];omega) (by unfold maxLen;omega) (by simp) ?_;intro w3 hown hgr)
 have hg:(w.alloc (Obj.cells #[Value.string ⟨#[75]⟩,Value.string sec,Value.string non] 9)).heap.size=w.heap.size+1:=by simp
 rw [hg] at hown
 have hB3:Below w.heap.size w w3:=((Below.refl _ _).alloc (Nat.le_refl _) _).grown hgr (by rw [hg];omega) (fun _ h=>by cases h)
 have hG3:w.heap.size+1 < w3.heap.size:=(hown.lt _ rfl).2
 have hst:(madeCells (Value.int IntKind.u8 0).cells (text.size*1)).toList=qo (JB sec.data.toList non.data.toList text.data.toList 0)++List.replicate (text.size - 0) (.int .u8 0):=by
  show (madeCells #[Value.int IntKind.u8 0] (text.size*1)).toList=_
  rw [toList_madeCells_one];simp [qo,JB]
 rw [hst] at hown
 clear hst hgr hg
 generalize w.heap.size+1=g at *
 go_loopw [19] (fun i wr=>∃ k:Nat,k≤text.size∧i=.int .i64 k∧wr.ownsRow w.heap.size 5 1 (.slice (some ⟨g,0,none⟩) text.size text.size) text.size (qo (JB sec.data.toList non.data.toList text.data.toList k)++List.replicate (text.size - k) (.int .u8 0))∧Below w.heap.size w wr∧g < wr.heap.size)
  (fun i _=>text.size - (intOf i).toNat)
 case atStart=>exact ⟨0,Nat.zero_le _,rfl,hown,hB3,hG3⟩
 case round =>
  clear hown hB3 hG3
  obtain ⟨k,hk,rfl,hown,hB,hG⟩:=hrel
  by_cases hlt:k < text.size
  ·have hkt:=HK.out k
   have hc0:=MG hown (by simp [qo,Zm]) hlt
   have hf0:=hown.frozenAt k
   obtain ⟨hkr1,hkr2⟩:=Au sec.data.toList non.data.toList k
   have hgd:=MX text k hlt
   have Hgd:=hid hgd
   clear hgd
   go_wp2_with fail
   go_region_with (first
    | (go_at_call 220;refine (Jx _ _ (by omega) (by omega)).mono ?_;rintro e w4 ⟨rfl,hb4⟩;have f0:g < w4.heap.size:=Nat.lt_of_lt_of_le hG hb4.size;have f1:w4.cell? ⟨g,k,none⟩=some (.int .u8 0):=(hb4.cell (p:=⟨g,k,none⟩) hG).trans hc0;have f2:w4.frozen? ⟨g,k,none⟩=false:=(hb4.frozen (p:=⟨g,k,none⟩) hG).trans hf0)
    | (go_at_call 264;refine (Cn t [⟨(qv (k:Int)).toArray⟩] _ 1 _ hr1 hr2 rfl rfl (by decide) (by intro x hx;simp only [List.mem_cons,List.not_mem_nil,or_false] at hx;subst hx;rw [jP,jv];decide)).mono ?_;rintro e w5 ⟨rfl,rfl⟩;rw [Mm,hkt]))
   all_goals
    have R:=AR (text[k]'hlt) (Obj.cells #[Value.string ⟨(qv (k:Int)).toArray⟩] 9) Hgd.out hown hlt hB hG (ji hb4)
    clear hc0 hf0 f0 f1 f2 hb4 hkt hown hB hG
    have HR:=hid R
    clear R
    go_wp2
    go_roundw
    case rel=>exact ⟨k+1,by omega,by go_num,HR.out.1,HR.out.2.1,HR.out.2.2⟩
    case measure=>simp [intOf];omega
  ·have hke:k=text.size:=by omega
   subst hke
   have hcv:=IG (l:=zo sec.data.toList non.data.toList text.data.toList) (by simpa [zo] using hown) (by simp [Jl])
   go_wp2
   go_ret
   exact ⟨rfl,hB⟩
end
end Go.Proofs.YthhpbhpfagoapaaGreat
