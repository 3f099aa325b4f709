import Derived.Test.YthhpbhpfagoapaaGreatJAA
import Derived.Deep.RegionWith
namespace Go.Proofs.YthhpbhpfagoapaaGreat
set_option linter.unusedVariables false
set_option linter.unusedSimpArgs false
set_option maxRecDepth 100000
set_option maxHeartbeats 16000000
open Go.RowKit
theorem Cb (sec non ext cip:ByteArray) (l:List UInt8):xQ [⟨#[84]⟩,sec,non,⟨l.toArray⟩,ext,cip]=84 :: (sec.data.toList++non.data.toList++l++ext.data.toList++cip.data.toList):=by
 simp [xQ]
theorem MO (sec non ext cip:ByteArray) (w:World) (h1:sec.size≤maxLen) (h2:non.size≤maxLen) (h3:ext.size≤5000) (h4:cip.size≤maxLen) :
  Calls Tryz.prog 239 #[.string sec,.string non,.string ext,.string cip] w fun e w' =>
   e=.returned (strB (RO sec.data.toList non.data.toList ext.data.toList cip.data.toList))∧Below w.heap.size w w':=by
 go_enter Tryz.func239,Tryz.ntmps239
 go_wp2_with fail
 refine (KV _ _ (by omega) (by omega)).mono ?_
 rintro e w1 ⟨rfl,hb1⟩
 go_wp2_with fail
 refine (MC [⟨#[84]⟩,sec,non,⟨(qE (ext.size:Int)).toArray⟩,ext,cip] _ 6 w1 rfl rfl (by decide) ?_).mono ?_
 ·intro x hx
  simp only [ba,bs,cM] at hx
  rcases hx with rfl|rfl|rfl|rfl|rfl|rfl
  ·decide
  ·exact h1
  ·exact h2
  ·rw [jR,jG];decide
  ·unfold maxLen;omega
  ·exact h4
 rintro e w2 ⟨rfl,rfl⟩
 go_wp2_with fail
 rw [Cb]
 have hr:=Qr (84 :: (sec.data.toList++non.data.toList++qE (ext.size:Int)++ext.data.toList++cip.data.toList)) 1 (by decide) (by decide)
 have HF:Hid (qE (Ju 1 (84 :: (sec.data.toList++non.data.toList++qE (ext.size:Int)++ext.data.toList++cip.data.toList)))=RO sec.data.toList non.data.toList ext.data.toList cip.data.toList):=by
  unfold RO;simp [Hid]
 generalize Ju 1 (84 :: (sec.data.toList++non.data.toList++qE (ext.size:Int)++ext.data.toList++cip.data.toList))=t at *
 refine (KV t _ (by omega) (by omega)).mono ?_
 rintro e w2 ⟨rfl,hb2⟩
 go_wp2
 go_ret
 refine ⟨qC HF.out,?_⟩
 have hz:=hb1.size
 exact (hb1.alloc hz _).trans (hb2.mono (by simp;omega))
theorem Tryz.infoU8:(Tryz.prog.info? 5).map (fun i=>(i.zero,i.size,i.bytes))=some (some (.int .u8 0),1,1):=by kernel_rfl
def qL (l:List UInt8):List Value:=l.map fun b=>.int .u8 (b.toNat:Int)
theorem Mx (A:List Value) (z v:Value) (n k:Nat) (hA:A.length=k) (hk:k < n):(A++List.replicate (n - k) z).set k v=(A++[v])++List.replicate (n - (k+1)) z:=by
 obtain ⟨m,hm⟩:∃ m,n - k=m+1:=⟨n - k - 1,by omega⟩
 have hm2:n - (k+1)=m:=by omega
 rw [hm,hm2,cV _ _ (by omega),cL,hA]
 simp
theorem Cs {W:World} {base g n k:Nat} {sec non text:List UInt8} (h:W.ownsRow base 5 1 (.slice (some ⟨g,0,none⟩) n n) n (qL (Ji sec non text k)++List.replicate (n - k) (.int .u8 0))) (hk:k < n) :
  (W.setCell ⟨g,k,none⟩ (.int .u8 (Rt (text.getD k 0) (Ul sec non k):Int))).ownsRow base 5 1 (.slice (some ⟨g,0,none⟩) n n) n (qL (Ji sec non text (k+1))++List.replicate (n - (k+1)) (.int .u8 0)):=by
 have h1:=(h.stored k (.int .u8 (Rt (text.getD k 0) (Ul sec non k):Int))).1
 rw [Mx _ _ _ n k (by simp [qL,Zw]) hk] at h1
 rw [GR]
 simpa [qL,UC] using h1
theorem Cl {W:World} {base g n k:Nat} {A:List Value} (h:W.ownsRow base 5 1 (.slice (some ⟨g,0,none⟩) n n) n (A++List.replicate (n - k) (.int .u8 0))) (hA:A.length=k) (hk:k < n) :
  W.cell? ⟨g,k,none⟩=some (.int .u8 0):=by
 obtain ⟨m,hm⟩:∃ m,n - k=m+1:=⟨n - k - 1,by omega⟩
 rw [h.cellAt k (by omega),aU (by omega),hA,hm,Nat.sub_self,cL]
 rfl
theorem EI {W w1:World} (hb:Below W.heap.size W w1):W.grownBy w1 none:=⟨hb.os,hb.tape,hb.output,hb.size,fun k hk _=>hb.block k hk⟩
theorem ji {B:Nat} {a b:World} (h:Below B a.drew b):Below B a b:=⟨h.os,h.tape,h.output,h.size,h.block⟩
theorem AU {w wr w4:World} {g n k:Nat} {sec non text:List UInt8} (b:UInt8) (o:Obj) (hbt:text.getD k 0=b)
  (h:wr.ownsRow w.heap.size 5 1 (.slice (some ⟨g,0,none⟩) n n) n (qL (Ji sec non text k)++List.replicate (n - k) (.int .u8 0))) (hk:k < n)
  (hB:Below w.heap.size w wr) (hG:g < wr.heap.size) (hb4:Below wr.heap.size wr w4) :
  ((w4.setCell ⟨g,k,none⟩ (.int .u8 (bits .xor .u8 (b.toNat:Int) (Ul sec non k % 256)))).alloc o).ownsRow w.heap.size 5 1 (.slice (some ⟨g,0,none⟩) n n) n (qL (Ji sec non text (k+1))++List.replicate (n - (k+1)) (.int .u8 0)) ∧
  Below w.heap.size w ((w4.setCell ⟨g,k,none⟩ (.int .u8 (bits .xor .u8 (b.toNat:Int) (Ul sec non k % 256)))).alloc o) ∧
  g < ((w4.setCell ⟨g,k,none⟩ (.int .u8 (bits .xor .u8 (b.toNat:Int) (Ul sec non k % 256)))).alloc o).heap.size:=by
 subst hbt
 rw [Ax]
 have h4:=h.kept (EI hb4) (.inr (by simp [Value.ownBlock]))
 have hg:=(h.lt g rfl).1
 have hz:=hb4.size
 have hz0:=hB.size
 refine ⟨(Cs h4 hk).alloc _,?_,?_⟩
 ·exact ((hB.trans (hb4.mono hz0)).setCell hg _).alloc (by simp;omega) _
 ·simp;omega
theorem AA {W:World} {base g n cap:Nat} {l:List UInt8} (h:W.ownsRow base 5 1 (.slice (some ⟨g,0,none⟩) n cap) n (qL l)) (hl:l.length=n) :
  Sem.run Tryz.prog (convert 149 9 (.slice (some ⟨g,0,none⟩) n cap)) W=.ok (strB l) W:=by
 subst hl
 refine run_convert_bytes_back (P:=Tryz.prog) _ 149 9 5 ⟨g,0,none⟩ cap l Tryz.underlying149 Tryz.underlying5 Tryz.underlying9 ?_
 intro j hj
 have:(⟨g,0,none⟩:Addr).add j=⟨g,j,none⟩:=by unfold Addr.add;split<;>simp_all
 rw [this,h.cellAt j (by omega)]
 simp [qL,hj]
theorem YA (s:ByteArray) (k:Nat) (h:k < s.size):s.data.toList.getD k 0=s[k]:=by
 have h':k < s.data.toList.length:=by simpa using h
 simp only [List.getD,ay h',Option.getD_some]
 simp
 rfl
theorem CG (l:List UInt8):xQ [⟨l.toArray⟩]=l:=by simp [xQ]
theorem Cr (sec non:ByteArray):xQ [⟨#[75]⟩,sec,non]=75 :: (sec.data.toList++non.data.toList):=by
 simp [xQ]
theorem Sc (sec non text:ByteArray) (w:World) (h1:sec.size≤maxLen) (h2:non.size≤maxLen) (h3:text.size≤5000) :
  Calls Tryz.prog 240 #[.string sec,.string non,.string text] w fun e w' =>
   e=.returned (strB (zw sec.data.toList non.data.toList text.data.toList))∧Below w.heap.size w w':=by
 obtain ⟨i0,hi,hz0,hz1,hz2⟩:=info_parts Tryz.infoU8
 go_enter Tryz.func240,Tryz.ntmps240
 go_wp2_with fail
 refine (MC [⟨#[75]⟩,sec,non] _ 3 w rfl rfl (by decide) ?_).mono ?_
 ·intro x hx
  simp only [ba,bs,cM] at hx
  rcases hx with rfl|rfl|rfl
  ·decide
  ·exact h1
  ·exact h2
 rintro e w2 ⟨rfl,rfl⟩
 rw [Cr]
 have hr:=Qr (75 :: (sec.data.toList++non.data.toList)) 1 (by decide) (by decide)
 obtain ⟨hr1,hr2⟩:=hr
 have HK:Hid (∀ i:Nat,Ju (Ju 1 (75 :: (sec.data.toList++non.data.toList))) (qE i)=Ul sec.data.toList non.data.toList i):=by
  intro i;rw [← KG];rfl
 generalize Ju 1 (75 :: (sec.data.toList++non.data.toList))=t at *
 go_wp2_with (at_make;refine wpList_make_full _ rfl (.tmp 15) (.tmp 15) 149 rfl w.heap.size 5 i0 (.int .u8 0) 1 Tryz.underlying149 hi hz0 hz1 .i64 .i64 _ _ text.size rfl rfl rfl rfl (by rw [hz2];omega) (by unfold maxLen;omega) (by simp) ?_;intro w3 hown hgr)
 have hg:(w.alloc (Obj.cells #[Value.string ⟨#[75]⟩,Value.string sec,Value.string non] 9)).heap.size=w.heap.size+1:=by simp
 rw [hg] at hown
 have hB3:Below w.heap.size w w3:=((Below.refl _ _).alloc (ae _) _).grown hgr (by rw [hg];omega) (fun _ h=>by cases h)
 have hG3:w.heap.size+1 < w3.heap.size:=(hown.lt _ rfl).2
 have hst:(madeCells (Value.int IntKind.u8 0).cells (text.size*1)).toList=qL (Ji sec.data.toList non.data.toList text.data.toList 0)++List.replicate (text.size - 0) (.int .u8 0):=by
  show (madeCells #[Value.int IntKind.u8 0] (text.size*1)).toList=_
  rw [toList_madeCells_one];simp [qL,Ji]
 rw [hst] at hown
 clear hst hgr hg
 generalize w.heap.size+1=g at *
 go_loopw [19] (fun i wr=>∃ k:Nat,k≤text.size∧i=.int .i64 k∧wr.ownsRow w.heap.size 5 1 (.slice (some ⟨g,0,none⟩) text.size text.size) text.size (qL (Ji sec.data.toList non.data.toList text.data.toList k)++List.replicate (text.size - k) (.int .u8 0))∧Below w.heap.size w wr∧g < wr.heap.size)
  (fun i _=>text.size - (intOf i).toNat)
 case atStart=>exact ⟨0,ah _,rfl,hown,hB3,hG3⟩
 case round =>
  clear hown hB3 hG3
  obtain ⟨k,hk,rfl,hown,hB,hG⟩:=hrel
  by_cases hlt:k < text.size
  ·have hkt:=HK.out k
   have hc0:=Cl hown (by simp [qL,Zw]) hlt
   have hf0:=hown.frozenAt k
   obtain ⟨hkr1,hkr2⟩:=Rj sec.data.toList non.data.toList k
   have hgd:=YA text k hlt
   have Hgd:=hid hgd
   clear hgd
   go_wp2_with fail
   go_region_with (first
    | (go_at_call 220;refine (KV _ _ (by omega) (by omega)).mono ?_;rintro e w4 ⟨rfl,hb4⟩;have f0:g < w4.heap.size:=aa hG hb4.size;have f1:w4.cell? ⟨g,k,none⟩=some (.int .u8 0):=(hb4.cell (p:=⟨g,k,none⟩) hG).trans hc0;have f2:w4.frozen? ⟨g,k,none⟩=false:=(hb4.frozen (p:=⟨g,k,none⟩) hG).trans hf0)
    | (go_at_call 264;refine (CX t [⟨(qE (k:Int)).toArray⟩] _ 1 _ hr1 hr2 rfl rfl (by decide) (by intro x hx;simp only [ba,bs,cM] at hx;subst hx;rw [jR,jG];decide)).mono ?_;rintro e w5 ⟨rfl,rfl⟩;rw [CG,hkt]))
   all_goals
    have R:=AU (text[k]'hlt) (Obj.cells #[Value.string ⟨(qE (k:Int)).toArray⟩] 9) Hgd.out hown hlt hB hG (ji hb4)
    clear hc0 hf0 f0 f1 f2 hb4 hkt hown hB hG
    have HR:=hid R
    clear R
    go_wp2
    go_roundw
    case rel=>exact ⟨k+1,by omega,by go_num,HR.out.1,HR.out.2.1,HR.out.2.2⟩
    case measure=>simp [intOf];omega
  ·have hke:k=text.size:=by omega
   subst hke
   have hcv:=AA (l:=zw sec.data.toList non.data.toList text.data.toList) (by simpa [zw] using hown) (by simp [zP])
   go_wp2
   go_ret
   exact ⟨rfl,hB⟩
end Go.Proofs.YthhpbhpfagoapaaGreat
