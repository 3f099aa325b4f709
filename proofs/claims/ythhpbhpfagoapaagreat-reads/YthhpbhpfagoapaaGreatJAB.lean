import Derived.Test.YthhpbhpfagoapaaGreatJAA
import Derived.Test.YthhpbhpfagoapaaGreatJBA
import Derived.BigQuiet
import Derived.Test.YthhpbhpfagoapaaGreatJAP
import Derived.Test.YthhpbhpfagoapaaGreatJAQ
import Derived.Test.YthhpbhpfagoapaaGreatJAO
namespace Go.Proofs.YthhpbhpfagoapaaGreat
set_option linter.unusedVariables false
set_option linter.unusedSimpArgs false
set_option maxRecDepth 100000
set_option maxHeartbeats 16000000
open Go.RowKit
section
theorem BA (sec non ext cip:ByteArray):Ju 1 ((⟨#[84]⟩++sec++non++⟨(qE (ext.size:Int)).toArray⟩++ext++cip:ByteArray).data.toList)=Ju 1 (84 :: (sec.data.toList++non.data.toList++qE (ext.data.toList.length:Int)++ext.data.toList++cip.data.toList)):=by
 simp only [IA]
 simp
theorem Ik (sec non ext plain:ByteArray) (w:World) (h1:sec.size≤1000) (h2:non.size≤1000) (h3:ext.size≤5000) (h4:plain.size≤5000) :
  Calls Tryz.prog 59 #[.string sec,.string non,.string ext,.string plain] w fun e w' =>
   e=.returned (strB (XU sec.data.toList non.data.toList ext.data.toList plain.data.toList))∧Below w.heap.size w w':=by
 go_enter Tryz.func59,Tryz.ntmps59
 go_wp2_with fail
 refine (Gs sec non plain w h1 h2 h4).mono ?_
 rintro e w1 ⟨rfl,hb1⟩
 have hl:=zP sec.data.toList non.data.toList plain.data.toList
 have hl2:(zw sec.data.toList non.data.toList plain.data.toList).length≤5000:=by rw [hl];simpa using h4
 clear hl
 have HF:Hid (∀ c,c=zw sec.data.toList non.data.toList plain.data.toList→c++RO sec.data.toList non.data.toList ext.data.toList c=XU sec.data.toList non.data.toList ext.data.toList plain.data.toList):=by
  intro c hc;subst hc;rfl
 have HF2:=hid (HF.out _ rfl)
 clear HF
 generalize zw sec.data.toList non.data.toList plain.data.toList=cip at *
 have ht2:(qE (ext.size:Int)).length≤2:=Nat.le_of_eq (jG _)
 have HT:=hid (BA sec non ext ⟨cip.toArray⟩)
 go_wp2_with fail
 refine (QP _ _ (by omega) (by omega)).mono ?_
 rintro e w2 ⟨rfl,hb2⟩
 go_wp2_with fail
 refine (Ra _ w2 ?_).mono ?_
 ·simp only [ByteArray.size_append',jR];unfold maxLen;simp;omega
 rintro e w3 ⟨rfl,rfl⟩
 rw [HT.out]
 have hr:=Qr (84 :: (sec.data.toList++non.data.toList++qE (ext.data.toList.length:Int)++ext.data.toList++cip)) 1 (by decide) (by decide)
 obtain ⟨hr1,hr2⟩:=hr
 have HG:Hid (qE (Ju 1 (84 :: (sec.data.toList++non.data.toList++qE (ext.data.toList.length:Int)++ext.data.toList++cip)))=RO sec.data.toList non.data.toList ext.data.toList cip):=rfl
 generalize Ju 1 (84 :: (sec.data.toList++non.data.toList++qE (ext.data.toList.length:Int)++ext.data.toList++cip))=t at *
 have ht3:(qE t).length≤2:=Nat.le_of_eq (jG _)
 go_wp2_with fail
 refine (QP t _ hr1 (by omega)).mono ?_
 rintro e w4 ⟨rfl,hb4⟩
 go_wp2
 go_ret
 have z1:=hb1.size
 have z2:=hb2.size
 refine ⟨?_,(hb1.trans (hb2.mono z1)).trans (hb4.mono (by omega))⟩
 rw [← HF2.out,← HG.out]
 simp [ByteArray.mk_append_mk]
end
section
theorem BO (a:Int) (h0:0≤a) (h1:a≤255):bits .or .u8 a 128=a % 128+128:=by
 obtain ⟨k,rfl⟩:=bk h0
 have key:∀ k:Fin 256,bits .or .u8 ((k.val:Nat):Int) 128=((k.val:Nat):Int) % 128+128:=by decide
 exact key ⟨k,by omega⟩
theorem Ny (b:UInt8):qL [b]=[.int .u8 (b.toNat:Int)]:=rfl
theorem EX {w wr w2:World} {v v2:Value} {n k:Nat} {l:List UInt8} {x:Int} {b:UInt8} (o:Obj) (hk:k=n+1) (hb:(b.toNat:Int)=x) (hB:Below w.heap.size w wr) (hown:wr.ownsRow w.heap.size 5 1 v n (qL l))
  (h2:w2.ownsRow w.heap.size 5 1 v2 (n+1) (qL l++[.int .u8 x])) (hg:(wr.alloc o).grownBy w2 v.ownBlock) :
  w2.ownsRow w.heap.size 5 1 v2 k (qL (l++[b]))∧Below w.heap.size w w2:=by
 subst hk
 rw [ZC,Ny,hb]
 exact ⟨h2,(hB.alloc hB.size o).grown hg (by have:=hB.size;simp;omega) (fun k hk=>(hown.lt k hk).1)⟩
theorem NL (n:Nat) (w:World) (hn:n < 18446744073709551616) :
  Calls Tryz.prog 265 #[.int .u64 (n:Int)] w fun e w'=>e=.returned (strB (uB n))∧Below w.heap.size w w':=by
 obtain ⟨i0,hi,hz0,hz1,hz2⟩:=info_parts Tryz.infoU8
 have HL:=hid (jM n hn)
 go_enter Tryz.func265,Tryz.ntmps265
 go_wp2
 go_loopw [0,3] (fun t v wr=>∃ (m:Nat) (acc:List UInt8),m≤n∧t=.int .u64 (m:Int)∧wr.ownsRow w.heap.size 5 1 v acc.length (qL acc)∧acc++uB m=uB n∧Below w.heap.size w wr)
  (fun t _ _=>MA t)
 case atStart=>exact ⟨n,[],ae _,rfl,World.ownsRow_nil _ _ _ _,rfl,Below.refl _ _⟩
 case round =>
  obtain ⟨m,acc,hm,rfl,hown,hacc,hB⟩:=hrel
  have HA:=hid hacc
  have hl:acc.length≤10:=by
   have h1:=HL.out
   have h2:=aT List.length hacc
   simp at h2
   omega
  clear hacc
  by_cases hb:127 < m
  ·have hbi:(128:Int)≤(m:Int):=by omega
   have ho:=BO ((m:Int) % 256) (by omega) (by omega)
   have ho':(m:Int) % 256 % 128+128=(m:Int) % 128+128:=by omega
   rw [ho'] at ho
   clear ho'
   go_wp2_with (at_builtin;refine wpList_append_own _ rfl (.tmp 6) (.tmp 10) 149 rfl w.heap.size 5 i0 (.int .u8 0) 1 1 Tryz.underlying149 hi hz0 hz1 hz2 rfl (by decide) _ _ _ rfl (hown.alloc _) ⟨_,0,none⟩ 1 1 [.int .u8 ((m:Int) % 128+128)] rfl rfl ?c1 ?c2 ?c3 ?c4 ?c5 ?_)
   case c1=>exact qq wr #[.int .u8 ((m:Int) % 128+128)] 5
   case c2=>intro u hu;simp at hu;subst hu;rfl
   case c3=>unfold maxLen;omega
   case c4=>omega
   case c5=>have:=hB.size;simp;omega
   intro v2 w2 hown2 hgr2 _
   have HR:=hid (EX (k:=(acc++[byB ((m:Int) % 128+128)]).length) (b:=byB ((m:Int) % 128+128)) _ (by simp) (xK _ (by omega) (by omega)) hB hown hown2 hgr2)
   clear hown hown2 hgr2 hB ho
   go_wp2
   go_roundw
   case rel =>
    refine ⟨m / 128,acc++[byB ((m:Int) % 128+128)],by omega,by go_num,HR.out.1,?_,HR.out.2⟩
    rw [← HA.out,XR hb,af];rfl
   case measure=>simp [MA];omega
  ·have hbi:(m:Int)≤127:=by omega
   go_wp2_with (at_builtin;refine wpList_append_own _ rfl (.tmp 14) (.tmp 17) 149 rfl w.heap.size 5 i0 (.int .u8 0) 1 1 Tryz.underlying149 hi hz0 hz1 hz2 rfl (by decide) _ _ _ rfl (hown.alloc _) ⟨_,0,none⟩ 1 1 [.int .u8 (m:Int)] rfl rfl ?c1 ?c2 ?c3 ?c4 ?c5 ?_)
   case c1=>exact qq wr #[.int .u8 (m:Int)] 5
   case c2=>intro u hu;simp at hu;subst hu;rfl
   case c3=>unfold maxLen;omega
   case c4=>omega
   case c5=>have:=hB.size;simp;omega
   intro v2 w2 hown2 hgr2 _
   obtain ⟨hr1,hr2⟩:=EX (k:=(acc++[byB (m:Int)]).length) (b:=byB (m:Int)) _ (by simp) (xK _ (by omega) (by omega)) hB hown hown2 hgr2
   have hcv:=Vg hr1
   have HE:Hid (acc++[byB (m:Int)]=uB n):=by
    show acc++[byB (m:Int)]=uB n
    rw [← HA.out,Jb (by omega)]
   clear hown hown2 hgr2 hr1 hB
   go_wp2
   go_ret
   exact ⟨qC HE.out,hr2⟩
theorem NT (n:Int) (w:World) (h0:0≤n) (h1:n < 18446744073709551616) :
  Calls Tryz.prog 265 #[.int .u64 n] w fun e w'=>e=.returned (strB (uB n.toNat))∧Below w.heap.size w w':=by
 obtain ⟨m,rfl⟩:=bk h0
 rw [aY]
 exact NL m w (by omega)
theorem Jp (n:Nat) (w:World) (hn:n≤9223372036854775807) :
  Calls Tryz.prog 241 #[.int .i64 (n:Int)] w fun e w'=>e=.returned (strB (uB n))∧Below w.heap.size w w':=by
 have hw:IntKind.u64.wrap (n:Int)=(n:Int):=Jj (by omega) (by omega)
 go_enter Tryz.func241,Tryz.ntmps241
 go_wp2_with fail
 refine (NL n _ (by omega)).mono ?_
 rintro e w1 ⟨rfl,hb⟩
 go_wp2
 go_ret
 exact ⟨rfl,hb⟩
theorem SJ (b:Nat) (h:b < 18446744073709551616):18446744073709551615 ^^^ b=18446744073709551615 - b:=by
 have h2:=aT BitVec.toNat (BitVec.allOnes_xor (x:=BitVec.ofNat 64 b))
 rw [BitVec.toNat_xor,BitVec.toNat_not,BitVec.toNat_allOnes,BitVec.toNat_ofNat,cw h] at h2
 exact h2
theorem Mm (x:Int) (h0:0≤x) (h1:x < 18446744073709551616):bits .xor .u64 IntKind.u64.max x=18446744073709551615 - x:=by
 have hm:IntKind.u64.max=18446744073709551615:=by decide
 obtain ⟨b,rfl⟩:=bk h0
 rw [hm,u64_xor _ _ (by decide) (by decide) (by omega) (by omega)]
 have:=SJ b (by omega)
 show ((18446744073709551615 ^^^ b:Nat):Int)=_
 rw [this];omega
theorem UE (n:Int) (w:World) (h0:-9223372036854775808≤n) (h1:n≤9223372036854775807) :
  Calls Tryz.prog 244 #[.int .i64 n] w fun e w'=>e=.returned (strB (zB n))∧Below w.heap.size w w':=by
 by_cases hn:0≤n
 ·have HZ:Hid (zB n=uB (2*n.toNat)):=by simp [Hid,zB,zN,hn]
  go_enter Tryz.func244,Tryz.ntmps244
  go_wp2_with fail
  refine (NT _ _ (by omega) (by omega)).mono ?_
  rintro e w1 ⟨rfl,hb⟩
  go_wp2
  go_ret
  exact ⟨qC (by rw [HZ.out];congr 1<;>omega),hb⟩
 ·have HZ:Hid (zB n=uB (2*(-(n+1)).toNat+1)):=by simp [Hid,zB,zN,hn]
  go_enter Tryz.func244,Tryz.ntmps244
  have hx:=Mm (IntKind.u64.wrap (IntKind.u64.wrap n*2)) (by rw [IntKind.wrap_u64];omega) (by rw [IntKind.wrap_u64];omega)
  have hx2:(18446744073709551615:Int) - IntKind.u64.wrap (IntKind.u64.wrap n*2)=-2*n - 1:=by rw [IntKind.wrap_u64,IntKind.wrap_u64];omega
  rw [hx2] at hx
  clear hx2
  go_wp2_with fail
  refine (NT _ _ (by omega) (by omega)).mono ?_
  rintro e w1 ⟨rfl,hb⟩
  go_wp2
  go_ret
  exact ⟨qC (by rw [HZ.out];congr 1<;>omega),hb⟩
theorem Se (v k:Nat):Kw v k=v / 2 ^ (8*k):=by
 induction k with
 | zero=>simp [Kw]
 | succ k ih=>rw [Kw,ih,Nat.div_div_eq_div_mul,show 8*(k+1)=8*k+8 by omega,Nat.pow_add]
theorem So {W:World} {e base g n cap:Nat} {l:List UInt8} (h:W.ownsRow base e 1 (.slice (some ⟨g,0,none⟩) n cap) n (qL l)) (hl:l.length=n) :
  Sem.run Tryz.prog (convert 149 9 (.slice (some ⟨g,0,none⟩) n cap)) W=.ok (strB l) W:=by
 subst hl
 refine run_convert_bytes_back (P:=Tryz.prog) _ 149 9 5 ⟨g,0,none⟩ cap l Tryz.underlying149 Tryz.underlying5 Tryz.underlying9 ?_
 intro j hj
 have:(⟨g,0,none⟩:Addr).add j=⟨g,j,none⟩:=by unfold Addr.add;split<;>simp_all
 rw [this,h.cellAt j (by omega)]
 simp [qL,hj]
theorem Ig {w wr:World} {e m k:Nat} (hk:k < 8) (hB:Below w.heap.size w wr)
  (h:wr.ownsRow w.heap.size e 1 (.slice (some ⟨w.heap.size,0,none⟩) 8 8) 8 (qL (Kv m k)++List.replicate (8 - k) (.int .u8 0))) :
  (wr.setCell ⟨w.heap.size,k,none⟩ (.int .u8 ((m:Int) / 2 ^ (8*k) % 256))).ownsRow w.heap.size e 1 (.slice (some ⟨w.heap.size,0,none⟩) 8 8) 8 (qL (Kv m (k+1))++List.replicate (8 - (k+1)) (.int .u8 0)) ∧
  Below w.heap.size w (wr.setCell ⟨w.heap.size,k,none⟩ (.int .u8 ((m:Int) / 2 ^ (8*k) % 256))):=by
 have h1:=(h.stored k (.int .u8 ((m:Int) / 2 ^ (8*k) % 256))).1
 rw [Mx _ _ _ 8 k (by simp [qL,Xl]) hk] at h1
 refine ⟨?_,hB.setCell (ae _) _⟩
 have e1:qL (Kv m (k+1))=qL (Kv m k)++[.int .u8 ((m:Int) / 2 ^ (8*k) % 256)]:=by
  have e2:((Kw m k:Nat):Int)=(m:Int) / 2 ^ (8*k):=by rw [Se];simp
  rw [Kv,ZC,Ny,xK _ (by omega) (by omega),e2]
 rw [e1]
 exact h1
theorem DV {W:World} {e base g n k:Nat} {A:List Value} (h:W.ownsRow base e 1 (.slice (some ⟨g,0,none⟩) n n) n (A++List.replicate (n - k) (.int .u8 0))) (hA:A.length=k) (hk:k < n) :
  W.cell? ⟨g,k,none⟩=some (.int .u8 0):=by
 obtain ⟨m,hm⟩:∃ m,n - k=m+1:=⟨n - k - 1,by omega⟩
 rw [h.cellAt k (by omega),aU (by omega),hA,hm,Nat.sub_self,cL]
 rfl
theorem IF (w:World) (m t:Nat):(w.alloc (Obj.cells #[Value.int IntKind.u8 0,Value.int IntKind.u8 0,Value.int IntKind.u8 0,Value.int IntKind.u8 0,Value.int IntKind.u8 0,Value.int IntKind.u8 0,Value.int IntKind.u8 0,Value.int IntKind.u8 0] t)).ownsRow w.heap.size t 1 (.slice (some ⟨w.heap.size,0,none⟩) 8 8) 8 (qL (Kv m 0)++List.replicate (8 - 0) (.int .u8 0)):=by
 refine ⟨rfl,.inr ⟨w.heap.size,8,_,rfl,ae _,heap_alloc_new w _,ae _,by decide,rfl,rfl⟩⟩
theorem TJ (n:Int) (w:World) (h0:-9223372036854775808≤n) (h1:n≤9223372036854775807) :
  Calls Tryz.prog 189 #[.int .i64 n] w fun e w'=>e=.returned (strB (bB n))∧Below w.heap.size w w':=by
 have hw:=Sy n
 obtain ⟨m,hm⟩:=bk (show 0≤n % 18446744073709551616 by omega)
 have hm1:m < 18446744073709551616:=by omega
 have HB:Hid (bB n=Kv m 8):=by simp [Hid,bB,hm]
 rw [hm] at hw
 clear hm
 go_enter Tryz.func189,Tryz.ntmps189
 go_wp2
 go_loopw [5] (fun i wr=>∃ k:Nat,k≤8∧i=.int .i64 (k:Int)∧wr.ownsRow w.heap.size 310 1 (.slice (some ⟨w.heap.size,0,none⟩) 8 8) 8 (qL (Kv m k)++List.replicate (8 - k) (.int .u8 0))∧Below w.heap.size w wr)
  (fun i _=>8 - (intOf i).toNat)
 case atStart=>exact ⟨0,by omega,rfl,IF w m _,(Below.refl _ _).alloc (ae _) _⟩
 case round =>
  obtain ⟨k,hk,rfl,hown,hB⟩:=hrel
  have hG:w.heap.size < wr.heap.size:=(hown.lt _ rfl).2
  by_cases hlt:k < 8
  ·have hc0:=DV hown (by simp [qL,Xl]) hlt
   have hf0:=hown.frozenAt k
   have HR:=hid (Ig hlt hB hown)
   clear hown hB
   go_wp2
   go_roundw
   case rel=>exact ⟨k+1,by omega,by go_num,HR.out.1,HR.out.2⟩
   case measure=>simp [intOf];omega
  ·have hk8:k=8:=by omega
   subst hk8
   have hcv:=So (l:=Kv m 8) (by simpa using hown) (by simp [Xl])
   go_wp2
   go_ret
   exact ⟨qC HB.out.symm,hB⟩
def zJ (ps:List (List UInt8)):List Value:=ps.map strB
theorem Yq (ps:List (List UInt8)):xQ (ps.map fun l=>(⟨l.toArray⟩:ByteArray))=ps.flatten:=by
 induction ps with
 | nil=>rfl
 | cons p ps ih=>simp only [xQ,cK,a9,List.flatten_cons] at ih ⊢;rw [ih]
theorem Uh (ps:List (List UInt8)) (b cap:Nat) (w:World) (hn:ps.length≤1000) (hs:ps.flatten.length≤1000000) (hb:b < w.heap.size)
  (hc:∀ j (h:j < ps.length),w.cell? ⟨b,j,none⟩=some (strB ps[j])) :
  Calls Tryz.prog 194 #[.slice (some ⟨b,0,none⟩) ps.length cap] w fun e w'=>e=.returned (strB ps.flatten)∧Below w.heap.size w w':=by
 have:=SE (ps.map fun l=>(⟨l.toArray⟩:ByteArray)) b cap w (by simpa using hn) (by rw [Yq];exact hs) hb (by intro j h;simpa using hc j (by simpa using h))
 rw [Yq] at this
 simpa using this
theorem Zb (ps:List (List UInt8)) (C:Array Value) (n:Nat) (w:World) (hC:C=(zJ ps).toArray) (hl:ps.length=n) (hn:n≤1000) (hs:ps.flatten.length≤1000000) :
  Calls Tryz.prog 194 #[.slice (some ⟨w.heap.size,0,none⟩) n n] (w.alloc (.cells C 9)) fun e w'=>e=.returned (strB ps.flatten)∧Below w.heap.size w w':=by
 subst hl
 refine (Uh ps w.heap.size ps.length _ hn hs (by simp) ?_).mono ?_
 ·intro j h
  rw [World.cell?_alloc_mark,hC]
  simp [h,zJ]
 ·rintro e w' ⟨h1,h2⟩
  exact ⟨h1,((Below.refl _ _).alloc (ae _) _).trans (h2.mono (by simp))⟩
theorem XT (ps:List (List UInt8)) (base n:Nat) (v:Value) (w:World) (h:w.ownsRow base 9 1 v n (zJ ps)) (hp:ps≠[]) (hn:ps.length≤1000) (hs:ps.flatten.length≤1000000) :
  Calls Tryz.prog 194 #[v] w fun e w'=>e=.returned (strB ps.flatten)∧Below w.heap.size w w':=by
 have hl:ps.length=n:=by simpa [zJ] using h.1
 rcases h.2 with ⟨rfl,rfl⟩|⟨g,cap,cur,rfl,_⟩
 ·exact absurd (ao hl) hp
 ·subst hl
  refine Uh ps g cap w hn hs (h.lt g rfl).2 ?_
  intro j hj
  rw [h.cellAt j (by omega)]
  simp [zJ,hj]
theorem Rh (s:List UInt8) (w:World) (hs:s.length≤100000) :
  Calls Tryz.prog 204 #[strB s] w fun e w'=>e=.returned (strB (xB s))∧Below w.heap.size w w':=by
 have hz:=jR s
 have hu:=jM s.length (by omega)
 go_enter Tryz.func204,Tryz.ntmps204
 go_wp2_with fail
 refine (Jp _ _ (by omega)).mono ?_
 rintro e w1 ⟨rfl,hb1⟩
 go_wp2_with fail
 refine (Zb [uB s.length,s] _ 2 w1 rfl rfl (by decide) (by simp;omega)).mono ?_
 rintro e w2 ⟨rfl,hb2⟩
 go_wp2
 go_ret
 exact ⟨qC (by simp [xB]),hb1.trans (hb2.mono hb1.size)⟩
theorem GO (a v:Int) (w:World) (h0:-9223372036854775808≤a) (h1:a≤9223372036854775807) (h2:-9223372036854775808≤v) (h3:v≤9223372036854775807) :
  Calls Tryz.prog 191 #[.int .i64 a,.int .i64 v] w fun e w'=>e=.returned (strB (zB (wrap64 (v - a))))∧Below w.heap.size w w':=by
 obtain ⟨k0,k1⟩:=zr (v - a)
 go_enter Tryz.func191,Tryz.ntmps191
 go_wp2_with fail
 refine (UE _ _ k0 k1).mono ?_
 rintro e w1 ⟨rfl,hb1⟩
 go_wp2
 go_ret
 exact ⟨rfl,hb1⟩
end
end Go.Proofs.YthhpbhpfagoapaaGreat
