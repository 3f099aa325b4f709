import Derived.Test.YthhpbhpfagoapabGreatJAS
import Derived.Test.YthhpbhpfagoapabGreatJBB
import Derived.Test.YthhpbhpfagoapabGreatJAN
namespace Go.Proofs.YthhpbhpfagoapabGreat
set_option linter.unusedVariables false
set_option linter.unusedSimpArgs false
set_option maxRecDepth 100000
set_option maxHeartbeats 16000000
open Go.RowKit
theorem FM (a:Int) (h0:0≤a) (h1:a≤255):bits .or .u8 a 128=a % 128+128:=by
 obtain ⟨k,rfl⟩:=Int.eq_ofNat_of_zero_le h0
 have key:∀ k:Fin 256,bits .or .u8 ((k.val:Nat):Int) 128=((k.val:Nat):Int) % 128+128:=by decide
 exact key ⟨k,by omega⟩
theorem NJ (b:UInt8):qw [b]=[.int .u8 (b.toNat:Int)]:=rfl
theorem RJ {w wr w2:World} {v v2:Value} {n k:Nat} {l:List UInt8} {x:Int} {b:UInt8} (o:Obj) (hk:k=n+1) (hb:(b.toNat:Int)=x) (hB:Below w.heap.size w wr) (hown:wr.ownsRow w.heap.size 5 1 v n (qw l))
  (h2:w2.ownsRow w.heap.size 5 1 v2 (n+1) (qw l++[.int .u8 x])) (hg:(wr.alloc o).grownBy w2 v.ownBlock) :
  w2.ownsRow w.heap.size 5 1 v2 k (qw (l++[b]))∧Below w.heap.size w w2:=by
 subst hk
 rw [Xl,NJ,hb]
 exact ⟨h2,(hB.alloc hB.size o).grown hg (by have:=hB.size;simp;omega) (fun k hk=>(hown.lt k hk).1)⟩
theorem RB (n:Nat) (w:World) (hn:n < 18446744073709551616) :
  Calls Tryz.prog 138 #[.int .u64 (n:Int)] w fun e w'=>e=.returned (strB (uB n))∧Below w.heap.size w w':=by
 obtain ⟨i0,hi,hz0,hz1,hz2⟩:=info_parts Tryz.infoU8
 have HL:=hid (qa n hn)
 go_enter Tryz.func138,Tryz.ntmps138
 go_wp2
 go_loopw [0,3] (fun t v wr=>∃ (m:Nat) (acc:List UInt8),m≤n∧t=.int .u64 (m:Int)∧wr.ownsRow w.heap.size 5 1 v acc.length (qw acc)∧acc++uB m=uB n∧Below w.heap.size w wr)
  (fun t _ _=>BV t)
 case atStart=>exact ⟨n,[],Nat.le_refl _,rfl,World.ownsRow_nil _ _ _ _,rfl,Below.refl _ _⟩
 case round =>
  obtain ⟨m,acc,hm,rfl,hown,hacc,hB⟩:=hrel
  have HA:=hid hacc
  have hl:acc.length≤10:=by
   have h1:=HL.out
   have h2:=congrArg List.length hacc
   simp at h2
   omega
  clear hacc
  by_cases hb:127 < m
  ·have hbi:(128:Int)≤(m:Int):=by omega
   have ho:=FM ((m:Int) % 256) (by omega) (by omega)
   have ho':(m:Int) % 256 % 128+128=(m:Int) % 128+128:=by omega
   rw [ho'] at ho
   clear ho'
   go_wp2_with (at_builtin;refine wpList_append_own _ rfl (.tmp 6) (.tmp 10) 64 rfl w.heap.size 5 i0 (.int .u8 0) 1 1 Tryz.underlying64 hi hz0 hz1 hz2 rfl (by decide) _ _ _ rfl (hown.alloc _) ⟨_,0,none⟩ 1 1 [.int .u8 ((m:Int) % 128+128)] rfl rfl ?c1 ?c2 ?c3 ?c4 ?c5 ?_)
   case c1=>exact qE wr #[.int .u8 ((m:Int) % 128+128)] 5
   case c2=>intro u hu;simp at hu;subst hu;rfl
   case c3=>unfold maxLen;omega
   case c4=>omega
   case c5=>have:=hB.size;simp;omega
   intro v2 w2 hown2 hgr2 _
   have HR:=hid (RJ (k:=(acc++[byB ((m:Int) % 128+128)]).length) (b:=byB ((m:Int) % 128+128)) _ (by simp) (xY _ (by omega) (by omega)) hB hown hown2 hgr2)
   clear hown hown2 hgr2 hB ho
   go_wp2
   go_roundw
   case rel =>
    refine ⟨m / 128,acc++[byB ((m:Int) % 128+128)],by omega,by go_num,HR.out.1,?_,HR.out.2⟩
    rw [← HA.out,ZU hb,List.append_assoc];rfl
   case measure=>simp [BV];omega
  ·have hbi:(m:Int)≤127:=by omega
   go_wp2_with (at_builtin;refine wpList_append_own _ rfl (.tmp 14) (.tmp 17) 64 rfl w.heap.size 5 i0 (.int .u8 0) 1 1 Tryz.underlying64 hi hz0 hz1 hz2 rfl (by decide) _ _ _ rfl (hown.alloc _) ⟨_,0,none⟩ 1 1 [.int .u8 (m:Int)] rfl rfl ?c1 ?c2 ?c3 ?c4 ?c5 ?_)
   case c1=>exact qE wr #[.int .u8 (m:Int)] 5
   case c2=>intro u hu;simp at hu;subst hu;rfl
   case c3=>unfold maxLen;omega
   case c4=>omega
   case c5=>have:=hB.size;simp;omega
   intro v2 w2 hown2 hgr2 _
   obtain ⟨hr1,hr2⟩:=RJ (k:=(acc++[byB (m:Int)]).length) (b:=byB (m:Int)) _ (by simp) (xY _ (by omega) (by omega)) hB hown hown2 hgr2
   have hcv:=Km hr1
   have HE:Hid (acc++[byB (m:Int)]=uB n):=by
    show acc++[byB (m:Int)]=uB n
    rw [← HA.out,zt (by omega)]
   clear hown hown2 hgr2 hr1 hB
   go_wp2
   go_ret
   exact ⟨xj HE.out,hr2⟩
theorem RA (n:Int) (w:World) (h0:0≤n) (h1:n < 18446744073709551616) :
  Calls Tryz.prog 138 #[.int .u64 n] w fun e w'=>e=.returned (strB (uB n.toNat))∧Below w.heap.size w w':=by
 obtain ⟨m,rfl⟩:=Int.eq_ofNat_of_zero_le h0
 rw [Int.toNat_natCast]
 exact RB m w (by omega)
theorem zy (n:Nat) (w:World) (hn:n≤9223372036854775807) :
  Calls Tryz.prog 123 #[.int .i64 (n:Int)] w fun e w'=>e=.returned (strB (uB n))∧Below w.heap.size w w':=by
 have hw:IntKind.u64.wrap (n:Int)=(n:Int):=VN (by omega) (by omega)
 go_enter Tryz.func123,Tryz.ntmps123
 go_wp2_with fail
 refine (RB n _ (by omega)).mono ?_
 rintro e w1 ⟨rfl,hb⟩
 go_wp2
 go_ret
 exact ⟨rfl,hb⟩
theorem BK (b:Nat) (h:b < 18446744073709551616):18446744073709551615 ^^^ b=18446744073709551615 - b:=by
 have h2:=congrArg BitVec.toNat (BitVec.allOnes_xor (x:=BitVec.ofNat 64 b))
 rw [BitVec.toNat_xor,BitVec.toNat_not,BitVec.toNat_allOnes,BitVec.toNat_ofNat,Nat.mod_eq_of_lt h] at h2
 exact h2
theorem Te (x:Int) (h0:0≤x) (h1:x < 18446744073709551616):bits .xor .u64 IntKind.u64.max x=18446744073709551615 - x:=by
 have hm:IntKind.u64.max=18446744073709551615:=by decide
 obtain ⟨b,rfl⟩:=Int.eq_ofNat_of_zero_le h0
 rw [hm,u64_xor _ _ (by decide) (by decide) (by omega) (by omega)]
 have:=BK b (by omega)
 show ((18446744073709551615 ^^^ b:Nat):Int)=_
 rw [this];omega
theorem Vj (n:Int) (w:World) (h0:-9223372036854775808≤n) (h1:n≤9223372036854775807) :
  Calls Tryz.prog 131 #[.int .i64 n] w fun e w'=>e=.returned (strB (zB n))∧Below w.heap.size w w':=by
 by_cases hn:0≤n
 ·have HZ:Hid (zB n=uB (2*n.toNat)):=by simp [Hid,zB,zN,hn]
  go_enter Tryz.func131,Tryz.ntmps131
  go_wp2_with fail
  refine (RA _ _ (by omega) (by omega)).mono ?_
  rintro e w1 ⟨rfl,hb⟩
  go_wp2
  go_ret
  exact ⟨xj (by rw [HZ.out];congr 1<;>omega),hb⟩
 ·have HZ:Hid (zB n=uB (2*(-(n+1)).toNat+1)):=by simp [Hid,zB,zN,hn]
  go_enter Tryz.func131,Tryz.ntmps131
  have hx:=Te (IntKind.u64.wrap (IntKind.u64.wrap n*2)) (by rw [IntKind.wrap_u64];omega) (by rw [IntKind.wrap_u64];omega)
  have hx2:(18446744073709551615:Int) - IntKind.u64.wrap (IntKind.u64.wrap n*2)=-2*n - 1:=by rw [IntKind.wrap_u64,IntKind.wrap_u64];omega
  rw [hx2] at hx
  clear hx2
  go_wp2_with fail
  refine (RA _ _ (by omega) (by omega)).mono ?_
  rintro e w1 ⟨rfl,hb⟩
  go_wp2
  go_ret
  exact ⟨xj (by rw [HZ.out];congr 1<;>omega),hb⟩
theorem SR (v k:Nat):Np v k=v / 2 ^ (8*k):=by
 induction k with
 | zero=>simp [Np]
 | succ k ih=>rw [Np,ih,Nat.div_div_eq_div_mul,show 8*(k+1)=8*k+8 by omega,Nat.pow_add]
theorem LN {W:World} {e base g n cap:Nat} {l:List UInt8} (h:W.ownsRow base e 1 (.slice (some ⟨g,0,none⟩) n cap) n (qw l)) (hl:l.length=n) :
  Sem.run Tryz.prog (convert 64 9 (.slice (some ⟨g,0,none⟩) n cap)) W=.ok (strB l) W:=by
 subst hl
 refine run_convert_bytes_back (P:=Tryz.prog) _ 64 9 5 ⟨g,0,none⟩ cap l Tryz.underlying64 Tryz.underlying5 Tryz.underlying9 ?_
 intro j hj
 have:(⟨g,0,none⟩:Addr).add j=⟨g,j,none⟩:=by unfold Addr.add;split<;>simp_all
 rw [this,h.cellAt j (by omega)]
 simp [qw,hj]
theorem AY {w wr:World} {e m k:Nat} (hk:k < 8) (hB:Below w.heap.size w wr)
  (h:wr.ownsRow w.heap.size e 1 (.slice (some ⟨w.heap.size,0,none⟩) 8 8) 8 (qw (Ve m k)++List.replicate (8 - k) (.int .u8 0))) :
  (wr.setCell ⟨w.heap.size,k,none⟩ (.int .u8 ((m:Int) / 2 ^ (8*k) % 256))).ownsRow w.heap.size e 1 (.slice (some ⟨w.heap.size,0,none⟩) 8 8) 8 (qw (Ve m (k+1))++List.replicate (8 - (k+1)) (.int .u8 0)) ∧
  Below w.heap.size w (wr.setCell ⟨w.heap.size,k,none⟩ (.int .u8 ((m:Int) / 2 ^ (8*k) % 256))):=by
 have h1:=(h.stored k (.int .u8 ((m:Int) / 2 ^ (8*k) % 256))).1
 rw [Td _ _ _ 8 k (by simp [qw,ZH]) hk] at h1
 refine ⟨?_,hB.setCell (Nat.le_refl _) _⟩
 have e1:qw (Ve m (k+1))=qw (Ve m k)++[.int .u8 ((m:Int) / 2 ^ (8*k) % 256)]:=by
  have e2:((Np m k:Nat):Int)=(m:Int) / 2 ^ (8*k):=by rw [SR];simp
  rw [Ve,Xl,NJ,xY _ (by omega) (by omega),e2]
 rw [e1]
 exact h1
theorem MF {W:World} {e base g n k:Nat} {A:List Value} (h:W.ownsRow base e 1 (.slice (some ⟨g,0,none⟩) n n) n (A++List.replicate (n - k) (.int .u8 0))) (hA:A.length=k) (hk:k < n) :
  W.cell? ⟨g,k,none⟩=some (.int .u8 0):=by
 obtain ⟨m,hm⟩:∃ m,n - k=m+1:=⟨n - k - 1,by omega⟩
 rw [h.cellAt k (by omega),List.getElem?_append_right (by omega),hA,hm,Nat.sub_self,List.replicate_succ]
 rfl
theorem Ai (w:World) (m t:Nat):(w.alloc (Obj.cells #[Value.int IntKind.u8 0,Value.int IntKind.u8 0,Value.int IntKind.u8 0,Value.int IntKind.u8 0,Value.int IntKind.u8 0,Value.int IntKind.u8 0,Value.int IntKind.u8 0,Value.int IntKind.u8 0] t)).ownsRow w.heap.size t 1 (.slice (some ⟨w.heap.size,0,none⟩) 8 8) 8 (qw (Ve m 0)++List.replicate (8 - 0) (.int .u8 0)):=by
 refine ⟨rfl,.inr ⟨w.heap.size,8,_,rfl,Nat.le_refl _,heap_alloc_new w _,Nat.le_refl _,by decide,rfl,rfl⟩⟩
theorem Sb (n:Int) (w:World) (h0:-9223372036854775808≤n) (h1:n≤9223372036854775807) :
  Calls Tryz.prog 153 #[.int .i64 n] w fun e w'=>e=.returned (strB (bB n))∧Below w.heap.size w w':=by
 have hw:=Fd n
 obtain ⟨m,hm⟩:=Int.eq_ofNat_of_zero_le (show 0≤n % 18446744073709551616 by omega)
 have hm1:m < 18446744073709551616:=by omega
 have HB:Hid (bB n=Ve m 8):=by simp [Hid,bB,hm]
 rw [hm] at hw
 clear hm
 go_enter Tryz.func153,Tryz.ntmps153
 go_wp2
 go_loopw [5] (fun i wr=>∃ k:Nat,k≤8∧i=.int .i64 (k:Int)∧wr.ownsRow w.heap.size 242 1 (.slice (some ⟨w.heap.size,0,none⟩) 8 8) 8 (qw (Ve m k)++List.replicate (8 - k) (.int .u8 0))∧Below w.heap.size w wr)
  (fun i _=>8 - (intOf i).toNat)
 case atStart=>exact ⟨0,by omega,rfl,Ai w m _,(Below.refl _ _).alloc (Nat.le_refl _) _⟩
 case round =>
  obtain ⟨k,hk,rfl,hown,hB⟩:=hrel
  have hG:w.heap.size < wr.heap.size:=(hown.lt _ rfl).2
  by_cases hlt:k < 8
  ·have hc0:=MF hown (by simp [qw,ZH]) hlt
   have hf0:=hown.frozenAt k
   have HR:=hid (AY hlt hB hown)
   clear hown hB
   go_wp2
   go_roundw
   case rel=>exact ⟨k+1,by omega,by go_num,HR.out.1,HR.out.2⟩
   case measure=>simp [intOf];omega
  ·have hk8:k=8:=by omega
   subst hk8
   have hcv:=LN (l:=Ve m 8) (by simpa using hown) (by simp [ZH])
   go_wp2
   go_ret
   exact ⟨xj HB.out.symm,hB⟩
def zl (ps:List (List UInt8)):List Value:=ps.map strB
theorem YH (ps:List (List UInt8)):xH (ps.map fun l=>(⟨l.toArray⟩:ByteArray))=ps.flatten:=by
 induction ps with
 | nil=>rfl
 | cons p ps ih=>simp only [xH,List.map_cons,List.flatMap_cons,List.flatten_cons] at ih ⊢;rw [ih]
theorem Kt (ps:List (List UInt8)) (b cap:Nat) (w:World) (hn:ps.length≤1000) (hs:ps.flatten.length≤1000000) (hb:b < w.heap.size)
  (hc:∀ j (h:j < ps.length),w.cell? ⟨b,j,none⟩=some (strB ps[j])) :
  Calls Tryz.prog 93 #[.slice (some ⟨b,0,none⟩) ps.length cap] w fun e w'=>e=.returned (strB ps.flatten)∧Below w.heap.size w w':=by
 have:=DI (ps.map fun l=>(⟨l.toArray⟩:ByteArray)) b cap w (by simpa using hn) (by rw [YH];exact hs) hb (by intro j h;simpa using hc j (by simpa using h))
 rw [YH] at this
 simpa using this
theorem QF (ps:List (List UInt8)) (C:Array Value) (n:Nat) (w:World) (hC:C=(zl ps).toArray) (hl:ps.length=n) (hn:n≤1000) (hs:ps.flatten.length≤1000000) :
  Calls Tryz.prog 93 #[.slice (some ⟨w.heap.size,0,none⟩) n n] (w.alloc (.cells C 9)) fun e w'=>e=.returned (strB ps.flatten)∧Below w.heap.size w w':=by
 subst hl
 refine (Kt ps w.heap.size ps.length _ hn hs (by simp) ?_).mono ?_
 ·intro j h
  rw [World.cell?_alloc_mark,hC]
  simp [h,zl]
 ·rintro e w' ⟨h1,h2⟩
  exact ⟨h1,((Below.refl _ _).alloc (Nat.le_refl _) _).trans (h2.mono (by simp))⟩
theorem Xx (ps:List (List UInt8)) (base n:Nat) (v:Value) (w:World) (h:w.ownsRow base 9 1 v n (zl ps)) (hp:ps≠[]) (hn:ps.length≤1000) (hs:ps.flatten.length≤1000000) :
  Calls Tryz.prog 93 #[v] w fun e w'=>e=.returned (strB ps.flatten)∧Below w.heap.size w w':=by
 have hl:ps.length=n:=by simpa [zl] using h.1
 rcases h.2 with ⟨rfl,rfl⟩|⟨g,cap,cur,rfl,_⟩
 ·exact absurd (List.eq_nil_of_length_eq_zero hl) hp
 ·subst hl
  refine Kt ps g cap w hn hs (h.lt g rfl).2 ?_
  intro j hj
  rw [h.cellAt j (by omega)]
  simp [zl,hj]
theorem VE (s:List UInt8) (w:World) (hs:s.length≤100000) :
  Calls Tryz.prog 115 #[strB s] w fun e w'=>e=.returned (strB (xB s))∧Below w.heap.size w w':=by
 have hz:=jM s
 have hu:=qa s.length (by omega)
 go_enter Tryz.func115,Tryz.ntmps115
 go_wp2_with fail
 refine (zy _ _ (by omega)).mono ?_
 rintro e w1 ⟨rfl,hb1⟩
 go_wp2_with fail
 refine (QF [uB s.length,s] _ 2 w1 rfl rfl (by decide) (by simp;omega)).mono ?_
 rintro e w2 ⟨rfl,hb2⟩
 go_wp2
 go_ret
 exact ⟨xj (by simp [xB]),hb1.trans (hb2.mono hb1.size)⟩
theorem Nd (a v:Int) (w:World) (h0:-9223372036854775808≤a) (h1:a≤9223372036854775807) (h2:-9223372036854775808≤v) (h3:v≤9223372036854775807) :
  Calls Tryz.prog 155 #[.int .i64 a,.int .i64 v] w fun e w'=>e=.returned (strB (zB (wrap64 (v - a))))∧Below w.heap.size w w':=by
 obtain ⟨k0,k1⟩:=JU (v - a)
 go_enter Tryz.func155,Tryz.ntmps155
 go_wp2_with fail
 refine (Vj _ _ k0 k1).mono ?_
 rintro e w1 ⟨rfl,hb1⟩
 go_wp2
 go_ret
 exact ⟨rfl,hb1⟩
end Go.Proofs.YthhpbhpfagoapabGreat
