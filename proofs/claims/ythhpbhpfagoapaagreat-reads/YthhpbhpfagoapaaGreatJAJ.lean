import Derived.Test.YthhpbhpfagoapaaGreatJAM
import Derived.Test.YthhpbhpfagoapaaGreatJAL
import Derived.Test.YthhpbhpfagoapaaGreatJAN
import Derived.Deep.QuietTactic
import Derived.BigQuiet
import Derived.WalkSmall
import Derived.Lib.Strings
import Derived.Test.YthhpbhpfagoapaaGreatJAI
import Derived.Laws.AppendOwn
import Derived.Maps.AppendAt
namespace Go.Proofs.YthhpbhpfagoapaaGreat
set_option linter.unusedVariables false
set_option linter.unusedSimpArgs false
set_option maxRecDepth 100000
set_option maxHeartbeats 16000000
section
open Go.RowKit
theorem LH (a:Int) (h0:0≤a) (h1:a≤255):bits .or .u8 a 128=a % 128+128:=by
 obtain ⟨k,rfl⟩:=Int.eq_ofNat_of_zero_le h0
 have key:∀ k:Fin 256,bits .or .u8 ((k.val:Nat):Int) 128=((k.val:Nat):Int) % 128+128:=by decide
 exact key ⟨k,by omega⟩
theorem NZ (b:UInt8):qD [b]=[.int .u8 (b.toNat:Int)]:=rfl
theorem ER {w wr w2:World} {v v2:Value} {n k:Nat} {l:List UInt8} {x:Int} {b:UInt8} (o:Obj) (hk:k=n+1) (hb:(b.toNat:Int)=x) (hB:Below w.heap.size w wr) (hown:wr.ownsRow w.heap.size 5 1 v n (qD l))
  (h2:w2.ownsRow w.heap.size 5 1 v2 (n+1) (qD l++[.int .u8 x])) (hg:(wr.alloc o).grownBy w2 v.ownBlock) :
  w2.ownsRow w.heap.size 5 1 v2 k (qD (l++[b]))∧Below w.heap.size w w2:=by
 subst hk
 rw [Zl,NZ,hb]
 exact ⟨h2,(hB.alloc hB.size o).grown hg (by have:=hB.size;simp;omega) (fun k hk=>(hown.lt k hk).1)⟩
theorem NC (n:Nat) (w:World) (hn:n < 18446744073709551616) :
  Calls Tryz.prog 265 #[.int .u64 (n:Int)] w fun e w'=>e=.returned (strB (uB n))∧Below w.heap.size w w':=by
 obtain ⟨i0,hi,hz0,hz1,hz2⟩:=info_parts Tryz.infoU8
 have HL:=hid (jN n hn)
 go_enter Tryz.func265,Tryz.ntmps265
 go_wp2
 go_loopw [0,3] (fun t v wr=>∃ (m:Nat) (acc:List UInt8),m≤n∧t=.int .u64 (m:Int)∧wr.ownsRow w.heap.size 5 1 v acc.length (qD acc)∧acc++uB m=uB n∧Below w.heap.size w wr)
  (fun t _ _=>Mc t)
 case atStart=>exact ⟨n,[],Nat.le_refl _,rfl,World.ownsRow_nil _ _ _ _,rfl,Below.refl _ _⟩
 case round =>
  obtain ⟨m,acc,hm,rfl,hown,hacc,hB⟩:=hrel
  have HA:=hid hacc
  have hl:acc.length≤10:=by
   have h1:=HL.out
   have h2:=congrArg List.length hacc
   simp at h2
   omega
  clear hacc
  by_cases hb:127 < m
  ·have hbi:(128:Int)≤(m:Int):=by omega
   have ho:=LH ((m:Int) % 256) (by omega) (by omega)
   have ho':(m:Int) % 256 % 128+128=(m:Int) % 128+128:=by omega
   rw [ho'] at ho
   clear ho'
   go_wp2_with (at_builtin;refine wpList_append_own _ rfl (.tmp 6) (.tmp 10) 149 rfl w.heap.size 5 i0 (.int .u8 0) 1 1 Tryz.underlying149 hi hz0 hz1 hz2 rfl (by decide) _ _ _ rfl (hown.alloc _) ⟨_,0,none⟩ 1 1 [.int .u8 ((m:Int) % 128+128)] rfl rfl ?c1 ?c2 ?c3 ?c4 ?c5 ?_)
   case c1=>exact qj wr #[.int .u8 ((m:Int) % 128+128)] 5
   case c2=>intro u hu;simp at hu;subst hu;rfl
   case c3=>unfold maxLen;omega
   case c4=>omega
   case c5=>have:=hB.size;simp;omega
   intro v2 w2 hown2 hgr2 _
   have HR:=hid (ER (k:=(acc++[byB ((m:Int) % 128+128)]).length) (b:=byB ((m:Int) % 128+128)) _ (by simp) (xE _ (by omega) (by omega)) hB hown hown2 hgr2)
   clear hown hown2 hgr2 hB ho
   go_wp2
   go_roundw
   case rel =>
    refine ⟨m / 128,acc++[byB ((m:Int) % 128+128)],by omega,by go_num,HR.out.1,?_,HR.out.2⟩
    rw [← HA.out,XI hb,List.append_assoc];rfl
   case measure=>simp [Mc];omega
  ·have hbi:(m:Int)≤127:=by omega
   go_wp2_with (at_builtin;refine wpList_append_own _ rfl (.tmp 14) (.tmp 17) 149 rfl w.heap.size 5 i0 (.int .u8 0) 1 1 Tryz.underlying149 hi hz0 hz1 hz2 rfl (by decide) _ _ _ rfl (hown.alloc _) ⟨_,0,none⟩ 1 1 [.int .u8 (m:Int)] rfl rfl ?c1 ?c2 ?c3 ?c4 ?c5 ?_)
   case c1=>exact qj wr #[.int .u8 (m:Int)] 5
   case c2=>intro u hu;simp at hu;subst hu;rfl
   case c3=>unfold maxLen;omega
   case c4=>omega
   case c5=>have:=hB.size;simp;omega
   intro v2 w2 hown2 hgr2 _
   obtain ⟨hr1,hr2⟩:=ER (k:=(acc++[byB (m:Int)]).length) (b:=byB (m:Int)) _ (by simp) (xE _ (by omega) (by omega)) hB hown hown2 hgr2
   have hcv:=Ux hr1
   have HE:Hid (acc++[byB (m:Int)]=uB n):=by
    show acc++[byB (m:Int)]=uB n
    rw [← HA.out,zM (by omega)]
   clear hown hown2 hgr2 hr1 hB
   go_wp2
   go_ret
   exact ⟨qt HE.out,hr2⟩
theorem Nh (n:Int) (w:World) (h0:0≤n) (h1:n < 18446744073709551616) :
  Calls Tryz.prog 265 #[.int .u64 n] w fun e w'=>e=.returned (strB (uB n.toNat))∧Below w.heap.size w w':=by
 obtain ⟨m,rfl⟩:=Int.eq_ofNat_of_zero_le h0
 rw [Int.toNat_natCast]
 exact NC m w (by omega)
theorem Ji (n:Nat) (w:World) (hn:n≤9223372036854775807) :
  Calls Tryz.prog 241 #[.int .i64 (n:Int)] w fun e w'=>e=.returned (strB (uB n))∧Below w.heap.size w w':=by
 have hw:IntKind.u64.wrap (n:Int)=(n:Int):=zZ (by omega) (by omega)
 go_enter Tryz.func241,Tryz.ntmps241
 go_wp2_with fail
 refine (NC n _ (by omega)).mono ?_
 rintro e w1 ⟨rfl,hb⟩
 go_wp2
 go_ret
 exact ⟨rfl,hb⟩
theorem Se (b:Nat) (h:b < 18446744073709551616):18446744073709551615 ^^^ b=18446744073709551615 - b:=by
 have h2:=congrArg BitVec.toNat (BitVec.allOnes_xor (x:=BitVec.ofNat 64 b))
 rw [BitVec.toNat_xor,BitVec.toNat_not,BitVec.toNat_allOnes,BitVec.toNat_ofNat,Nat.mod_eq_of_lt h] at h2
 exact h2
theorem DG (x:Int) (h0:0≤x) (h1:x < 18446744073709551616):bits .xor .u64 IntKind.u64.max x=18446744073709551615 - x:=by
 have hm:IntKind.u64.max=18446744073709551615:=by decide
 obtain ⟨b,rfl⟩:=Int.eq_ofNat_of_zero_le h0
 rw [hm,u64_xor _ _ (by decide) (by decide) (by omega) (by omega)]
 have:=Se b (by omega)
 show ((18446744073709551615 ^^^ b:Nat):Int)=_
 rw [this];omega
theorem KZ (n:Int) (w:World) (h0:-9223372036854775808≤n) (h1:n≤9223372036854775807) :
  Calls Tryz.prog 244 #[.int .i64 n] w fun e w'=>e=.returned (strB (zB n))∧Below w.heap.size w w':=by
 by_cases hn:0≤n
 ·have HZ:Hid (zB n=uB (2*n.toNat)):=by simp [Hid,zB,zN,hn]
  go_enter Tryz.func244,Tryz.ntmps244
  go_wp2_with fail
  refine (Nh _ _ (by omega) (by omega)).mono ?_
  rintro e w1 ⟨rfl,hb⟩
  go_wp2
  go_ret
  exact ⟨qt (by rw [HZ.out];congr 1<;>omega),hb⟩
 ·have HZ:Hid (zB n=uB (2*(-(n+1)).toNat+1)):=by simp [Hid,zB,zN,hn]
  go_enter Tryz.func244,Tryz.ntmps244
  have hx:=DG (IntKind.u64.wrap (IntKind.u64.wrap n*2)) (by rw [IntKind.wrap_u64];omega) (by rw [IntKind.wrap_u64];omega)
  have hx2:(18446744073709551615:Int) - IntKind.u64.wrap (IntKind.u64.wrap n*2)=-2*n - 1:=by rw [IntKind.wrap_u64,IntKind.wrap_u64];omega
  rw [hx2] at hx
  clear hx2
  go_wp2_with fail
  refine (Nh _ _ (by omega) (by omega)).mono ?_
  rintro e w1 ⟨rfl,hb⟩
  go_wp2
  go_ret
  exact ⟨qt (by rw [HZ.out];congr 1<;>omega),hb⟩
theorem TR (v k:Nat):Kc v k=v / 2 ^ (8*k):=by
 induction k with
 | zero=>simp [Kc]
 | succ k ih=>rw [Kc,ih,Nat.div_div_eq_div_mul,show 8*(k+1)=8*k+8 by omega,Nat.pow_add]
theorem TO {W:World} {e base g n cap:Nat} {l:List UInt8} (h:W.ownsRow base e 1 (.slice (some ⟨g,0,none⟩) n cap) n (qD l)) (hl:l.length=n) :
  Sem.run Tryz.prog (convert 149 9 (.slice (some ⟨g,0,none⟩) n cap)) W=.ok (strB l) W:=by
 subst hl
 refine run_convert_bytes_back (P:=Tryz.prog) _ 149 9 5 ⟨g,0,none⟩ cap l Tryz.underlying149 Tryz.underlying5 Tryz.underlying9 ?_
 intro j hj
 have:(⟨g,0,none⟩:Addr).add j=⟨g,j,none⟩:=by unfold Addr.add;split<;>simp_all
 rw [this,h.cellAt j (by omega)]
 simp [qD,hj]
theorem Ej {w wr:World} {e m k:Nat} (hk:k < 8) (hB:Below w.heap.size w wr)
  (h:wr.ownsRow w.heap.size e 1 (.slice (some ⟨w.heap.size,0,none⟩) 8 8) 8 (qD (Kd m k)++List.replicate (8 - k) (.int .u8 0))) :
  (wr.setCell ⟨w.heap.size,k,none⟩ (.int .u8 ((m:Int) / 2 ^ (8*k) % 256))).ownsRow w.heap.size e 1 (.slice (some ⟨w.heap.size,0,none⟩) 8 8) 8 (qD (Kd m (k+1))++List.replicate (8 - (k+1)) (.int .u8 0)) ∧
  Below w.heap.size w (wr.setCell ⟨w.heap.size,k,none⟩ (.int .u8 ((m:Int) / 2 ^ (8*k) % 256))):=by
 have h1:=(h.stored k (.int .u8 ((m:Int) / 2 ^ (8*k) % 256))).1
 rw [DN _ _ _ 8 k (by simp [qD,Xa]) hk] at h1
 refine ⟨?_,hB.setCell (Nat.le_refl _) _⟩
 have e1:qD (Kd m (k+1))=qD (Kd m k)++[.int .u8 ((m:Int) / 2 ^ (8*k) % 256)]:=by
  have e2:((Kc m k:Nat):Int)=(m:Int) / 2 ^ (8*k):=by rw [TR];simp
  rw [Kd,Zl,NZ,xE _ (by omega) (by omega),e2]
 rw [e1]
 exact h1
theorem AW {W:World} {e base g n k:Nat} {A:List Value} (h:W.ownsRow base e 1 (.slice (some ⟨g,0,none⟩) n n) n (A++List.replicate (n - k) (.int .u8 0))) (hA:A.length=k) (hk:k < n) :
  W.cell? ⟨g,k,none⟩=some (.int .u8 0):=by
 obtain ⟨m,hm⟩:∃ m,n - k=m+1:=⟨n - k - 1,by omega⟩
 rw [h.cellAt k (by omega),List.getElem?_append_right (by omega),hA,hm,Nat.sub_self,List.replicate_succ]
 rfl
theorem IB (w:World) (m t:Nat):(w.alloc (Obj.cells #[Value.int IntKind.u8 0,Value.int IntKind.u8 0,Value.int IntKind.u8 0,Value.int IntKind.u8 0,Value.int IntKind.u8 0,Value.int IntKind.u8 0,Value.int IntKind.u8 0,Value.int IntKind.u8 0] t)).ownsRow w.heap.size t 1 (.slice (some ⟨w.heap.size,0,none⟩) 8 8) 8 (qD (Kd m 0)++List.replicate (8 - 0) (.int .u8 0)):=by
 refine ⟨rfl,.inr ⟨w.heap.size,8,_,rfl,Nat.le_refl _,heap_alloc_new w _,Nat.le_refl _,by decide,rfl,rfl⟩⟩
theorem Ms (n:Int) (w:World) (h0:-9223372036854775808≤n) (h1:n≤9223372036854775807) :
  Calls Tryz.prog 189 #[.int .i64 n] w fun e w'=>e=.returned (strB (bB n))∧Below w.heap.size w w':=by
 have hw:=Ty n
 obtain ⟨m,hm⟩:=Int.eq_ofNat_of_zero_le (show 0≤n % 18446744073709551616 by omega)
 have hm1:m < 18446744073709551616:=by omega
 have HB:Hid (bB n=Kd m 8):=by simp [Hid,bB,hm]
 rw [hm] at hw
 clear hm
 go_enter Tryz.func189,Tryz.ntmps189
 go_wp2
 go_loopw [5] (fun i wr=>∃ k:Nat,k≤8∧i=.int .i64 (k:Int)∧wr.ownsRow w.heap.size 310 1 (.slice (some ⟨w.heap.size,0,none⟩) 8 8) 8 (qD (Kd m k)++List.replicate (8 - k) (.int .u8 0))∧Below w.heap.size w wr)
  (fun i _=>8 - (intOf i).toNat)
 case atStart=>exact ⟨0,by omega,rfl,IB w m _,(Below.refl _ _).alloc (Nat.le_refl _) _⟩
 case round =>
  obtain ⟨k,hk,rfl,hown,hB⟩:=hrel
  have hG:w.heap.size < wr.heap.size:=(hown.lt _ rfl).2
  by_cases hlt:k < 8
  ·have hc0:=AW hown (by simp [qD,Xa]) hlt
   have hf0:=hown.frozenAt k
   have HR:=hid (Ej hlt hB hown)
   clear hown hB
   go_wp2
   go_roundw
   case rel=>exact ⟨k+1,by omega,by go_num,HR.out.1,HR.out.2⟩
   case measure=>simp [intOf];omega
  ·have hk8:k=8:=by omega
   subst hk8
   have hcv:=TO (l:=Kd m 8) (by simpa using hown) (by simp [Xa])
   go_wp2
   go_ret
   exact ⟨qt HB.out.symm,hB⟩
def zw (ps:List (List UInt8)):List Value:=ps.map strB
theorem Yc (ps:List (List UInt8)):xK (ps.map fun l=>(⟨l.toArray⟩:ByteArray))=ps.flatten:=by
 induction ps with
 | nil=>rfl
 | cons p ps ih=>simp only [xK,List.map_cons,List.flatMap_cons,List.flatten_cons] at ih ⊢;rw [ih]
theorem KO (ps:List (List UInt8)) (b cap:Nat) (w:World) (hn:ps.length≤1000) (hs:ps.flatten.length≤1000000) (hb:b < w.heap.size)
  (hc:∀ j (h:j < ps.length),w.cell? ⟨b,j,none⟩=some (strB ps[j])) :
  Calls Tryz.prog 194 #[.slice (some ⟨b,0,none⟩) ps.length cap] w fun e w'=>e=.returned (strB ps.flatten)∧Below w.heap.size w w':=by
 have:=TN (ps.map fun l=>(⟨l.toArray⟩:ByteArray)) b cap w (by simpa using hn) (by rw [Yc];exact hs) hb (by intro j h;simpa using hc j (by simpa using h))
 rw [Yc] at this
 simpa using this
theorem XB (ps:List (List UInt8)) (C:Array Value) (n:Nat) (w:World) (hC:C=(zw ps).toArray) (hl:ps.length=n) (hn:n≤1000) (hs:ps.flatten.length≤1000000) :
  Calls Tryz.prog 194 #[.slice (some ⟨w.heap.size,0,none⟩) n n] (w.alloc (.cells C 9)) fun e w'=>e=.returned (strB ps.flatten)∧Below w.heap.size w w':=by
 subst hl
 refine (KO ps w.heap.size ps.length _ hn hs (by simp) ?_).mono ?_
 ·intro j h
  rw [World.cell?_alloc_mark,hC]
  simp [h,zw]
 ·rintro e w' ⟨h1,h2⟩
  exact ⟨h1,((Below.refl _ _).alloc (Nat.le_refl _) _).trans (h2.mono (by simp))⟩
theorem Xw (ps:List (List UInt8)) (base n:Nat) (v:Value) (w:World) (h:w.ownsRow base 9 1 v n (zw ps)) (hp:ps≠[]) (hn:ps.length≤1000) (hs:ps.flatten.length≤1000000) :
  Calls Tryz.prog 194 #[v] w fun e w'=>e=.returned (strB ps.flatten)∧Below w.heap.size w w':=by
 have hl:ps.length=n:=by simpa [zw] using h.1
 rcases h.2 with ⟨rfl,rfl⟩|⟨g,cap,cur,rfl,_⟩
 ·exact absurd (List.eq_nil_of_length_eq_zero hl) hp
 ·subst hl
  refine KO ps g cap w hn hs (h.lt g rfl).2 ?_
  intro j hj
  rw [h.cellAt j (by omega)]
  simp [zw,hj]
theorem GX (s:List UInt8) (w:World) (hs:s.length≤100000) :
  Calls Tryz.prog 204 #[strB s] w fun e w'=>e=.returned (strB (xB s))∧Below w.heap.size w w':=by
 have hz:=jK s
 have hu:=jN s.length (by omega)
 go_enter Tryz.func204,Tryz.ntmps204
 go_wp2_with fail
 refine (Ji _ _ (by omega)).mono ?_
 rintro e w1 ⟨rfl,hb1⟩
 go_wp2_with fail
 refine (XB [uB s.length,s] _ 2 w1 rfl rfl (by decide) (by simp;omega)).mono ?_
 rintro e w2 ⟨rfl,hb2⟩
 go_wp2
 go_ret
 exact ⟨qt (by simp [xB]),hb1.trans (hb2.mono hb1.size)⟩
theorem Gb (a v:Int) (w:World) (h0:-9223372036854775808≤a) (h1:a≤9223372036854775807) (h2:-9223372036854775808≤v) (h3:v≤9223372036854775807) :
  Calls Tryz.prog 191 #[.int .i64 a,.int .i64 v] w fun e w'=>e=.returned (strB (zB (wrap64 (v - a))))∧Below w.heap.size w w':=by
 obtain ⟨k0,k1⟩:=zk (v - a)
 go_enter Tryz.func191,Tryz.ntmps191
 go_wp2_with fail
 refine (KZ _ _ k0 k1).mono ?_
 rintro e w1 ⟨rfl,hb1⟩
 go_wp2
 go_ret
 exact ⟨rfl,hb1⟩
end
section
open Go.RowKit
theorem Ra (c:UInt8) (r:List UInt8):qd 1 (some (c :: r))=([c],some r):=by
 rw [zP (by omega) (by simp;omega)];rfl
theorem QJ (s r:List UInt8):qd (s.length:Int) (some (s++r))=(s,some r):=by
 rw [zP (by omega) (by simp;omega)]
 simp
theorem JF (n:Nat) (h:n≤255):(byB (n:Int)).toNat=n:=by
 have:=xE (n:Int) (by omega) (by omega)
 omega
theorem YF (k acc sc:Nat) (c:UInt8) (r:List UInt8):uP (k+1) acc sc (some (c :: r)) =
  if c.toNat < 128 then ((acc+sc*(c.toNat % 128)) % 18446744073709551616,some r) else uP k ((acc+sc*(c.toNat % 128)) % 18446744073709551616) (sc*128 % 18446744073709551616) (some r):=by
 simp only [uP,Ra]
theorem Bc (r:List UInt8):∀ (k n acc sc:Nat),n < 128 ^ (k+1)→acc+sc*n < 18446744073709551616→uP (k+1) acc sc (some (uB n++r))=(acc+sc*n,some r):=by
 intro k
 induction k with
 | zero =>
  intro n acc sc hn hs
  have hn':n≤127:=by omega
  rw [zM hn']
  show uP (0+1) acc sc (some (byB (n:Int) :: r))=_
  rw [YF,JF n (by omega),if_pos (by omega),Nat.mod_eq_of_lt (show n < 128 by omega),Nat.mod_eq_of_lt hs]
 | succ k ih =>
  intro n acc sc hn hs
  by_cases hsm:n≤127
  ·rw [zM hsm]
   show uP (k+1+1) acc sc (some (byB (n:Int) :: r))=_
   rw [YF,JF n (by omega),if_pos (by omega),Nat.mod_eq_of_lt (show n < 128 by omega),Nat.mod_eq_of_lt hs]
  ·rw [XI (by omega)]
   have hc:(byB ((n:Int) % 128+128)).toNat=n % 128+128:=by
    have:=JF (n % 128+128) (by omega)
    have e:(((n % 128+128:Nat)):Int)=(n:Int) % 128+128:=by omega
    rw [e] at this
    exact this
   show uP (k+1+1) acc sc (some (byB ((n:Int) % 128+128) :: (uB (n / 128)++r)))=_
   rw [YF,hc,if_neg (by omega)]
   have e1:(n % 128+128) % 128=n % 128:=by omega
   have e2:sc*n=sc*(n % 128)+sc*128*(n / 128):=by
    have h:=Nat.mod_add_div n 128
    have h3:sc*(n % 128+128*(n / 128))=sc*(n % 128)+sc*128*(n / 128):=by rw [Nat.mul_add,Nat.mul_assoc]
    rw [h] at h3
    exact h3
   have h1:1≤n / 128:=by omega
   have h2:sc*128≤sc*128*(n / 128):=Nat.le_mul_of_pos_right _ (by omega)
   rw [e1,Nat.mod_eq_of_lt (show acc+sc*(n % 128) < 18446744073709551616 by omega),Nat.mod_eq_of_lt (show sc*128 < 18446744073709551616 by omega)]
   rw [ih (n / 128) (acc+sc*(n % 128)) (sc*128) (by rw [Nat.div_lt_iff_lt_mul (by decide)];rw [Nat.pow_succ] at hn;exact hn) (by omega)]
   rw [e2,Nat.add_assoc]
theorem DQ (n:Nat) (r:List UInt8) (h:n < 18446744073709551616):uR (some (uB n++r))=(n,some r):=by
 unfold uR
 rw [Bc r 9 n 0 1 (by omega) (by omega)]
 simp
theorem Jn (max n:Nat) (r:List UInt8) (h:n≤max) (hm:max < 18446744073709551616):jJ max (some (uB n++r))=(n,some r):=by
 unfold jJ
 rw [DQ n r (by omega),if_neg (by omega)]
theorem DZ (max:Nat) (s r:List UInt8) (h:s.length≤max) (hm:max < 18446744073709551616):xR max (some (xB s++r))=(s,some r):=by
 unfold xR xB
 rw [List.append_assoc,Jn max s.length (s++r) h hm]
 exact QJ s r
theorem Dz (x:Int):zOf (zN x)=x:=by
 unfold zN
 split
 ·unfold zOf;rw [if_pos (by omega)];omega
 ·unfold zOf;rw [if_neg (by omega)];omega
theorem SM (x:Int) (r:List UInt8) (h0:-9223372036854775808≤x) (h1:x≤9223372036854775807):uR (some (zB x++r))=(zN x,some r):=DQ _ r (Ig x h0 h1)
theorem TK (v:Nat) (h:v < 18446744073709551616):Uf (Kd v 8)=v:=by
 have hb:∀ k,(byB ((Kc v k:Int) % 256)).toNat=Kc v k % 256:=by
  intro k
  have:=JF (Kc v k % 256) (by omega)
  have e:((Kc v k % 256:Nat):Int)=(Kc v k:Int) % 256:=by omega
  rw [e] at this
  exact this
 simp only [Kd,List.nil_append,List.cons_append,Uf,hb]
 simp only [Kc]
 omega
theorem SN (x:Int) (r:List UInt8) (h0:-9223372036854775808≤x) (h1:x≤9223372036854775807):bR (some (bB x++r))=(x,some r):=by
 unfold bR
 have hl:=Xs x
 have e:qd 8 (some (bB x++r))=(bB x,some r):=by
  have:=QJ (bB x) r
  rw [hl] at this
  exact this
 rw [e]
 unfold bB
 rw [TK _ (by omega)]
 simp only [Prod.mk.injEq,and_true]
 unfold wrap64
 omega
end
section
def Xl (kind:Int) (k:Nat):Nat:=if kind=0 then k else if k=0 then 5 else k+2
def zW (n:Nat) (v:List CellB):List UInt8:=byB ((n:Int) % 5) :: qp n v
def jE (kind:Int) (v:List CellB):Nat→List UInt8
 | 0=>[]
 | k+1=>if k=0∨(zW (Xl kind k) v).length < (jE kind v k).length then zW (Xl kind k) v else jE kind v k
def xw (kind:Int) (l:List CellB):List UInt8:=if je l=[] then zr l else zr l++jE kind (je l) 3
theorem Kz (n:Nat) (v:List CellB) (h:∀ c ∈ v,qz c) (hn:v.length≤60):(qp n v).length≤5000:=by
 have h1:=xm n v h hn v.length
 have hd:∀ c ∈ qb v,qz c:=fun c hc=>h c (JZ v v.length (Nat.le_refl _) c hc)
 have hl:(qb v).length≤60:=Nat.le_trans (zp v v.length) hn
 have h2:=KA (qb v) hd hl (qb v).length
 unfold qp
 rw [List.length_append]
 split<;>simp<;>omega
theorem XK (kind:Int) (v:List CellB) (h:∀ c ∈ v,qz c) (hn:v.length≤60) (k:Nat):(jE kind v k).length≤5001:=by
 induction k with
 | zero=>simp [jE]
 | succ k ih =>
  have:=Kz (Xl kind k) v h hn
  simp only [jE]
  split
  ·simp only [zW,List.length_cons];omega
  ·exact ih
end
section
open Go.RowKit
def qP (kind:Int) (e:Nat) (words:List (List UInt8)) (n len:Nat) (last:CellB) (st:Option (List UInt8)):CellB × Nat × Option (List UInt8) :=
 if kind=0∧e=0 then (⟨false,(bR st).1,[]⟩,1,(bR st).2)
 else if kind=0∧e=1 then (⟨false,wrap64 (last.int+zOf (uR st).1),[]⟩,1,(uR st).2)
 else if kind=0∧e=2 then (⟨false,zOf (uR (jJ (n - len) st).2).1,[]⟩,(jJ (n - len) st).1,if (jJ (n - len) st).1=0 then none else (uR (jJ (n - len) st).2).2)
 else if kind=1∧e=0 then (⟨false,0,(xR 12 st).1⟩,1,(xR 12 st).2)
 else if kind=1∧e=3∧words≠[] then (⟨false,0,words.getD (jJ (words.length - 1) st).1 []⟩,1,(jJ (words.length - 1) st).2)
 else if kind=1∧e=4 then (⟨false,0,last.text.take (jJ last.text.length st).1++(xR 12 (jJ last.text.length st).2).1⟩,1,(xR 12 (jJ last.text.length st).2).2)
 else (⟨false,0,[]⟩,1,none)
def xF (kind:Int) (e:Nat) (words:List (List UInt8)) (n:Nat):Nat→List CellB→CellB→Option (List UInt8)→List CellB × Option (List UInt8)
 | 0,l,_,st=>(l,st)
 | f+1,l,last,st =>
  if l.length < n∧st.isSome=true then
   xF kind e words n f (l++List.replicate (qP kind e words n l.length last st).2.1 (qP kind e words n l.length last st).1) (qP kind e words n l.length last st).1 (qP kind e words n l.length last st).2.2
  else (l,st)
def zI (w:Nat) (v:List CellB):Nat→Nat→List UInt8
 | _,0=>[]
 | i,k+1=>qG w v i++zI w v (i+1) k
theorem Ah (w:Nat) (v:List CellB):∀ (k i:Nat),js w v (i+k)=js w v i++zI w v i k:=by
 intro k
 induction k with
 | zero=>intro i;simp [zI]
 | succ k ih =>
  intro i
  rw [show i+(k+1)=(i+1)+k by omega,ih (i+1)]
  simp [js,zI]
theorem KJ (w:Nat) (v:List CellB):js w v v.length=zI w v 0 v.length:=by
 have:=Ah w v v.length 0
 simpa [js] using this
theorem Zn (kind:Int) (e w:Nat) (words:List (List UInt8)) (v:List CellB) (r:List UInt8)
  (hstep:∀ i (h:i < v.length) (rest:List UInt8),qP kind e words v.length i (jR v i) (some (qG w v i++rest))=(v[i],1,some rest)) :
  ∀ (k i:Nat),i+k=v.length→xF kind e words v.length (k+1) (v.take i) (jR v i) (some (zI w v i k++r))=(v,some r):=by
 intro k
 induction k with
 | zero =>
  intro i hi
  have hl:(v.take i).length=v.length:=by rw [List.length_take];omega
  simp only [xF,zI,List.nil_append]
  rw [if_neg (by rw [hl];omega)]
  rw [List.take_of_length_le (by omega)]
 | succ k ih =>
  intro i hi
  have hlt:i < v.length:=by omega
  have hl:(v.take i).length=i:=by rw [List.length_take];omega
  rw [xF,if_pos (by rw [hl];exact ⟨hlt,rfl⟩),hl]
  simp only [zI,List.append_assoc]
  rw [hstep i hlt (zI w v (i+1) k++r)]
  have e1:v.take i++List.replicate 1 v[i]=v.take (i+1):=by rw [List.take_succ_eq_append_getElem hlt];rfl
  have e2:v[i]=jR v (i+1):=by
   unfold jR
   rw [if_neg (by omega),Nat.add_sub_cancel,jY v i hlt]
  simp only [e1]
  rw [e2]
  exact ih (i+1) (by omega)
def Mk (c:CellB):Prop:=c.null=false∧c.text=[]∧-9223372036854775808≤c.int∧c.int≤9223372036854775807
def RU (c:CellB):Prop:=c.null=false∧c.int=0∧c.text.length≤12
theorem Uz {c:CellB} (h:Mk c):c=⟨false,c.int,[]⟩:=by
 obtain ⟨n,i,t⟩:=c
 obtain ⟨h1,h2,_⟩:=h
 simp at h1 h2
 subst h1 h2
 rfl
theorem NS {c:CellB} (h:RU c):c=⟨false,0,c.text⟩:=by
 obtain ⟨n,i,t⟩:=c
 obtain ⟨h1,h2,_⟩:=h
 simp at h1 h2
 subst h1 h2
 rfl
theorem Lt (v:List CellB) (r:List UInt8) (hv:∀ c ∈ v,Mk c):xF 0 0 [] v.length (v.length+1) [] qy (some (zI 0 v 0 v.length++r))=(v,some r):=by
 have:=Zn 0 0 0 [] v r (fun i h rest=>by
  have hc:=hv v[i] (List.getElem_mem h)
  have hs:qG 0 v i=bB (v[i]).int:=by show bB (xP v i).int=_;rw [jY v i h]
  unfold qP
  rw [if_pos ⟨rfl,rfl⟩,hs,SN _ rest hc.2.2.1 hc.2.2.2]
  exact Prod.ext (Uz hc).symm rfl) v.length 0 (by omega)
 simpa [jR] using this
theorem Mf (a b:Int) (h0:-9223372036854775808≤b) (h1:b≤9223372036854775807):wrap64 (a+wrap64 (b - a))=b:=by
 unfold wrap64;omega
theorem Ll (v:List CellB) (r:List UInt8) (hv:∀ c ∈ v,Mk c):xF 0 1 [] v.length (v.length+1) [] qy (some (zI 1 v 0 v.length++r))=(v,some r):=by
 have:=Zn 0 1 1 [] v r (fun i h rest=>by
  have hc:=hv v[i] (List.getElem_mem h)
  have hs:qG 1 v i=zB (wrap64 ((v[i]).int - (jR v i).int)):=by show zB (wrap64 ((xP v i).int - (jR v i).int))=_;rw [jY v i h]
  have hr:=zk ((v[i]).int - (jR v i).int)
  unfold qP
  rw [if_neg (by omega),if_pos ⟨rfl,rfl⟩,hs,SM _ rest hr.1 hr.2,Dz,Mf _ _ hc.2.2.1 hc.2.2.2]
  exact Prod.ext (Uz hc).symm rfl) v.length 0 (by omega)
 simpa [jR] using this
theorem SV (v:List CellB) (r:List UInt8) (hv:∀ c ∈ v,RU c):xF 1 0 [] v.length (v.length+1) [] qy (some (zI 5 v 0 v.length++r))=(v,some r):=by
 have:=Zn 1 0 5 [] v r (fun i h rest=>by
  have hc:=hv v[i] (List.getElem_mem h)
  have hs:qG 5 v i=xB (v[i]).text:=by show xB (xP v i).text=_;rw [jY v i h]
  unfold qP
  rw [if_neg (by omega),if_neg (by omega),if_neg (by omega),if_pos ⟨rfl,rfl⟩,hs,DZ 12 _ rest hc.2.2 (by omega)]
  exact Prod.ext (NS hc).symm rfl) v.length 0 (by omega)
 simpa [jR] using this
theorem Iq (s t:List UInt8):t.take (jF s t)++s.drop (jF s t)=s:=by
 have h:=Jb s t
 have e:t.take (jF s t)=s.take (jF s t):=by
  apply List.ext_getElem
  ·rw [List.length_take,List.length_take];omega
  ·intro i h1 h2
   rw [List.length_take] at h1
   simp only [List.getElem_take]
   exact (Uu s t i (by omega) (by omega) (by omega)).symm
 rw [e,List.take_append_drop]
theorem Ls (v:List CellB) (r:List UInt8) (hv:∀ c ∈ v,RU c):xF 1 4 [] v.length (v.length+1) [] qy (some (zI 4 v 0 v.length++r))=(v,some r):=by
 have:=Zn 1 4 4 [] v r (fun i h rest=>by
  have hc:=hv v[i] (List.getElem_mem h)
  have hp:(jR v i).text.length≤12:=by
   unfold jR;split
   ·decide
   ·rw [jY v (i - 1) (by omega)];exact (hv _ (List.getElem_mem _)).2.2
  have hs:qG 4 v i=uB (jF (v[i]).text (jR v i).text)++xB ((v[i]).text.drop (jF (v[i]).text (jR v i).text)):=by simp only [qG,jY v i h]
  have hle:=Jb (v[i]).text (jR v i).text
  unfold qP
  rw [if_neg (by omega),if_neg (by omega),if_neg (by omega),if_neg (by omega),if_neg (by omega),if_pos ⟨rfl,rfl⟩,hs,List.append_assoc,
   Jn _ _ _ hle.2 (by omega),DZ 12 _ rest (by rw [List.length_drop];have:=hc.2.2;omega) (by omega),Iq]
  exact Prod.ext (NS hc).symm rfl) v.length 0 (by omega)
 simpa [jR] using this
end
section
open Go.RowKit
def xU:Nat→Option (List UInt8)→List (List UInt8) × Option (List UInt8)
 | 0,st=>([],st)
 | k+1,st=>((xR 12 st).1 :: (xU k (xR 12 st).2).1,(xU k (xR 12 st).2).2)
def xsB (d:List CellB):List UInt8:=d.flatMap fun c=>xB c.text
theorem Ml (d:List CellB):∀ k,k≤d.length→zD d k=uB d.length++xsB (d.take k):=by
 intro k
 induction k with
 | zero=>intro _;simp [zD,xsB]
 | succ k ih =>
  intro h
  rw [zD,ih (by omega),jY d k (by omega),List.take_succ_eq_append_getElem (by omega)]
  simp only [xsB,List.flatMap_append,List.flatMap_cons,List.flatMap_nil,List.append_nil,List.append_assoc]
theorem IN (d:List CellB) (r:List UInt8) (h:∀ c ∈ d,c.text.length≤12):xU d.length (some (xsB d++r))=(d.map (·.text),some r):=by
 induction d with
 | nil=>rfl
 | cons c d ih =>
  have e:xsB (c :: d)++r=xB c.text++(xsB d++r):=by simp [xsB]
  rw [e]
  simp only [List.length_cons,xU]
  rw [DZ 12 c.text (xsB d++r) (h c (by simp)) (by omega)]
  simp only
  rw [ih (fun x hx=>h x (by simp [hx]))]
  rfl
theorem SR (v:List CellB) (r:List UInt8) (hv:∀ c ∈ v,RU c) (hn:v.length≤60):xF 1 3 ((qb v).map (·.text)) v.length (v.length+1) [] qy (some (zI 3 v 0 v.length++r))=(v,some r):=by
 have:=Zn 1 3 3 ((qb v).map (·.text)) v r (fun i h rest=>by
  have hc:=hv v[i] (List.getElem_mem h)
  have hs:qG 3 v i=uB (jP (qb v) (v[i]).text):=by show uB (jP (qb v) (xP v i).text)=_;rw [jY v i h]
  obtain ⟨h1,h2⟩:=QH (qb v) (v[i]).text (Zt v i h)
  have hdl:=zp v v.length
  have hd2:(qb v).length≤v.length:=hdl
  have hne:(qb v).map (·.text)≠[]:=by
   intro e0
   have:=congrArg List.length e0
   simp at this
   rw [this] at h1
   simp at h1
  have hlm:((qb v).map (·.text)).length=(qb v).length:=by simp
  unfold qP
  rw [if_neg (by omega),if_neg (by omega),if_neg (by omega),if_neg (by omega),if_pos ⟨rfl,rfl,hne⟩,hs,hlm,Jn _ _ rest (by omega) (by omega)]
  have eg:((qb v).map (·.text)).getD (jP (qb v) (v[i]).text) []=(v[i]).text:=by
   simp only [List.getD,List.getElem?_map,List.getElem?_eq_getElem h1,Option.map_some,Option.getD_some]
   exact h2
  rw [eg]
  exact Prod.ext (NS hc).symm rfl) v.length 0 (by omega)
 simpa [jR] using this
theorem CJ (w:Nat) (v:List CellB):∀ (q a k:Nat),q≤k→(∀ j,j < q→qG w v (a+j)=[])→zI w v a k=zI w v (a+q) (k - q):=by
 intro q
 induction q with
 | zero=>intro a k _ _;rfl
 | succ q ih =>
  intro a k hk h
  obtain ⟨k',rfl⟩:∃ k',k=k'+1:=⟨k - 1,by omega⟩
  have h0:=h 0 (by omega)
  simp only [Nat.add_zero] at h0
  simp only [zI]
  rw [h0,List.nil_append,ih (a+1) k' (by omega) (fun j hj=>by have:=h (j+1) (by omega);rwa [show a+(j+1)=a+1+j by omega] at this)]
  congr 1<;>omega
theorem Lw (v:List CellB) (r:List UInt8) (hv:∀ c ∈ v,Mk c) (hn:v.length≤60) :
  ∀ (k i f:Nat) (last:CellB),i+k=v.length→k < f→(k=0∨i=0∨(xP v i).int≠(jR v i).int)→xF 0 2 [] v.length f (v.take i) last (some (zI 2 v i k++r))=(v,some r):=by
 intro k
 induction k using Nat.strongRecOn with
 | _ k ih =>
  intro i f last hi hf hrun
  obtain ⟨f',rfl⟩:∃ f',f=f'+1:=⟨f - 1,by omega⟩
  have hl:(v.take i).length=i:=by rw [List.length_take];omega
  by_cases hk:k=0
  ·subst hk
   rw [xF,if_neg (by rw [hl];omega),zI,List.nil_append,List.take_of_length_le (by omega)]
  ·have hlt:i < v.length:=by omega
   have hc:=hv v[i] (List.getElem_mem hlt)
   have hrow:=UB (v[i]).int (v.drop (i+1))
   rw [List.length_drop] at hrow
   have hin:∀ j,j < Jd (v[i]).int (v.drop (i+1))→∃ h:i+1+j < v.length,v[i+1+j]=v[i]:=by
    intro j hj
    obtain ⟨h1,h2⟩:=GF (v[i]).int (v.drop (i+1)) j hj
    rw [List.length_drop] at h1
    refine ⟨by omega,?_⟩
    rw [List.getElem_drop] at h2
    rw [Uz (hv v[i+1+j] (List.getElem_mem _)),Uz hc,h2]
   have hend:∀ h:i+1+Jd (v[i]).int (v.drop (i+1)) < v.length,(v[i+1+Jd (v[i]).int (v.drop (i+1))]).int≠(v[i]).int:=by
    intro h
    have:=UO (v[i]).int (v.drop (i+1)) (by rw [List.length_drop];omega)
    rw [List.getElem_drop] at this
    exact this
   have hs:qG 2 v i=uB (Jd (v[i]).int (v.drop (i+1))+1)++zB (v[i]).int:=by
    simp only [qG,jY v i hlt]
    rw [if_pos]
    rcases hrun with h|h|h
    ·exact absurd h hk
    ·exact .inl h
    ·rw [jY v i hlt] at h;exact .inr h
   generalize Jd (v[i]).int (v.drop (i+1))=q at *
   have hskip:zI 2 v (i+1) (k - 1)=zI 2 v (i+1+q) (k - 1 - q):=CJ 2 v q (i+1) (k - 1) (by omega) (fun j hj=>by
    obtain ⟨h1,h2⟩:=hin j hj
    simp only [qG,jY v (i+1+j) h1,jR]
    rw [if_neg (by omega:¬ (i+1+j=0)),jY v (i+1+j - 1) (by omega)]
    have hp:v[i+1+j - 1]=v[i]:=by
     cases j with
     | zero=>rfl
     | succ j =>
      obtain ⟨h3,h4⟩:=hin j (by omega)
      rw [← h4]
      congr 1
    rw [hp,h2]
    rw [if_neg (fun h=>h.elim (fun h=>by omega) (fun h=>h rfl))])
   obtain ⟨k',rfl⟩:∃ k',k=k'+1:=⟨k - 1,by omega⟩
   simp only [Nat.add_sub_cancel] at hskip
   rw [xF,if_pos (by rw [hl];exact ⟨hlt,rfl⟩),hl]
   simp only [zI,hs,hskip,List.append_assoc]
   have hstep:qP 0 2 [] v.length i last (some (uB (q+1)++(zB (v[i]).int++(zI 2 v (i+1+q) (k' - q)++r))))=(v[i],q+1,some (zI 2 v (i+1+q) (k' - q)++r)):=by
    unfold qP
    rw [if_neg (by omega),if_neg (by omega),if_pos ⟨rfl,rfl⟩,Jn _ _ _ (by omega) (by omega),SM _ _ hc.2.2.1 hc.2.2.2]
    simp only [Dz]
    rw [if_neg (by omega)]
    exact Prod.ext (Uz hc).symm rfl
   rw [hstep]
   have e1:v.take i++List.replicate (q+1) v[i]=v.take (i+1+q):=by
    apply List.ext_getElem
    ·simp only [List.length_append,List.length_take,List.length_replicate];omega
    ·intro j h1 h2
     rw [List.getElem_take]
     by_cases hj:j < i
     ·rw [List.getElem_append_left (by rw [hl];exact hj),List.getElem_take]
     ·rw [List.getElem_append_right (by rw [hl];omega),List.getElem_replicate]
      by_cases hji:j=i
      ·subst hji;rfl
      ·obtain ⟨h3,h4⟩:=hin (j - i - 1) (by rw [List.length_take] at h2;omega)
       rw [← h4]
       congr 1
       omega
   simp only [e1]
   refine ih (k' - q) (by omega) (i+1+q) f' v[i] (by omega) (by omega) ?_
   by_cases hz:k' - q=0
   ·exact .inl hz
   ·right;right
    have h5:i+1+q < v.length:=by omega
    rw [jY v (i+1+q) h5]
    unfold jR
    rw [if_neg (by omega),jY v (i+1+q - 1) (by omega)]
    have hp:v[i+1+q - 1]=v[i]:=by
     cases q with
     | zero=>rfl
     | succ q =>
      obtain ⟨h3,h4⟩:=hin q (by omega)
      rw [← h4]
      congr 1
    rw [hp]
    exact hend h5
end
section
open Go.RowKit
def jS (w:World) (p:Nat) (s:List UInt8) (st:Option (List UInt8)):Prop :=
 ∃ (at_:Nat) (bad:Bool),w.heap[p]?=some (.cells #[strB s,.int .i64 (at_:Int),.bool bad] 243 (0,0))∧at_≤s.length∧st=(if bad=true then none else some (s.drop at_))
theorem ja {a b c:World} {p:Option Nat} (h:a.grownBy b p) (k:b.grownBy c p):a.grownBy c p :=
 ⟨k.os.trans h.os,k.tape.trans h.tape,k.output.trans h.output,Nat.le_trans h.size k.size,fun i hi hne=>(k.block i (Nat.lt_of_lt_of_le hi h.size) hne).trans (h.block i hi hne)⟩
theorem xi {w:World} {p:Nat} {x y z:Value} {t:TypeId} (h:w.heap[p]?=some (.cells #[x,y,z] t (0,0))) :
  (w.cell? ⟨p,0,none⟩=some x∧w.cell? ⟨p,1,none⟩=some y∧w.cell? ⟨p,2,none⟩=some z)∧(∀ j,w.frozen? ⟨p,j,none⟩=false):=by
 refine ⟨⟨?_,?_,?_⟩,fun j=>frozen_of_row w p j _ t h⟩
 ·rw [cell_of_row w p 0 _ t (0,0) h];rfl
 ·rw [cell_of_row w p 1 _ t (0,0) h];rfl
 ·rw [cell_of_row w p 2 _ t (0,0) h];rfl
theorem Xq {w:World} {p:Nat} {x y z v:Value} {t:TypeId} (h:w.heap[p]?=some (.cells #[x,y,z] t (0,0))):(w.setCell ⟨p,2,none⟩ v).heap[p]?=some (.cells #[x,y,v] t (0,0))∧w.grownBy (w.setCell ⟨p,2,none⟩ v) (some p):=by
 refine ⟨?_,⟨rfl,rfl,rfl,by simp,fun k _ hk=>heap_setCell_other w ⟨p,2,none⟩ k v (fun e=>hk (by simp [e]))⟩⟩
 rw [heap_setCell_same w p 2 _ t v h]
 rfl
theorem AZ {w:World} {p:Nat} {x y z v:Value} {t:TypeId} (h:w.heap[p]?=some (.cells #[x,y,z] t (0,0))):(w.setCell ⟨p,1,none⟩ v).heap[p]?=some (.cells #[x,v,z] t (0,0))∧w.grownBy (w.setCell ⟨p,1,none⟩ v) (some p):=by
 refine ⟨?_,⟨rfl,rfl,rfl,by simp,fun k _ hk=>heap_setCell_other w ⟨p,1,none⟩ k v (fun e=>hk (by simp [e]))⟩⟩
 rw [heap_setCell_same w p 1 _ t v h]
 rfl
theorem zU {a b:World} {p:Option Nat} (h:a.grownBy b p) (n:Nat):a.grownBy (b.drewN n) p:=⟨h.os,h.tape,h.output,h.size,h.block⟩
theorem YE {w:World} {p at_:Nat} {s:List UInt8} {z:Value} (h:w.heap[p]?=some (.cells #[strB s,.int .i64 (at_:Int),z] 243 (0,0))) (ha:at_≤s.length) (nq:Nat) :
  jS ((w.drewN nq).setCell ⟨p,2,none⟩ (.bool true)) p s none :=
 ⟨at_,true,(Xq (w:=w.drewN nq) h).1,ha,rfl⟩
theorem VH {w:World} {p:Nat} {x y z v:Value} {t:TypeId} (h:w.heap[p]?=some (.cells #[x,y,z] t (0,0))) (nq:Nat):w.grownBy ((w.drewN nq).setCell ⟨p,2,none⟩ v) (some p):=by
 have h1:=(Xq (w:=w.drewN nq) (v:=v) h).2
 exact ⟨h1.os,h1.tape,h1.output,h1.size,h1.block⟩
theorem Lj {w:World} {p at_ m:Nat} {s:List UInt8} {y:Value} (h:w.heap[p]?=some (.cells #[strB s,y,.bool false] 243 (0,0))) (ha:at_+m≤s.length) (n1 n2:Nat) :
  jS (((w.drewN n1).setCell ⟨p,1,none⟩ (.int .i64 ((at_:Int)+(m:Int)))).drewN n2) p s (some ((s.drop at_).drop ((m:Int)).toNat)):=by
 refine ⟨at_+m,false,?_,ha,by simp [List.drop_drop]⟩
 have:=(AZ (w:=w.drewN n1) (v:=.int .i64 ((at_:Int)+(m:Int))) h).1
 simpa using this
theorem Ti {w:World} {p:Nat} {x y z v:Value} {t:TypeId} (h:w.heap[p]?=some (.cells #[x,y,z] t (0,0))) (n1 n2:Nat):w.grownBy (((w.drewN n1).setCell ⟨p,1,none⟩ v).drewN n2) (some p):=by
 have h1:=(AZ (w:=w.drewN n1) (v:=v) h).2
 exact ⟨h1.os,h1.tape,h1.output,h1.size,h1.block⟩
theorem Sg {s:ByteArray} {l:List UInt8} (h:s.data.toList=l):Ending.returned (.string s)=.returned (strB l):=by
 subst h
 obtain ⟨⟨t⟩⟩:=s
 rfl
theorem Ql (p:Nat) (s:List UInt8) (st:Option (List UInt8)) (n:Int) (w:World) (hs:s.length≤maxLen) (h0:-9223372036854775808≤n) (h1:n≤9223372036854775807) (hp:jS w p s st) :
  Calls Tryz.prog 149 #[.pointer (some ⟨p,0,none⟩),.int .i64 n] w fun e w'=>e=.returned (strB (qd n st).1)∧jS w' p s (qd n st).2∧w.grownBy w' (some p):=by
 obtain ⟨at_,bad,hrow,hat,hst⟩:=hp
 obtain ⟨⟨c0,c1,c2⟩,cf⟩:=xi hrow
 have f1:=cf 1
 have f2:=cf 2
 have Hrow:=hid hrow
 unfold maxLen at hs
 clear hrow cf
 cases bad with
 | true =>
  simp only [if_true] at hst
  subst hst
  go_enter Tryz.func149,Tryz.ntmps149
  go_wp2_with fail
  go_quiet (fail)
  go_wp2
  go_ret
  exact ⟨rfl,YE Hrow.out hat nq,VH Hrow.out nq⟩
 | false =>
  simp only [Bool.false_eq_true,if_false] at hst
  subst hst
  have hdl:(s.drop at_).length=s.length - at_:=List.length_drop
  by_cases hn0:n < 0
  ·have HT:Hid (qd n (some (s.drop at_))=([],none)):=by simp [Hid,qd,hn0]
   go_enter Tryz.func149,Tryz.ntmps149
   go_wp2_with fail
   go_quiet (fail)
   go_wp2
   go_ret
   rw [HT.out]
   exact ⟨rfl,YE Hrow.out hat nq,VH Hrow.out nq⟩
  ·have hn1:decide (n < 0)=false:=by simp;omega
   have hn2:(0:Int)≤n:=by omega
   by_cases hn3:(s.length:Int) - (at_:Int) < n
   ·have HT:Hid (qd n (some (s.drop at_))=([],none)):=by
     exact Qk (.inr (by rw [hdl];omega))
    clear hn0
    go_enter Tryz.func149,Tryz.ntmps149
    go_wp2_with fail
    go_quiet (fail)
    go_wp2
    go_ret
    rw [HT.out]
    exact ⟨rfl,YE Hrow.out hat nq,VH Hrow.out nq⟩
   ·have HT:Hid (qd n (some (s.drop at_))=((s.drop at_).take n.toNat,some ((s.drop at_).drop n.toNat))):=by
     exact zP (by omega) (by rw [hdl];omega)
    obtain ⟨m,rfl⟩:=Int.eq_ofNat_of_zero_le hn2
    have hn4:decide ((s.length:Int) - (at_:Int) < (m:Int))=false:=by simp;omega
    have hn5:(m:Int)≤(s.length:Int) - (at_:Int):=by omega
    clear hn0 hn3
    go_enter Tryz.func149,Tryz.ntmps149
    go_wp2_with fail
    go_quiet (fail)
    go_wp2_with fail
    have b1:(at_:Int)≤(at_:Int)+(m:Int):=by omega
    have b2:(at_:Int)+(m:Int)≤(s.length:Int):=by omega
    have b3:(0:Int)≤(at_:Int):=by omega
    have b4:(at_:Int)+(m:Int) - (m:Int)=(at_:Int):=by omega
    have b5:((at_:Int)+(m:Int)).toNat=at_+m:=by omega
    go_quiet (fail)
    go_wp2_with fail
    go_ret
    rw [HT.out]
    refine ⟨Sg ?_,Lj Hrow.out (by omega) _ _,Ti Hrow.out _ _⟩
    rw [Lib.extract_data,UQ]
    simp
def JN:Option (List UInt8)→Bool
 | none=>true
 | some _=>false
theorem Ko {w:World} {p:Nat} {s:List UInt8} {st:Option (List UInt8)} (h:jS w p s st):w.cell? ⟨p,2,none⟩=some (.bool (JN st)):=by
 obtain ⟨at_,bad,hrow,_,rfl⟩:=h
 rw [(xi hrow).1.2.2]
 cases bad<;>rfl
theorem TB (c:UInt8):IntKind.u64.wrap (((⟨#[c]⟩:ByteArray)[0]'(by simp [ByteArray.size])).toNat:Int)=(c.toNat:Int):=by
 have:=c.toNat_lt
 show IntKind.u64.wrap (c.toNat:Int)=_
 rw [IntKind.wrap_u64];omega
theorem TI (n sc c:Nat):IntKind.u64.wrap ((n:Int)+IntKind.u64.wrap ((sc:Int)*((c:Int) % 128)))=(((n+sc*(c % 128)) % 18446744073709551616:Nat):Int):=by
 have e:(sc:Int)*((c:Int) % 128)=((sc*(c % 128):Nat):Int):=by simp
 rw [e,IntKind.wrap_u64,IntKind.wrap_u64]
 omega
theorem LM (sc:Nat):IntKind.u64.wrap ((sc:Int)*128)=((sc*128 % 18446744073709551616:Nat):Int):=by
 rw [IntKind.wrap_u64];omega
set_option maxRecDepth 100000 in
theorem TM (p:Nat) (s:List UInt8) (st:Option (List UInt8)) (w:World) (hs:s.length≤maxLen) (hp:jS w p s st) :
  Calls Tryz.prog 236 #[.pointer (some ⟨p,0,none⟩)] w fun e w'=>e=.returned (.int .u64 ((uP 10 0 1 st).1:Int))∧jS w' p s (uP 10 0 1 st).2∧w.grownBy w' (some p):=by
 have Hp:=hid hp
 clear hp
 go_enter Tryz.func236,Tryz.ntmps236
 go_wp2
 go_loopw [3,4,5] (fun t c i wr=>∃ (k n sc:Nat) (sr:Option (List UInt8)),k≤10∧i=.int .i64 (k:Int)∧t=.int .u64 (n:Int)∧c=.int .u64 (sc:Int)∧n < 18446744073709551616∧sc < 18446744073709551616∧uP (10 - k) n sc sr=uP 10 0 1 st∧jS wr p s sr∧w.grownBy wr (some p))
  (fun _ _ i _=>10 - (intOf i).toNat)
 case atStart=>exact ⟨0,0,1,st,Nat.zero_le _,rfl,rfl,rfl,by omega,by omega,rfl,Hp.out,World.grownBy.refl _ _⟩
 case round =>
  obtain ⟨k,n,sc,sr,hk,rfl,rfl,rfl,hn,hsc,hu,hsp,hg⟩:=hrel
  have HU:=hid hu
  have Hsp:=hid hsp
  have Hg:=hid hg
  clear hu hsp hg
  by_cases hlt:k < 10
  ·go_wp2_with fail
   refine (Ql p s sr 1 _ hs (by decide) (by decide) Hsp.out).mono ?_
   rintro e w1 ⟨rfl,hsp1,hg1⟩
   have HG1:=hid (ja Hg.out hg1)
   have hb1:=Ko hsp1
   have Hsp1:=hid hsp1
   clear hg1 hsp1
   rcases RI sr with ht|⟨c,r,rfl,ht⟩
   ·rw [ht] at hb1 Hsp1 ⊢
    have HF:Hid (uP 10 0 1 st=(0,none)):=by
     have:=HU.out
     rw [show 10 - k=(9 - k)+1 by omega] at this
     simp only [uP,ht] at this
     exact this.symm
    clear ht
    go_wp2
    go_ret
    rw [HF.out]
    exact ⟨rfl,Hsp1.out,HG1.out⟩
   ·rw [ht] at hb1 Hsp1 ⊢
    have HF:Hid (uP 10 0 1 st=if c.toNat < 128 then ((n+sc*(c.toNat % 128)) % 18446744073709551616,some r) else uP (9 - k) ((n+sc*(c.toNat % 128)) % 18446744073709551616) (sc*128 % 18446744073709551616) (some r)):=by
     have:=HU.out
     rw [show 10 - k=(9 - k)+1 by omega] at this
     simp only [uP,ht] at this
     exact this.symm
    have hcb:=c.toNat_lt
    have Hn:=hid hn
    have Hsc:=hid hsc
    clear ht hn hsc
    simp only [JN] at hb1
    have hcw:=TB c
    by_cases hc:c.toNat < 128
    ·have HF2:Hid (uP 10 0 1 st=((n+sc*(c.toNat % 128)) % 18446744073709551616,some r)):=by have:=HF.out;rw [if_pos hc] at this;exact this
     have hci:(c.toNat:Int) < 128:=by omega
     clear HF hc
     go_wp2
     go_ret
     rw [HF2.out]
     exact ⟨xe (TI n sc c.toNat),Hsp1.out,HG1.out⟩
    ·have HF2:Hid (uP 10 0 1 st=uP (9 - k) ((n+sc*(c.toNat % 128)) % 18446744073709551616) (sc*128 % 18446744073709551616) (some r)):=by have:=HF.out;rw [if_neg hc] at this;exact this
     have hci:(128:Int)≤(c.toNat:Int):=by omega
     clear HF hc
     go_wp2
     go_roundw
     case rel=>exact ⟨k+1,_,_,_,by omega,by go_num,by rw [TI],by rw [LM],Nat.mod_lt _ (by decide),Nat.mod_lt _ (by decide),by rw [HF2.out,show 10 - (k+1)=9 - k by omega],Hsp1.out,HG1.out⟩
     case measure=>simp [intOf];omega
  ·have hke:k=10:=by omega
   subst hke
   have HF:Hid (uP 10 0 1 st=(0,none)):=by have:=HU.out;rw [show 10 - 10=0 from rfl] at this;rw [← this];rfl
   obtain ⟨at_,bad,hrow,hat,_⟩:=Hsp.out
   have f2:=(xi hrow).2 2
   have c2:=(xi hrow).1.2.2
   have Hrow:=hid hrow
   clear hrow HU hn hsc
   go_wp2
   go_ret
   rw [HF.out]
   have hb:=Xq (v:=.bool true) Hrow.out
   exact ⟨rfl,⟨at_,true,hb.1,hat,rfl⟩,ja Hg.out hb.2⟩
end
section
open Go.RowKit
variable {T:List TypeId} {B:Nat}
theorem jd {w:World} {g j:Nat} {cur:Array Value} {e:TypeId} (h:w.heap[g]?=some (.cells cur e (0,0))):w.cell? ⟨g,j,none⟩=cur[j]?:=cell_of_row w g j cur e (0,0) h
theorem Xm {α:Type} (f:α→List Value) (m:Nat) (hf:∀ x,(f x).length=m) (l:List α):∀ (j i:Nat) (hj:j < l.length) (hi:i < m),(l.flatMap f)[j*m+i]?=(f l[j])[i]?:=by
 induction l with
 | nil=>intro j i hj;simp at hj
 | cons x l ih =>
  intro j i hj hi
  rw [List.flatMap_cons]
  cases j with
  | zero=>rw [List.getElem?_append_left (by rw [hf];omega)];simp
  | succ j =>
   have hj':j < l.length:=by simpa using hj
   rw [List.getElem?_append_right (by rw [hf,Nat.succ_mul];omega),hf]
   rw [show (j+1)*m+i - m=j*m+i by rw [Nat.succ_mul];omega]
   exact ih j i hj' hi
theorem XW {α:Type} (f:α→List Value) (m:Nat) (hf:∀ x,(f x).length=m) (l:List α):(l.flatMap f).length=l.length*m:=by
 induction l with
 | nil=>simp
 | cons x l ih=>rw [List.flatMap_cons,List.length_append,hf,ih,List.length_cons,Nat.succ_mul];omega
theorem qg (w:World) (C:Array Value) (t:TypeId):Below w.heap.size w (w.alloc (.cells C t))∧w.heap.size < (w.alloc (.cells C t)).heap.size∧(∀ j,(w.alloc (.cells C t)).cell? ⟨w.heap.size,j,none⟩=C[j]?)∧(w.alloc (.cells C t)).heap[w.heap.size]?=some (.cells C t (0,0)) :=
 ⟨(Below.refl _ _).alloc (Nat.le_refl _) _,by simp,fun j=>World.cell?_alloc_mark ..,heap_alloc_new w _⟩
end
section
structure ColB where
 name:List UInt8
 kind:Int
 key:Int
 cells:List CellB
structure KeyB where
 number:Int
 secret:List UInt8
structure PlanB where
 group:Int
 page:Int
 foot:Int
 told:Bool
structure JobB where
 table:List ColB
 plan:PlanB
 pre:List UInt8
 draw:Int
structure SealB where
 secret:List UInt8
 nonce:List UInt8
 extra:List UInt8
 body:List UInt8
def xH (s:List UInt8):Bool:=s.all (fun b=>decide (97≤b.toNat) && decide (b.toNat≤122)) && (decide (1≤s.length) && decide (s.length≤8))
def zJ (c:ColB):Bool:=xH c.name && ((decide (0≤c.kind) && decide (c.kind≤1)) && (decide (0≤c.key) && decide (c.key≤9)))
def zj (t:List ColB) (s:List UInt8):Bool:=t.any fun c=>c.name == s
def JE (t:List ColB):Nat→Bool
 | 0=>true
 | k+1=>JE t k && (match t[k]? with|some c=>zJ c && !zj (t.take k) c.name|none=>true)
def jV (t:List ColB):Bool:=JE t t.length && (decide (1≤t.length) && decide (t.length≤6))
def NO:List ColB→Nat
 | []=>0
 | c :: _=>c.cells.length
def qU (p:PlanB):Bool:=(decide (1≤p.group) && decide (p.group≤60)) && ((decide (1≤p.page) && decide (p.page≤60)) && (decide (1≤p.foot) && decide (p.foot≤9)))
def jA (r:List KeyB) (n:Int):Bool:=r.any fun k=>decide (k.number=n)
def Xg (k:KeyB):Bool:=(decide (1≤k.number) && decide (k.number≤9)) && decide (k.secret.length=8)
def Xd (r:List KeyB):Nat→Bool
 | 0=>true
 | k+1=>Xd r k && (match r[k]? with|some c=>Xg c && !jA (r.take k) c.number|none=>true)
def xX (r:List KeyB):Bool:=Xd r r.length
def VP (r:List KeyB) (n:Int):Option (List UInt8):=(r.find? fun k=>decide (k.number=n)).map (·.secret)
def jm (r:List KeyB) (n:Int):List UInt8:=(VP r n).getD []
def qu (pre:List UInt8) (sort:UInt8) (g c p:Nat):List UInt8:=xB pre++[sort]++qw (g:Int)++qw (c:Int)++qw (p:Int)
def jv (n size i:Nat):Nat:=min size (n - i*size)
def jW (n size:Nat):Nat:=(n+size - 1) / size
structure SpotB where
 sort:UInt8
 g:Nat
 c:Nat
 p:Nat
 start:Nat
 many:Nat
def jo (P g c start n:Nat) (k:Nat):List SpotB:=(List.range k).map fun p=>⟨80,g,c,p,start+p*P,jv n P p⟩
def jh (R G P g c:Nat):List SpotB:=jo P g c (g*G) (jv R G g) (jW (jv R G g) P)++[⟨77,g,c,0,g*G,jv R G g⟩]
def ju (R G P g C:Nat):List SpotB:=(List.range C).flatMap fun c=>jh R G P g c
def jQ (R C G P n:Nat):List SpotB:=(List.range n).flatMap fun g=>ju R G P g C
def jC (R C G P:Nat):List SpotB:=jQ R C G P (jW R G)
def zu (l:List CellB):Int→Int:=fun x=>l.foldl (fun m c=>if c.int < m then c.int else m) x
def JO (l:List CellB):Int→Int:=fun x=>l.foldl (fun m c=>if m < c.int then c.int else m) x
def qB:List CellB→Int
 | []=>0
 | c :: _=>c.int
def JR (kind:Int) (l:List CellB):List UInt8 :=
 uB (l.length - (je l).length)++if kind=0∧je l≠[] then [1]++zB (zu (je l) (qB (je l)))++zB (JO (je l) (qB (je l))) else [0]
def jk (t:List ColB) (c:Nat):ColB:=t.getD c ⟨[],0,0,[]⟩
def Tv (t:List ColB) (s:SpotB):List UInt8 :=
 if s.sort=77 then JR (jk t s.c).kind (((jk t s.c).cells.drop s.start).take s.many) else xw (jk t s.c).kind (((jk t s.c).cells.drop s.start).take s.many)
structure StB where
 out:List UInt8
 log:List SealB
def Lx (plain:List UInt8) (st:StB):StB:=⟨st.out++(qw (plain.length:Int)++plain),st.log⟩
def Uc (draw:Int) (n:Nat):List UInt8:=qw draw++qw (n:Int)
def Ps (draw:Int) (secret extra plain:List UInt8) (st:StB):StB :=
 ⟨st.out++(qw ((Xh secret (Uc draw st.log.length) extra plain).length:Int)++(Uc draw st.log.length++Xh secret (Uc draw st.log.length) extra plain)),
  st.log++[⟨secret,Uc draw st.log.length,extra,Xh secret (Uc draw st.log.length) extra plain⟩]⟩
def SL (j:JobB) (r:List KeyB) (key:Int) (sort:UInt8) (g c p:Nat) (plain:List UInt8) (st:StB):StB :=
 if key=0 then Lx plain st else Ps j.draw (jm r key) (qu j.pre sort g c p) plain st
def NW (j:JobB) (r:List KeyB) (st:StB) (s:SpotB):StB:=SL j r (jk j.table s.c).key s.sort s.g s.c s.p (Tv j.table s) st
def DM (j:JobB) (r:List KeyB) (st:StB) (l:List SpotB):StB:=l.foldl (NW j r) st
def qF (b:Bool):List SpotB→Bool
 | []=>b
 | s :: l=>qF (decide (s.sort=77)) l
def zz (j:JobB) (r:List KeyB):StB→Bool→List SpotB→List Nat
 | st,b,[]=>[]
 | st,b,s :: l=>(if b=true then [st.out.length] else [])++zz j r (NW j r st s) (decide (s.sort=77)) l
def jT (c:ColB):List UInt8:=xB c.name++uB c.kind.toNat++uB c.key.toNat
def qH (rows:Nat) (p:PlanB) (t:List ColB) (places:List Nat):List UInt8 :=
 uB rows++uB p.group.toNat++uB p.page.toNat++uB p.foot.toNat++uB t.length++t.flatMap jT++places.flatMap uB
/- The laws of these. -/
theorem JS (l m:List SpotB):∀ b,qF b (l++m)=qF (qF b l) m:=by
 induction l with
 | nil=>intro b;rfl
 | cons s l ih=>intro b;simp only [List.cons_append,qF];exact ih _
theorem Qx (j:JobB) (r:List KeyB) (l m:List SpotB):∀ st b,zz j r st b (l++m)=zz j r st b l++zz j r (DM j r st l) (qF b l) m:=by
 induction l with
 | nil=>intro st b;rfl
 | cons s l ih =>
  intro st b
  simp only [List.cons_append,zz,qF,List.append_assoc]
  rw [ih]
  rfl
theorem Yy (j:JobB) (r:List KeyB) (l:List SpotB) (h:∀ s ∈ l,s.sort=80):∀ st,zz j r st false l=[]:=by
 induction l with
 | nil=>intro st;rfl
 | cons s l ih =>
  intro st
  have h1:=h s (List.mem_cons_self ..)
  simp only [zz,h1]
  exact ih (fun x hx=>h x (List.mem_cons_of_mem _ hx)) _
theorem Kp (l:List SpotB) (h:∀ s ∈ l,s.sort=80):l≠[]→∀ b,qF b l=false:=by
 induction l with
 | nil=>intro h0;exact absurd rfl h0
 | cons s l ih =>
  intro _ b
  have h1:=h s (List.mem_cons_self ..)
  simp only [qF,h1]
  by_cases hl:l=[]
  ·subst hl;rfl
  ·exact ih (fun x hx=>h x (List.mem_cons_of_mem _ hx)) hl _
theorem XA (P g c start n k:Nat):∀ s ∈ jo P g c start n k,s.sort=80:=by
 intro s hs
 simp only [jo,List.mem_map] at hs
 obtain ⟨p,_,rfl⟩:=hs
 rfl
theorem YR (j:JobB) (r:List KeyB) (st:StB) (R G P g c:Nat):zz j r st true (jh R G P g c)=[st.out.length]:=by
 unfold jh
 have hs:=XA P g c (g*G) (jv R G g) (jW (jv R G g) P)
 generalize jo P g c (g*G) (jv R G g) (jW (jv R G g) P)=L at *
 cases L with
 | nil=>simp [zz]
 | cons s l =>
  have h1:=hs s (List.mem_cons_self ..)
  have hl:∀ x ∈ l,x.sort=80:=fun x hx=>hs x (List.mem_cons_of_mem _ hx)
  simp only [List.cons_append,zz,h1,if_true]
  rw [Qx]
  have e1:(decide ((80:UInt8)=77))=false:=by decide
  rw [e1,Yy j r l hl]
  have e2:qF false l=false:=by
   by_cases h0:l=[]
   ·subst h0;rfl
   ·exact Kp l hl h0 _
  rw [e2]
  simp [zz]
theorem NE (b:Bool) (R G P g c:Nat):qF b (jh R G P g c)=true:=by
 unfold jh
 rw [JS]
 rfl
theorem XE (R G P g C:Nat):qF true (ju R G P g C)=true:=by
 unfold ju
 induction C with
 | zero=>rfl
 | succ C ih=>rw [List.range_succ,List.flatMap_append,JS,ih];simp only [List.flatMap_cons,List.flatMap_nil,List.append_nil];exact NE _ _ _ _ _ _
theorem Ky (R C G P n:Nat):qF true (jQ R C G P n)=true:=by
 unfold jQ
 induction n with
 | zero=>rfl
 | succ n ih=>rw [List.range_succ,List.flatMap_append,JS,ih];simp only [List.flatMap_cons,List.flatMap_nil,List.append_nil];exact XE _ _ _ _ _
theorem JX (R G P g C:Nat):ju R G P g (C+1)=ju R G P g C++jh R G P g C:=by
 unfold ju;rw [List.range_succ,List.flatMap_append];simp
theorem JY (R C G P n:Nat):jQ R C G P (n+1)=jQ R C G P n++ju R G P n C:=by
 unfold jQ;rw [List.range_succ,List.flatMap_append];simp
theorem QP (P g c start n k:Nat):jo P g c start n (k+1)=jo P g c start n k++[⟨80,g,c,k,start+k*P,jv n P k⟩]:=by
 unfold jo;rw [List.range_succ,List.map_append];rfl
theorem Qr {n size i:Nat} (hs:1≤size):i < jW n size ↔ i*size < n:=by
 unfold jW
 rw [Nat.lt_div_iff_mul_lt (by omega)]
 constructor<;>intro h<;>omega
theorem Xe {n size:Nat} (hs:1≤size):jW n size≤n:=by
 rcases Nat.lt_or_ge n (jW n size) with h|h
 ·have h2:=(Qr (n:=n) (i:=n) hs).1 h
  have:n*1≤n*size:=Nat.mul_le_mul (Nat.le_refl _) hs
  omega
 ·exact h
theorem JW (n size i:Nat):jv n size i≤size∧jv n size i≤n:=by unfold jv;omega
theorem Ke (n size i:Nat) (h:i*size < n):i*size+jv n size i=min (i*size+size) n:=by unfold jv;omega
theorem UW {n size i:Nat} (hs:1≤size):0 < jv n size i ↔ i*size < n:=by unfold jv;omega
theorem MR (R G P g c:Nat) (hP:1≤P) (hG:G≤60):(jh R G P g c).length≤61:=by
 unfold jh jo
 have h1:=Xe (n:=jv R G g) hP
 have h2:=(JW R G g).1
 simp;omega
theorem RP (R G P g C:Nat) (hP:1≤P) (hG:G≤60):(ju R G P g C).length≤61*C:=by
 induction C with
 | zero=>simp [ju]
 | succ C ih=>have:=MR R G P g C hP hG;rw [JX,List.length_append];omega
theorem Ry (R C G P n:Nat) (hP:1≤P) (hG:G≤60) (hC:C≤6):(jQ R C G P n).length≤366*n:=by
 induction n with
 | zero=>simp [jQ]
 | succ n ih=>have:=RP R G P n C hP hG;rw [JY,List.length_append];omega
theorem Kl (l:List CellB) (h:∀ c ∈ l,qz c):∀ x:Int,(-9223372036854775808≤x∧x≤9223372036854775807)→-9223372036854775808≤zu l x∧zu l x≤9223372036854775807:=by
 induction l with
 | nil=>intro x hx;exact hx
 | cons c l ih =>
  intro x hx
  obtain ⟨c0,c1,_⟩:=h c (List.mem_cons_self ..)
  refine ih (fun y hy=>h y (List.mem_cons_of_mem _ hy)) _ ?_
  dsimp only
  split<;>omega
theorem Ue (l:List CellB) (h:∀ c ∈ l,qz c):∀ x:Int,(-9223372036854775808≤x∧x≤9223372036854775807)→-9223372036854775808≤JO l x∧JO l x≤9223372036854775807:=by
 induction l with
 | nil=>intro x hx;exact hx
 | cons c l ih =>
  intro x hx
  obtain ⟨c0,c1,_⟩:=h c (List.mem_cons_self ..)
  refine ih (fun y hy=>h y (List.mem_cons_of_mem _ hy)) _ ?_
  dsimp only
  split<;>omega
theorem Qv (l:List CellB) (h:∀ c ∈ l,qz c):-9223372036854775808≤qB l∧qB l≤9223372036854775807:=by
 cases l with
 | nil=>simp [qB]
 | cons c l=>obtain ⟨c0,c1,_⟩:=h c (List.mem_cons_self ..);exact ⟨c0,c1⟩
theorem Xu (pre:List UInt8) (sort:UInt8) (g c p:Nat) (h:pre.length≤20):(qu pre sort g c p).length≤40:=by
 have:=jN pre.length (by omega)
 simp only [qu,xB,List.length_append,jB,List.length_cons,List.length_nil];omega
structure SpotIn (t:List ColB) (s:SpotB):Prop where
 sort:s.sort=80∨s.sort=77
 col:s.c < t.length
 rows:s.start+s.many≤NO t
 few:s.g < 60∧s.c < 60∧s.p < 60∧s.start < 60∧s.many≤60
theorem Su {t:List ColB} {R G P g c k:Nat} (hR:R=NO t) (hr:R≤60) (hG:1≤G) (hP:1≤P) (hG6:G≤60) (hc:c < t.length) (hC:t.length≤6) (hg:g*G < R) (hk:k*P < jv R G g) :
  SpotIn t ⟨80,g,c,k,g*G+k*P,jv (jv R G g) P k⟩:=by
 have h1:g*1≤g*G:=Nat.mul_le_mul (Nat.le_refl _) hG
 have h2:k*1≤k*P:=Nat.mul_le_mul (Nat.le_refl _) hP
 have h3:=Ke R G g hg
 have h4:=Ke (jv R G g) P k hk
 have h5:=JW R G g
 refine ⟨.inl rfl,hc,?_,?_,?_,?_,?_,?_⟩<;>simp only<;>omega
theorem Sd {t:List ColB} {R G g c:Nat} (hR:R=NO t) (hr:R≤60) (hG:1≤G) (hG6:G≤60) (hc:c < t.length) (hC:t.length≤6) (hg:g*G < R) :
  SpotIn t ⟨77,g,c,0,g*G,jv R G g⟩:=by
 have h1:g*1≤g*G:=Nat.mul_le_mul (Nat.le_refl _) hG
 have h3:=Ke R G g hg
 have h5:=JW R G g
 refine ⟨.inr rfl,hc,?_,?_,?_,?_,?_,?_⟩<;>simp only<;>omega
theorem Tx {t:List ColB} {R G P g c:Nat} (hR:R=NO t) (hr:R≤60) (hG:1≤G) (hP:1≤P) (hG6:G≤60) (hc:c < t.length) (hC:t.length≤6) (hg:g*G < R) :
  ∀ s ∈ jh R G P g c,SpotIn t s:=by
 intro s hs
 rcases List.mem_append.1 hs with hs|hs
 ·simp only [jo,List.mem_map,List.mem_range] at hs
  obtain ⟨k,hk,rfl⟩:=hs
  exact Su hR hr hG hP hG6 hc hC hg ((Qr hP).1 hk)
 ·simp only [List.mem_cons,List.not_mem_nil,or_false] at hs
  subst hs
  exact Sd hR hr hG hG6 hc hC hg
theorem Pi {t:List ColB} {R G P:Nat} (hR:R=NO t) (hr:R≤60) (hG:1≤G) (hP:1≤P) (hG6:G≤60) (hC:t.length≤6) :
  ∀ s ∈ jC R t.length G P,SpotIn t s:=by
 intro s hs
 simp only [jC,jQ,ju,List.mem_flatMap,List.mem_range] at hs
 obtain ⟨g,hg,c,hc,hs⟩:=hs
 exact Tx hR hr hG hP hG6 hc hC ((Qr hG).1 hg) s hs
theorem QK {t:List ColB} {n:Nat} (h:JE t n=true) (hn:n≤t.length):∀ k (hk:k < n),zJ (t[k]'(by omega))=true∧zj (t.take k) (t[k]'(by omega)).name=false:=by
 induction n with
 | zero=>intro k hk;omega
 | succ n ih =>
  intro k hk
  simp only [JE,Bool.and_eq_true] at h
  rcases Nat.lt_or_ge k n with hkn|hkn
  ·exact ih h.1 (by omega) k hkn
  ·have:k=n:=by omega
   subst this
   have h2:=h.2
   rw [List.getElem?_eq_getElem (by omega)] at h2
   simpa using h2
theorem QR {c:ColB} (h:zJ c=true):xH c.name=true∧(c.kind=0∨c.kind=1)∧0≤c.key∧c.key≤9:=by
 simp only [zJ,Bool.and_eq_true,decide_eq_true_eq] at h
 exact ⟨h.1,by omega,h.2.2.1,h.2.2.2⟩
theorem NT {s:List UInt8} (h:xH s=true):1≤s.length∧s.length≤8:=by
 simp only [xH,Bool.and_eq_true,decide_eq_true_eq] at h
 exact h.2
theorem QY {t:List ColB} {c:Nat} (h:c < t.length):jk t c=t[c]:=by simp [jk,h]
theorem Zs (j:JobB) (r:List KeyB) (st:StB) (R G P g C:Nat):(zz j r st true (ju R G P g C)).length=C:=by
 induction C with
 | zero=>rfl
 | succ C ih=>rw [JX,Qx,List.length_append,ih,XE,YR];rfl
theorem Zi (j:JobB) (r:List KeyB) (st:StB) (R C G P n:Nat):(zz j r st true (jQ R C G P n)).length=n*C:=by
 induction n with
 | zero=>simp [jQ,zz]
 | succ n ih=>rw [JY,Qx,List.length_append,ih,Ky,Zs,Nat.succ_mul]
theorem Ns {α:Type} (f:α→List UInt8) (m:Nat) (l:List α) (h:∀ x ∈ l,(f x).length≤m):(l.flatMap f).length≤m*l.length:=by
 induction l with
 | nil=>simp
 | cons a l ih =>
  have h1:=h a (List.mem_cons_self ..)
  have h2:=ih (fun x hx=>h x (List.mem_cons_of_mem _ hx))
  rw [List.flatMap_cons,List.length_append,List.length_cons,Nat.mul_succ]
  omega
theorem II {c:ColB} (h:c.name.length≤8) (h1:c.kind=0∨c.kind=1) (h2:0≤c.key∧c.key≤9):(jT c).length≤38:=by
 have a:=jN c.name.length (by omega)
 have b:=jN c.kind.toNat (by omega)
 have d:=jN c.key.toNat (by omega)
 simp only [jT,xB,List.length_append];omega
end
section
structure FormF where
 told:Bool
 foot:Nat
 parts:List UInt8
 footer:List UInt8
 nonce:List UInt8
 body:List UInt8
def qr (f:FormF):List UInt8:=(if f.told=true then qw (f.footer.length:Int)++f.footer else [])++(qw (f.body.length:Int)++(f.nonce++f.body))
def xj (f:FormF):List UInt8:=([67,70]++[if f.told=true then 79 else 69]++[byB (f.foot:Int)])++(f.parts++(qr f++(qw ((qr f).length:Int)++[67,70])))
structure FormOk (f:FormF):Prop where
 nonce:f.nonce.length=4
 body:2≤f.body.length
 foot:1≤f.foot∧f.foot≤9
 short:(xj f).length≤65000
 none_:f.told=false→f.footer=[]
theorem Qq {a b:Nat} (ha:a≤65535) (hb:b≤65535) (h:qw (a:Int)=qw (b:Int)):a=b:=by
 unfold qw at h
 simp only [List.cons.injEq,and_true] at h
 obtain ⟨h1,h2⟩:=h
 have e1:=congrArg UInt8.toNat h1
 have e2:=congrArg UInt8.toNat h2
 simp only [UInt8.toNat_ofNat'] at e1 e2
 omega
theorem FormOk.lens {f:FormF} (h:FormOk f):(qr f).length≤64992∧f.body.length≤64992∧f.footer.length≤64992:=by
 have hs:=h.short
 have e:(xj f).length=4+(f.parts.length+((qr f).length+4)):=by
  simp only [xj,List.length_append,List.length_cons,List.length_nil,jB]
 have hfp:(qr f).length=(if f.told=true then 2+f.footer.length else 0)+(2+(f.nonce.length+f.body.length)):=by
  unfold qr
  rw [List.length_append]
  split<;>simp only [List.length_append,jB,List.length_nil]
 refine ⟨by omega,by omega,?_⟩
 cases ht:f.told with
 | true=>rw [ht] at hfp;simp only [if_true] at hfp;omega
 | false=>rw [h.none_ ht];simp
theorem Zr {a b c d:List UInt8} (h:a++b=c++d) (hl:b.length=d.length):a=c∧b=d:=by
 have hlen:=congrArg List.length h
 rw [List.length_append,List.length_append] at hlen
 exact List.append_inj h (by omega)
theorem EC {f g:FormF} (hf:FormOk f) (hg:FormOk g) (h:xj f=xj g):f=g:=by
 obtain ⟨l1,l2,l3⟩:=hf.lens
 obtain ⟨m1,m2,m3⟩:=hg.lens
 unfold xj at h
 obtain ⟨h1,h2⟩:=List.append_inj h (by simp)
 have ht:f.told=g.told:=by
  cases e1:f.told<;>cases e2:g.told<;>simp_all
 have hft:f.foot=g.foot:=by
  simp only [ht,List.cons_append,List.nil_append,List.cons.injEq,and_true,true_and] at h1
  have e:=congrArg UInt8.toNat h1
  have b1:=xE (f.foot:Int) (by omega) (by have:=hf.foot;omega)
  have b2:=xE (g.foot:Int) (by omega) (by have:=hg.foot;omega)
  omega
 have h2':(f.parts++qr f)++(qw ((qr f).length:Int)++[67,70])=(g.parts++qr g)++(qw ((qr g).length:Int)++[67,70]):=by
  rw [List.append_assoc,List.append_assoc];exact h2
 obtain ⟨h3,h4⟩:=Zr h2' (by simp [jB])
 obtain ⟨h5,_⟩:=List.append_inj h4 (by rw [jB,jB])
 have hl:=Qq (by omega) (by omega) h5
 obtain ⟨h6,h7⟩:=Zr h3 hl
 have key:f.footer=g.footer∧f.nonce=g.nonce∧f.body=g.body:=by
  unfold qr at h7
  rw [← ht] at h7
  have tail:∀ {a b:FormF},FormOk a→FormOk b→a.body.length≤65535→b.body.length≤65535→qw (a.body.length:Int)++(a.nonce++a.body)=qw (b.body.length:Int)++(b.nonce++b.body)→a.nonce=b.nonce∧a.body=b.body:=by
   intro a b ha hb _ _ e
   obtain ⟨_,e2⟩:=List.append_inj e (by rw [jB,jB])
   exact List.append_inj e2 (by rw [ha.nonce,hb.nonce])
  cases htt:f.told with
  | false =>
   rw [htt] at h7
   simp only [Bool.false_eq_true,if_false,List.nil_append] at h7
   obtain ⟨a,b⟩:=tail hf hg (by omega) (by omega) h7
   exact ⟨by rw [hf.none_ htt,hg.none_ (ht ▸ htt)],a,b⟩
  | true =>
   rw [htt] at h7
   simp only [if_true,List.append_assoc] at h7
   obtain ⟨e1,e2⟩:=List.append_inj h7 (by rw [jB,jB])
   have hlen:=Qq (by omega) (by omega) e1
   obtain ⟨e3,e4⟩:=List.append_inj e2 hlen
   obtain ⟨a,b⟩:=tail hf hg (by omega) (by omega) e4
   exact ⟨e3,a,b⟩
 obtain ⟨k1,k2,k3⟩:=key
 cases f
 cases g
 simp_all
end
section
theorem xy:∀ (n m:Nat) (r q:List UInt8),uB n++r=uB m++q→n=m∧r=q:=by
 intro n
 induction n using Nat.strongRecOn with
 | _ n ih =>
  intro m r q h
  by_cases hn:n≤127
  ·by_cases hm:m≤127
   ·rw [zM hn,zM hm] at h
    simp only [List.cons_append,List.nil_append,List.cons.injEq] at h
    obtain ⟨h1,h2⟩:=h
    have e:=congrArg UInt8.toNat h1
    rw [JF n (by omega),JF m (by omega)] at e
    exact ⟨e,h2⟩
   ·exfalso
    rw [zM hn,XI (n:=m) (by omega)] at h
    simp only [List.cons_append,List.nil_append,List.cons.injEq] at h
    have e:=congrArg UInt8.toNat h.1
    have b1:=xE (n:Int) (by omega) (by omega)
    have b2:=xE ((m:Int) % 128+128) (by omega) (by omega)
    omega
  ·by_cases hm:m≤127
   ·exfalso
    rw [zM hm,XI (n:=n) (by omega)] at h
    simp only [List.cons_append,List.nil_append,List.cons.injEq] at h
    have e:=congrArg UInt8.toNat h.1
    have b1:=xE (m:Int) (by omega) (by omega)
    have b2:=xE ((n:Int) % 128+128) (by omega) (by omega)
    omega
   ·rw [XI (n:=n) (by omega),XI (n:=m) (by omega)] at h
    simp only [List.cons_append,List.cons.injEq] at h
    obtain ⟨h1,h2⟩:=h
    have e:=congrArg UInt8.toNat h1
    have b1:=xE ((n:Int) % 128+128) (by omega) (by omega)
    have b2:=xE ((m:Int) % 128+128) (by omega) (by omega)
    obtain ⟨h3,h4⟩:=ih (n / 128) (by omega) (m / 128) r q h2
    exact ⟨by omega,h4⟩
theorem NG {s t r q:List UInt8} (h:xB s++r=xB t++q):s=t∧r=q:=by
 unfold xB at h
 rw [List.append_assoc,List.append_assoc] at h
 obtain ⟨h1,h2⟩:=xy _ _ _ _ h
 exact List.append_inj h2 h1
theorem Yh:∀ (a b:List Nat),a.length=b.length→a.flatMap uB=b.flatMap uB→a=b:=by
 intro a
 induction a with
 | nil=>intro b hl _;cases b with
  | nil=>rfl
  | cons x l=>simp at hl
 | cons x l ih =>
  intro b hl h
  cases b with
  | nil=>simp at hl
  | cons y m =>
   rw [List.flatMap_cons,List.flatMap_cons] at h
   obtain ⟨h1,h2⟩:=xy _ _ _ _ h
   rw [h1,ih m (by simpa using hl) h2]
def QV (c:ColB):List UInt8 × Nat × Nat:=(c.name,c.kind.toNat,c.key.toNat)
theorem Km:∀ (a b:List ColB) (r q:List UInt8),a.length=b.length→a.flatMap jT++r=b.flatMap jT++q→a.map QV=b.map QV∧r=q:=by
 intro a
 induction a with
 | nil=>intro b r q hl h;cases b with
  | nil=>exact ⟨rfl,h⟩
  | cons x l=>simp at hl
 | cons x l ih =>
  intro b r q hl h
  cases b with
  | nil=>simp at hl
  | cons y m =>
   rw [List.flatMap_cons,List.flatMap_cons] at h
   simp only [jT,List.append_assoc] at h
   obtain ⟨h1,h2⟩:=NG h
   obtain ⟨h3,h4⟩:=xy _ _ _ _ h2
   obtain ⟨h5,h6⟩:=xy _ _ _ _ h4
   obtain ⟨h7,h8⟩:=ih m r q (by simpa using hl) h6
   refine ⟨?_,h8⟩
   simp only [List.map_cons,h7,QV,h1,h3,h5]
theorem KV {R R':Nat} {p p':PlanB} {t t':List ColB} {pl pl':List Nat} (hl:pl.length=jW R p.group.toNat*t.length) (hl':pl'.length=jW R' p'.group.toNat*t'.length)
  (h:qH R p t pl=qH R' p' t' pl'):R=R'∧p.group.toNat=p'.group.toNat∧p.page.toNat=p'.page.toNat∧p.foot.toNat=p'.foot.toNat∧t.map QV=t'.map QV∧pl=pl':=by
 unfold qH at h
 simp only [List.append_assoc] at h
 obtain ⟨h1,h⟩:=xy _ _ _ _ h
 obtain ⟨h2,h⟩:=xy _ _ _ _ h
 obtain ⟨h3,h⟩:=xy _ _ _ _ h
 obtain ⟨h4,h⟩:=xy _ _ _ _ h
 obtain ⟨h5,h⟩:=xy _ _ _ _ h
 obtain ⟨h6,h⟩:=Km t t' _ _ h5 h
 exact ⟨h1,h2,h3,h4,h6,Yh _ _ (by rw [hl,hl',h1,h2,h5]) h⟩
end
section
open Go
theorem Ul {P:Program} (w:World) (t ty e:TypeId) (i:TypeInfo) (ht:P.underlying t=some (.slice e)) (hi:P.info? e=some i) (b:Option Addr) (n cap:Nat) (h:n≤cap) (a:Option Addr) (c:Nat) :
  (Builtin.append_ #[t,t] ty #[.slice b n cap,.slice a 0 c]).run P w=.ok (.slice b n cap) w:=by
 cases b<;>cases a<;>simp [Builtin.append_,run_underlying ht,sizeOf,typeInfo,hi,Builtin.lenOf,Builtin.firstCells,loadCells,loadCellsFrom,storeCells,h]
theorem UD {P:Program} {w:World} {o:Oper} {a:Act} {K:Act→World→Prop} {Q:Exit→Act→World→Prop} (s x:Operand) (t:TypeId)
  (ho:o.op=.call { callee:=.builtin .append,args:=#[s,x],argTypes:=#[t,t] })
  (e:TypeId) (i:TypeInfo) (ht:P.underlying t=some (.slice e)) (hi:P.info? e=some i) (b:Option Addr) (n cap:Nat) (hs:a.eval s=.slice b n cap) (hc:n≤cap) (b2:Option Addr) (c:Nat) (hx:a.eval x=.slice b2 0 c)
  (h:K (a.put o.dst (.slice b n cap)) w):o.wp P a w K Q:=by
 have hr:=Ul (P:=P) w t o.type e i ht hi b n cap hc b2 c
 unfold Oper.wp execOp
 simp only [ho,resolve,invoke,builtin,Sem.run_bind,Sem.run_pure,Result.andThen_ok,List.map_toArray,List.map_cons,List.map_nil,hs,hx,hr]
 exact h
theorem xM {P:Program} {w:World} {ops:Array Oper} {rest:List Oper} {o:Oper} {a:Act} {Q:Exit→Act→World→Prop} (hgd:o.guard=none) (s x:Operand) (t:TypeId)
  (ho:o.op=.call { callee:=.builtin .append,args:=#[s,x],argTypes:=#[t,t] })
  (e:TypeId) (i:TypeInfo) (ht:P.underlying t=some (.slice e)) (hi:P.info? e=some i) (b:Option Addr) (n cap:Nat) (hs:a.eval s=.slice b n cap) (hc:n≤cap) (b2:Option Addr) (c:Nat) (hx:a.eval x=.slice b2 0 c)
  (h:wpList P ops Q rest (a.put o.dst (.slice b n cap)) w):wpList P ops Q (o :: rest) a w :=
 wpList_plain hgd fun _ hK=>UD s x t ho e i ht hi b n cap hs hc b2 c hx (hK _ _ h)
theorem GJ {w:World} {b e s n m:Nat} {a:Option Addr} {c:Nat} {xs:List Value} (h:w.ownsRow b e s (.slice a m c) n xs):n≤c∧m=n:=by
 rcases h.2 with ⟨h1,h2⟩|⟨g,cap,cur,h1,_,_,h3,_⟩
 ·injection h1 with _ h4 h5
  omega
 ·injection h1 with _ h4 h5
  omega
end
end Go.Proofs.YthhpbhpfagoapaaGreat
