import Derived.Test.YthhpbhpfagoapaaGreatJAJ
import Derived.Test.YthhpbhpfagoapaaGreatJAK
import Derived.Test.YthhpbhpfagoapaaGreatJAO
import Derived.Deep.DeepCutAuto
import Derived.Deep.RegionWith
import Derived.Test.YthhpbhpfagoapaaGreatRPage
import Derived.Laws.AppendOwn
import Derived.Maps.AppendAt
namespace Go.Proofs.YthhpbhpfagoapaaGreat
set_option linter.unusedVariables false
set_option linter.unusedSimpArgs false
set_option maxRecDepth 100000
set_option maxHeartbeats 16000000
section
open Go.RowKit
theorem LV (a:Int) (h0:0≤a) (h1:a≤255):bits .or .u8 a 128=a % 128+128:=by
 obtain ⟨k,rfl⟩:=Int.eq_ofNat_of_zero_le h0
 have key:∀ k:Fin 256,bits .or .u8 ((k.val:Nat):Int) 128=((k.val:Nat):Int) % 128+128:=by decide
 exact key ⟨k,by omega⟩
theorem NW (b:UInt8):qD [b]=[.int .u8 (b.toNat:Int)]:=rfl
theorem EF {w wr w2:World} {v v2:Value} {n k:Nat} {l:List UInt8} {x:Int} {b:UInt8} (o:Obj) (hk:k=n+1) (hb:(b.toNat:Int)=x) (hB:Below w.heap.size w wr) (hown:wr.ownsRow w.heap.size 5 1 v n (qD l))
  (h2:w2.ownsRow w.heap.size 5 1 v2 (n+1) (qD l++[.int .u8 x])) (hg:(wr.alloc o).grownBy w2 v.ownBlock) :
  w2.ownsRow w.heap.size 5 1 v2 k (qD (l++[b]))∧Below w.heap.size w w2:=by
 subst hk
 rw [Zk,NW,hb]
 exact ⟨h2,(hB.alloc hB.size o).grown hg (by have:=hB.size;simp;omega) (fun k hk=>(hown.lt k hk).1)⟩
theorem NC (n:Nat) (w:World) (hn:n < 18446744073709551616) :
  Calls Tryz.prog 265 #[.int .u64 (n:Int)] w fun e w'=>e=.returned (strB (uB n))∧Below w.heap.size w w':=by
 obtain ⟨i0,hi,hz0,hz1,hz2⟩:=info_parts Tryz.infoU8
 have HL:=hid (jN n hn)
 go_enter Tryz.func265,Tryz.ntmps265
 go_wp2
 go_loopw [0,3] (fun t v wr=>∃ (m:Nat) (acc:List UInt8),m≤n∧t=.int .u64 (m:Int)∧wr.ownsRow w.heap.size 5 1 v acc.length (qD acc)∧acc++uB m=uB n∧Below w.heap.size w wr)
  (fun t _ _=>DZ t)
 case atStart=>exact ⟨n,[],Nat.le_refl _,rfl,World.ownsRow_nil _ _ _ _,rfl,Below.refl _ _⟩
 case round =>
  obtain ⟨m,acc,hm,rfl,hown,hacc,hB⟩:=hrel
  have HA:=hid hacc
  have hl:acc.length≤10:=by
   have h1:=HL.out
   have h2:=congrArg List.length hacc
   simp at h2
   omega
  clear hacc
  by_cases hb:127 < m
  ·have hbi:(128:Int)≤(m:Int):=by omega
   have ho:=LV ((m:Int) % 256) (by omega) (by omega)
   have ho':(m:Int) % 256 % 128+128=(m:Int) % 128+128:=by omega
   rw [ho'] at ho
   clear ho'
   go_wp2_with (at_builtin;refine wpList_append_own _ rfl (.tmp 6) (.tmp 10) 149 rfl w.heap.size 5 i0 (.int .u8 0) 1 1 Tryz.underlying149 hi hz0 hz1 hz2 rfl (by decide) _ _ _ rfl (hown.alloc _) ⟨_,0,none⟩ 1 1 [.int .u8 ((m:Int) % 128+128)] rfl rfl ?c1 ?c2 ?c3 ?c4 ?c5 ?_)
   case c1=>exact qj wr #[.int .u8 ((m:Int) % 128+128)] 5
   case c2=>intro u hu;simp at hu;subst hu;rfl
   case c3=>unfold maxLen;omega
   case c4=>omega
   case c5=>have:=hB.size;simp;omega
   intro v2 w2 hown2 hgr2 _
   have HR:=hid (EF (k:=(acc++[byB ((m:Int) % 128+128)]).length) (b:=byB ((m:Int) % 128+128)) _ (by simp) (xE _ (by omega) (by omega)) hB hown hown2 hgr2)
   clear hown hown2 hgr2 hB ho
   go_wp2
   go_roundw
   case rel =>
    refine ⟨m / 128,acc++[byB ((m:Int) % 128+128)],by omega,by go_num,HR.out.1,?_,HR.out.2⟩
    rw [← HA.out,XF hb,List.append_assoc];rfl
   case measure=>simp [DZ];omega
  ·have hbi:(m:Int)≤127:=by omega
   go_wp2_with (at_builtin;refine wpList_append_own _ rfl (.tmp 14) (.tmp 17) 149 rfl w.heap.size 5 i0 (.int .u8 0) 1 1 Tryz.underlying149 hi hz0 hz1 hz2 rfl (by decide) _ _ _ rfl (hown.alloc _) ⟨_,0,none⟩ 1 1 [.int .u8 (m:Int)] rfl rfl ?c1 ?c2 ?c3 ?c4 ?c5 ?_)
   case c1=>exact qj wr #[.int .u8 (m:Int)] 5
   case c2=>intro u hu;simp at hu;subst hu;rfl
   case c3=>unfold maxLen;omega
   case c4=>omega
   case c5=>have:=hB.size;simp;omega
   intro v2 w2 hown2 hgr2 _
   obtain ⟨hr1,hr2⟩:=EF (k:=(acc++[byB (m:Int)]).length) (b:=byB (m:Int)) _ (by simp) (xE _ (by omega) (by omega)) hB hown hown2 hgr2
   have hcv:=Uz hr1
   have HE:Hid (acc++[byB (m:Int)]=uB n):=by
    show acc++[byB (m:Int)]=uB n
    rw [← HA.out,zM (by omega)]
   clear hown hown2 hgr2 hr1 hB
   go_wp2
   go_ret
   exact ⟨qt HE.out,hr2⟩
theorem NP (n:Int) (w:World) (h0:0≤n) (h1:n < 18446744073709551616) :
  Calls Tryz.prog 265 #[.int .u64 n] w fun e w'=>e=.returned (strB (uB n.toNat))∧Below w.heap.size w w':=by
 obtain ⟨m,rfl⟩:=Int.eq_ofNat_of_zero_le h0
 rw [Int.toNat_natCast]
 exact NC m w (by omega)
theorem Jj (n:Nat) (w:World) (hn:n≤9223372036854775807) :
  Calls Tryz.prog 241 #[.int .i64 (n:Int)] w fun e w'=>e=.returned (strB (uB n))∧Below w.heap.size w w':=by
 have hw:IntKind.u64.wrap (n:Int)=(n:Int):=Jc (by omega) (by omega)
 go_enter Tryz.func241,Tryz.ntmps241
 go_wp2_with fail
 refine (NC n _ (by omega)).mono ?_
 rintro e w1 ⟨rfl,hb⟩
 go_wp2
 go_ret
 exact ⟨rfl,hb⟩
theorem PP (b:Nat) (h:b < 18446744073709551616):18446744073709551615 ^^^ b=18446744073709551615 - b:=by
 have h2:=congrArg BitVec.toNat (BitVec.allOnes_xor (x:=BitVec.ofNat 64 b))
 rw [BitVec.toNat_xor,BitVec.toNat_not,BitVec.toNat_allOnes,BitVec.toNat_ofNat,Nat.mod_eq_of_lt h] at h2
 exact h2
theorem DW (x:Int) (h0:0≤x) (h1:x < 18446744073709551616):bits .xor .u64 IntKind.u64.max x=18446744073709551615 - x:=by
 have hm:IntKind.u64.max=18446744073709551615:=by decide
 obtain ⟨b,rfl⟩:=Int.eq_ofNat_of_zero_le h0
 rw [hm,u64_xor _ _ (by decide) (by decide) (by omega) (by omega)]
 have:=PP b (by omega)
 show ((18446744073709551615 ^^^ b:Nat):Int)=_
 rw [this];omega
theorem Us (n:Int) (w:World) (h0:-9223372036854775808≤n) (h1:n≤9223372036854775807) :
  Calls Tryz.prog 244 #[.int .i64 n] w fun e w'=>e=.returned (strB (zB n))∧Below w.heap.size w w':=by
 by_cases hn:0≤n
 ·have HZ:Hid (zB n=uB (2*n.toNat)):=by simp [Hid,zB,zN,hn]
  go_enter Tryz.func244,Tryz.ntmps244
  go_wp2_with fail
  refine (NP _ _ (by omega) (by omega)).mono ?_
  rintro e w1 ⟨rfl,hb⟩
  go_wp2
  go_ret
  exact ⟨qt (by rw [HZ.out];congr 1<;>omega),hb⟩
 ·have HZ:Hid (zB n=uB (2*(-(n+1)).toNat+1)):=by simp [Hid,zB,zN,hn]
  go_enter Tryz.func244,Tryz.ntmps244
  have hx:=DW (IntKind.u64.wrap (IntKind.u64.wrap n*2)) (by rw [IntKind.wrap_u64];omega) (by rw [IntKind.wrap_u64];omega)
  have hx2:(18446744073709551615:Int) - IntKind.u64.wrap (IntKind.u64.wrap n*2)=-2*n - 1:=by rw [IntKind.wrap_u64,IntKind.wrap_u64];omega
  rw [hx2] at hx
  clear hx2
  go_wp2_with fail
  refine (NP _ _ (by omega) (by omega)).mono ?_
  rintro e w1 ⟨rfl,hb⟩
  go_wp2
  go_ret
  exact ⟨qt (by rw [HZ.out];congr 1<;>omega),hb⟩
theorem Pg (v k:Nat):Kd v k=v / 2 ^ (8*k):=by
 induction k with
 | zero=>simp [Kd]
 | succ k ih=>rw [Kd,ih,Nat.div_div_eq_div_mul,show 8*(k+1)=8*k+8 by omega,Nat.pow_add]
theorem Tj {W:World} {e base g n cap:Nat} {l:List UInt8} (h:W.ownsRow base e 1 (.slice (some ⟨g,0,none⟩) n cap) n (qD l)) (hl:l.length=n) :
  Sem.run Tryz.prog (convert 149 9 (.slice (some ⟨g,0,none⟩) n cap)) W=.ok (strB l) W:=by
 subst hl
 refine run_convert_bytes_back (P:=Tryz.prog) _ 149 9 5 ⟨g,0,none⟩ cap l Tryz.underlying149 Tryz.underlying5 Tryz.underlying9 ?_
 intro j hj
 have:(⟨g,0,none⟩:Addr).add j=⟨g,j,none⟩:=by unfold Addr.add;split<;>simp_all
 rw [this,h.cellAt j (by omega)]
 simp [qD,hj]
theorem EG {w wr:World} {e m k:Nat} (hk:k < 8) (hB:Below w.heap.size w wr)
  (h:wr.ownsRow w.heap.size e 1 (.slice (some ⟨w.heap.size,0,none⟩) 8 8) 8 (qD (Ka m k)++List.replicate (8 - k) (.int .u8 0))) :
  (wr.setCell ⟨w.heap.size,k,none⟩ (.int .u8 ((m:Int) / 2 ^ (8*k) % 256))).ownsRow w.heap.size e 1 (.slice (some ⟨w.heap.size,0,none⟩) 8 8) 8 (qD (Ka m (k+1))++List.replicate (8 - (k+1)) (.int .u8 0)) ∧
  Below w.heap.size w (wr.setCell ⟨w.heap.size,k,none⟩ (.int .u8 ((m:Int) / 2 ^ (8*k) % 256))):=by
 have h1:=(h.stored k (.int .u8 ((m:Int) / 2 ^ (8*k) % 256))).1
 rw [DS _ _ _ 8 k (by simp [qD,QV]) hk] at h1
 refine ⟨?_,hB.setCell (Nat.le_refl _) _⟩
 have e1:qD (Ka m (k+1))=qD (Ka m k)++[.int .u8 ((m:Int) / 2 ^ (8*k) % 256)]:=by
  have e2:((Kd m k:Nat):Int)=(m:Int) / 2 ^ (8*k):=by rw [Pg];simp
  rw [Ka,Zk,NW,xE _ (by omega) (by omega),e2]
 rw [e1]
 exact h1
theorem AD {W:World} {e base g n k:Nat} {A:List Value} (h:W.ownsRow base e 1 (.slice (some ⟨g,0,none⟩) n n) n (A++List.replicate (n - k) (.int .u8 0))) (hA:A.length=k) (hk:k < n) :
  W.cell? ⟨g,k,none⟩=some (.int .u8 0):=by
 obtain ⟨m,hm⟩:∃ m,n - k=m+1:=⟨n - k - 1,by omega⟩
 rw [h.cellAt k (by omega),List.getElem?_append_right (by omega),hA,hm,Nat.sub_self,List.replicate_succ]
 rfl
theorem EU (w:World) (m t:Nat):(w.alloc (Obj.cells #[Value.int IntKind.u8 0,Value.int IntKind.u8 0,Value.int IntKind.u8 0,Value.int IntKind.u8 0,Value.int IntKind.u8 0,Value.int IntKind.u8 0,Value.int IntKind.u8 0,Value.int IntKind.u8 0] t)).ownsRow w.heap.size t 1 (.slice (some ⟨w.heap.size,0,none⟩) 8 8) 8 (qD (Ka m 0)++List.replicate (8 - 0) (.int .u8 0)):=by
 refine ⟨rfl,.inr ⟨w.heap.size,8,_,rfl,Nat.le_refl _,heap_alloc_new w _,Nat.le_refl _,by decide,rfl,rfl⟩⟩
theorem CH (n:Int) (w:World) (h0:-9223372036854775808≤n) (h1:n≤9223372036854775807) :
  Calls Tryz.prog 189 #[.int .i64 n] w fun e w'=>e=.returned (strB (bB n))∧Below w.heap.size w w':=by
 have hw:=PA n
 obtain ⟨m,hm⟩:=Int.eq_ofNat_of_zero_le (show 0≤n % 18446744073709551616 by omega)
 have hm1:m < 18446744073709551616:=by omega
 have HB:Hid (bB n=Ka m 8):=by simp [Hid,bB,hm]
 rw [hm] at hw
 clear hm
 go_enter Tryz.func189,Tryz.ntmps189
 go_wp2
 go_loopw [5] (fun i wr=>∃ k:Nat,k≤8∧i=.int .i64 (k:Int)∧wr.ownsRow w.heap.size 310 1 (.slice (some ⟨w.heap.size,0,none⟩) 8 8) 8 (qD (Ka m k)++List.replicate (8 - k) (.int .u8 0))∧Below w.heap.size w wr)
  (fun i _=>8 - (intOf i).toNat)
 case atStart=>exact ⟨0,by omega,rfl,EU w m _,(Below.refl _ _).alloc (Nat.le_refl _) _⟩
 case round =>
  obtain ⟨k,hk,rfl,hown,hB⟩:=hrel
  have hG:w.heap.size < wr.heap.size:=(hown.lt _ rfl).2
  by_cases hlt:k < 8
  ·have hc0:=AD hown (by simp [qD,QV]) hlt
   have hf0:=hown.frozenAt k
   have HR:=hid (EG hlt hB hown)
   clear hown hB
   go_wp2
   go_roundw
   case rel=>exact ⟨k+1,by omega,by go_num,HR.out.1,HR.out.2⟩
   case measure=>simp [intOf];omega
  ·have hk8:k=8:=by omega
   subst hk8
   have hcv:=Tj (l:=Ka m 8) (by simpa using hown) (by simp [QV])
   go_wp2
   go_ret
   exact ⟨qt HB.out.symm,hB⟩
def zz (ps:List (List UInt8)):List Value:=ps.map strB
theorem RI (ps:List (List UInt8)):xK (ps.map fun l=>(⟨l.toArray⟩:ByteArray))=ps.flatten:=by
 induction ps with
 | nil=>rfl
 | cons p ps ih=>simp only [xK,List.map_cons,List.flatMap_cons,List.flatten_cons] at ih ⊢;rw [ih]
theorem KK (ps:List (List UInt8)) (b cap:Nat) (w:World) (hn:ps.length≤1000) (hs:ps.flatten.length≤1000000) (hb:b < w.heap.size)
  (hc:∀ j (h:j < ps.length),w.cell? ⟨b,j,none⟩=some (strB ps[j])) :
  Calls Tryz.prog 194 #[.slice (some ⟨b,0,none⟩) ps.length cap] w fun e w'=>e=.returned (strB ps.flatten)∧Below w.heap.size w w':=by
 have:=Tq (ps.map fun l=>(⟨l.toArray⟩:ByteArray)) b cap w (by simpa using hn) (by rw [RI];exact hs) hb (by intro j h;simpa using hc j (by simpa using h))
 rw [RI] at this
 simpa using this
theorem XD (ps:List (List UInt8)) (C:Array Value) (n:Nat) (w:World) (hC:C=(zz ps).toArray) (hl:ps.length=n) (hn:n≤1000) (hs:ps.flatten.length≤1000000) :
  Calls Tryz.prog 194 #[.slice (some ⟨w.heap.size,0,none⟩) n n] (w.alloc (.cells C 9)) fun e w'=>e=.returned (strB ps.flatten)∧Below w.heap.size w w':=by
 subst hl
 refine (KK ps w.heap.size ps.length _ hn hs (by simp) ?_).mono ?_
 ·intro j h
  rw [World.cell?_alloc_mark,hC]
  simp [h,zz]
 ·rintro e w' ⟨h1,h2⟩
  exact ⟨h1,((Below.refl _ _).alloc (Nat.le_refl _) _).trans (h2.mono (by simp))⟩
theorem XA (ps:List (List UInt8)) (base n:Nat) (v:Value) (w:World) (h:w.ownsRow base 9 1 v n (zz ps)) (hp:ps≠[]) (hn:ps.length≤1000) (hs:ps.flatten.length≤1000000) :
  Calls Tryz.prog 194 #[v] w fun e w'=>e=.returned (strB ps.flatten)∧Below w.heap.size w w':=by
 have hl:ps.length=n:=by simpa [zz] using h.1
 rcases h.2 with ⟨rfl,rfl⟩|⟨g,cap,cur,rfl,_⟩
 ·exact absurd (List.eq_nil_of_length_eq_zero hl) hp
 ·subst hl
  refine KK ps g cap w hn hs (h.lt g rfl).2 ?_
  intro j hj
  rw [h.cellAt j (by omega)]
  simp [zz,hj]
theorem Nt (s:List UInt8) (w:World) (hs:s.length≤100000) :
  Calls Tryz.prog 204 #[strB s] w fun e w'=>e=.returned (strB (xB s))∧Below w.heap.size w w':=by
 have hz:=jK s
 have hu:=jN s.length (by omega)
 go_enter Tryz.func204,Tryz.ntmps204
 go_wp2_with fail
 refine (Jj _ _ (by omega)).mono ?_
 rintro e w1 ⟨rfl,hb1⟩
 go_wp2_with fail
 refine (XD [uB s.length,s] _ 2 w1 rfl rfl (by decide) (by simp;omega)).mono ?_
 rintro e w2 ⟨rfl,hb2⟩
 go_wp2
 go_ret
 exact ⟨qt (by simp [xB]),hb1.trans (hb2.mono hb1.size)⟩
theorem VV (a v:Int) (w:World) (h0:-9223372036854775808≤a) (h1:a≤9223372036854775807) (h2:-9223372036854775808≤v) (h3:v≤9223372036854775807) :
  Calls Tryz.prog 191 #[.int .i64 a,.int .i64 v] w fun e w'=>e=.returned (strB (zB (wrap64 (v - a))))∧Below w.heap.size w w':=by
 obtain ⟨k0,k1⟩:=zk (v - a)
 go_enter Tryz.func191,Tryz.ntmps191
 go_wp2_with fail
 refine (Us _ _ k0 k1).mono ?_
 rintro e w1 ⟨rfl,hb1⟩
 go_wp2
 go_ret
 exact ⟨rfl,hb1⟩
end
section
open Go.RowKit
def xS:Nat→Option (List UInt8)→List (List UInt8) × Option (List UInt8)
 | 0,st=>([],st)
 | k+1,st=>((xR 12 st).1 :: (xS k (xR 12 st).2).1,(xS k (xR 12 st).2).2)
def xsB (d:List CellB):List UInt8:=d.flatMap fun c=>xB c.text
theorem CA (d:List CellB):∀ k,k≤d.length→zC d k=uB d.length++xsB (d.take k):=by
 intro k
 induction k with
 | zero=>intro _;simp [zC,xsB]
 | succ k ih =>
  intro h
  rw [zC,ih (by omega),jY d k (by omega),List.take_succ_eq_append_getElem (by omega)]
  simp only [xsB,List.flatMap_append,List.flatMap_cons,List.flatMap_nil,List.append_nil,List.append_assoc]
theorem Ic (d:List CellB) (r:List UInt8) (h:∀ c ∈ d,c.text.length≤12):xS d.length (some (xsB d++r))=(d.map (·.text),some r):=by
 induction d with
 | nil=>rfl
 | cons c d ih =>
  have e:xsB (c :: d)++r=xB c.text++(xsB d++r):=by simp [xsB]
  rw [e]
  simp only [List.length_cons,xS]
  rw [Ma 12 c.text (xsB d++r) (h c (by simp)) (by omega)]
  simp only
  rw [ih (fun x hx=>h x (by simp [hx]))]
  rfl
theorem SX (v:List CellB) (r:List UInt8) (hv:∀ c ∈ v,Rx c) (hn:v.length≤60):xF 1 3 ((qa v).map (·.text)) v.length (v.length+1) [] qz (some (zI 3 v 0 v.length++r))=(v,some r):=by
 have:=Zw 1 3 3 ((qa v).map (·.text)) v r (fun i h rest=>by
  have hc:=hv v[i] (List.getElem_mem h)
  have hs:qG 3 v i=uB (jP (qa v) (v[i]).text):=by show uB (jP (qa v) (xP v i).text)=_;rw [jY v i h]
  obtain ⟨h1,h2⟩:=QJ (qa v) (v[i]).text (Zy v i h)
  have hdl:=zp v v.length
  have hd2:(qa v).length≤v.length:=hdl
  have hne:(qa v).map (·.text)≠[]:=by
   intro e0
   have:=congrArg List.length e0
   simp at this
   rw [this] at h1
   simp at h1
  have hlm:((qa v).map (·.text)).length=(qa v).length:=by simp
  unfold qP
  rw [if_neg (by omega),if_neg (by omega),if_neg (by omega),if_neg (by omega),if_pos ⟨rfl,rfl,hne⟩,hs,hlm,Jo _ _ rest (by omega) (by omega)]
  have eg:((qa v).map (·.text)).getD (jP (qa v) (v[i]).text) []=(v[i]).text:=by
   simp only [List.getD,List.getElem?_map,List.getElem?_eq_getElem h1,Option.map_some,Option.getD_some]
   exact h2
  rw [eg]
  exact Prod.ext (Nv hc).symm rfl) v.length 0 (by omega)
 simpa [jR] using this
theorem Cc (w:Nat) (v:List CellB):∀ (q a k:Nat),q≤k→(∀ j,j < q→qG w v (a+j)=[])→zI w v a k=zI w v (a+q) (k - q):=by
 intro q
 induction q with
 | zero=>intro a k _ _;rfl
 | succ q ih =>
  intro a k hk h
  obtain ⟨k',rfl⟩:∃ k',k=k'+1:=⟨k - 1,by omega⟩
  have h0:=h 0 (by omega)
  simp only [Nat.add_zero] at h0
  simp only [zI]
  rw [h0,List.nil_append,ih (a+1) k' (by omega) (fun j hj=>by have:=h (j+1) (by omega);rwa [show a+(j+1)=a+1+j by omega] at this)]
  congr 1<;>omega
theorem SP (v:List CellB) (r:List UInt8) (hv:∀ c ∈ v,MM c) (hn:v.length≤60) :
  ∀ (k i f:Nat) (last:CellB),i+k=v.length→k < f→(k=0∨i=0∨(xP v i).int≠(jR v i).int)→xF 0 2 [] v.length f (v.take i) last (some (zI 2 v i k++r))=(v,some r):=by
 intro k
 induction k using Nat.strongRecOn with
 | _ k ih =>
  intro i f last hi hf hrun
  obtain ⟨f',rfl⟩:∃ f',f=f'+1:=⟨f - 1,by omega⟩
  have hl:(v.take i).length=i:=by rw [List.length_take];omega
  by_cases hk:k=0
  ·subst hk
   rw [xF,if_neg (by rw [hl];omega),zI,List.nil_append,List.take_of_length_le (by omega)]
  ·have hlt:i < v.length:=by omega
   have hc:=hv v[i] (List.getElem_mem hlt)
   have hrow:=UV (v[i]).int (v.drop (i+1))
   rw [List.length_drop] at hrow
   have hin:∀ j,j < zZ (v[i]).int (v.drop (i+1))→∃ h:i+1+j < v.length,v[i+1+j]=v[i]:=by
    intro j hj
    obtain ⟨h1,h2⟩:=GM (v[i]).int (v.drop (i+1)) j hj
    rw [List.length_drop] at h1
    refine ⟨by omega,?_⟩
    rw [List.getElem_drop] at h2
    rw [UL (hv v[i+1+j] (List.getElem_mem _)),UL hc,h2]
   have hend:∀ h:i+1+zZ (v[i]).int (v.drop (i+1)) < v.length,(v[i+1+zZ (v[i]).int (v.drop (i+1))]).int≠(v[i]).int:=by
    intro h
    have:=Uw (v[i]).int (v.drop (i+1)) (by rw [List.length_drop];omega)
    rw [List.getElem_drop] at this
    exact this
   have hs:qG 2 v i=uB (zZ (v[i]).int (v.drop (i+1))+1)++zB (v[i]).int:=by
    simp only [qG,jY v i hlt]
    rw [if_pos]
    rcases hrun with h|h|h
    ·exact absurd h hk
    ·exact .inl h
    ·rw [jY v i hlt] at h;exact .inr h
   generalize zZ (v[i]).int (v.drop (i+1))=q at *
   have hskip:zI 2 v (i+1) (k - 1)=zI 2 v (i+1+q) (k - 1 - q):=Cc 2 v q (i+1) (k - 1) (by omega) (fun j hj=>by
    obtain ⟨h1,h2⟩:=hin j hj
    simp only [qG,jY v (i+1+j) h1,jR]
    rw [if_neg (by omega:¬ (i+1+j=0)),jY v (i+1+j - 1) (by omega)]
    have hp:v[i+1+j - 1]=v[i]:=by
     cases j with
     | zero=>rfl
     | succ j =>
      obtain ⟨h3,h4⟩:=hin j (by omega)
      rw [← h4]
      congr 1
    rw [hp,h2]
    rw [if_neg (fun h=>h.elim (fun h=>by omega) (fun h=>h rfl))])
   obtain ⟨k',rfl⟩:∃ k',k=k'+1:=⟨k - 1,by omega⟩
   simp only [Nat.add_sub_cancel] at hskip
   rw [xF,if_pos (by rw [hl];exact ⟨hlt,rfl⟩),hl]
   simp only [zI,hs,hskip,List.append_assoc]
   have hstep:qP 0 2 [] v.length i last (some (uB (q+1)++(zB (v[i]).int++(zI 2 v (i+1+q) (k' - q)++r))))=(v[i],q+1,some (zI 2 v (i+1+q) (k' - q)++r)):=by
    unfold qP
    rw [if_neg (by omega),if_neg (by omega),if_pos ⟨rfl,rfl⟩,Jo _ _ _ (by omega) (by omega),SH _ _ hc.2.2.1 hc.2.2.2]
    simp only [AZ]
    rw [if_neg (by omega)]
    exact Prod.ext (UL hc).symm rfl
   rw [hstep]
   have e1:v.take i++List.replicate (q+1) v[i]=v.take (i+1+q):=by
    apply List.ext_getElem
    ·simp only [List.length_append,List.length_take,List.length_replicate];omega
    ·intro j h1 h2
     rw [List.getElem_take]
     by_cases hj:j < i
     ·rw [List.getElem_append_left (by rw [hl];exact hj),List.getElem_take]
     ·rw [List.getElem_append_right (by rw [hl];omega),List.getElem_replicate]
      by_cases hji:j=i
      ·subst hji;rfl
      ·obtain ⟨h3,h4⟩:=hin (j - i - 1) (by rw [List.length_take] at h2;omega)
       rw [← h4]
       congr 1
       omega
   simp only [e1]
   refine ih (k' - q) (by omega) (i+1+q) f' v[i] (by omega) (by omega) ?_
   by_cases hz:k' - q=0
   ·exact .inl hz
   ·right;right
    have h5:i+1+q < v.length:=by omega
    rw [jY v (i+1+q) h5]
    unfold jR
    rw [if_neg (by omega),jY v (i+1+q - 1) (by omega)]
    have hp:v[i+1+q - 1]=v[i]:=by
     cases q with
     | zero=>rfl
     | succ q =>
      obtain ⟨h3,h4⟩:=hin q (by omega)
      rw [← h4]
      congr 1
    rw [hp]
    exact hend h5
end
section
open Go.RowKit
def xU (kind:Int) (n:Nat) (st:Option (List UInt8)):List CellB × Option (List UInt8) :=
 match qd 1 st with
 | (c :: _,some r) =>
  if kind=1∧c.toNat=3 then xF kind 3 (xS (jJ 60 (some r)).1 (jJ 60 (some r)).2).1 n (n+1) [] qz (xS (jJ 60 (some r)).1 (jJ 60 (some r)).2).2
  else xF kind c.toNat [] n (n+1) [] qz (some r)
 | _=>([],none)
theorem QY (kind:Int) (n:Nat) (c:UInt8) (r:List UInt8):xU kind n (some (c :: r)) =
  if kind=1∧c.toNat=3 then xF kind 3 (xS (jJ 60 (some r)).1 (jJ 60 (some r)).2).1 n (n+1) [] qz (xS (jJ 60 (some r)).1 (jJ 60 (some r)).2).2
  else xF kind c.toNat [] n (n+1) [] qz (some r):=by
 simp only [xU,NF]
theorem Df (kind:Int) (v:List CellB) (r:List UInt8) (j:Nat) (hj:j < 3) (hk:kind=0∨kind=1) (hn:v.length≤60) (h0:kind=0→∀ c ∈ v,MM c) (h1:kind=1→∀ c ∈ v,Rx c) :
  xU kind v.length (some (zT (Xp kind j) v++r))=(v,some r):=by
 rcases hk with rfl|rfl
 ·have hv:=h0 rfl
  have hw:Xp 0 j=j:=rfl
  rw [hw]
  have e5:((j:Int) % 5)=(j:Int):=by omega
  show xU 0 v.length (some (byB ((j:Int) % 5) :: (qq j v++r)))=_
  rw [QY,e5,JL j (by omega),if_neg (by omega)]
  have hww:qq j v=zI j v 0 v.length:=by unfold qq;rw [if_neg (by omega),List.nil_append,KC]
  rw [hww]
  match j,hj with
  | 0,_=>exact Ls v r hv
  | 1,_=>exact Lu v r hv
  | 2,_ =>
   have:=SP v r hv hn v.length 0 (v.length+1) qz (by omega) (by omega) (.inr (.inl rfl))
   simpa using this
 ·have hv:=h1 rfl
  match j,hj with
  | 0,_ =>
   show xU 1 v.length (some (byB 0 :: (qq 5 v++r)))=_
   rw [QY,show (byB 0).toNat=0 from rfl,if_neg (by omega)]
   have hww:qq 5 v=zI 5 v 0 v.length:=by unfold qq;rw [if_neg (by omega),List.nil_append,KC]
   rw [hww]
   exact Lf v r hv
  | 1,_ =>
   show xU 1 v.length (some (byB 3 :: (qq 3 v++r)))=_
   rw [QY,show (byB 3).toNat=3 from rfl,if_pos ⟨rfl,rfl⟩]
   have hd:(qa v).length≤60:=Nat.le_trans (zp v v.length) hn
   have hww:qq 3 v++r=uB (qa v).length++(xsB (qa v)++(zI 3 v 0 v.length++r)):=by
    unfold qq
    rw [if_pos rfl,CA (qa v) (qa v).length (Nat.le_refl _),List.take_length,KC]
    simp only [List.append_assoc]
   rw [hww,Jo 60 _ _ hd (by omega)]
   simp only
   rw [Ic (qa v) _ (fun c hc=>(hv c (Qc v v.length (Nat.le_refl _) c hc)).2.2)]
   exact SX v r hv hn
  | 2,_ =>
   show xU 1 v.length (some (byB 4 :: (qq 4 v++r)))=_
   rw [QY,show (byB 4).toNat=4 from rfl,if_neg (by omega)]
   have hww:qq 4 v=zI 4 v 0 v.length:=by unfold qq;rw [if_neg (by omega),List.nil_append,KC]
   rw [hww]
   exact Lb v r hv
theorem DY (kind:Int) (v:List CellB):∃ j,j < 3∧jE kind v 3=zT (Xp kind j) v:=by
 have h1:jE kind v 1=zT (Xp kind 0) v:=by simp [jE]
 have h2:jE kind v 2=zT (Xp kind 1) v∨jE kind v 2=zT (Xp kind 0) v:=by
  show (if 1=0∨_ then _ else _)=_∨(if 1=0∨_ then _ else _)=_
  split
  ·exact .inl rfl
  ·exact .inr h1
 have h3:jE kind v 3=zT (Xp kind 2) v∨jE kind v 3=jE kind v 2:=by
  show (if 2=0∨_ then _ else _)=_∨(if 2=0∨_ then _ else _)=_
  split
  ·exact .inl rfl
  ·exact .inr rfl
 rcases h3 with h|h
 ·exact ⟨2,by omega,h⟩
 ·rcases h2 with h'|h'
  ·exact ⟨1,by omega,by rw [h,h']⟩
  ·exact ⟨0,by omega,by rw [h,h']⟩
def zW (n:Nat):Nat→List Bool→Bool→Option (List UInt8)→List Bool × Option (List UInt8)
 | 0,l,_,st=>(l,st)
 | f+1,l,b,st=>if l.length < n∧st.isSome=true then zW n f (l++List.replicate (jJ (n - l.length) st).1 b) (!b) (jJ (n - l.length) st).2 else (l,st)
theorem Ml (b:Bool) (l:List CellB):(l.take (rowB b l)).map (·.null)=List.replicate (rowB b l) b:=by
 apply List.ext_getElem
 ·simp only [List.length_map,List.length_take,List.length_replicate]
  have:=ZL b l
  omega
 ·intro i h1 h2
  simp only [List.length_replicate] at h2
  obtain ⟨h3,h4⟩:=GD b l i h2
  simp only [List.getElem_map,List.getElem_take,List.getElem_replicate]
  exact h4
theorem Mu (b:Bool) (l:List CellB) (h:rowB b l=0) (hl:l≠[]):rowB (!b) l≠0:=by
 cases l with
 | nil=>exact absurd rfl hl
 | cons c l =>
  simp only [rowB] at h ⊢
  have hc:¬ c.null=b:=by intro e;simp [e] at h
  have hc2:c.null=!b:=by cases hn:c.null<;>cases b<;>simp_all
  simp [hc2]
theorem My (n:Nat) (hn:n≤60) (r:List UInt8):∀ (f:Nat) (l:List CellB) (b:Bool) (pre:List Bool),pre.length+l.length=n→2*l.length+(if rowB b l=0 then 1 else 0) < f →
  zW n f pre b (some (qO b l++r))=(pre++l.map (·.null),some r):=by
 intro f
 induction f with
 | zero=>intro l b pre _ h;omega
 | succ f ih =>
  intro l b pre hp hf
  by_cases hl:l=[]
  ·subst hl
   simp only [List.length_nil,Nat.add_zero] at hp
   rw [zW,if_neg (by omega)]
   simp [qO]
  ·have hpos:0 < l.length:=by cases l with|nil=>exact absurd rfl hl|cons c l=>simp
   have hrow:=ZL b l
   rw [zW,if_pos ⟨by omega,rfl⟩,QT b l hl,List.append_assoc,Jo _ _ _ (by omega) (by omega)]
   simp only
   have e:pre++l.map (·.null)=(pre++List.replicate (rowB b l) b)++(l.drop (rowB b l)).map (·.null):=by
    rw [List.append_assoc,← Ml b l,← List.map_append,List.take_append_drop]
   rw [e]
   refine ih (l.drop (rowB b l)) (!b) _ ?_ ?_
   ·simp only [List.length_append,List.length_replicate,List.length_drop];omega
   ·rw [List.length_drop]
    by_cases h0:rowB b l=0
    ·rw [h0,List.drop_zero,if_neg (Mu b l h0 hl)]
     rw [if_pos h0] at hf
     omega
    ·rw [if_neg h0] at hf
     split<;>omega
def qh:List Bool→List CellB→List CellB
 | [],_=>[]
 | true :: l,v=>⟨true,0,[]⟩ :: qh l v
 | false :: l,c :: v=>c :: qh l v
 | false :: l,[]=>⟨false,0,[]⟩ :: qh l []
theorem Vi (l:List CellB) (h:∀ c ∈ l,c.null=true→c=⟨true,0,[]⟩):qh (l.map (·.null)) (je l)=l:=by
 induction l with
 | nil=>rfl
 | cons c l ih =>
  have ih':=ih (fun x hx=>h x (by simp [hx]))
  cases hc:c.null with
  | true =>
   have e:=h c (by simp) hc
   have ev:je (c :: l)=je l:=by simp [je,hc]
   simp only [List.map_cons,hc,ev,qh]
   rw [ih',← e]
  | false =>
   have ev:je (c :: l)=c :: je l:=by simp [je,hc]
   simp only [List.map_cons,hc,ev,qh]
   rw [ih']
def jO (l:List Bool):Nat:=(l.filter fun b=>!b).length
theorem Xk (l:List CellB):jO (l.map (·.null))=(je l).length:=by
 unfold jO je
 rw [List.filter_map,List.length_map]
 rfl
def Xd (kind:Int) (page:List UInt8):Option (List CellB) :=
 if (zW (jJ 60 (some page)).1 200 [] false (jJ 60 (some page)).2).2=none∨(zW (jJ 60 (some page)).1 200 [] false (jJ 60 (some page)).2).1.length≠(jJ 60 (some page)).1 then none
 else if jO (zW (jJ 60 (some page)).1 200 [] false (jJ 60 (some page)).2).1=0 then some (qh (zW (jJ 60 (some page)).1 200 [] false (jJ 60 (some page)).2).1 [])
 else if (xU kind (jO (zW (jJ 60 (some page)).1 200 [] false (jJ 60 (some page)).2).1) (zW (jJ 60 (some page)).1 200 [] false (jJ 60 (some page)).2).2).2=none ∨
   (xU kind (jO (zW (jJ 60 (some page)).1 200 [] false (jJ 60 (some page)).2).1) (zW (jJ 60 (some page)).1 200 [] false (jJ 60 (some page)).2).2).1.length≠jO (zW (jJ 60 (some page)).1 200 [] false (jJ 60 (some page)).2).1 then none
 else some (qh (zW (jJ 60 (some page)).1 200 [] false (jJ 60 (some page)).2).1 (xU kind (jO (zW (jJ 60 (some page)).1 200 [] false (jJ 60 (some page)).2).1) (zW (jJ 60 (some page)).1 200 [] false (jJ 60 (some page)).2).2).1)
theorem CT {c:CellB} (h:xL 0 c=true) (hn:c.null=false) (hr:-9223372036854775808≤c.int∧c.int≤9223372036854775807):MM c:=by
 unfold xL at h
 rw [hn] at h
 simp at h
 exact ⟨hn,h,hr.1,hr.2⟩
theorem Mf {c:CellB} (h:xL 1 c=true) (hn:c.null=false):Rx c:=by
 unfold xL at h
 rw [hn] at h
 simp at h
 exact ⟨hn,h.1,h.2⟩
theorem Ck {kind:Int} {c:CellB} (h:xL kind c=true) (hn:c.null=true):c=⟨true,0,[]⟩:=by
 unfold xL at h
 rw [if_pos hn] at h
 obtain ⟨n,i,t⟩:=c
 simp at h hn
 obtain ⟨h1,h2⟩:=h
 subst h1 h2 hn
 rfl
theorem Ds (kind:Int) (l:List CellB) (rest:List UInt8) (hok:qF kind l=true) (hr:∀ c ∈ l,-9223372036854775808≤c.int∧c.int≤9223372036854775807):Xd kind (xw kind l++rest)=some l:=by
 unfold qF at hok
 simp only [Bool.and_eq_true,Bool.or_eq_true,decide_eq_true_eq,List.all_eq_true] at hok
 obtain ⟨⟨hk,hn⟩,hf⟩:=hok
 have hnull:∀ c ∈ l,c.null=true→c=⟨true,0,[]⟩:=fun c hc h=>Ck (hf c hc) h
 have hfill:=Vi l hnull
 have hmem:∀ c ∈ je l,c ∈ l∧c.null=false:=fun c hc=>by
  have:=List.mem_filter.1 hc
  exact ⟨this.1,by simpa using this.2⟩
 have hvl:(je l).length≤l.length:=List.length_filter_le _ _
 have hhead:∀ rest:List UInt8,jJ 60 (some (zr l++rest))=(l.length,some (qO false l++rest)):=by
  intro rest
  unfold zr
  rw [List.append_assoc]
  exact Jo 60 l.length _ hn (by omega)
 have hruns:∀ rest:List UInt8,zW l.length 200 [] false (some (qO false l++rest))=(l.map (·.null),some rest):=by
  intro rest
  have:=My l.length hn rest 200 l false [] (by simp) (by split<;>omega)
  simpa using this
 by_cases hv:je l=[]
 ·have hp:xw kind l=zr l:=by unfold xw;rw [if_pos hv]
  unfold Xd
  rw [hp,hhead rest]
  simp only
  rw [hruns rest]
  simp only
  rw [if_neg (by simp),Xk,hv,if_pos (show ([]:List CellB).length=0 from rfl)]
  rw [hv] at hfill
  rw [hfill]
 ·have hp:xw kind l=zr l++jE kind (je l) 3:=by unfold xw;rw [if_neg hv]
  obtain ⟨j,hj,hb⟩:=DY kind (je l)
  have hg:=Df kind (je l) rest j hj hk (by omega) (fun h c hc=>by subst h;exact CT (hf c (hmem c hc).1) (hmem c hc).2 (hr c (hmem c hc).1)) (fun h c hc=>by subst h;exact Mf (hf c (hmem c hc).1) (hmem c hc).2)
  rw [← hb] at hg
  have hpos:(je l).length≠0:=fun h=>hv (List.eq_nil_of_length_eq_zero h)
  unfold Xd
  rw [hp,List.append_assoc,hhead]
  simp only
  rw [hruns]
  simp only
  rw [if_neg (by simp),Xk,if_neg hpos,hg]
  simp only
  rw [if_neg (by simp),hfill]
def JP (c:CellB):Prop:=-9223372036854775808≤c.int∧c.int≤9223372036854775807
theorem Ms (k:Nat) (hk:k < 18446744073709551616):-9223372036854775808≤zOf k∧zOf k≤9223372036854775807:=by
 unfold zOf;split<;>omega
theorem Ew (kind:Int) (e:Nat) (words:List (List UInt8)) (n len:Nat) (last:CellB) (st:Option (List UInt8)):JP (qP kind e words n len last st).1:=by
 unfold qP
 split
 ·exact zk (Un (qd 8 st).1:Int)
 split
 ·exact zk (last.int+zOf (uR st).1)
 split
 ·exact Ms _ (DU _)
 split
 ·exact ⟨(by decide:(-9223372036854775808:Int)≤0),(by decide:(0:Int)≤9223372036854775807)⟩
 split
 ·exact ⟨(by decide:(-9223372036854775808:Int)≤0),(by decide:(0:Int)≤9223372036854775807)⟩
 split
 ·exact ⟨(by decide:(-9223372036854775808:Int)≤0),(by decide:(0:Int)≤9223372036854775807)⟩
 ·exact ⟨(by decide:(-9223372036854775808:Int)≤0),(by decide:(0:Int)≤9223372036854775807)⟩
theorem Vb (kind:Int) (e:Nat) (words:List (List UInt8)) (n:Nat):∀ (f:Nat) (l:List CellB) (last:CellB) (st:Option (List UInt8)),(∀ c ∈ l,JP c)→∀ c ∈ (xF kind e words n f l last st).1,JP c:=by
 intro f
 induction f with
 | zero=>intro l last st h;exact h
 | succ f ih =>
  intro l last st h
  rw [xF]
  split
  ·refine ih _ _ _ (fun c hc=>?_)
   rcases List.mem_append.1 hc with hc|hc
   ·exact h c hc
   ·rw [(List.mem_replicate.1 hc).2]
    exact Ew _ _ _ _ _ _ _
  ·exact h
theorem YV (kind:Int) (n:Nat) (st:Option (List UInt8)):∀ c ∈ (xU kind n st).1,JP c:=by
 unfold xU
 split
 ·split
  ·exact Vb _ _ _ _ _ _ _ _ (by simp)
  ·exact Vb _ _ _ _ _ _ _ _ (by simp)
 ·simp
theorem Gj:∀ (l:List Bool) (v:List CellB),(∀ c ∈ v,JP c)→∀ c ∈ qh l v,JP c:=by
 intro l
 induction l with
 | nil=>intro v h c hc;simp [qh] at hc
 | cons b l ih =>
  intro v h c hc
  have h0:JP ⟨true,0,[]⟩:=⟨by decide,by decide⟩
  have h1:JP ⟨false,0,[]⟩:=⟨by decide,by decide⟩
  cases b with
  | true =>
   simp only [qh,List.mem_cons] at hc
   rcases hc with rfl|hc
   ·exact h0
   ·exact ih v h c hc
  | false =>
   cases v with
   | nil =>
    simp only [qh,List.mem_cons] at hc
    rcases hc with rfl|hc
    ·exact h1
    ·exact ih [] h c hc
   | cons d v =>
    simp only [qh,List.mem_cons] at hc
    rcases hc with rfl|hc
    ·exact h c (by simp)
    ·exact ih v (fun x hx=>h x (by simp [hx])) c hc
theorem YK {kind:Int} {page:List UInt8} {l:List CellB} (h:Xd kind page=some l):∀ c ∈ l,JP c:=by
 unfold Xd at h
 split at h
 ·cases h
 ·split at h
  ·cases h;exact Gj _ _ (by simp)
  ·split at h
   ·cases h
   ·cases h;exact Gj _ _ (YV _ _ _)
def qX (kind:Int) (page:List UInt8):Option (List CellB) :=
 match Xd kind page with
 | none=>none
 | some l=>if qF kind l=true∧xw kind l=page then some l else none
theorem XT {kind:Int} {page:List UInt8} {l:List CellB} (h:qX kind page=some l):qF kind l=true∧xw kind l=page∧∀ c ∈ l,JP c:=by
 unfold qX at h
 split at h
 ·cases h
 ·rename_i l' hl
  split at h
  ·rename_i hc
   cases h
   exact ⟨hc.1,hc.2,YK hl⟩
  ·cases h
theorem VU (kind:Int) (l:List CellB) (hok:qF kind l=true) (hr:∀ c ∈ l,JP c):qX kind (xw kind l)=some l:=by
 have:=Ds kind l [] hok hr
 rw [List.append_nil] at this
 unfold qX
 rw [this]
 exact if_pos ⟨hok,rfl⟩
end
section
open Go.RowKit
def Ym (w:World) (v:Value):Option (List CellB)→Prop
 | none=>∃ a cap,v=.slice a 0 cap
 | some l=>∃ a cap,v=.slice a l.length cap∧Lies w a l
end
section
open Go.RowKit
theorem qS {wr w1:World} {B p e sz n:Nat} {v:Value} {xs:List Value} (h:wr.ownsRow B e sz v n xs) (hp:p < B) (hg:wr.grownBy w1 (some p)):w1.ownsRow B e sz v n xs:=by
 refine h.kept hg ?_
 cases hv:v.ownBlock with
 | none=>exact .inl rfl
 | some k =>
  right
  have:=(h.lt k hv).1
  simp only [ne_eq,Option.some.injEq]
  omega
theorem zq {w:World} {p:Nat} {s:List UInt8} {st:Option (List UInt8)} (h:jS w p s st) (hp:p < w.heap.size) (o:Obj):jS (w.alloc o) p s st:=by
 obtain ⟨at_,bad,hrow,hat,hst⟩:=h
 exact ⟨at_,bad,by rw [Below.heap_alloc w o p hp];exact hrow,hat,hst⟩
theorem KZ {w:World} {p:Nat} {s:List UInt8} {st:Option (List UInt8)} (h:jS w p s st) {q:Addr} (hq:p≠q.block) (v:Value):jS (w.setCell q v) p s st:=by
 obtain ⟨at_,bad,hrow,hat,hst⟩:=h
 exact ⟨at_,bad,by rw [Below.heap_setCell w q v p hq];exact hrow,hat,hst⟩
theorem xT {w wr:World} {p:Option Nat} (h:w.grownBy wr p) (o:Obj):w.grownBy (wr.alloc o) p:=ja h (World.grownBy_alloc wr o p)
theorem RZ {w wr:World} {p:Option Nat} (h:w.grownBy wr p) {q:Addr} (hq:w.heap.size≤q.block) (v:Value):w.grownBy (wr.setCell q v) p :=
 ⟨h.os,h.tape,h.output,by have:=h.size;simp;omega,fun k hk hne=>by rw [Below.heap_setCell wr q v k (by omega)];exact h.block k hk hne⟩
def Block3 (w:World) (g:Nat) (c:CellB):Prop:=w.heap[g]?=some (.cells #[.bool c.null,.int .i64 c.int,strB c.text] 58 (0,0))
theorem Block3.kept {w w1:World} {p g:Nat} {c:CellB} (h:Block3 w g c) (hg:w.grownBy w1 (some p)) (hlt:g < w.heap.size) (hne:g≠p):Block3 w1 g c:=by
 unfold Block3
 rw [hg.block g hlt (by simp [hne])]
 exact h
theorem Ju {w:World} {p:Nat} {s:List UInt8} {st:Option (List UInt8)} (h:jS w p s st):w.cell? ⟨p,2,none⟩=some (.bool (JO st))∧w.frozen? ⟨p,2,none⟩=false:=by
 refine ⟨Kv h,?_⟩
 obtain ⟨at_,bad,hrow,_,_⟩:=h
 exact (xj hrow).2 2
structure Guess (w wr:World) (p g14:Nat) (s:List UInt8) (st:Option (List UInt8)) (lv:Value) (l:List CellB) (last:CellB):Prop where
 row:wr.ownsRow (g14+1) 58 3 lv l.length (jG l)
 spot:jS wr p s st
 grown:w.grownBy wr (some p)
 lastAt:Block3 wr g14 last
 ok:∀ c ∈ l,okC c
 lastOk:okC last
 lastLen:last.text.length≤12*l.length
theorem CX (kind:Int) (e:Nat) (words:List (List UInt8)) (n len:Nat) (last:CellB) (st:Option (List UInt8)) (hw:∀ x ∈ words,x.length≤12) (hl:last.text.length≤1000) :
  okC (qP kind e words n len last st).1∧(qP kind e words n len last st).1.text.length≤last.text.length+12:=by
 have hx:∀ st',(xR 12 st').1.length≤12:=by
  intro st'
  unfold xR
  have h1:=xH 12 st'
  cases h2:(jJ 12 st').2 with
  | none=>simp [qd]
  | some r =>
   by_cases hc:((jJ 12 st').1:Int) < 0∨(r.length:Int) < ((jJ 12 st').1:Int)
   ·rw [Qg hc];simp
   ·rw [zR (by omega) (by omega)]
    simp only [List.length_take,Int.toNat_natCast];omega
 have hz:∀ k:Nat,k < 18446744073709551616→-9223372036854775808≤zOf k∧zOf k≤9223372036854775807:=by
  intro k hk
  unfold zOf;split<;>omega
 have hm:(2000:Nat)≤maxLen:=by decide
 unfold qP
 split
 ·have:=zk (Un (qd 8 st).1:Int)
  exact ⟨⟨this.1,this.2,Nat.zero_le _⟩,Nat.zero_le _⟩
 split
 ·have:=zk (last.int+zOf (uR st).1)
  exact ⟨⟨this.1,this.2,Nat.zero_le _⟩,Nat.zero_le _⟩
 split
 ·have:=hz _ (DU (jJ (n - len) st).2)
  exact ⟨⟨this.1,this.2,Nat.zero_le _⟩,Nat.zero_le _⟩
 split
 ·have:=hx st
  exact ⟨⟨by simp,by simp,by simp only;omega⟩,by simp only;omega⟩
 split
 ·have h5:(words.getD (jJ (words.length - 1) st).1 []).length≤12:=by
   by_cases h6:(jJ (words.length - 1) st).1 < words.length
   ·simp only [List.getD,List.getElem?_eq_getElem h6,Option.getD_some]
    exact hw _ (List.getElem_mem h6)
   ·simp [List.getD,List.getElem?_eq_none (Nat.le_of_not_lt h6)]
  exact ⟨⟨by simp,by simp,by simp only;omega⟩,by simp only;omega⟩
 split
 ·have h7:=hx (jJ last.text.length st).2
  have h8:(last.text.take (jJ last.text.length st).1++(xR 12 (jJ last.text.length st).2).1).length≤last.text.length+12:=by
   rw [List.length_append,List.length_take];omega
  exact ⟨⟨by simp,by simp,by simp only;omega⟩,h8⟩
 ·exact ⟨⟨by simp,by simp,by simp only [List.length_nil];omega⟩,by simp⟩
def Qh (l:List (List UInt8)):List Value:=l.map strB
theorem Tryz.infoString:(Tryz.prog.info? 9).map (fun i=>(i.zero,i.size,i.bytes))=some (some (.string ⟨#[]⟩),1,16):=by kernel_rfl
theorem JI {w w':World} {p:Nat} {s:List UInt8} {st:Option (List UInt8)} {q:Option Nat} (h:jS w p s st) (hp:p < w.heap.size) (hg:w.grownBy w' q) (hq:∀ k,q=some k→p < k):jS w' p s st:=by
 obtain ⟨at_,bad,hrow,hat,hst⟩:=h
 refine ⟨at_,bad,?_,hat,hst⟩
 rw [hg.block p hp (fun e=>absurd (hq p e.symm) (by omega))]
 exact hrow
theorem zo {w wr w2:World} {p q:Option Nat} (h:w.grownBy wr p) (hg:wr.grownBy w2 q) (hq:∀ k,q=some k→w.heap.size≤k):w.grownBy w2 p:=by
 refine ⟨hg.os.trans h.os,hg.tape.trans h.tape,hg.output.trans h.output,Nat.le_trans h.size hg.size,fun i hi hne=>?_⟩
 rw [hg.block i (Nat.lt_of_lt_of_le hi h.size) (fun e=>absurd (hq i e.symm) (by omega))]
 exact h.block i hi hne
theorem MB {w w3 w4:World} {v v':Value} {p:Nat} {s:List UInt8} {st:Option (List UInt8)} {words:List (List UInt8)} {x:List UInt8} {o:Obj} (hp:p < w.heap.size)
  (hl:w3.ownsRow w.heap.size 9 1 v words.length (Qh words)) (hl2:w4.ownsRow w.heap.size 9 1 v' (words.length+1) (Qh words++[strB x])) (hg:(w3.alloc o).grownBy w4 v.ownBlock)
  (hsp:jS w3 p s st) (hg3:w.grownBy w3 (some p)) :
  w4.ownsRow w.heap.size 9 1 v' (words++[x]).length (Qh (words++[x]))∧jS w4 p s st∧w.grownBy w4 (some p):=by
 have hz:=hg3.size
 have hb:∀ k,v.ownBlock=some k→w.heap.size≤k:=fun k hk=>(hl.lt k hk).1
 refine ⟨?_,?_,zo (xT hg3 o) hg hb⟩
 ·rw [List.length_append,Qh,List.map_append];exact hl2
 ·exact JI (zq hsp (by omega) o) (by simp;omega) hg (fun k hk=>by have:=hb k hk;omega)
theorem Tt (m:Nat) (st:Option (List UInt8)):(xR m st).1.length≤m:=by
 unfold xR
 have h1:=xH m st
 cases h2:(jJ m st).2 with
 | none=>simp [qd]
 | some r =>
  by_cases hc:((jJ m st).1:Int) < 0∨(r.length:Int) < ((jJ m st).1:Int)
  ·rw [Qg hc];simp
  ·rw [zR (by omega) (by omega)]
   simp only [List.length_take,Int.toNat_natCast];omega
theorem EE {k j:Nat} {words:List (List UInt8)} {sr sw:Option (List UInt8)} (h:j < k) (e1:words++(xS (k - j) sr).1=(xS k sw).1) (e2:(xS (k - j) sr).2=(xS k sw).2) :
  (words++[(xR 12 sr).1])++(xS (k - (j+1)) (xR 12 sr).2).1=(xS k sw).1∧(xS (k - (j+1)) (xR 12 sr).2).2=(xS k sw).2:=by
 rw [show k - j=(k - (j+1))+1 by omega] at e1 e2
 simp only [xS] at e1 e2
 exact ⟨by rw [List.append_assoc];exact e1,e2⟩
theorem Eo {w wc:World} {p n:Nat} {s:List UInt8} {st:Option (List UInt8)} (hp:p < w.heap.size) (hsp:jS wc p s st) (hg:w.grownBy wc (some p)) :
  Guess w (wc.alloc (Obj.cells #[Value.bool false,Value.int IntKind.i64 0,Value.string { data:=#[] }] 58)) p wc.heap.size s st (.slice none 0 0) [] qz where
 row:=World.ownsRow_nil _ _ _ _
 spot:=zq hsp (Nat.lt_of_lt_of_le hp hg.size) _
 grown:=xT hg _
 lastAt:=by
  unfold Block3
  rw [World.alloc]
  simp [qz,strB]
 ok:=by simp
 lastOk:=⟨by simp [qz],by simp [qz],by simp [qz]⟩
 lastLen:=by simp [qz]
theorem In (kind:Int) (e:Nat) (words:List (List UInt8)) (n gk:Nat) (l:List CellB) (last:CellB) (st:Option (List UInt8)) (h:¬ (l.length < n∧st.isSome=true)):xF kind e words n gk l last st=(l,st):=by
 cases gk with
 | zero=>rfl
 | succ f=>rw [xF,if_neg h]
structure GuessPre (w wr wa:World) (p g14 g15:Nat) (s:List UInt8) (st:Option (List UInt8)) (wv:Value) (last:CellB) (words:List (List UInt8)):Prop where
 words:wa.ownsRow w.heap.size 9 1 wv words.length (Qh words)
 spot:jS wa p s st
 lastAt:Block3 wa g14 last
 newAt:Block3 wa g15 qz
 grown:wr.grownBy wa (some p)
 size:wa.heap.size=g15+1
theorem MI {w wr:World} {p g14 g15:Nat} {s:List UInt8} {st:Option (List UInt8)} {lv wv:Value} {l:List CellB} {last:CellB} {words:List (List UInt8)} (h15:g15=wr.heap.size) (hp:p < wr.heap.size) (h14:g14 < wr.heap.size)
  (hG:Guess w wr p g14 s st lv l last) (hw:wr.ownsRow w.heap.size 9 1 wv words.length (Qh words)) :
  GuessPre w wr (wr.alloc (Obj.cells #[Value.bool false,Value.int IntKind.i64 0,Value.string { data:=#[] }] 58)) p g14 g15 s st wv last words:=by
 subst h15
 refine ⟨hw.alloc _,zq hG.spot hp _,?_,?_,World.grownBy_alloc _ _ _,by simp⟩
 ·unfold Block3
  rw [Below.heap_alloc wr _ g14 h14]
  exact hG.lastAt
 ·unfold Block3
  rw [World.alloc]
  simp [qz,strB]
structure GuessMid (w wc:World) (p g14 g15:Nat) (s:List UInt8) (st:Option (List UInt8)) (lv wv:Value) (l:List CellB) (last v:CellB) (words:List (List UInt8)):Prop where
 row:wc.ownsRow (g14+1) 58 3 lv l.length (jG l)
 words:wc.ownsRow w.heap.size 9 1 wv words.length (Qh words)
 spot:jS wc p s st
 grown:w.grownBy wc (some p)
 last:Block3 wc g14 last
 new:Block3 wc g15 v
 lt:g15 < wc.heap.size
 apart:lv.ownBlock≠some g15
theorem IE {w:World} {g:Nat} {c:CellB} (h:Block3 w g c):g < w.heap.size:=by
 unfold Block3 at h
 exact (Array.getElem?_eq_some_iff.1 h).1
theorem MW {w wr wc:World} {p g14 g15:Nat} {s:List UInt8} {st st2:Option (List UInt8)} {lv wv:Value} {l:List CellB} {last v:CellB} {words:List (List UInt8)} (h15:g15=wr.heap.size) (hp:p < g15) (h14:g14 < g15) (h14p:p < g14) (hpw:p < w.heap.size)
  (hG:Guess w wr p g14 s st lv l last) (hw:wr.ownsRow w.heap.size 9 1 wv words.length (Qh words)) (hb:Block3 wc g15 v) (hsp:jS wc p s st2) (hgr:wr.grownBy wc (some p)) :
  GuessMid w wc p g14 g15 s st2 lv wv l last v words:=by
 subst h15
 exact ⟨qS hG.row (by omega) hgr,qS hw hpw hgr,hsp,ja hG.grown hgr,hG.lastAt.kept hgr h14 (by omega),hb,IE hb,fun e=>absurd (hG.row.lt _ e).2 (by omega)⟩
theorem Am (kind:Int) (e:Nat) (words:List (List UInt8)) (n len:Nat) (last:CellB) (st:Option (List UInt8)) (hlt:len < n) :
  (qP kind e words n len last st).2.1≤n - len∧((qP kind e words n len last st).2.2.isSome=true→1≤(qP kind e words n len last st).2.1):=by
 unfold qP
 split
 ·exact ⟨by show 1≤_;omega,fun _=>Nat.le_refl 1⟩
 split
 ·exact ⟨by show 1≤_;omega,fun _=>Nat.le_refl 1⟩
 split
 ·refine ⟨xH _ _,?_⟩
  show (if (jJ (n - len) st).1=0 then none else (uR (jJ (n - len) st).2).2).isSome=true→1≤(jJ (n - len) st).1
  split
  ·intro h;simp at h
  ·intro _;omega
 split
 ·exact ⟨by show 1≤_;omega,fun _=>Nat.le_refl 1⟩
 split
 ·exact ⟨by show 1≤_;omega,fun _=>Nat.le_refl 1⟩
 split
 ·exact ⟨by show 1≤_;omega,fun _=>Nat.le_refl 1⟩
 ·exact ⟨by show 1≤_;omega,fun _=>Nat.le_refl 1⟩
theorem UT {w:World} {b e s n g:Nat} {v:Value} {xs:List Value} {C:Array Value} {t:TypeId} {m:Nat × Nat} (h:w.ownsRow b e s v n xs) (hg:w.heap[g]?=some (.cells C t m)) (he:e≠t):v.ownBlock≠some g:=by
 rcases h.2 with ⟨rfl,_⟩|⟨g',cap,cur,rfl,_,hg',_⟩
 ·simp [Value.ownBlock]
 ·simp only [Value.ownBlock,ne_eq,Option.some.injEq]
  intro hgg
  subst hgg
  rw [hg] at hg'
  simp at hg'
  exact he hg'.2.1.symm
theorem IR {W:World} {b b' e e' s s' n n':Nat} {v v':Value} {xs xs':List Value} (h:W.ownsRow b e s v n xs) (h':W.ownsRow b' e' s' v' n' xs') (he:e≠e') :
  v.ownBlock=none∨v.ownBlock≠v'.ownBlock:=by
 rcases h'.2 with ⟨rfl,_⟩|⟨g',cap',cur',rfl,_,hg',_⟩
 ·cases hv:v.ownBlock with
  | none=>exact .inl rfl
  | some k=>right;simp [Value.ownBlock]
 ·exact .inr (UT h hg' he)
theorem jy {w:World} {b b' e s n:Nat} {v:Value} {xs:List Value} (h:w.ownsRow b e s v n xs) (hb:b'≤b):w.ownsRow b' e s v n xs:=by
 refine ⟨h.1,?_⟩
 rcases h.2 with h|⟨g,cap,cur,rfl,hg,rest⟩
 ·exact .inl h
 ·exact .inr ⟨g,cap,cur,rfl,Nat.le_trans hb hg,rest⟩
theorem LZ {w:World} {g:Nat} {x y z a b c:Value} {t:TypeId} (h:w.heap[g]?=some (.cells #[x,y,z] t (0,0))) :
  (((w.setCell ⟨g,0,none⟩ a).setCell ⟨g,1,none⟩ b).setCell ⟨g,2,none⟩ c).heap[g]?=some (.cells #[a,b,c] t (0,0))∧w.grownBy (((w.setCell ⟨g,0,none⟩ a).setCell ⟨g,1,none⟩ b).setCell ⟨g,2,none⟩ c) (some g):=by
 have h1:(w.setCell ⟨g,0,none⟩ a).heap[g]?=some (.cells #[a,y,z] t (0,0)):=by rw [heap_setCell_same w g 0 _ t a h];rfl
 have h2:((w.setCell ⟨g,0,none⟩ a).setCell ⟨g,1,none⟩ b).heap[g]?=some (.cells #[a,b,z] t (0,0)):=by rw [heap_setCell_same _ g 1 _ t b h1];rfl
 refine ⟨by rw [heap_setCell_same _ g 2 _ t c h2];rfl,⟨rfl,rfl,rfl,by simp,fun k _ hk=>?_⟩⟩
 have hne:k≠g:=fun e=>hk (by rw [e])
 rw [heap_setCell_other _ ⟨g,2,none⟩ k c hne,heap_setCell_other _ ⟨g,1,none⟩ k b hne,heap_setCell_other _ ⟨g,0,none⟩ k a hne]
theorem Mr {w wc:World} {p g14 g15:Nat} {s:List UInt8} {st:Option (List UInt8)} {lv wv:Value} {l:List CellB} {last:CellB} {vn:Bool} {vi:Int} {vt:List UInt8} {words:List (List UInt8)} (h14:g14 < g15) (hp:p < g14) (hw:w.heap.size≤g14)
  (h:GuessMid w wc p g14 g15 s st lv wv l last ⟨vn,vi,vt⟩ words) :
  GuessMid w (((wc.setCell ⟨g14,0,none⟩ (.bool vn)).setCell ⟨g14,1,none⟩ (.int .i64 vi)).setCell ⟨g14,2,none⟩ (.string ⟨vt.toArray⟩)) p g14 g15 s st lv wv (l++List.replicate 0 ⟨vn,vi,vt⟩) ⟨vn,vi,vt⟩ ⟨vn,vi,vt⟩ words:=by
 obtain ⟨hs,hg⟩:=LZ (a:=.bool vn) (b:=.int .i64 vi) (c:=.string ⟨vt.toArray⟩) h.last
 have hlt:=h.lt
 refine ⟨?_,?_,?_,?_,hs,?_,Nat.lt_of_lt_of_le hlt hg.size,h.apart⟩
 ·rw [List.replicate_zero,List.append_nil]
  exact qS h.row (by omega) hg
 ·exact h.words.kept hg (.inr (UT h.words h.last (by decide)))
 ·exact JI h.spot (by omega) hg (fun k hk=>by simp at hk;omega)
 ·exact zo h.grown hg (fun k hk=>by simp at hk;omega)
 ·unfold Block3
  rw [hg.block g15 hlt (by simp;omega)]
  exact h.new
theorem VO (l:List CellB) (c:CellB):jG (l++[c])=jG l++[.bool c.null,.int .i64 c.int,strB c.text]:=by
 rw [Jl];simp [jG]
theorem Kn {α:Type} (l:List α) (k:Nat) (v:α):l++List.replicate (k+1) v=(l++List.replicate k v)++[v]:=by
 rw [List.replicate_succ',List.append_assoc]
theorem Aa {w w3 w4:World} {p g14 g15 k:Nat} {s:List UInt8} {st:Option (List UInt8)} {lv lv' wv:Value} {l:List CellB} {v:CellB} {words:List (List UInt8)} {o:Obj} (h14:g14 < g15) (hp:p < g14) (hw:w.heap.size≤g14)
  (h:GuessMid w w3 p g14 g15 s st lv wv (l++List.replicate k v) v v words)
  (hl:w4.ownsRow (g14+1) 58 3 lv' ((l++List.replicate k v).length+1) (jG (l++List.replicate k v)++[.bool v.null,.int .i64 v.int,strB v.text]))
  (hg:(w3.alloc o).grownBy w4 lv.ownBlock) (ha:lv'.ownBlock=lv.ownBlock∨lv'.ownBlock=some (w3.heap.size+1)) :
  GuessMid w w4 p g14 g15 s st lv' wv (l++List.replicate (k+1) v) v v words:=by
 have hlt:=h.lt
 have hb:∀ j,lv.ownBlock=some j→g14+1≤j:=fun j hj=>(h.row.lt j hj).1
 have hz:=hg.size
 rw [Kn]
 generalize l++List.replicate k v=l' at *
 refine ⟨?_,?_,?_,?_,?_,?_,?_,?_⟩
 ·rw [VO,List.length_append];exact hl
 ·exact (h.words.alloc o).kept hg (IR h.words h.row (by decide))
 ·exact JI (zq h.spot (by omega) o) (by simp;omega) hg (fun j hj=>by have:=hb j hj;omega)
 ·exact zo (xT h.grown o) hg (fun j hj=>by have:=hb j hj;omega)
 ·unfold Block3
  rw [hg.block g14 (by simp;omega) (fun e=>by have:=hb g14 e.symm;omega),Below.heap_alloc w3 o g14 (by omega)]
  exact h.last
 ·unfold Block3
  rw [hg.block g15 (by simp;omega) (fun e=>h.apart e.symm),Below.heap_alloc w3 o g15 hlt]
  exact h.new
 ·simp at hz;omega
 ·rcases ha with ha|ha
  ·rw [ha];exact h.apart
  ·rw [ha];simp;omega
theorem Ab {w w3:World} {p g14 g15 n times:Nat} {s:List UInt8} {st:Option (List UInt8)} {lv wv:Value} {l:List CellB} {last v:CellB} {words:List (List UInt8)} (hn:n≤60) (hln:l.length≤n) (hlast:last.text.length≤12*l.length) (hok:∀ c ∈ l,okC c)
  (h:GuessMid w w3 p g14 g15 s st lv wv (l++List.replicate times v) v v words) (ht:times≤n - l.length) (h1:1≤times∨v.text.length≤12*l.length) (hv:okC v) (hvl:v.text.length≤last.text.length+12) :
  Guess w w3 p g14 s st lv (l++List.replicate times v) v:=by
 refine ⟨h.row,h.spot,h.grown,h.last,?_,hv,?_⟩
 ·intro c hc
  rcases List.mem_append.1 hc with hc|hc
  ·exact hok c hc
  ·rw [(List.mem_replicate.1 hc).2];exact hv
 ·rw [List.length_append,List.length_replicate]
  rcases h1 with h1|h1<;>omega
theorem Dm (kind:Int) (e:Nat) (words:List (List UInt8)) (n len:Nat) (last:CellB) (st:Option (List UInt8)):1≤(qP kind e words n len last st).2.1∨(qP kind e words n len last st).1.text.length=0:=by
 unfold qP
 split
 ·exact .inl (Nat.le_refl 1)
 split
 ·exact .inl (Nat.le_refl 1)
 split
 ·exact .inr rfl
 split
 ·exact .inl (Nat.le_refl 1)
 split
 ·exact .inl (Nat.le_refl 1)
 split
 ·exact .inl (Nat.le_refl 1)
 ·exact .inl (Nat.le_refl 1)
theorem Vv {wr w5:World} {p g15:Nat} {s:List UInt8} {st:Option (List UInt8)} {x y:Int} {t:List UInt8} {b:Bool} (h15:g15=wr.heap.size) (hp:p < g15) (hb:Block3 w5 g15 ⟨b,y,t⟩) (hsp:jS w5 p s st) (hg:wr.grownBy w5 (some p)) :
  Block3 (w5.setCell ⟨g15,1,none⟩ (.int .i64 x)) g15 ⟨b,x,t⟩∧jS (w5.setCell ⟨g15,1,none⟩ (.int .i64 x)) p s st∧wr.grownBy (w5.setCell ⟨g15,1,none⟩ (.int .i64 x)) (some p):=by
 refine ⟨(AF hb).1,KZ hsp (by show p≠g15;omega) _,RZ hg (by show _≤g15;omega) _⟩
theorem Uo {wr w5:World} {p g15:Nat} {s:List UInt8} {st:Option (List UInt8)} {x t:List UInt8} {y:Int} {b:Bool} {v:Value} (hv:v=strB x) (h15:g15=wr.heap.size) (hp:p < g15) (hb:Block3 w5 g15 ⟨b,y,t⟩) (hsp:jS w5 p s st) (hg:wr.grownBy w5 (some p)) :
  Block3 (w5.setCell ⟨g15,2,none⟩ v) g15 ⟨b,y,x⟩∧jS (w5.setCell ⟨g15,2,none⟩ v) p s st∧wr.grownBy (w5.setCell ⟨g15,2,none⟩ v) (some p):=by
 subst hv
 refine ⟨(Xo hb).1,KZ hsp (by show p≠g15;omega) _,RZ hg (by show _≤g15;omega) _⟩
theorem Xs {wr w5:World} {p g15:Nat} {s:List UInt8} {st:Option (List UInt8)} {c:CellB} (b:Bool) (hq:JO st=true→b=true) (hp:p < g15) (hb:Block3 w5 g15 c) (hsp:jS w5 p s st) (hg:wr.grownBy w5 (some p)) :
  Block3 (w5.setCell ⟨p,2,none⟩ (.bool b)) g15 c∧jS (w5.setCell ⟨p,2,none⟩ (.bool b)) p s (if b=true then none else st)∧wr.grownBy (w5.setCell ⟨p,2,none⟩ (.bool b)) (some p):=by
 obtain ⟨at_,bad,hrow,hat,hst⟩:=hsp
 obtain ⟨h1,h2⟩:=Xo (v:=.bool b) hrow
 refine ⟨?_,⟨at_,b,h1,hat,?_⟩,ja hg h2⟩
 ·unfold Block3
  rw [h2.block g15 (IE hb) (by simp;omega)]
  exact hb
 ·cases b with
  | true=>rfl
  | false =>
   cases bad with
   | true=>subst hst;exact absurd (hq rfl) (by decide)
   | false=>subst hst;rfl
theorem jx {a b:World} {p:Option Nat} (h:(a.drew).grownBy b p):a.grownBy b p:=⟨h.os,h.tape,h.output,h.size,h.block⟩
theorem TK {w:World} {B:Nat} {v:Value} {words:List (List UInt8)} (h:w.ownsRow B 9 1 v words.length (Qh words)) (hn:0 < words.length) :
  ∃ g cap,v=.slice (some ⟨g,0,none⟩) words.length cap∧True:=by
 rcases h.2 with ⟨_,h0⟩|⟨g,cap,cur,rfl,_⟩
 ·omega
 ·exact ⟨g,cap,rfl,trivial⟩
theorem Ay {w:World} {B g cap:Nat} {words:List (List UInt8)} (h:w.ownsRow B 9 1 (.slice (some ⟨g,0,none⟩) words.length cap) words.length (Qh words)) (k:Nat) (hk:k < words.length) :
  w.cell? ⟨g,k,none⟩=some (strB words[k]):=by
 rw [h.cellAt k (by omega)]
 simp [Qh,hk]
theorem RW {w:World} {p:Nat} {s:List UInt8} {st:Option (List UInt8)} (h:jS w p s st):jS w.drew p s st:=h
theorem TN (t x:List UInt8) (k:Nat):Value.string ((⟨t.toArray⟩:ByteArray).extract 0 k++⟨x.toArray⟩)=strB (t.take k++x):=by
 have h:(⟨t.toArray⟩:ByteArray).extract 0 k=⟨(t.take k).toArray⟩:=by
  apply ByteArray.ext
  apply Array.ext'
  rw [Lib.extract_data,UC]
  simp
 rw [h]
 exact congrArg Value.string (xe _ _)
end
section
open Go.RowKit
def XH (b:Bool):CellB:=⟨b,0,[]⟩
structure Runs (w1 wr:World) (p:Nat) (s:List UInt8) (st:Option (List UInt8)) (lv:Value) (fl:List Bool):Prop where
 row:wr.ownsRow w1.heap.size 58 3 lv fl.length (jG (fl.map XH))
 spot:jS wr p s st
 grown:w1.grownBy wr (some p)
theorem YP (fl:List Bool):∀ c ∈ fl.map XH,okC c:=by
 intro c hc
 obtain ⟨b,_,rfl⟩:=List.mem_map.1 hc
 exact ⟨by simp [XH],by simp [XH],by simp [XH]⟩
theorem MF {w1 w3 w4:World} {p k:Nat} {s:List UInt8} {st:Option (List UInt8)} {lv lv':Value} {fl:List Bool} {b:Bool} {o:Obj} (hp:p < w1.heap.size) (h:Runs w1 w3 p s st lv (fl++List.replicate k b))
  (hl:w4.ownsRow w1.heap.size 58 3 lv' ((fl++List.replicate k b).length+1) (jG ((fl++List.replicate k b).map XH)++[.bool b,.int .i64 0,strB []])) (hg:(w3.alloc o).grownBy w4 lv.ownBlock) :
  Runs w1 w4 p s st lv' (fl++List.replicate (k+1) b):=by
 have hz:=h.grown.size
 have hb:∀ j,lv.ownBlock=some j→w1.heap.size≤j:=fun j hj=>(h.row.lt j hj).1
 rw [Kn]
 generalize fl++List.replicate k b=f' at *
 refine ⟨?_,?_,?_⟩
 ·rw [List.map_append,List.map_singleton,VO,List.length_append];exact hl
 ·exact JI (zq h.spot (by omega) o) (by simp;omega) hg (fun j hj=>by have:=hb j hj;omega)
 ·exact zo (xT h.grown o) hg hb
theorem AL (n f:Nat) (l:List Bool) (b:Bool) (st:Option (List UInt8)) (h:¬ (l.length < n∧st.isSome=true)):zW n f l b st=(l,st):=by
 cases f with
 | zero=>rfl
 | succ f=>rw [zW,if_neg h]
theorem ZF (fl:List Bool) (k:Nat):jO (fl++List.replicate k false)=jO fl+k∧jO (fl++List.replicate k true)=jO fl:=by
 unfold jO
 rw [List.filter_append,List.filter_append,List.length_append,List.length_append,List.filter_replicate,List.filter_replicate]
 simp
theorem IN (fl:List Bool):jO fl≤fl.length:=List.length_filter_le _ _
theorem YX {w w1 w2:World} {p:Nat} (h1:Below w.heap.size w w1) (hg:w1.grownBy w2 (some p)) (hp:w.heap.size≤p):Below w.heap.size w w2 :=
 h1.grown hg h1.size (fun k hk=>by simp at hk;omega)
theorem UD (a b:List Bool):∀ (v:List CellB),qh (a++b) v=qh a v++qh b (v.drop (jO a)):=by
 induction a with
 | nil=>intro v;simp [qh,jO]
 | cons x a ih =>
  intro v
  cases x with
  | true =>
   have hc:jO (true :: a)=jO a:=by simp [jO]
   simp only [List.cons_append,qh,hc]
   rw [ih]
  | false =>
   have hc:jO (false :: a)=jO a+1:=by simp [jO]
   cases v with
   | nil =>
    simp only [List.cons_append,qh,hc]
    rw [ih]
    simp
   | cons c v =>
    simp only [List.cons_append,qh,hc]
    rw [ih]
    simp
theorem JF (a:List Bool):∀ (v:List CellB),(qh a v).length=a.length:=by
 induction a with
 | nil=>intro v;rfl
 | cons x a ih =>
  intro v
  cases x with
  | true=>simp [qh,ih]
  | false=>cases v<;>simp [qh,ih]
theorem AV (a:List Bool) (h:jO a=0) (v:List CellB):qh a v=a.map XH:=by
 induction a with
 | nil=>rfl
 | cons x a ih =>
  cases x with
  | true =>
   have hc:jO (true :: a)=jO a:=by simp [jO]
   rw [hc] at h
   simp only [qh,List.map_cons,ih h]
   rfl
  | false =>
   have hc:jO (false :: a)=jO a+1:=by simp [jO]
   omega
theorem Rn (fl:List Bool) (k:Nat) (hk:k < fl.length) (hf:fl[k]=false):jO (fl.take k) < jO fl∧jO (fl.take (k+1))=jO (fl.take k)+1:=by
 have h1:fl.take (k+1)=fl.take k++[fl[k]]:=List.take_succ_eq_append_getElem hk
 have h2:jO (fl.take (k+1))=jO (fl.take k)+1:=by
  rw [h1,hf]
  exact (ZF (fl.take k) 1).1
 have h3:jO (fl.take (k+1))+jO (fl.drop (k+1))=jO fl:=by
  unfold jO
  rw [← List.length_append,← List.filter_append,List.take_append_drop]
 exact ⟨by omega,h2⟩
theorem Gv (fl:List Bool) (k:Nat) (hk:k < fl.length) (hf:fl[k]=true):jO (fl.take (k+1))=jO (fl.take k):=by
 rw [List.take_succ_eq_append_getElem hk,hf]
 exact (ZF (fl.take k) 1).2
def Zj (fl:List Bool) (v:List CellB) (k:Nat):List CellB:=qh (fl.take k) v++(fl.drop k).map XH
theorem ZR (fl:List Bool) (v:List CellB) (k:Nat):(Zj fl v k).length=fl.length:=by
 unfold Zj
 rw [List.length_append,JF,List.length_map,List.length_take,List.length_drop];omega
theorem Th (fl:List Bool) (v:List CellB):Zj fl v 0=fl.map XH:=by simp [Zj,qh]
theorem Sz (fl:List Bool) (v:List CellB):Zj fl v fl.length=qh fl v:=by simp [Zj]
theorem Lo (fl:List Bool) (v:List CellB) (k:Nat) (hk:k < fl.length):(Zj fl v k)[k]?=some (XH fl[k]):=by
 unfold Zj
 rw [List.getElem?_append_right (by rw [JF,List.length_take];omega),JF,List.length_take,Nat.min_eq_left (by omega),Nat.sub_self,List.getElem?_map,List.getElem?_drop]
 simp [hk]
theorem Pw (fl:List Bool) (v:List CellB) (k:Nat) (hk:k < fl.length) (hf:fl[k]=true):Zj fl v (k+1)=Zj fl v k:=by
 unfold Zj
 rw [List.take_succ_eq_append_getElem hk,UD,List.drop_eq_getElem_cons hk,hf]
 simp [qh,XH]
theorem MR (fl:List Bool) (v:List CellB) (k:Nat) (hk:k < fl.length) (hf:fl[k]=false) (hv:jO (fl.take k) < v.length):Zj fl v (k+1)=(Zj fl v k).set k v[jO (fl.take k)]:=by
 unfold Zj
 rw [List.take_succ_eq_append_getElem hk,UD,List.drop_eq_getElem_cons hk,hf]
 rw [List.set_append_right _ _ (by rw [JF,List.length_take];omega)]
 rw [List.drop_eq_getElem_cons hv]
 simp [qh,JF,Nat.min_eq_left (Nat.le_of_lt hk)]
theorem AT (l:List CellB):∀ (k:Nat) (c:CellB),k < l.length→(((jG l).set (k*3) (.bool c.null)).set (k*3+1) (.int .i64 c.int)).set (k*3+2) (strB c.text)=jG (l.set k c):=by
 induction l with
 | nil=>intro k c h;simp at h
 | cons x l ih =>
  intro k c h
  have e:∀ y:CellB,∀ m:List CellB,jG (y :: m)=.bool y.null :: .int .i64 y.int :: strB y.text :: jG m:=by intro y m;simp [jG]
  cases k with
  | zero=>simp [e]
  | succ k =>
   rw [e,List.set_cons_succ,e,← ih k c (by simpa using h)]
   rw [show (k+1)*3=k*3+3 by omega]
   simp [List.set_cons_succ]
theorem PL {w:World} {B g cap:Nat} {l:List CellB} {c:CellB} {k:Nat} (h:w.ownsRow B 58 3 (.slice (some ⟨g,0,none⟩) l.length cap) l.length (jG l)) (hk:k < l.length) :
  (((w.setCell ⟨g,k*3,none⟩ (.bool c.null)).setCell ⟨g,k*3+1,none⟩ (.int .i64 c.int)).setCell ⟨g,k*3+2,none⟩ (strB c.text)).ownsRow B 58 3 (.slice (some ⟨g,0,none⟩) l.length cap) l.length (jG (l.set k c)):=by
 rw [← AT l k c hk]
 exact (((h.stored _ _).1.stored _ _).1.stored _ _).1
theorem Ts (a:List Bool):∀ (v:List CellB),(∀ c ∈ v,okC c)→∀ c ∈ qh a v,okC c:=by
 induction a with
 | nil=>intro v _ c hc;simp [qh] at hc
 | cons x a ih =>
  intro v hv c hc
  have hz:∀ b:Bool,okC ⟨b,0,[]⟩:=fun b=>⟨by simp,by simp,by simp⟩
  cases x with
  | true =>
   simp only [qh,List.mem_cons] at hc
   rcases hc with rfl|hc
   ·exact hz true
   ·exact ih v hv c hc
  | false =>
   cases v with
   | nil =>
    simp only [qh,List.mem_cons] at hc
    rcases hc with rfl|hc
    ·exact hz _
    ·exact ih _ hv c hc
   | cons y v =>
    simp only [qh,List.mem_cons] at hc
    rcases hc with rfl|hc
    ·exact hv _ (by simp)
    ·exact ih v (fun z hz=>hv z (by simp [hz])) c hc
theorem Tc {w:World} {B g cap n:Nat} {l:List CellB} (h:w.ownsRow B 58 3 (.slice (some ⟨g,0,none⟩) n cap) n (jG l)) (hn:l.length=n) (k:Nat) (hk:k < n) (c:CellB) (hc:l[k]?=some c) :
  w.cell? ⟨g,k*3,none⟩=some (.bool c.null)∧w.cell? ⟨g,k*3+1,none⟩=some (.int .i64 c.int)∧w.cell? ⟨g,k*3+2,none⟩=some (strB c.text)∧w.frozen? ⟨g,k*3,none⟩=false∧w.frozen? ⟨g,k*3+1,none⟩=false∧w.frozen? ⟨g,k*3+2,none⟩=false:=by
 have hk2:k < l.length:=by omega
 obtain ⟨h1,h2,h3⟩:=KN l k hk2
 have hcl:l[k]=c:=by rw [List.getElem?_eq_getElem hk2] at hc;exact Option.some.inj hc
 rw [hcl] at h1 h2 h3
 exact ⟨by rw [h.cellAt (k*3) (by omega)];exact h1,by rw [h.cellAt (k*3+1) (by omega)];exact h2,by rw [h.cellAt (k*3+2) (by omega)];exact h3,h.frozenAt _,h.frozenAt _,h.frozenAt _⟩
theorem UI (w:World) (s:List UInt8):jS (w.alloc (Obj.cells #[strB s,Value.int IntKind.i64 0,Value.bool false] 243)) w.heap.size s (some s):=by
 refine ⟨0,false,?_,Nat.zero_le _,by simp⟩
 rw [World.alloc]
 simp
theorem Rk (w:World) (g i j k:Nat) (a b c:Value):w.grownBy (((w.setCell ⟨g,i,none⟩ a).setCell ⟨g,j,none⟩ b).setCell ⟨g,k,none⟩ c) (some g):=by
 refine ⟨rfl,rfl,rfl,by simp,fun m _ hm=>?_⟩
 have hne:m≠g:=fun e=>hm (by rw [e])
 rw [heap_setCell_other _ ⟨g,k,none⟩ m c hne,heap_setCell_other _ ⟨g,j,none⟩ m b hne,heap_setCell_other _ ⟨g,i,none⟩ m a hne]
end
section
noncomputable def zi (file:List UInt8):Option FormF:=by
 classical exact if h:∃ f,FormOk f∧xi f=file then some (Classical.choose h) else none
theorem Kk {f:FormF} (h:FormOk f):zi (xi f)=some f:=by
 have hex:∃ g,FormOk g∧xi g=xi f:=⟨f,h,rfl⟩
 unfold zi
 rw [dif_pos hex]
 have hc:=Classical.choose_spec hex
 exact congrArg some (Ex hc.1 h hc.2)
theorem Jv {file:List UInt8} (h:∀ f,FormOk f→xi f≠file):zi file=none:=by
 unfold zi
 rw [dif_neg]
 rintro ⟨f,h1,h2⟩
 exact h f h1 h2
noncomputable def xp (foot:Nat) (parts footer:List UInt8):Option SheetF:=by
 classical exact if h:∃ S,SheetOk foot parts footer S then some (Classical.choose h) else none
theorem US {foot:Nat} {parts footer:List UInt8} {S:SheetF} (h:SheetOk foot parts footer S):xp foot parts footer=some S:=by
 have hex:∃ S,SheetOk foot parts footer S:=⟨S,h⟩
 unfold xp
 rw [dif_pos hex]
 exact congrArg some (Yl (Classical.choose_spec hex) h)
theorem Xl {foot:Nat} {parts footer:List UInt8} (h:∀ S,¬ SheetOk foot parts footer S):xp foot parts footer=none:=by
 unfold xp
 rw [dif_neg]
 rintro ⟨S,h1⟩
 exact h S h1
def qo (sec non ext body:List UInt8):Option (List UInt8) :=
 if body.length≤5002∧2≤body.length∧Xi sec non ext (zl sec non (body.take (body.length - 2)))=body then some (zl sec non (body.take (body.length - 2))) else none
structure FoundB where
 name:List UInt8
 kind:Int
 key:Int
 state:Int
 cells:List CellB
def Ja (pre:List UInt8) (r:List KeyB) (key:Int) (s:SpotB) (m:ModF):Option (List UInt8) :=
 if key=0 then some m.plain else qo (jm r key) m.nonce (qu pre s.sort s.g s.c s.p) m.body
def Qw (pre:List UInt8) (r:List KeyB) (kind key:Int) (cells:List CellB) (s:SpotB) (m:ModF):Option (List CellB) :=
 match Ja pre r key s m with
 | none=>none
 | some plain =>
  if s.sort=77 then (if plain=JR kind (cells.drop s.start) then some cells else none)
  else match qX kind plain with
   | none=>none
   | some l=>if l.length=s.many then some (cells++l) else none
def jD (pre:List UInt8) (r:List KeyB) (kind key:Int) (c:Nat):Option (List CellB)→List SpotB→List ModF→Option (List CellB)
 | none,_,_=>none
 | some cells,s :: L,m :: M=>jD pre r kind key c (if s.c=c then Qw pre r kind key cells s m else some cells) L M
 | some cells,_,_=>some cells
def xt (pre:List UInt8) (r:List KeyB) (S:SheetF) (c:Nat):FoundB :=
 if 0 < (jk S.cols c).key∧jA r (jk S.cols c).key=false then ⟨(jk S.cols c).name,(jk S.cols c).kind,(jk S.cols c).key,1,[]⟩
 else match jD pre r (jk S.cols c).kind (jk S.cols c).key c (some []) (qy S) S.mods with
  | none=>⟨(jk S.cols c).name,(jk S.cols c).kind,(jk S.cols c).key,2,[]⟩
  | some cells=>⟨(jk S.cols c).name,(jk S.cols c).kind,(jk S.cols c).key,0,cells⟩
noncomputable def qN (file pre:List UInt8) (r:List KeyB) (trust:Bool):Int × Option SheetF :=
 if 20 < pre.length then (7,none)
 else if xX r=false then (1,none)
 else match zi file with
  | none=>(9,none)
  | some f =>
   if f.told=true then
    match xp f.foot f.parts f.footer with
    | none=>(9,none)
    | some S =>
     if trust=true then (0,some S)
     else if jA r (f.foot:Int)=false then (8,none)
     else if qo (jm r (f.foot:Int)) f.nonce (qu pre 83 0 0 0++f.footer) f.body=some [] then (0,some S) else (4,none)
   else if jA r (f.foot:Int)=false then (8,none)
   else match qo (jm r (f.foot:Int)) f.nonce (qu pre 70 0 0 0) f.body with
    | none=>(4,none)
    | some footer =>
     match xp f.foot f.parts footer with
     | none=>(9,none)
     | some S=>(0,some S)
end
section
open Go
theorem Ue {P:Program} (w:World) (t ty e:TypeId) (i:TypeInfo) (ht:P.underlying t=some (.slice e)) (hi:P.info? e=some i) (b:Option Addr) (n cap:Nat) (h:n≤cap) (a:Option Addr) (c:Nat) :
  (Builtin.append_ #[t,t] ty #[.slice b n cap,.slice a 0 c]).run P w=.ok (.slice b n cap) w:=by
 cases b<;>cases a<;>simp [Builtin.append_,run_underlying ht,sizeOf,typeInfo,hi,Builtin.lenOf,Builtin.firstCells,loadCells,loadCellsFrom,storeCells,h]
theorem Vc {P:Program} {w:World} {o:Oper} {a:Act} {K:Act→World→Prop} {Q:Exit→Act→World→Prop} (s x:Operand) (t:TypeId)
  (ho:o.op=.call { callee:=.builtin .append,args:=#[s,x],argTypes:=#[t,t] })
  (e:TypeId) (i:TypeInfo) (ht:P.underlying t=some (.slice e)) (hi:P.info? e=some i) (b:Option Addr) (n cap:Nat) (hs:a.eval s=.slice b n cap) (hc:n≤cap) (b2:Option Addr) (c:Nat) (hx:a.eval x=.slice b2 0 c)
  (h:K (a.put o.dst (.slice b n cap)) w):o.wp P a w K Q:=by
 have hr:=Ue (P:=P) w t o.type e i ht hi b n cap hc b2 c
 unfold Oper.wp execOp
 simp only [ho,resolve,invoke,builtin,Sem.run_bind,Sem.run_pure,Result.andThen_ok,List.map_toArray,List.map_cons,List.map_nil,hs,hx,hr]
 exact h
theorem xM {P:Program} {w:World} {ops:Array Oper} {rest:List Oper} {o:Oper} {a:Act} {Q:Exit→Act→World→Prop} (hgd:o.guard=none) (s x:Operand) (t:TypeId)
  (ho:o.op=.call { callee:=.builtin .append,args:=#[s,x],argTypes:=#[t,t] })
  (e:TypeId) (i:TypeInfo) (ht:P.underlying t=some (.slice e)) (hi:P.info? e=some i) (b:Option Addr) (n cap:Nat) (hs:a.eval s=.slice b n cap) (hc:n≤cap) (b2:Option Addr) (c:Nat) (hx:a.eval x=.slice b2 0 c)
  (h:wpList P ops Q rest (a.put o.dst (.slice b n cap)) w):wpList P ops Q (o :: rest) a w :=
 wpList_plain hgd fun _ hK=>Vc s x t ho e i ht hi b n cap hs hc b2 c hx (hK _ _ h)
theorem GH {w:World} {b e s n m:Nat} {a:Option Addr} {c:Nat} {xs:List Value} (h:w.ownsRow b e s (.slice a m c) n xs):n≤c∧m=n:=by
 rcases h.2 with ⟨h1,h2⟩|⟨g,cap,cur,h1,_,_,h3,_⟩
 ·injection h1 with _ h4 h5
  omega
 ·injection h1 with _ h4 h5
  omega
end
end Go.Proofs.YthhpbhpfagoapaaGreat
