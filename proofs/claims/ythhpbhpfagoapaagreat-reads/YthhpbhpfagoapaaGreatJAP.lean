import Derived.Test.YthhpbhpfagoapaaGreatJAA
import Derived.Test.YthhpbhpfagoapaaGreatTag
import Derived.Test.YthhpbhpfagoapaaGreatJAM
import Derived.WalkKit
import Derived.WalkSpells
import Derived.WalkLawsBesides
import Derived.Laws.IdiomStrings
namespace Go.Proofs.YthhpbhpfagoapaaGreat
set_option linter.unusedVariables false
set_option linter.unusedSimpArgs false
set_option maxRecDepth 100000
set_option maxHeartbeats 16000000
open Go.RowKit
section
theorem Vv (l:List UInt8):(⟨l.toArray⟩:ByteArray).data.toList=l:=rfl
theorem KI (w:World) (a:Int) (ha:0≤a) (ha':a≤255) :
  Sem.run Tryz.prog (convert 149 9 (.slice (some ⟨w.heap.size,0,none⟩) 1 1)) (w.alloc (.cells #[.int .u8 a] 5)) =
   .ok (strB [byB a]) (w.alloc (.cells #[.int .u8 a] 5)):=by
 refine run_convert_bytes_back (P:=Tryz.prog) _ 149 9 5 ⟨w.heap.size,0,none⟩ 1 [byB a] Tryz.underlying149 Tryz.underlying5 Tryz.underlying9 ?_
 intro j hj
 match j,hj with
 | 0,_=>simp [Addr.add,xK a ha ha']
theorem xo (a b:List UInt8):(⟨a.toArray⟩++⟨b.toArray⟩:ByteArray)=⟨(a++b).toArray⟩:=ByteArray.mk_append_mk a b
theorem YJ {a b l:List UInt8} (h:a++b=l):Ending.returned (.string (⟨a.toArray⟩++⟨b.toArray⟩))=.returned (strB l):=by rw [xo,h]
theorem Sw {a l:List UInt8} {s:ByteArray} (h:a++s.data.toList=l):Ending.returned (.string (⟨a.toArray⟩++s))=.returned (strB l):=by
 obtain ⟨⟨t⟩⟩:=s
 exact YJ h
def MA:Value→Nat
 | .int _ q=>q.toNat
 | _=>0
theorem MK (n:Nat) (w:World) (hn:n < 18446744073709551616) :
  Calls Tryz.prog 147 #[.int .u64 (n:Int)] w fun e w'=>e=.returned (strB (uB n))∧Below w.heap.size w w':=by
 have HL:=hid (jM n hn)
 go_enter Tryz.func147,Tryz.ntmps147
 go_wp2
 go_loopw [0,3] (fun t s wr=>∃ (m:Nat) (acc:List UInt8),m≤n∧t=.int .u64 (m:Int)∧s=strB acc∧acc++uB m=uB n∧Below w.heap.size w wr)
  (fun t _ _=>MA t)
 case atStart=>exact ⟨n,[],ae _,rfl,rfl,rfl,Below.refl _ _⟩
 case round =>
  obtain ⟨m,acc,hm,rfl,rfl,hacc,hB⟩:=hrel
  have HA:=hid hacc
  have hl:acc.length≤10:=by
   have h1:=HL.out
   have h2:=aT List.length hacc
   simp at h2
   omega
  clear hacc
  by_cases hb:127 < m
  ·have hc:=KI wr ((m:Int) % 128+128) (by omega) (by omega)
   have hbi:(127:Int) < (m:Int):=by omega
   go_wp2
   go_roundw
   case rel =>
    refine ⟨m / 128,acc++[byB ((m:Int) % 128+128)],by omega,by go_num,by rw [xo],?_,?_⟩
    ·rw [← HA.out,XR hb,af];rfl
    ·exact hB.alloc hB.size _
   case measure=>simp [MA];omega
  ·have hc:=KI wr (m:Int) (by omega) (by omega)
   have hbi:(m:Int)≤127:=by omega
   go_wp2
   go_ret
   refine ⟨?_,hB.alloc hB.size _⟩
   exact YJ (by rw [← HA.out,Jb (by omega)])
theorem Rg (n:Int) (w:World) (h0:0≤n) (h1:n < 18446744073709551616) :
  Calls Tryz.prog 147 #[.int .u64 n] w fun e w'=>e=.returned (strB (uB n.toNat))∧Below w.heap.size w w':=by
 obtain ⟨m,rfl⟩:=bk h0
 rw [aY]
 exact MK m w (by omega)
theorem Jj {n:Int} (h0:0≤n) (h1:n≤9223372036854775807):IntKind.u64.wrap n=n:=by rw [IntKind.wrap_u64];omega
theorem Mz (n:Int) (w:World) (h0:-9223372036854775808≤n) (h1:n≤9223372036854775807) :
  Calls Tryz.prog 177 #[.int .i64 n] w fun e w'=>e=.returned (strB (zB n))∧Below w.heap.size w w':=by
 have hz:=Ap n h0 h1
 by_cases hn:0≤n
 ·have HZ:Hid (zB n=uB (2*n.toNat)):=by simp [Hid,zB,zN,hn]
  obtain ⟨m,rfl⟩:=bk hn
  go_enter Tryz.func177,Tryz.ntmps177
  go_wp2_with fail
  refine (Rg _ _ (by omega) (by omega)).mono ?_
  rintro e w1 ⟨rfl,hb⟩
  go_wp2
  go_ret
  exact ⟨qC (by rw [HZ.out];congr 1<;>omega),hb⟩
 ·have HZ:Hid (zB n=uB (2*(-(n+1)).toNat+1)):=by simp [Hid,zB,zN,hn]
  obtain ⟨m,hm⟩:=bk (show 0≤-(n+1) by omega)
  go_enter Tryz.func177,Tryz.ntmps177
  go_wp2_with fail
  refine (Rg _ _ (by omega) (by omega)).mono ?_
  rintro e w1 ⟨rfl,hb⟩
  go_wp2
  go_ret
  exact ⟨qC (by rw [HZ.out];congr 1<;>omega),hb⟩
theorem Sy (n:Int):IntKind.u64.wrap n=n % 18446744073709551616:=by rw [IntKind.wrap_u64]
theorem BT (n:Int) (w:World) (h0:-9223372036854775808≤n) (h1:n≤9223372036854775807) :
  Calls Tryz.prog 176 #[.int .i64 n] w fun e w'=>e=.returned (strB (bB n))∧Below w.heap.size w w':=by
 have hw:=Sy n
 obtain ⟨m,hm⟩:=bk (show 0≤n % 18446744073709551616 by omega)
 have hm1:m < 18446744073709551616:=by omega
 have HB:Hid (bB n=Kv m 8):=by simp [Hid,bB,hm]
 rw [hm] at hw
 clear hm
 go_enter Tryz.func176,Tryz.ntmps176
 go_wp2
 go_loopw [3,4,5] (fun u s i wr=>∃ (k:Nat),k≤8∧i=.int .i64 (k:Int)∧u=.int .u64 (Kw m k:Int)∧s=strB (Kv m k)∧Below w.heap.size w wr)
  (fun _ _ i _=>8 - (intOf i).toNat)
 case atStart=>exact ⟨0,ah _,rfl,rfl,rfl,Below.refl _ _⟩
 case round =>
  obtain ⟨k,hk,rfl,rfl,rfl,hB⟩:=hrel
  have hl:=Xl m k
  have hl2:(Kv m k).length≤8:=by omega
  have hs:Kw m k < 18446744073709551616:=SL m k hm1
  clear hl
  by_cases hb:k < 8
  ·have hc:=KI wr ((Kw m k:Int) % 256) (by omega) (by omega)
   go_wp2
   go_roundw
   case rel=>exact ⟨k+1,by omega,by go_num,by simp [Kw],by rw [xo];rfl,hB.alloc hB.size _⟩
   case measure=>simp [intOf];omega
  ·have hk8:k=8:=by omega
   subst hk8
   go_wp2
   go_ret
   exact ⟨qC HB.out.symm,hB⟩
theorem Ml (s:ByteArray) (w:World) (hs:s.size≤1000000) :
  Calls Tryz.prog 146 #[.string s] w fun e w'=>e=.returned (strB (xB s.data.toList))∧Below w.heap.size w w':=by
 have hl:=jM s.size (by omega)
 go_enter Tryz.func146,Tryz.ntmps146
 go_wp2_with fail
 refine (MK _ _ (by omega)).mono ?_
 rintro e w1 ⟨rfl,hb⟩
 go_wp2
 go_ret
 exact ⟨Sw (by simp [xB]),hb⟩
end
section
theorem jP {a b:Bool} (h:a=b):Ending.returned (.bool a)=.returned (.bool b):=by rw [h]
abbrev cellV (c:CellB):Value:=.agg #[.bool c.null,.int .i64 c.int,strB c.text]
def okC (c:CellB):Prop:=-9223372036854775808≤c.int∧c.int≤9223372036854775807∧c.text.length≤maxLen
structure Lies (w:World) (a:Option Addr) (l:List CellB):Prop where
 ok:∀ c ∈ l,okC c
 at_:l≠[]→∃ b off,a=some ⟨b,off,none⟩∧b < w.heap.size∧∀ j (h:j < l.length),
  w.cell? ⟨b,off+j*3,none⟩=some (.bool (l[j]).null)∧w.cell? ⟨b,off+j*3+1,none⟩=some (.int .i64 (l[j]).int)∧w.cell? ⟨b,off+j*3+2,none⟩=some (strB (l[j]).text)
theorem Lies.later {w w':World} {a:Option Addr} {l:List CellB} (h:Lies w a l) (hb:Below w.heap.size w w'):Lies w' a l:=by
 refine ⟨h.ok,fun hne=>?_⟩
 obtain ⟨b,off,ha,hlt,hc⟩:=h.at_ hne
 refine ⟨b,off,ha,aa hlt hb.size,fun j hj=>?_⟩
 obtain ⟨h1,h2,h3⟩:=hc j hj
 exact ⟨(hb.cell (p:=⟨b,_,none⟩) hlt).trans h1,(hb.cell (p:=⟨b,_,none⟩) hlt).trans h2,(hb.cell (p:=⟨b,_,none⟩) hlt).trans h3⟩
theorem PG (kind:Int) (c:CellB) (w:World) (hc:okC c) :
  Calls Tryz.prog 113 #[.int .i64 kind,cellV c] w fun e w'=>e=.returned (.bool (xL kind c))∧Below w.heap.size w w':=by
 obtain ⟨h0,h1,h2⟩:=hc
 unfold maxLen at h2
 obtain ⟨nl,it,tx⟩:=c
 simp only at h0 h1 h2
 cases nl with
 | true =>
  by_cases hi:it=0
  ·subst hi
   have HF:Hid (xL kind ⟨true,0,tx⟩=tx.isEmpty):=by simp [Hid,xL]
   go_enter Tryz.func113,Tryz.ntmps113
   go_wp2
   go_ret
   exact ⟨jP HF.out.symm,(Below.refl _ _).alloc (ae _) _⟩
  ·have hi2:(it == 0)=false:=by simp [hi]
   have HF:Hid (xL kind ⟨true,it,tx⟩=false):=by simp [Hid,xL,hi]
   go_enter Tryz.func113,Tryz.ntmps113
   go_wp2
   go_ret
   exact ⟨jP HF.out.symm,(Below.refl _ _).alloc (ae _) _⟩
 | false =>
  by_cases hk:kind=0
  ·subst hk
   have HF:Hid (xL 0 ⟨false,it,tx⟩=tx.isEmpty):=by simp [Hid,xL]
   go_enter Tryz.func113,Tryz.ntmps113
   go_wp2
   go_ret
   exact ⟨jP HF.out.symm,(Below.refl _ _).alloc (ae _) _⟩
  ·have hk2:(kind == 0)=false:=by simp [hk]
   by_cases hi:it=0
   ·subst hi
    by_cases ht:tx.length≤12
    ·have HF:Hid (xL kind ⟨false,0,tx⟩=true):=by simp [Hid,xL,hk,ht]
     clear hk
     go_enter Tryz.func113,Tryz.ntmps113
     go_wp2
     go_ret
     exact ⟨jP (by rw [HF.out];simp;omega),(Below.refl _ _).alloc (ae _) _⟩
    ·have HF:Hid (xL kind ⟨false,0,tx⟩=false):=by simp [Hid,xL,hk,ht]
     clear hk
     go_enter Tryz.func113,Tryz.ntmps113
     go_wp2
     go_ret
     exact ⟨jP (by rw [HF.out];simp;omega),(Below.refl _ _).alloc (ae _) _⟩
   ·have hi2:(it == 0)=false:=by simp [hi]
    have HF:Hid (xL kind ⟨false,it,tx⟩=false):=by simp [Hid,xL,hi,hk]
    clear hk hi
    go_enter Tryz.func113,Tryz.ntmps113
    go_wp2
    go_ret
    exact ⟨jP HF.out.symm,(Below.refl _ _).alloc (ae _) _⟩
theorem Sq (kind:Int) (a:Option Addr) (cap:Nat) (l:List CellB) (w:World) (hk:kind=0∨kind=1) (hn:l.length≤60) (hl:Lies w a l) :
  Calls Tryz.prog 51 #[.int .i64 kind,.slice a l.length cap] w fun e w'=>e=.returned (.bool (l.all (xL kind)))∧Below w.heap.size w w':=by
 have Hl:=hid hl
 clear hl
 have hk1:(kind != 0)=false∨(kind != 0)=true∧(kind != 1)=false:=by rcases hk with rfl|rfl<;>simp
 have hni:(l.length:Int)≤60:=by omega
 clear hk
 rcases hk1 with hk0|⟨hk0,hk1⟩
 all_goals
  go_enter Tryz.func51,Tryz.ntmps51
  go_wp2
  go_loopw [5] (fun i wr=>∃ k:Nat,k≤l.length∧i=.int .i64 k∧(l.take k).all (xL kind)=true∧Below w.heap.size w wr) (fun i _=>l.length - (intOf i).toNat)
  case atStart=>exact ⟨0,ah _,rfl,rfl,Below.refl _ _⟩
  case round =>
   obtain ⟨k,hkl,rfl,hall,hB⟩:=hrel
   have Hall:=hid hall
   clear hall
   by_cases hlt:k < l.length
   ·obtain ⟨b,off,rfl,hbw,hcell⟩:=(Hl.out.later hB).at_ (ai (by omega))
    obtain ⟨g1,g2,g3⟩:=hcell k hlt
    clear hcell
    have hokc:=Hl.out.ok l[k] (al hlt)
    have Hok:=hid hokc
    clear hokc
    have HT:Hid ((l.take (k+1)).all (xL kind)=xL kind l[k]):=by
     show (l.take (k+1)).all (xL kind)=xL kind l[k]
     rw [ax hlt,List.all_append,Hall.out]
     simp
    have HA:Hid (xL kind l[k]=false→l.all (xL kind)=false):=by
     intro hf
     rw [List.all_eq_false]
     exact ⟨l[k],al hlt,by simp [hf]⟩
    go_wp2_with fail
    refine (PG kind l[k] _ Hok.out).mono ?_
    rintro e w1 ⟨rfl,hb1⟩
    clear g1 g2 g3
    cases hf:xL kind l[k] with
    | false =>
     have Hf:=hid hf
     clear hf
     go_wp2
     go_ret
     exact ⟨jP (HA.out Hf.out).symm,hB.trans (hb1.mono hB.size)⟩
    | true =>
     have Hf:=hid hf
     clear hf
     go_wp2
     go_roundw
     case rel=>exact ⟨k+1,by omega,by go_num,by rw [HT.out];exact Hf.out,hB.trans (hb1.mono hB.size)⟩
     case measure=>simp [intOf];omega
   ·go_wp2
    go_ret
    exact ⟨jP (by rw [← Hall.out,aC (by omega)]),hB⟩
theorem Tm (kind:Int) (a:Option Addr) (cap:Nat) (l:List CellB) (w:World) (hm:l.length≤maxLen) (hl:Lies w a l) :
  Calls Tryz.prog 51 #[.int .i64 kind,.slice a l.length cap] w fun e w'=>e=.returned (.bool (qD kind l))∧Below w.heap.size w w':=by
 by_cases hk:kind=0∨kind=1
 ·by_cases hn:l.length≤60
  ·have e:qD kind l=l.all (xL kind):=by
    unfold qD
    rcases hk with rfl|rfl<;>simp [hn]
   rw [e]
   exact Sq kind a cap l w hk hn hl
  ·have HE:Hid (qD kind l=false):=by simp [Hid,qD,hn]
   have hk1:(kind != 0)=false∨(kind != 0)=true∧(kind != 1)=false:=by rcases hk with rfl|rfl<;>simp
   have hni:(60:Int) < (l.length:Int):=by omega
   unfold maxLen at hm
   clear hk hl
   rcases hk1 with hk0|⟨hk0,hk1⟩
   all_goals
    go_enter Tryz.func51,Tryz.ntmps51
    go_wp2
    go_ret
    exact ⟨jP HE.out.symm,Below.refl _ _⟩
 ·have HE:Hid (qD kind l=false):=by
   have h1:¬ kind=0:=fun h=>hk (.inl h)
   have h2:¬ kind=1:=fun h=>hk (.inr h)
   simp [Hid,qD,h1,h2]
  have hk0:(kind != 0)=true:=by rw [bne_iff_ne];exact fun h=>hk (.inl h)
  have hk1:(kind != 1)=true:=by rw [bne_iff_ne];exact fun h=>hk (.inr h)
  clear hk hl
  go_enter Tryz.func51,Tryz.ntmps51
  go_wp2
  go_ret
  exact ⟨jP HE.out.symm,Below.refl _ _⟩
end
end Go.Proofs.YthhpbhpfagoapaaGreat
