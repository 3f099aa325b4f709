import Derived.Test.YthhpbhpfagoapaaGreatJAA
import Derived.Test.YthhpbhpfagoapaaGreatJAS
import Derived.Test.YthhpbhpfagoapaaGreatJAN
import Derived.Test.YthhpbhpfagoapaaGreatJBA
import Derived.Test.YthhpbhpfagoapaaGreatJAQ
import Derived.OwnWalk
namespace Go.Proofs.YthhpbhpfagoapaaGreat
set_option linter.unusedVariables false
set_option linter.unusedSimpArgs false
set_option maxRecDepth 100000
set_option maxHeartbeats 16000000
open Go.RowKit
section
theorem Rm (a:Option Addr) (cap:Nat) (r:List KeyB) (n:Int) (w:World) (hm:r.length≤maxLen) (hl:LiesK w a r) :
  Calls Tryz.prog 162 #[.slice a r.length cap,.int .i64 n] w fun e w'=>e=.returned (.tuple #[strB (jl r n),.bool (jy r n)])∧Below w.heap.size w w':=by
 have Hl:=hid hl
 clear hl
 unfold maxLen at hm
 go_enter Tryz.func162,Tryz.ntmps162
 go_wp2
 go_loopw [10] (fun i wr=>∃ k:Nat,k≤r.length∧i=.int .i64 k∧jy (r.take k) n=false∧Below w.heap.size w wr) (fun i _=>r.length - (intOf i).toNat)
 case atStart=>exact ⟨0,ah _,rfl,rfl,Below.refl _ _⟩
 case round =>
  obtain ⟨k,hkl,rfl,hno,hB⟩:=hrel
  have Hno:=hid hno
  clear hno
  by_cases hlt:k < r.length
  ·obtain ⟨b,off,rfl,hbw,hcell⟩:=(Hl.out.later hB).at_ (ai (by omega))
   obtain ⟨g1,g2⟩:=hcell k hlt
   clear hcell
   have hki:(k:Int) < (r.length:Int):=by omega
   have HB1:=hid (hB.alloc hB.size (Obj.cells #[.int .i64 (r[k]).number,strB (r[k]).secret] 63))
   by_cases he:(r[k]).number=n
   ·have HF:=hid (Mp hlt Hno.out he)
    have HH:Hid (jy r n=true):=by
     simp only [Hid,jy,cO]
     exact ⟨r[k],al hlt,by simp [he]⟩
    rw [he] at g1 HB1
    clear he
    go_wp2
    go_ret2
    exact ⟨by rw [jl,HF.out,HH.out];rfl,HB1.out⟩
   ·have hne:((r[k]).number == n)=false:=by simpa using he
    have He:=hid he
    have HS:=hid (Zs (r:=r) (k:=r.length) (m:=k) hlt hlt n)
    rw [aF] at HS
    clear he
    go_wp2
    go_roundw
    case rel=>exact ⟨k+1,by omega,by go_num,by rw [HS.out,Hno.out];simp [He.out],HB1.out⟩
    case measure=>simp [intOf];omega
  ·have HN:Hid (jy r n=false):=by have:=Hno.out;rw [aC (by omega)] at this;exact this
   go_wp2
   go_ret2
   exact ⟨by rw [jl,Gb HN.out,HN.out];rfl,hB⟩
def Vf (r:List KeyB):List Value:=(List.range 10).map fun (n:Nat)=>Value.bool (jy r (n:Int))
theorem VY (r:List KeyB):(Vf r).length=10:=by simp [Vf]
theorem NG (r:List KeyB) (m:Nat) (hm:m < 10):(Vf r)[m]?=some (.bool (jy r (m:Int))):=by simp [Vf,hm]
theorem Cm {r:List KeyB} {k m:Nat} (hk:k < r.length) (hm:(r[k]).number=(m:Int)) (h10:m < 10):(Vf (r.take k)).set m (.bool true)=Vf (r.take (k+1)):=by
 apply List.ext_getElem?
 intro i
 have e:∀ n:Int,jy (r.take (k+1)) n=(jy (r.take k) n || decide ((r[k]).number=n)):=by
  intro n
  have:=Zs (r:=r) (k:=r.length) (m:=k) hk hk n
  rw [aF] at this
  exact this
 rw [List.getElem?_set]
 by_cases hi:i < 10
 ·rw [NG _ i hi,NG _ i hi,VY,e,hm]
  by_cases hmi:m=i
  ·subst hmi;simp [h10]
  ·have:¬ ((m:Int)=(i:Int)):=by omega
   simp [hmi,this]
 ·have h1:(Vf (r.take k))[i]?=none:=cq (by rw [VY];omega)
  have h2:(Vf (r.take (k+1)))[i]?=none:=cq (by rw [VY];omega)
  rw [h1,h2,aj (by omega)]
theorem Dq (a:Option Addr) (cap:Nat) (r:List KeyB) (w:World) (hm:r.length≤maxLen) (hl:LiesK w a r) :
  Calls Tryz.prog 95 #[.slice a r.length cap] w fun e w'=>e=.returned (.bool (xY r))∧Below w.heap.size w w':=by
 have Hl:=hid hl
 clear hl
 unfold maxLen at hm
 go_enter Tryz.func95,Tryz.ntmps95
 go_wp2
 generalize hg:w.heap.size=g at *
 go_loopw [8] (fun i wr=>∃ k:Nat,k≤r.length∧i=.int .i64 k∧Xt r k=true∧wr.ownsRow g 247 1 (.slice (some ⟨g,0,none⟩) 10 10) 10 (Vf (r.take k))∧Below g w wr∧g < wr.heap.size) (fun i _=>r.length - (intOf i).toNat)
 case atStart =>
  refine ⟨0,ah _,rfl,rfl,?_,?_,?_⟩
  ·have:=World.ownsRow_lit (base:=w.heap.size) (e:=247) (size:=1) w #[.bool false,.bool false,.bool false,.bool false,.bool false,.bool false,.bool false,.bool false,.bool false,.bool false] 10 (ae _) (by decide) rfl
   rw [hg] at this
   exact this
  ·rw [← hg];exact (Below.refl _ _).alloc (ae _) _
  ·rw [← hg];simp
 case round =>
  obtain ⟨k,hkl,rfl,hall,hown,hB,hG⟩:=hrel
  have Hall:=hid hall
  clear hall
  by_cases hlt:k < r.length
  ·obtain ⟨b,off,rfl,hbw,hcell⟩:=(Hl.out.later (by rw [hg];exact hB)).at_ (ai (by omega))
   obtain ⟨g1,g2⟩:=hcell k hlt
   clear hcell
   obtain ⟨ok1,ok2⟩:=Hl.out.ok r[k] (al hlt)
   unfold maxLen at ok1
   have HT:=hid (GC hlt Hall.out)
   have HN:=hid (Yc (r:=r) hlt)
   have HF:=hid (PO (c:=r[k]))
   have hki:(k:Int) < (r.length:Int):=by omega
   have HSS:=hid (fun (m:Nat)=>Cm (r:=r) (k:=k) (m:=m) hlt)
   have HKE:Hid (Xs r[k]=((decide (1≤(r[k]).number) && decide ((r[k]).number≤9)) && decide ((r[k]).secret.length=8))):=rfl
   have hob:=hown.alloc (.cells #[.int .i64 (r[k]).number,strB (r[k]).secret] 63)
   have HBb:=hid (hB.alloc (Nat.le_of_lt hG) (.cells #[.int .i64 (r[k]).number,strB (r[k]).secret] 63))
   have Hown0:=hid hown
   have HB0:=hid hB
   clear hown hB
   by_cases hr1:1≤(r[k]).number∧(r[k]).number≤9
   ·obtain ⟨m,hm1⟩:∃ m:Nat,(r[k]).number=(m:Int):=⟨(r[k]).number.toNat,by omega⟩
    have hm10:m < 10:=by omega
    have hmi:(m:Int) < 10:=by omega
    have hcm:=hob.cellAt m (by omega)
    rw [NG _ m hm10] at hcm
    have hfm:=hob.frozenAt m
    have HSt:=hid ((Hown0.out.stored m (.bool true)).1.alloc (.cells #[.int .i64 (r[k]).number,strB (r[k]).secret] 63))
    have HB2:=hid ((HB0.out.setCell (p:=⟨g,m,none⟩) (ae _) (.bool true)).alloc (by simp;omega) (.cells #[.int .i64 (r[k]).number,strB (r[k]).secret] 63))
    rw [hm1] at g1 HBb HSt hcm hfm HKE HB2
    have HSS2:=hid (HSS.out m hm1 hm10)
    have HNm:Hid (jy (r.take k) (r[k]).number=jy (r.take k) (m:Int)):=by rw [hm1];rfl
    rw [HNm.out] at HT HN
    have hkt:(decide ((1:Int)≤(m:Int)) && decide ((m:Int)≤9))=true:=by simp;omega
    clear hr1 HF HSS hm1 hob HNm ok2
    go_wp2_with fail
    refine (ZK (m:Int) _).mono ?_
    rintro e w5 ⟨rfl,rfl⟩
    rw [hkt]
    cases hx:jy (r.take k) (m:Int) with
    | true =>
     rw [hx] at HN hcm
     clear hx
     go_wp2
     go_ret
     exact ⟨jP (HN.out (by simp)).symm,by rw [hg];exact HBb.out⟩
    | false =>
     rw [hx] at HN hcm HT
     clear hx
     by_cases h8:(r[k]).secret.length=8
     ·have q3:(((r[k]).secret.length:Int) != 8)=false:=by simp;omega
      have HT2:Hid (Xt r (k+1)=true):=by
       show _=_
       rw [HT.out,HKE.out,hkt,cH h8];rfl
      clear h8 HT HKE HN
      go_wp2
      go_roundw
      case rel=>exact ⟨k+1,by omega,by go_num,HT2.out,by rw [← HSS2.out];exact HSt.out,HB2.out,by simp;omega⟩
      case measure=>simp [intOf];omega
     ·have q3:(((r[k]).secret.length:Int) != 8)=true:=by simp;omega
      have HF2:Hid (Xs r[k]=false):=by show _=_;rw [HKE.out,aS h8,Bool.and_false]
      clear h8 HT HKE
      go_wp2
      go_ret
      exact ⟨jP (HN.out (by rw [HF2.out];rfl)).symm,by rw [hg];exact HBb.out⟩
   ·have hkt:(decide (1≤(r[k]).number) && decide ((r[k]).number≤9))=false:=by
     simp only [cW,cC];omega
    have HF2:Hid (Xs r[k]=false):=by show _=_;rw [HKE.out,hkt];rfl
    clear hr1 HKE HT HF hob
    generalize hnn:(r[k]).number=nn at *
    have Hnn:=hid hnn
    clear hnn
    go_wp2_with fail
    refine (ZK nn _).mono ?_
    rintro e w5 ⟨rfl,rfl⟩
    rw [hkt]
    clear hkt
    go_wp2
    go_ret
    exact ⟨jP (HN.out (by rw [HF2.out];rfl)).symm,by rw [hg];exact HBb.out⟩
  ·have hke:k=r.length:=by omega
   subst hke
   go_wp2
   go_ret
   exact ⟨jP Hall.out.symm,by rw [hg];exact hB⟩
end
section
def Rk (n size i:Nat):List Value:=[.int .i64 ((i*size:Nat):Int),.int .i64 ((min (i*size+size) n:Nat):Int)]
def QW (n size k:Nat):List Value:=(List.range k).flatMap (Rk n size)
theorem Yg (n size k:Nat):QW n size (k+1)=QW n size k++Rk n size k:=by
 unfold QW
 rw [bt,bf]
 simp
theorem Tryz.infoSpan:(Tryz.prog.info? 290).map (fun i=>(i.zero,i.size,i.bytes))=some (some (.agg #[.int .i64 0,.int .i64 0]),2,16):=by kernel_rfl
theorem Ns (n size:Nat) (w:World) (hn:n≤1000) (h1:1≤size) (hs:size≤1000) :
  Calls Tryz.prog 215 #[.int .i64 (n:Int),.int .i64 (size:Int)] w fun e w'=>∃ v,e=.returned v∧w'.ownsRow w.heap.size 290 2 v (qb n size) (QW n size (qb n size))∧Below w.heap.size w w':=by
 obtain ⟨i0,hi,hz0,hz1,hz2⟩:=info_parts Tryz.infoSpan
 go_enter Tryz.func215,Tryz.ntmps215
 go_wp2
 go_loopw [5,6] (fun v i wr=>∃ k:Nat,k≤qb n size∧i=.int .i64 ((k*size:Nat):Int)∧wr.ownsRow w.heap.size 290 2 v k (QW n size k)∧Below w.heap.size w wr) (fun _ i _=>n+size - (intOf i).toNat)
 case atStart=>exact ⟨0,ah _,by simp,World.ownsRow_nil _ _ _ _,Below.refl _ _⟩
 case round =>
  obtain ⟨k,hkl,rfl,hown,hB⟩:=hrel
  have hcl:=QH (n:=n) h1
  have hlt2:=QE (n:=n) (i:=k) h1
  have hlt3:=Nat.mul_le_mul_right size hkl
  have HKS:Hid ((k+1)*size=k*size+size):=bL _ _
  have HL:=hid hlt2
  have HSA:Hid (Rk n size k=[.int .i64 ((k*size:Nat):Int),.int .i64 ((min (k*size+size) n:Nat):Int)]):=rfl
  clear hlt2
  generalize k*size=m at *
  by_cases hlt:m < n
  ·have hmi:(m:Int) < (n:Int):=by omega
   have hkc:=HL.out.2 hlt
   by_cases hmn:m+size≤n
   ·have hq:¬ (n:Int) < (m:Int)+(size:Int):=by omega
    have hE:min (m+size) n=m+size:=by omega
    rw [hE] at HSA
    simp only [Int.natCast_add] at HSA
    clear hE
    have hown1:=hown.alloc (Obj.cells #[.int .i64 ((m:Nat):Int),.int .i64 ((m:Int)+(size:Int))] 290)
    go_wp2_with (at_builtin;refine wpList_append_own _ rfl (.tmp 13) (.tmp 21) 287 rfl w.heap.size 290 i0 (.agg #[.int .i64 0,.int .i64 0]) 2 16 Tryz.underlying287 hi hz0 hz1 hz2 rfl (by decide) _ _ _ rfl hown1 ⟨_,0,none⟩ 1 1 [.int .i64 ((m:Nat):Int),.int .i64 ((m:Int)+(size:Int))] rfl rfl (qq wr #[.int .i64 ((m:Nat):Int),.int .i64 ((m:Int)+(size:Int))] 290) (by intro u hu;simp at hu;rcases hu with rfl|rfl<;>rfl) (by unfold maxLen;omega) (by omega) (by have:=hB.size;simp;omega) ?_)
    intro v3 w3 hown3 hgr3 _
    have HO3:Hid (w3.ownsRow w.heap.size 290 2 v3 (k+1) (QW n size (k+1))):=by
     rw [Yg,HSA.out]
     exact hown3
    have HB3:=hid ((hB.alloc hB.size _).grown hgr3 (by have:=hB.size;simp;omega) (fun k hk=>(hown.lt k hk).1))
    clear hown hown1 hown3 hgr3 hB
    go_wp2
    go_roundw
    case rel=>exact ⟨k+1,by omega,by rw [HKS.out];go_num,HO3.out,HB3.out⟩
    case measure=>simp [intOf];omega
   ·have hq:(n:Int) < (m:Int)+(size:Int):=by omega
    have hE:min (m+size) n=n:=by omega
    rw [hE] at HSA
    clear hE
    have hown1:=hown.alloc (Obj.cells #[.int .i64 ((m:Nat):Int),.int .i64 ((n:Nat):Int)] 290)
    go_wp2_with (at_builtin;refine wpList_append_own _ rfl (.tmp 13) (.tmp 21) 287 rfl w.heap.size 290 i0 (.agg #[.int .i64 0,.int .i64 0]) 2 16 Tryz.underlying287 hi hz0 hz1 hz2 rfl (by decide) _ _ _ rfl hown1 ⟨_,0,none⟩ 1 1 [.int .i64 ((m:Nat):Int),.int .i64 ((n:Nat):Int)] rfl rfl (qq wr #[.int .i64 ((m:Nat):Int),.int .i64 ((n:Nat):Int)] 290) (by intro u hu;simp at hu;rcases hu with rfl|rfl<;>rfl) (by unfold maxLen;omega) (by omega) (by have:=hB.size;simp;omega) ?_)
    intro v3 w3 hown3 hgr3 _
    have HO3:Hid (w3.ownsRow w.heap.size 290 2 v3 (k+1) (QW n size (k+1))):=by
     rw [Yg,HSA.out]
     exact hown3
    have HB3:=hid ((hB.alloc hB.size _).grown hgr3 (by have:=hB.size;simp;omega) (fun k hk=>(hown.lt k hk).1))
    clear hown hown1 hown3 hgr3 hB
    go_wp2
    go_roundw
    case rel=>exact ⟨k+1,by omega,by rw [HKS.out];go_num,HO3.out,HB3.out⟩
    case measure=>simp [intOf];omega
  ·have hke:k=qb n size:=by
    have:=HL.out
    omega
   subst hke
   go_wp2
   go_ret
   exact ⟨_,rfl,hown,hB⟩
end
end Go.Proofs.YthhpbhpfagoapaaGreat
