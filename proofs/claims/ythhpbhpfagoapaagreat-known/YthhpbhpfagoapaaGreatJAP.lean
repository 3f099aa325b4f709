import Derived.Test.YthhpbhpfagoapaaGreatWBounds
import Derived.Test.YthhpbhpfagoapaaGreatJAN
import Derived.Test.YthhpbhpfagoapaaGreatJAS
import Derived.Test.YthhpbhpfagoapaaGreatJAO
import Derived.OwnWalk
import Derived.Test.YthhpbhpfagoapaaGreatWFoot
import Derived.Test.YthhpbhpfagoapaaGreatJAG
namespace Go.Proofs.YthhpbhpfagoapaaGreat
set_option linter.unusedVariables false
set_option linter.unusedSimpArgs false
set_option maxRecDepth 100000
set_option maxHeartbeats 16000000
section
open Go.RowKit
theorem secret_any (a:Option Addr) (cap:Nat) (r:List KeyB) (n:Int) (w:World) (hm:r.length≤maxLen) (hl:LiesK w a r) :
  Calls Tryz.prog 162 #[.slice a r.length cap,.int .i64 n] w fun e w'=>e=.returned (.tuple #[strB (secretB r n),.bool (hasNumB r n)])∧Below w.heap.size w w':=by
 have Hl:=hid hl
 clear hl
 unfold maxLen at hm
 go_enter Tryz.func162,Tryz.ntmps162
 go_wp2
 go_loopw [10] (fun i wr=>∃ k:Nat,k≤r.length∧i=.int .i64 k∧hasNumB (r.take k) n=false∧Below w.heap.size w wr) (fun i _=>r.length - (intOf i).toNat)
 case atStart=>exact ⟨0,Nat.zero_le _,rfl,rfl,Below.refl _ _⟩
 case round =>
  obtain ⟨k,hkl,rfl,hno,hB⟩:=hrel
  have Hno:=hid hno
  clear hno
  by_cases hlt:k < r.length
  ·obtain ⟨b,off,rfl,hbw,hcell⟩:=(Hl.out.later hB).at_ (List.ne_nil_of_length_pos (by omega))
   obtain ⟨g1,g2⟩:=hcell k hlt
   clear hcell
   have hki:(k:Int) < (r.length:Int):=by omega
   have HB1:=hid (hB.alloc hB.size (Obj.cells #[.int .i64 (r[k]).number,strB (r[k]).secret] 63))
   by_cases he:(r[k]).number=n
   ·have HF:=hid (find_at hlt Hno.out he)
    have HH:Hid (hasNumB r n=true):=by
     simp only [Hid,hasNumB,List.any_eq_true]
     exact ⟨r[k],List.getElem_mem hlt,by simp [he]⟩
    rw [he] at g1 HB1
    clear he
    go_wp2
    go_ret2
    exact ⟨by rw [secretB,HF.out,HH.out];rfl,HB1.out⟩
   ·have hne:((r[k]).number == n)=false:=by simpa using he
    have He:=hid he
    have HS:=hid (hasNum_succ (r:=r) (k:=r.length) (m:=k) hlt hlt n)
    rw [List.take_length] at HS
    clear he
    go_wp2
    go_roundw
    case rel=>exact ⟨k+1,by omega,by go_num,by rw [HS.out,Hno.out];simp [He.out],HB1.out⟩
    case measure=>simp [intOf];omega
  ·have HN:Hid (hasNumB r n=false):=by have:=Hno.out;rw [List.take_of_length_le (by omega)] at this;exact this
   go_wp2
   go_ret2
   exact ⟨by rw [secretB,find_none HN.out,HN.out];rfl,hB⟩
theorem cellsOk_kind {kind:Int} (l:List CellB) (h:kind=0∨kind=1):cellsOkB kind l=(decide (l.length≤60) && l.all (fitsB kind)):=by
 unfold cellsOkB
 rcases h with rfl|rfl<;>simp
theorem isTable_any (a:Option Addr) (cap:Nat) (t:List ColB) (w:World) (hm:t.length≤maxLen) (hcap:t.length≤cap) (hl:LiesT w a t) :
  Calls Tryz.prog 134 #[.slice a t.length cap] w fun e w'=>e=.returned (.bool (tableOkB t))∧Below w.heap.size w w':=by
 have Hl:=hid hl
 clear hl
 go_enter Tryz.func134,Tryz.ntmps134
 go_wp2_with fail
 refine (areCols_any a cap t w hm hcap Hl.out).mono ?_
 rintro e w1 ⟨rfl,hb1⟩
 cases hh:headsOkB t with
 | false =>
  have HF:Hid (tableOkB t=false):=by show tableOkB t=false;rw [tableOkB,hh,Bool.false_and]
  clear hh
  go_wp2
  go_ret
  exact ⟨ret_bool HF.out.symm,hb1⟩
 | true =>
  have h6:1≤t.length∧t.length≤6:=by
   simp only [headsOkB,Bool.and_eq_true,decide_eq_true_eq] at hh
   exact hh.2
  have Hh:=hid hh
  obtain ⟨h1,h6⟩:=h6
  clear hh
  obtain ⟨b,off,rfl,hbw,hcell⟩:=(Hl.out.later hb1).at_ (List.ne_nil_of_length_pos (by omega))
  obtain ⟨_,_,_,v0,f4,ca0,cap0,rfl,hcc0,hcl0,hcm0⟩:=hcell 0 (by omega)
  simp only [Nat.zero_mul,Nat.add_zero] at f4
  have h0i:(0:Int) < (t.length:Int):=by omega
  have HR:=hid (rowsB_eq (t:=t) (by omega))
  clear hcell hcl0
  go_wp2
  go_loopw [16] (fun i wr=>∃ k:Nat,k≤t.length∧i=.int .i64 k∧((t.take k).all fun c=>cellsOkB c.kind c.cells && decide (c.cells.length=rowsB t))=true∧Below w.heap.size w wr) (fun i _=>t.length - (intOf i).toNat)
  case atStart=>exact ⟨0,Nat.zero_le _,rfl,rfl,hb1⟩
  case round =>
   clear hb1 f4 hbw
   obtain ⟨k,hkl,rfl,hall,hB⟩:=hrel
   have Hall:=hid hall
   clear hall
   by_cases hlt:k < t.length
   ·obtain ⟨b,off,hab,hbw,hcell⟩:=(Hl.out.later hB).at_ (List.ne_nil_of_length_pos (by omega))
    simp only [Option.some.injEq,Addr.mk.injEq,and_true] at hab
    obtain ⟨rfl,rfl⟩:=hab
    obtain ⟨g1,g2,g3,v,g4,ca,cap2,rfl,hcc,hcl,hcm⟩:=hcell k hlt
    clear hcell
    have HT:Hid (((t.take (k+1)).all fun c=>cellsOkB c.kind c.cells && decide (c.cells.length=rowsB t))=(cellsOkB (t[k]).kind (t[k]).cells && decide ((t[k]).cells.length=rowsB t))):=by
     show _=_
     rw [List.take_succ_eq_append_getElem hlt,List.all_append,Hall.out]
     simp
    have HN:=hid (table_no (t:=t) hlt)
    have hki:(k:Int) < (t.length:Int):=by omega
    have HK:Hid (cellsOkB (t[k]).kind (t[k]).cells=(decide ((t[k]).cells.length≤60) && (t[k]).cells.all (fitsB (t[k]).kind))):=by
     refine cellsOk_kind _ ?_
     have h1:=Hh.out
     simp only [headsOkB,Bool.and_eq_true] at h1
     exact (head_parts (headsTo_at h1.1 (Nat.le_refl _) k hlt).1).2.1
    have hbb:=(Below.refl wr.heap.size wr).alloc (Nat.le_refl _) (.cells #[strB (t[k]).name,.int .i64 (t[k]).kind,.int .i64 (t[k]).key,.slice ca (t[k]).cells.length cap2] 61)
    have HBb:=hid (hB.trans (hbb.mono hB.size))
    have Hcl:=hid (hcl.later hbb)
    clear hbb hcl hB
    by_cases he:(t[k]).cells.length=(t[0]'(by omega)).cells.length
    ·have hei:(((t[k]).cells.length:Int) != ((t[0]'(by omega)).cells.length:Int))=false:=by simp [he]
     have HX:=hid he
     clear he
     go_wp2_with fail
     refine (areCells_any (t[k]).kind ca cap2 (t[k]).cells _ (by omega) Hcl.out).mono ?_
     rintro e w3 ⟨rfl,hb3⟩
     have hB3:=HBb.out.trans (hb3.mono HBb.out.size)
     rw [← HK.out]
     cases hok:cellsOkB (t[k]).kind (t[k]).cells with
     | false =>
      have Hok:=hid hok
      clear hok
      go_wp2
      go_ret
      exact ⟨ret_bool (HN.out (by rw [Hok.out];rfl)).symm,hB3⟩
     | true =>
      have Hok:=hid hok
      clear hok
      go_wp2
      go_roundw
      case rel=>exact ⟨k+1,by omega,by go_num,by rw [HT.out,Hok.out,HR.out];simp [HX.out],hB3⟩
      case measure=>simp [intOf];omega
    ·have hei:(((t[k]).cells.length:Int) != ((t[0]'(by omega)).cells.length:Int))=true:=by simp;omega
     have HX:=hid he
     clear he
     go_wp2
     go_ret
     exact ⟨ret_bool (HN.out (by rw [HR.out];simp [HX.out])).symm,HBb.out⟩
   ·have HE:Hid (tableOkB t=true):=by
     show tableOkB t=true
     have:=Hall.out
     rw [List.take_of_length_le (by omega)] at this
     rw [tableOkB,Hh.out,this];rfl
    go_wp2
    go_ret
    exact ⟨ret_bool HE.out.symm,hB⟩
def seenC (r:List KeyB):List Value:=(List.range 10).map fun (n:Nat)=>Value.bool (hasNumB r (n:Int))
theorem seenC_len (r:List KeyB):(seenC r).length=10:=by simp [seenC]
theorem seenC_at (r:List KeyB) (m:Nat) (hm:m < 10):(seenC r)[m]?=some (.bool (hasNumB r (m:Int))):=by simp [seenC,hm]
theorem seenC_set {r:List KeyB} {k m:Nat} (hk:k < r.length) (hm:(r[k]).number=(m:Int)) (h10:m < 10):(seenC (r.take k)).set m (.bool true)=seenC (r.take (k+1)):=by
 apply List.ext_getElem?
 intro i
 have e:∀ n:Int,hasNumB (r.take (k+1)) n=(hasNumB (r.take k) n || decide ((r[k]).number=n)):=by
  intro n
  have:=hasNum_succ (r:=r) (k:=r.length) (m:=k) hk hk n
  rw [List.take_length] at this
  exact this
 rw [List.getElem?_set]
 by_cases hi:i < 10
 ·rw [seenC_at _ i hi,seenC_at _ i hi,seenC_len,e,hm]
  by_cases hmi:m=i
  ·subst hmi;simp [h10]
  ·have:¬ ((m:Int)=(i:Int)):=by omega
   simp [hmi,this]
 ·have h1:(seenC (r.take k))[i]?=none:=List.getElem?_eq_none (by rw [seenC_len];omega)
  have h2:(seenC (r.take (k+1)))[i]?=none:=List.getElem?_eq_none (by rw [seenC_len];omega)
  rw [h1,h2,if_neg (by omega)]
theorem isRing_any (a:Option Addr) (cap:Nat) (r:List KeyB) (w:World) (hm:r.length≤maxLen) (hl:LiesK w a r) :
  Calls Tryz.prog 95 #[.slice a r.length cap] w fun e w'=>e=.returned (.bool (ringOkB r))∧Below w.heap.size w w':=by
 have Hl:=hid hl
 clear hl
 unfold maxLen at hm
 go_enter Tryz.func95,Tryz.ntmps95
 go_wp2
 generalize hg:w.heap.size=g at *
 go_loopw [8] (fun i wr=>∃ k:Nat,k≤r.length∧i=.int .i64 k∧ringTo r k=true∧wr.ownsRow g 247 1 (.slice (some ⟨g,0,none⟩) 10 10) 10 (seenC (r.take k))∧Below g w wr∧g < wr.heap.size) (fun i _=>r.length - (intOf i).toNat)
 case atStart =>
  refine ⟨0,Nat.zero_le _,rfl,rfl,?_,?_,?_⟩
  ·have:=World.ownsRow_lit (base:=w.heap.size) (e:=247) (size:=1) w #[.bool false,.bool false,.bool false,.bool false,.bool false,.bool false,.bool false,.bool false,.bool false,.bool false] 10 (Nat.le_refl _) (by decide) rfl
   rw [hg] at this
   exact this
  ·rw [← hg];exact (Below.refl _ _).alloc (Nat.le_refl _) _
  ·rw [← hg];simp
 case round =>
  obtain ⟨k,hkl,rfl,hall,hown,hB,hG⟩:=hrel
  have Hall:=hid hall
  clear hall
  by_cases hlt:k < r.length
  ·obtain ⟨b,off,rfl,hbw,hcell⟩:=(Hl.out.later (by rw [hg];exact hB)).at_ (List.ne_nil_of_length_pos (by omega))
   obtain ⟨g1,g2⟩:=hcell k hlt
   clear hcell
   obtain ⟨ok1,ok2⟩:=Hl.out.ok r[k] (List.getElem_mem hlt)
   unfold maxLen at ok1
   have HT:=hid (ringTo_succ hlt Hall.out)
   have HN:=hid (ringTo_no (r:=r) hlt)
   have HF:=hid (key_no (c:=r[k]))
   have hki:(k:Int) < (r.length:Int):=by omega
   have HSS:=hid (fun (m:Nat)=>seenC_set (r:=r) (k:=k) (m:=m) hlt)
   have HKE:Hid (keyOkB r[k]=((decide (1≤(r[k]).number) && decide ((r[k]).number≤9)) && decide ((r[k]).secret.length=8))):=rfl
   have hob:=hown.alloc (.cells #[.int .i64 (r[k]).number,strB (r[k]).secret] 63)
   have HBb:=hid (hB.alloc (Nat.le_of_lt hG) (.cells #[.int .i64 (r[k]).number,strB (r[k]).secret] 63))
   have Hown0:=hid hown
   have HB0:=hid hB
   clear hown hB
   by_cases hr1:1≤(r[k]).number∧(r[k]).number≤9
   ·obtain ⟨m,hm1⟩:∃ m:Nat,(r[k]).number=(m:Int):=⟨(r[k]).number.toNat,by omega⟩
    have hm10:m < 10:=by omega
    have hmi:(m:Int) < 10:=by omega
    have hcm:=hob.cellAt m (by omega)
    rw [seenC_at _ m hm10] at hcm
    have hfm:=hob.frozenAt m
    have HSt:=hid ((Hown0.out.stored m (.bool true)).1.alloc (.cells #[.int .i64 (r[k]).number,strB (r[k]).secret] 63))
    have HB2:=hid ((HB0.out.setCell (p:=⟨g,m,none⟩) (Nat.le_refl _) (.bool true)).alloc (by simp;omega) (.cells #[.int .i64 (r[k]).number,strB (r[k]).secret] 63))
    rw [hm1] at g1 HBb HSt hcm hfm HKE HB2
    have HSS2:=hid (HSS.out m hm1 hm10)
    have HNm:Hid (hasNumB (r.take k) (r[k]).number=hasNumB (r.take k) (m:Int)):=by rw [hm1];rfl
    rw [HNm.out] at HT HN
    have hkt:(decide ((1:Int)≤(m:Int)) && decide ((m:Int)≤9))=true:=by simp;omega
    clear hr1 HF HSS hm1 hob HNm ok2
    go_wp2_with fail
    refine (isKey_any (m:Int) _).mono ?_
    rintro e w5 ⟨rfl,rfl⟩
    rw [hkt]
    cases hx:hasNumB (r.take k) (m:Int) with
    | true =>
     rw [hx] at HN hcm
     clear hx
     go_wp2
     go_ret
     exact ⟨ret_bool (HN.out (by simp)).symm,by rw [hg];exact HBb.out⟩
    | false =>
     rw [hx] at HN hcm HT
     clear hx
     by_cases h8:(r[k]).secret.length=8
     ·have q3:(((r[k]).secret.length:Int) != 8)=false:=by simp;omega
      have HT2:Hid (ringTo r (k+1)=true):=by
       show _=_
       rw [HT.out,HKE.out,hkt,decide_eq_true h8];rfl
      clear h8 HT HKE HN
      go_wp2
      go_roundw
      case rel=>exact ⟨k+1,by omega,by go_num,HT2.out,by rw [← HSS2.out];exact HSt.out,HB2.out,by simp;omega⟩
      case measure=>simp [intOf];omega
     ·have q3:(((r[k]).secret.length:Int) != 8)=true:=by simp;omega
      have HF2:Hid (keyOkB r[k]=false):=by show _=_;rw [HKE.out,decide_eq_false h8,Bool.and_false]
      clear h8 HT HKE
      go_wp2
      go_ret
      exact ⟨ret_bool (HN.out (by rw [HF2.out];rfl)).symm,by rw [hg];exact HBb.out⟩
   ·have hkt:(decide (1≤(r[k]).number) && decide ((r[k]).number≤9))=false:=by
     simp only [Bool.and_eq_false_iff,decide_eq_false_iff_not];omega
    have HF2:Hid (keyOkB r[k]=false):=by show _=_;rw [HKE.out,hkt];rfl
    clear hr1 HKE HT HF hob
    generalize hnn:(r[k]).number=nn at *
    have Hnn:=hid hnn
    clear hnn
    go_wp2_with fail
    refine (isKey_any nn _).mono ?_
    rintro e w5 ⟨rfl,rfl⟩
    rw [hkt]
    clear hkt
    go_wp2
    go_ret
    exact ⟨ret_bool (HN.out (by rw [HF2.out];rfl)).symm,by rw [hg];exact HBb.out⟩
  ·have hke:k=r.length:=by omega
   subst hke
   go_wp2
   go_ret
   exact ⟨ret_bool Hall.out.symm,by rw [hg];exact hB⟩
def hasTo (t:List ColB) (r:List KeyB) (k:Nat):Bool:=(t.take k).all fun c=>decide (c.key=0) || hasNumB r c.key
theorem hasTo_succ {t:List ColB} {r:List KeyB} {k:Nat} (hk:k < t.length):hasTo t r (k+1)=(hasTo t r k && (decide ((t[k]).key=0) || hasNumB r (t[k]).key)):=by
 unfold hasTo
 rw [List.take_succ_eq_append_getElem hk,List.all_append]
 simp
theorem has_misses {j:JobB} {r:List KeyB} (h:tableOkB j.table=true):(hasTo j.table r j.table.length && hasNumB r j.plan.foot)=!missesB j r:=by
 have hk:∀ c ∈ j.table,0≤c.key:=by
  intro c hc
  obtain ⟨k,hk,rfl⟩:=List.mem_iff_getElem.1 hc
  simp only [tableOkB,headsOkB,Bool.and_eq_true] at h
  exact (head_parts (headsTo_at h.1.1 (Nat.le_refl _) k hk).1).2.2.1
 apply bool_eq
 simp only [hasTo,missesB,List.take_length,Bool.and_eq_true,List.all_eq_true,Bool.or_eq_true,decide_eq_true_eq,Bool.not_or,Bool.not_not,Bool.not_eq_true',List.any_eq_false,Bool.not_eq_true]
 constructor
 ·rintro ⟨h1,h2⟩
  refine ⟨h2,fun c hc hn=>?_⟩
  rcases h1 c hc with h|h
  ·omega
  ·rw [h] at hn;simp at hn
 ·rintro ⟨h1,h2⟩
  refine ⟨fun c hc=>?_,h1⟩
  have:=h2 c hc
  have h0:=hk c hc
  by_cases hz:c.key=0
  ·exact .inl hz
  ·right
   cases hn:hasNumB r c.key with
   | true=>rfl
   | false=>exact absurd ⟨by omega,hn⟩ this
end
section
open Go.RowKit
def spanAt (n size i:Nat):List Value:=[.int .i64 ((i*size:Nat):Int),.int .i64 ((min (i*size+size) n:Nat):Int)]
def spansC (n size k:Nat):List Value:=(List.range k).flatMap (spanAt n size)
theorem span_succ (n size k:Nat):spansC n size (k+1)=spansC n size k++spanAt n size k:=by
 unfold spansC
 rw [List.range_succ,List.flatMap_append]
 simp
theorem Tryz.infoSpan:(Tryz.prog.info? 290).map (fun i=>(i.zero,i.size,i.bytes))=some (some (.agg #[.int .i64 0,.int .i64 0]),2,16):=by kernel_rfl
theorem cut_any (n size:Nat) (w:World) (hn:n≤1000) (h1:1≤size) (hs:size≤1000) :
  Calls Tryz.prog 215 #[.int .i64 (n:Int),.int .i64 (size:Int)] w fun e w'=>∃ v,e=.returned v∧w'.ownsRow w.heap.size 290 2 v (cntN n size) (spansC n size (cntN n size))∧Below w.heap.size w w':=by
 obtain ⟨i0,hi,hz0,hz1,hz2⟩:=info_parts Tryz.infoSpan
 go_enter Tryz.func215,Tryz.ntmps215
 go_wp2
 go_loopw [5,6] (fun v i wr=>∃ k:Nat,k≤cntN n size∧i=.int .i64 ((k*size:Nat):Int)∧wr.ownsRow w.heap.size 290 2 v k (spansC n size k)∧Below w.heap.size w wr) (fun _ i _=>n+size - (intOf i).toNat)
 case atStart=>exact ⟨0,Nat.zero_le _,by simp,World.ownsRow_nil _ _ _ _,Below.refl _ _⟩
 case round =>
  obtain ⟨k,hkl,rfl,hown,hB⟩:=hrel
  have hcl:=cnt_le (n:=n) h1
  have hlt2:=cnt_lt (n:=n) (i:=k) h1
  have hlt3:=Nat.mul_le_mul_right size hkl
  have HKS:Hid ((k+1)*size=k*size+size):=Nat.succ_mul _ _
  have HL:=hid hlt2
  have HSA:Hid (spanAt n size k=[.int .i64 ((k*size:Nat):Int),.int .i64 ((min (k*size+size) n:Nat):Int)]):=rfl
  clear hlt2
  generalize k*size=m at *
  by_cases hlt:m < n
  ·have hmi:(m:Int) < (n:Int):=by omega
   have hkc:=HL.out.2 hlt
   by_cases hmn:m+size≤n
   ·have hq:¬ (n:Int) < (m:Int)+(size:Int):=by omega
    have hE:min (m+size) n=m+size:=by omega
    rw [hE] at HSA
    simp only [Int.natCast_add] at HSA
    clear hE
    have hown1:=hown.alloc (Obj.cells #[.int .i64 ((m:Nat):Int),.int .i64 ((m:Int)+(size:Int))] 290)
    go_wp2_with (at_builtin;refine wpList_append_own _ rfl (.tmp 13) (.tmp 21) 287 rfl w.heap.size 290 i0 (.agg #[.int .i64 0,.int .i64 0]) 2 16 Tryz.underlying287 hi hz0 hz1 hz2 rfl (by decide) _ _ _ rfl hown1 ⟨_,0,none⟩ 1 1 [.int .i64 ((m:Nat):Int),.int .i64 ((m:Int)+(size:Int))] rfl rfl (cell_laid wr #[.int .i64 ((m:Nat):Int),.int .i64 ((m:Int)+(size:Int))] 290) (by intro u hu;simp at hu;rcases hu with rfl|rfl<;>rfl) (by unfold maxLen;omega) (by omega) (by have:=hB.size;simp;omega) ?_)
    intro v3 w3 hown3 hgr3 _
    have HO3:Hid (w3.ownsRow w.heap.size 290 2 v3 (k+1) (spansC n size (k+1))):=by
     rw [span_succ,HSA.out]
     exact hown3
    have HB3:=hid ((hB.alloc hB.size _).grown hgr3 (by have:=hB.size;simp;omega) (fun k hk=>(hown.lt k hk).1))
    clear hown hown1 hown3 hgr3 hB
    go_wp2
    go_roundw
    case rel=>exact ⟨k+1,by omega,by rw [HKS.out];go_num,HO3.out,HB3.out⟩
    case measure=>simp [intOf];omega
   ·have hq:(n:Int) < (m:Int)+(size:Int):=by omega
    have hE:min (m+size) n=n:=by omega
    rw [hE] at HSA
    clear hE
    have hown1:=hown.alloc (Obj.cells #[.int .i64 ((m:Nat):Int),.int .i64 ((n:Nat):Int)] 290)
    go_wp2_with (at_builtin;refine wpList_append_own _ rfl (.tmp 13) (.tmp 21) 287 rfl w.heap.size 290 i0 (.agg #[.int .i64 0,.int .i64 0]) 2 16 Tryz.underlying287 hi hz0 hz1 hz2 rfl (by decide) _ _ _ rfl hown1 ⟨_,0,none⟩ 1 1 [.int .i64 ((m:Nat):Int),.int .i64 ((n:Nat):Int)] rfl rfl (cell_laid wr #[.int .i64 ((m:Nat):Int),.int .i64 ((n:Nat):Int)] 290) (by intro u hu;simp at hu;rcases hu with rfl|rfl<;>rfl) (by unfold maxLen;omega) (by omega) (by have:=hB.size;simp;omega) ?_)
    intro v3 w3 hown3 hgr3 _
    have HO3:Hid (w3.ownsRow w.heap.size 290 2 v3 (k+1) (spansC n size (k+1))):=by
     rw [span_succ,HSA.out]
     exact hown3
    have HB3:=hid ((hB.alloc hB.size _).grown hgr3 (by have:=hB.size;simp;omega) (fun k hk=>(hown.lt k hk).1))
    clear hown hown1 hown3 hgr3 hB
    go_wp2
    go_roundw
    case rel=>exact ⟨k+1,by omega,by rw [HKS.out];go_num,HO3.out,HB3.out⟩
    case measure=>simp [intOf];omega
  ·have hke:k=cntN n size:=by
    have:=HL.out
    omega
   subst hke
   go_wp2
   go_ret
   exact ⟨_,rfl,hown,hB⟩
end
section
open Go.RowKit
abbrev pressT:List TypeId:=[231,5,40]
abbrev pressC (tv rv ov lv:Value) (j:JobB):Array Value:=#[tv,.int .i64 j.plan.group,.int .i64 j.plan.page,.int .i64 j.plan.foot,.bool j.plan.told,strB j.pre,.int .i64 j.draw,rv,ov,lv]
def PressAt (w:World) (B q:Nat) (tv rv:Value) (j:JobB) (st:StB):Prop :=
 ∃ ov lv,w.heap[q]?=some (.cells (pressC tv rv ov lv j) 231 (0,0))∧B≤q∧w.ownsRow B 5 1 ov st.out.length (cellsB st.out)∧w.ownsRow B 40 4 lv st.log.length (sealsC st.log)
theorem PressAt.later {w w':World} {B q:Nat} {tv rv:Value} {j:JobB} {st:StB} (h:PressAt w B q tv rv j st) (hb:Below w.heap.size w w'):PressAt w' B q tv rv j st:=by
 obtain ⟨ov,lv,h1,h2,h3,h4⟩:=h
 exact ⟨ov,lv,heap_later hb h1,h2,own_after h3 hb,own_after h4 hb⟩
theorem press_cells {w:World} {q:Nat} {tv rv ov lv:Value} {j:JobB} (h:w.heap[q]?=some (.cells (pressC tv rv ov lv j) 231 (0,0))) :
  (w.cell? ⟨q,0,none⟩=some tv∧w.cell? ⟨q,1,none⟩=some (.int .i64 j.plan.group)∧w.cell? ⟨q,2,none⟩=some (.int .i64 j.plan.page)∧w.cell? ⟨q,5,none⟩=some (strB j.pre)∧w.cell? ⟨q,6,none⟩=some (.int .i64 j.draw)∧w.cell? ⟨q,7,none⟩=some rv∧w.cell? ⟨q,8,none⟩=some ov∧w.cell? ⟨q,9,none⟩=some lv)∧∀ i,w.frozen? ⟨q,i,none⟩=false:=by
 refine ⟨⟨?_,?_,?_,?_,?_,?_,?_,?_⟩,fun i=>frozen_of_row w q i _ _ h⟩
 all_goals rw [cell_of_heap h];rfl
theorem Tryz.infoSealed:(Tryz.prog.info? 40).map (fun i=>(i.zero,i.size,i.bytes))=some (some (.agg #[.string ⟨#[]⟩,.string ⟨#[]⟩,.string ⟨#[]⟩,.string ⟨#[]⟩]),4,64):=by kernel_rfl
theorem own_apart {w:World} {b1 b2 e1 e2 s1 s2 n1 n2:Nat} {u v:Value} {xs ys:List Value} (h1:w.ownsRow b1 e1 s1 u n1 xs) (h2:w.ownsRow b2 e2 s2 v n2 ys) (he:e1≠e2):u.ownBlock=none∨u.ownBlock≠v.ownBlock:=by
 rcases h1.2 with ⟨rfl,_⟩|⟨g,cap,cur,rfl,_,hg,_⟩
 ·exact .inl rfl
 ·right
  rcases h2.2 with ⟨rfl,_⟩|⟨g2,cap2,cur2,rfl,_,hg2,_⟩
  ·simp [Value.ownBlock]
  ·simp only [Value.ownBlock,ne_eq,Option.some.injEq]
   rintro rfl
   rw [hg] at hg2
   cases hg2
   exact he rfl
theorem own_not {w:World} {b e s n q:Nat} {u:Value} {xs:List Value} {C:Array Value} {t:TypeId} (h:w.ownsRow b e s u n xs) (hq:w.heap[q]?=some (.cells C t (0,0))) (ht:t≠e):u.ownBlock≠some q:=by
 rcases h.2 with ⟨rfl,_⟩|⟨g,cap,cur,rfl,_,hg,_⟩
 ·simp [Value.ownBlock]
 ·simp only [Value.ownBlock,ne_eq,Option.some.injEq]
  rintro rfl
  rw [hg] at hq
  cases hq
  exact ht rfl
theorem own_slice {w:World} {b e s n:Nat} {u:Value} {xs:List Value} (h:w.ownsRow b e s u n xs):∃ a c,u=.slice a n c:=by
 rcases h.2 with ⟨rfl,rfl⟩|⟨g,cap,cur,rfl,_⟩
 ·exact ⟨none,0,rfl⟩
 ·exact ⟨_,cap,rfl⟩
theorem press_out {w w2:World} {B q n2:Nat} {tv rv ov lv ov2:Value} {j:JobB} {st:StB} {out2:List UInt8}
  (hrow:w.heap[q]?=some (.cells (pressC tv rv ov lv j) 231 (0,0))) (hB:B≤q) (hout:w.ownsRow B 5 1 ov st.out.length (cellsB st.out)) (hlog:w.ownsRow B 40 4 lv st.log.length (sealsC st.log))
  (hBw:B≤w.heap.size) (hown2:w2.ownsRow B 5 1 ov2 n2 (cellsB out2)) (hn:n2=out2.length) (hgr:w.grownBy w2 ov.ownBlock) :
  PressAt (w2.setCell ⟨q,8,none⟩ ov2) B q tv rv j ⟨out2,st.log⟩∧KeptT pressT B w (w2.setCell ⟨q,8,none⟩ ov2):=by
 subst hn
 have hrow2:=heap_grown_keep hgr hout hrow (by decide)
 have hlog2:=hlog.kept hgr (own_apart hlog hout (by decide))
 have hset:=heap_setCell_same w2 q 8 _ 231 ov2 hrow2
 have hg3:w2.grownBy (w2.setCell ⟨q,8,none⟩ ov2) (some q):=⟨rfl,rfl,rfl,by simp,fun k _ hk=>heap_setCell_other w2 ⟨q,8,none⟩ k ov2 (fun e=>hk (by simp [e]))⟩
 refine ⟨⟨ov2,lv,?_,hB,hown2.kept hg3 (.inr (own_not hown2 hrow2 (by decide))),hlog2.kept hg3 (.inr (own_not hlog2 hrow2 (by decide)))⟩,?_⟩
 ·rw [hset];rfl
 ·refine KeptT.set ?_ hrow2 hB (by decide) ov2
  exact (KeptT.refl _ _ _).grown hgr hBw (rowOf_own hout (by decide))
theorem press_log {w w2:World} {B q n2:Nat} {tv rv ov lv lv2:Value} {j:JobB} {st:StB} {log2:List SealB}
  (hrow:w.heap[q]?=some (.cells (pressC tv rv ov lv j) 231 (0,0))) (hB:B≤q) (hout:w.ownsRow B 5 1 ov st.out.length (cellsB st.out)) (hlog:w.ownsRow B 40 4 lv st.log.length (sealsC st.log))
  (hBw:B≤w.heap.size) (hown2:w2.ownsRow B 40 4 lv2 n2 (sealsC log2)) (hn:n2=log2.length) (hgr:w.grownBy w2 lv.ownBlock) :
  PressAt (w2.setCell ⟨q,9,none⟩ lv2) B q tv rv j ⟨st.out,log2⟩∧KeptT pressT B w (w2.setCell ⟨q,9,none⟩ lv2):=by
 subst hn
 have hrow2:=heap_grown_keep hgr hlog hrow (by decide)
 have hout2:=hout.kept hgr (own_apart hout hlog (by decide))
 have hset:=heap_setCell_same w2 q 9 _ 231 lv2 hrow2
 have hg3:w2.grownBy (w2.setCell ⟨q,9,none⟩ lv2) (some q):=⟨rfl,rfl,rfl,by simp,fun k _ hk=>heap_setCell_other w2 ⟨q,9,none⟩ k lv2 (fun e=>hk (by simp [e]))⟩
 refine ⟨⟨ov,lv2,?_,hB,hout2.kept hg3 (.inr (own_not hout2 hrow2 (by decide))),hown2.kept hg3 (.inr (own_not hown2 hrow2 (by decide)))⟩,?_⟩
 ·rw [hset];rfl
 ·refine KeptT.set ?_ hrow2 hB (by decide) lv2
  exact (KeptT.refl _ _ _).grown hgr hBw (rowOf_own hlog (by decide))
theorem flatten_take (ps:List (List UInt8)) (k:Nat) (h:k < ps.length):(ps.take (k+1)).flatten=(ps.take k).flatten++ps[k]:=by
 rw [List.take_succ_eq_append_getElem h,List.flatten_append];simp
theorem flatten_take_le (ps:List (List UInt8)) (k:Nat):(ps.take k).flatten.length≤ps.flatten.length:=by
 have:ps.flatten=(ps.take k).flatten++(ps.drop k).flatten:=by rw [← List.flatten_append,List.take_append_drop]
 rw [this,List.length_append];omega
theorem pwrite_any (B q pb n:Nat) (tv rv:Value) (j:JobB) (st:StB) (ps:List (List UInt8)) (w:World) (hn:ps.length=n) (hn9:n≤1000) (hs:st.out.length+ps.flatten.length≤100000000)
  (hB:B≤w.heap.size) (hp:PressAt w B q tv rv j st) (hps:w.heap[pb]?=some (.cells (strs ps).toArray 9 (0,0))) :
  Calls Tryz.prog 138 #[.pointer (some ⟨q,0,none⟩),.slice (some ⟨pb,0,none⟩) n n] w fun e w'=>e=.returned (.tuple #[])∧PressAt w' B q tv rv j ⟨st.out++ps.flatten,st.log⟩∧KeptT pressT B w w':=by
 subst hn
 obtain ⟨i0,hi,hz0,hz1,hz2⟩:=info_parts Tryz.infoU8
 have Hp:=hid hp
 have Hps:=hid hps
 clear hp hps
 go_enter Tryz.func138,Tryz.ntmps138
 go_wp2
 go_loopw [8] (fun i wr=>∃ k:Nat,k≤ps.length∧i=.int .i64 (k:Int)∧PressAt wr B q tv rv j ⟨st.out++(ps.take k).flatten,st.log⟩∧KeptT pressT B w wr) (fun i _=>ps.length - (intOf i).toNat)
 case atStart=>exact ⟨0,Nat.zero_le _,rfl,by simpa using Hp.out,KeptT.refl _ _ _⟩
 case round =>
  obtain ⟨k,hkl,rfl,hpr,hK⟩:=hrel
  by_cases hlt:k < ps.length
  ·have hki:(k:Int) < (ps.length:Int):=by omega
   obtain ⟨ov,lv,hrow,hBq,hout,hlog⟩:=hpr
   have hpk:=hK.row Hps.out (by decide)
   have cp:wr.cell? ⟨pb,k,none⟩=some (strB ps[k]):=by rw [cell_of_heap hpk];simp [strs,hlt]
   obtain ⟨⟨c0,c1,c2,c5,c6,c7,c8,c9⟩,cf⟩:=press_cells hrow
   have cf8:=cf 8
   have HF:=hid (flatten_take ps k hlt)
   have hle:=flatten_take_le ps (k+1)
   rw [HF.out,List.length_append] at hle
   have HA:Hid (st.out++(ps.take (k+1)).flatten=(st.out++(ps.take k).flatten)++ps[k]):=by show _=_;rw [HF.out,List.append_assoc]
   have hlen:(st.out++(ps.take k).flatten).length+(ps[k]).length≤100000000:=by rw [List.length_append];omega
   have hBr:=Nat.le_trans hB hK.size
   have hz:=strB_size ps[k]
   simp only at hout hlog
   generalize st.out++(ps.take k).flatten=out0 at *
   generalize ps[k]=part at *
   clear hpk c0 c1 c2 c5 c6 c7 c9 cf hle
   go_wp2_with (at_builtin;refine Lib.wpList_append_own_string _ rfl (.tmp 16) (.tmp 17) 149 9 rfl B 5 i0 Tryz.underlying149 Tryz.underlying9 hi hz0 hz1 hz2 _ _ _ rfl hout ⟨part.toArray⟩ rfl (by unfold maxLen;omega) (by omega) hBr ?_;intro v2 w2 hown2 hgr2 _;obtain ⟨a2,c2,rfl⟩:=own_slice hown2;have cf2:w2.frozen? ⟨q,8,none⟩=false:=frozen_of_row w2 q 8 _ _ (heap_grown_keep hgr2 hout hrow (by decide));have hex2:w2.cell? ⟨q,8,none⟩=some ov:=(cell_of_heap (heap_grown_keep hgr2 hout hrow (by decide))).trans rfl)
   have HR:=hid (press_out (st:=⟨out0,st.log⟩) (out2:=out0++part) hrow hBq hout hlog hBr (by rw [cellsB_append];exact hown2) (by rw [List.length_append,hz]) hgr2)
   clear hrow hout hlog hown2 hgr2 c8 cf8 cp
   go_wp2
   go_roundw
   case rel=>exact ⟨k+1,by omega,by go_num,by rw [HA.out];exact HR.out.1,hK.trans HR.out.2⟩
   case measure=>simp [intOf];omega
  ·have hke:k=ps.length:=by omega
   subst hke
   rw [List.take_length] at hpr
   go_wp2
   go_end0
   exact ⟨rfl,hpr,hK⟩
end
section
theorem spotsSt_log (j:JobB) (r:List KeyB):∀ (L:List SpotB) (st:StB) (x:SealB),x ∈ (spotsSt j r st L).log→x ∈ st.log∨∃ s ∈ L,(colAt j.table s.c).key≠0∧∃ n,x=⟨secretB r (colAt j.table s.c).key,nonceB j.draw n,boundB j.pre s.sort s.g s.c s.p,bodyB (secretB r (colAt j.table s.c).key) (nonceB j.draw n) (boundB j.pre s.sort s.g s.c s.p) (plainB j.table s)⟩:=by
 intro L
 induction L with
 | nil=>intro st x h;exact .inl h
 | cons s L ih =>
  intro st x h
  rcases ih (spotSt j r st s) x h with h|⟨s',hs,h⟩
  ·unfold spotSt modSt at h
   by_cases hk:(colAt j.table s.c).key=0
   ·rw [if_pos hk] at h;exact .inl h
   ·rw [if_neg hk] at h
    simp only [sealSt,List.mem_append,List.mem_singleton] at h
    rcases h with h|h
    ·exact .inl h
    ·exact .inr ⟨s,by simp,hk,_,h⟩
  ·exact .inr ⟨s',List.mem_cons_of_mem _ hs,h⟩
theorem spot_sorts {R C G P:Nat}:∀ s ∈ spotsB R C G P,s.sort=80∨s.sort=77:=by
 intro s hs
 simp only [spotsB,spotsTo,groupSpots,List.mem_flatMap,List.mem_range,chunkSpots,List.mem_append,pageSpots,List.mem_map,List.mem_singleton] at hs
 obtain ⟨g,_,c,_,⟨p,_,rfl⟩|rfl⟩:=hs
 ·exact .inl rfl
 ·exact .inr rfl
theorem sheetAt_ok {foot:Nat} {parts footer:List UInt8} {S:SheetF} (h:sheetAt foot parts footer=some S):SheetOk foot parts footer S:=by
 unfold sheetAt at h
 split at h
 ·rename_i hex
  cases h
  exact Classical.choose_spec hex
 ·cases h
theorem formAt_ok {file:List UInt8} {f:FormF} (h:formAt file=some f):FormOk f∧fileOf f=file:=by
 unfold formAt at h
 split at h
 ·rename_i hex
  cases h
  exact Classical.choose_spec hex
 ·cases h
end
end Go.Proofs.YthhpbhpfagoapaaGreat
