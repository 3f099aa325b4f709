import Derived.Test.YthhpbhpfagoapabGreatWBounds
import Derived.Test.YthhpbhpfagoapabGreatJAL
import Derived.Test.YthhpbhpfagoapabGreatJAE
import Derived.Deep.RegionHeld3
namespace Go.Proofs.YthhpbhpfagoapabGreat
set_option linter.unusedVariables false
set_option linter.unusedSimpArgs false
set_option maxRecDepth 100000
set_option maxHeartbeats 16000000
open Go.RowKit
section
theorem QX (a:Option Addr) (cap:Nat) (r:List KeyB) (n:Int) (w:World) (hm:r.length≤maxLen) (hl:LiesK w a r) :
  Calls Tryz.prog 76 #[.slice a r.length cap,.int .i64 n] w fun e w'=>e=.returned (.tuple #[strB (ji r n),.bool (jw r n)])∧Below w.heap.size w w':=by
 have Hl:=hid hl
 clear hl
 unfold maxLen at hm
 go_enter Tryz.func76,Tryz.ntmps76
 go_wp2
 go_loopw [10] (fun i wr=>∃ k:Nat,k≤r.length∧i=.int .i64 k∧jw (r.take k) n=false∧Below w.heap.size w wr) (fun i _=>r.length - (intOf i).toNat)
 case atStart=>exact ⟨0,Nat.zero_le _,rfl,rfl,Below.refl _ _⟩
 case round =>
  obtain ⟨k,hkl,rfl,hno,hB⟩:=hrel
  have Hno:=hid hno
  clear hno
  by_cases hlt:k < r.length
  ·obtain ⟨b,off,rfl,hbw,hcell⟩:=(Hl.out.later hB).at_ (List.ne_nil_of_length_pos (by omega))
   obtain ⟨g1,g2⟩:=hcell k hlt
   clear hcell
   have hki:(k:Int) < (r.length:Int):=by omega
   have HB1:=hid (hB.alloc hB.size (Obj.cells #[.int .i64 (r[k]).number,strB (r[k]).secret] 68))
   by_cases he:(r[k]).number=n
   ·have HF:=hid (LJ hlt Hno.out he)
    have HH:Hid (jw r n=true):=by
     simp only [Hid,jw,List.any_eq_true]
     exact ⟨r[k],List.getElem_mem hlt,by simp [he]⟩
    rw [he] at g1 HB1
    clear he
    go_wp2
    go_ret2
    exact ⟨by rw [ji,HF.out,HH.out];rfl,HB1.out⟩
   ·have hne:((r[k]).number == n)=false:=by simpa using he
    have He:=hid he
    have HS:=hid (Gx (r:=r) (k:=r.length) (m:=k) hlt hlt n)
    rw [List.take_length] at HS
    clear he
    go_wp2
    go_roundw
    case rel=>exact ⟨k+1,by omega,by go_num,by rw [HS.out,Hno.out];simp [He.out],HB1.out⟩
    case measure=>simp [intOf];omega
  ·have HN:Hid (jw r n=false):=by have:=Hno.out;rw [List.take_of_length_le (by omega)] at this;exact this
   go_wp2
   go_ret2
   exact ⟨by rw [ji,YE HN.out,HN.out];rfl,hB⟩
theorem ET {kind:Int} (l:List CellB) (h:kind=0∨kind=1):qA kind l=(decide (l.length≤60) && l.all (xg kind)):=by
 unfold qA
 rcases h with rfl|rfl<;>simp
theorem Af (a:Option Addr) (cap:Nat) (t:List ColB) (w:World) (hm:t.length≤maxLen) (hcap:t.length≤cap) (hl:LiesT w a t) :
  Calls Tryz.prog 58 #[.slice a t.length cap] w fun e w'=>e=.returned (.bool (xz t))∧Below w.heap.size w w':=by
 have Hl:=hid hl
 clear hl
 go_enter Tryz.func58,Tryz.ntmps58
 go_wp2_with fail
 refine (GN a cap t w hm hcap Hl.out).mono ?_
 rintro e w1 ⟨rfl,hb1⟩
 cases hh:qc t with
 | false =>
  have HF:Hid (xz t=false):=by show xz t=false;rw [xz,hh,Bool.false_and]
  clear hh
  go_wp2
  go_ret
  exact ⟨jZ HF.out.symm,hb1⟩
 | true =>
  have h6:1≤t.length∧t.length≤6:=by
   simp only [qc,Bool.and_eq_true,decide_eq_true_eq] at hh
   exact hh.2
  have Hh:=hid hh
  obtain ⟨h1,h6⟩:=h6
  clear hh
  obtain ⟨b,off,rfl,hbw,hcell⟩:=(Hl.out.later hb1).at_ (List.ne_nil_of_length_pos (by omega))
  obtain ⟨_,_,_,v0,f4,ca0,cap0,rfl,hcc0,hcl0,hcm0⟩:=hcell 0 (by omega)
  simp only [Nat.zero_mul,Nat.add_zero] at f4
  have h0i:(0:Int) < (t.length:Int):=by omega
  have HR:=hid (NM (t:=t) (by omega))
  clear hcell hcl0
  go_wp2
  go_loopw [16] (fun i wr=>∃ k:Nat,k≤t.length∧i=.int .i64 k∧((t.take k).all fun c=>qA c.kind c.cells && decide (c.cells.length=qa t))=true∧Below w.heap.size w wr) (fun i _=>t.length - (intOf i).toNat)
  case atStart=>exact ⟨0,Nat.zero_le _,rfl,rfl,hb1⟩
  case round =>
   clear hb1 f4 hbw
   obtain ⟨k,hkl,rfl,hall,hB⟩:=hrel
   have Hall:=hid hall
   clear hall
   by_cases hlt:k < t.length
   ·obtain ⟨b,off,hab,hbw,hcell⟩:=(Hl.out.later hB).at_ (List.ne_nil_of_length_pos (by omega))
    simp only [Option.some.injEq,Addr.mk.injEq,and_true] at hab
    obtain ⟨rfl,rfl⟩:=hab
    obtain ⟨g1,g2,g3,v,g4,ca,cap2,rfl,hcc,hcl,hcm⟩:=hcell k hlt
    clear hcell
    have HT:Hid (((t.take (k+1)).all fun c=>qA c.kind c.cells && decide (c.cells.length=qa t))=(qA (t[k]).kind (t[k]).cells && decide ((t[k]).cells.length=qa t))):=by
     show _=_
     rw [List.take_succ_eq_append_getElem hlt,List.all_append,Hall.out]
     simp
    have HN:=hid (La (t:=t) hlt)
    have hki:(k:Int) < (t.length:Int):=by omega
    have HK:Hid (qA (t[k]).kind (t[k]).cells=(decide ((t[k]).cells.length≤60) && (t[k]).cells.all (xg (t[k]).kind))):=by
     refine ET _ ?_
     have h1:=Hh.out
     simp only [qc,Bool.and_eq_true] at h1
     exact (QP (Qd h1.1 (Nat.le_refl _) k hlt).1).2.1
    have hbb:=(Below.refl wr.heap.size wr).alloc (Nat.le_refl _) (.cells #[strB (t[k]).name,.int .i64 (t[k]).kind,.int .i64 (t[k]).key,.slice ca (t[k]).cells.length cap2] 31)
    have HBb:=hid (hB.trans (hbb.mono hB.size))
    have Hcl:=hid (hcl.later hbb)
    clear hbb hcl hB
    by_cases he:(t[k]).cells.length=(t[0]'(by omega)).cells.length
    ·have hei:(((t[k]).cells.length:Int) != ((t[0]'(by omega)).cells.length:Int))=false:=by simp [he]
     have HX:=hid he
     clear he
     go_wp2_with fail
     refine (EY (t[k]).kind ca cap2 (t[k]).cells _ (by omega) Hcl.out).mono ?_
     rintro e w3 ⟨rfl,hb3⟩
     have hB3:=HBb.out.trans (hb3.mono HBb.out.size)
     rw [← HK.out]
     cases hok:qA (t[k]).kind (t[k]).cells with
     | false =>
      have Hok:=hid hok
      clear hok
      go_wp2
      go_ret
      exact ⟨jZ (HN.out (by rw [Hok.out];rfl)).symm,hB3⟩
     | true =>
      have Hok:=hid hok
      clear hok
      go_wp2
      go_roundw
      case rel=>exact ⟨k+1,by omega,by go_num,by rw [HT.out,Hok.out,HR.out];simp [HX.out],hB3⟩
      case measure=>simp [intOf];omega
    ·have hei:(((t[k]).cells.length:Int) != ((t[0]'(by omega)).cells.length:Int))=true:=by simp;omega
     have HX:=hid he
     clear he
     go_wp2
     go_ret
     exact ⟨jZ (HN.out (by rw [HR.out];simp [HX.out])).symm,HBb.out⟩
   ·have HE:Hid (xz t=true):=by
     show xz t=true
     have:=Hall.out
     rw [List.take_of_length_le (by omega)] at this
     rw [xz,Hh.out,this];rfl
    go_wp2
    go_ret
    exact ⟨jZ HE.out.symm,hB⟩
def VB (r:List KeyB):List Value:=(List.range 10).map fun (n:Nat)=>Value.bool (jw r (n:Int))
theorem Gg (r:List KeyB):(VB r).length=10:=by simp [VB]
theorem Ny (r:List KeyB) (m:Nat) (hm:m < 10):(VB r)[m]?=some (.bool (jw r (m:Int))):=by simp [VB,hm]
theorem TE {r:List KeyB} {k m:Nat} (hk:k < r.length) (hm:(r[k]).number=(m:Int)) (h10:m < 10):(VB (r.take k)).set m (.bool true)=VB (r.take (k+1)):=by
 apply List.ext_getElem?
 intro i
 have e:∀ n:Int,jw (r.take (k+1)) n=(jw (r.take k) n || decide ((r[k]).number=n)):=by
  intro n
  have:=Gx (r:=r) (k:=r.length) (m:=k) hk hk n
  rw [List.take_length] at this
  exact this
 rw [List.getElem?_set]
 by_cases hi:i < 10
 ·rw [Ny _ i hi,Ny _ i hi,Gg,e,hm]
  by_cases hmi:m=i
  ·subst hmi;simp [h10]
  ·have:¬ ((m:Int)=(i:Int)):=by omega
   simp [hmi,this]
 ·have h1:(VB (r.take k))[i]?=none:=List.getElem?_eq_none (by rw [Gg];omega)
  have h2:(VB (r.take (k+1)))[i]?=none:=List.getElem?_eq_none (by rw [Gg];omega)
  rw [h1,h2,if_neg (by omega)]
theorem NE (a:Option Addr) (cap:Nat) (r:List KeyB) (w:World) (hm:r.length≤maxLen) (hl:LiesK w a r) :
  Calls Tryz.prog 39 #[.slice a r.length cap] w fun e w'=>e=.returned (.bool (xH r))∧Below w.heap.size w w':=by
 have Hl:=hid hl
 clear hl
 unfold maxLen at hm
 go_enter Tryz.func39,Tryz.ntmps39
 go_wp2
 generalize hg:w.heap.size=g at *
 go_loopw [8] (fun i wr=>∃ k:Nat,k≤r.length∧i=.int .i64 k∧XT r k=true∧wr.ownsRow g 137 1 (.slice (some ⟨g,0,none⟩) 10 10) 10 (VB (r.take k))∧Below g w wr∧g < wr.heap.size) (fun i _=>r.length - (intOf i).toNat)
 case atStart =>
  refine ⟨0,Nat.zero_le _,rfl,rfl,?_,?_,?_⟩
  ·have:=World.ownsRow_lit (base:=w.heap.size) (e:=137) (size:=1) w #[.bool false,.bool false,.bool false,.bool false,.bool false,.bool false,.bool false,.bool false,.bool false,.bool false] 10 (Nat.le_refl _) (by decide) rfl
   rw [hg] at this
   exact this
  ·rw [← hg];exact (Below.refl _ _).alloc (Nat.le_refl _) _
  ·rw [← hg];simp
 case round =>
  obtain ⟨k,hkl,rfl,hall,hown,hB,hG⟩:=hrel
  have Hall:=hid hall
  clear hall
  by_cases hlt:k < r.length
  ·obtain ⟨b,off,rfl,hbw,hcell⟩:=(Hl.out.later (by rw [hg];exact hB)).at_ (List.ne_nil_of_length_pos (by omega))
   obtain ⟨g1,g2⟩:=hcell k hlt
   clear hcell
   obtain ⟨ok1,ok2⟩:=Hl.out.ok r[k] (List.getElem_mem hlt)
   unfold maxLen at ok1
   have HT:=hid (Ah hlt Hall.out)
   have HN:=hid (CF (r:=r) hlt)
   have HF:=hid (BF (c:=r[k]))
   have hki:(k:Int) < (r.length:Int):=by omega
   have HSS:=hid (fun (m:Nat)=>TE (r:=r) (k:=k) (m:=m) hlt)
   have HKE:Hid (QM r[k]=((decide (1≤(r[k]).number) && decide ((r[k]).number≤9)) && decide ((r[k]).secret.length=8))):=rfl
   have hob:=hown.alloc (.cells #[.int .i64 (r[k]).number,strB (r[k]).secret] 68)
   have HBb:=hid (hB.alloc (Nat.le_of_lt hG) (.cells #[.int .i64 (r[k]).number,strB (r[k]).secret] 68))
   have Hown0:=hid hown
   have HB0:=hid hB
   clear hown hB
   by_cases hr1:1≤(r[k]).number∧(r[k]).number≤9
   ·obtain ⟨m,hm1⟩:∃ m:Nat,(r[k]).number=(m:Int):=⟨(r[k]).number.toNat,by omega⟩
    have hm10:m < 10:=by omega
    have hmi:(m:Int) < 10:=by omega
    have hcm:=hob.cellAt m (by omega)
    rw [Ny _ m hm10] at hcm
    have hfm:=hob.frozenAt m
    have HSt:=hid ((Hown0.out.stored m (.bool true)).1.alloc (.cells #[.int .i64 (r[k]).number,strB (r[k]).secret] 68))
    have HB2:=hid ((HB0.out.setCell (p:=⟨g,m,none⟩) (Nat.le_refl _) (.bool true)).alloc (by simp;omega) (.cells #[.int .i64 (r[k]).number,strB (r[k]).secret] 68))
    rw [hm1] at g1 HBb HSt hcm hfm HKE HB2
    have HSS2:=hid (HSS.out m hm1 hm10)
    have HNm:Hid (jw (r.take k) (r[k]).number=jw (r.take k) (m:Int)):=by rw [hm1];rfl
    rw [HNm.out] at HT HN
    have hkt:(decide ((1:Int)≤(m:Int)) && decide ((m:Int)≤9))=true:=by simp;omega
    clear hr1 HF HSS hm1 hob HNm ok2
    go_wp2_with fail
    refine (Kg (m:Int) _).mono ?_
    rintro e w5 ⟨rfl,rfl⟩
    rw [hkt]
    cases hx:jw (r.take k) (m:Int) with
    | true =>
     rw [hx] at HN hcm
     clear hx
     go_wp2
     go_ret
     exact ⟨jZ (HN.out (by simp)).symm,by rw [hg];exact HBb.out⟩
    | false =>
     rw [hx] at HN hcm HT
     clear hx
     by_cases h8:(r[k]).secret.length=8
     ·have q3:(((r[k]).secret.length:Int) != 8)=false:=by simp;omega
      have HT2:Hid (XT r (k+1)=true):=by
       show _=_
       rw [HT.out,HKE.out,hkt,decide_eq_true h8];rfl
      clear h8 HT HKE HN
      go_wp2
      go_roundw
      case rel=>exact ⟨k+1,by omega,by go_num,HT2.out,by rw [← HSS2.out];exact HSt.out,HB2.out,by simp;omega⟩
      case measure=>simp [intOf];omega
     ·have q3:(((r[k]).secret.length:Int) != 8)=true:=by simp;omega
      have HF2:Hid (QM r[k]=false):=by show _=_;rw [HKE.out,decide_eq_false h8,Bool.and_false]
      clear h8 HT HKE
      go_wp2
      go_ret
      exact ⟨jZ (HN.out (by rw [HF2.out];rfl)).symm,by rw [hg];exact HBb.out⟩
   ·have hkt:(decide (1≤(r[k]).number) && decide ((r[k]).number≤9))=false:=by
     simp only [Bool.and_eq_false_iff,decide_eq_false_iff_not];omega
    have HF2:Hid (QM r[k]=false):=by show _=_;rw [HKE.out,hkt];rfl
    clear hr1 HKE HT HF hob
    generalize hnn:(r[k]).number=nn at *
    have Hnn:=hid hnn
    clear hnn
    go_wp2_with fail
    refine (Kg nn _).mono ?_
    rintro e w5 ⟨rfl,rfl⟩
    rw [hkt]
    clear hkt
    go_wp2
    go_ret
    exact ⟨jZ (HN.out (by rw [HF2.out];rfl)).symm,by rw [hg];exact HBb.out⟩
  ·have hke:k=r.length:=by omega
   subst hke
   go_wp2
   go_ret
   exact ⟨jZ Hall.out.symm,by rw [hg];exact hB⟩
def KK (t:List ColB) (r:List KeyB) (k:Nat):Bool:=(t.take k).all fun c=>decide (c.key=0) || jw r c.key
theorem Ms {t:List ColB} {r:List KeyB} {k:Nat} (hk:k < t.length):KK t r (k+1)=(KK t r k && (decide ((t[k]).key=0) || jw r (t[k]).key)):=by
 unfold KK
 rw [List.take_succ_eq_append_getElem hk,List.all_append]
 simp
theorem Dr {j:JobB} {r:List KeyB} (h:xz j.table=true):(KK j.table r j.table.length && jw r j.plan.foot)=!Kp j r:=by
 have hk:∀ c ∈ j.table,0≤c.key:=by
  intro c hc
  obtain ⟨k,hk,rfl⟩:=List.mem_iff_getElem.1 hc
  simp only [xz,qc,Bool.and_eq_true] at h
  exact (QP (Qd h.1.1 (Nat.le_refl _) k hk).1).2.2.1
 apply Cc
 simp only [KK,Kp,List.take_length,Bool.and_eq_true,List.all_eq_true,Bool.or_eq_true,decide_eq_true_eq,Bool.not_or,Bool.not_not,Bool.not_eq_true',List.any_eq_false,Bool.not_eq_true]
 constructor
 ·rintro ⟨h1,h2⟩
  refine ⟨h2,fun c hc hn=>?_⟩
  rcases h1 c hc with h|h
  ·omega
  ·rw [h] at hn;simp at hn
 ·rintro ⟨h1,h2⟩
  refine ⟨fun c hc=>?_,h1⟩
  have:=h2 c hc
  have h0:=hk c hc
  by_cases hz:c.key=0
  ·exact .inl hz
  ·right
   cases hn:jw r c.key with
   | true=>rfl
   | false=>exact absurd ⟨by omega,hn⟩ this
end
section
theorem Pd (p:PlanB) (w:World) (h0:1≤p.foot) (h1:p.foot≤9) :
  Calls Tryz.prog 63 #[planV p] w fun e w'=>e=.returned (strB (zt p))∧Below w.heap.size w w':=by
 have HS:Hid (zt p=[67,70]++[if p.told=true then 79 else 69]++[byB p.foot]):=rfl
 have hwf:IntKind.u8.wrap p.foot=p.foot:=by simp only [IntKind.wrap_u8];omega
 obtain ⟨a,b,c,d⟩:=p
 simp only at *
 cases d with
 | true =>
  go_enter Tryz.func63,Tryz.ntmps63
  go_wp2_with fail
  refine (zV c _ (by omega) (by omega)).mono ?_
  rintro e w1 ⟨rfl,hb1⟩
  go_wp2_with fail
  refine (Qu [[67,70],[79],[byB c]] _ 3 w1 rfl rfl (by decide) (by simp)).mono ?_
  rintro e w2 ⟨rfl,hb2⟩
  go_wp2
  go_ret
  exact ⟨xh (by rw [HS.out];simp),(xE hb1).trans (hb2.mono (xE hb1).size)⟩
 | false =>
  go_enter Tryz.func63,Tryz.ntmps63
  go_wp2_with fail
  refine (zV c _ (by omega) (by omega)).mono ?_
  rintro e w1 ⟨rfl,hb1⟩
  go_wp2_with fail
  refine (Qu [[67,70],[69],[byB c]] _ 3 w1 rfl rfl (by decide) (by simp)).mono ?_
  rintro e w2 ⟨rfl,hb2⟩
  go_wp2
  go_ret
  exact ⟨xh (by rw [HS.out];simp),(xE hb1).trans (hb2.mono (xE hb1).size)⟩
theorem TU (w:World):Calls Tryz.prog 93 #[.slice none 0 0] w fun e w'=>e=.returned (strB [])∧Below w.heap.size w w':=by
 obtain ⟨i0,hi,hz0,hz1,hz2⟩:=info_parts Tryz.infoU8
 go_enter Tryz.func93,Tryz.ntmps93
 go_wp2
 go_loop [3,11] (fun t i=>i=.int .i64 0∧t=.int .i64 0) (fun _ _=>0)
 case atStart=>exact ⟨rfl,rfl⟩
 case round =>
  obtain ⟨rfl,rfl⟩:=hrel
  go_wp2_with (at_make;refine wpList_make_own _ rfl (.const (.int .i64 0)) (.tmp 20) 64 rfl w.heap.size 5 i0 (.int .u8 0) 1 Tryz.underlying64 hi hz0 hz1 .i64 .i64 _ 0 rfl rfl rfl (by rw [hz2];omega) (by unfold maxLen;omega) (Nat.le_refl _) ?_;intro w3 hown hgr)
  have hB3:Below w.heap.size w w3:=(Below.refl _ _).grown hgr (Nat.le_refl _) (fun _ h=>by cases h)
  clear hgr
  go_loopw [6,24] (fun v i wr=>i=.int .i64 0∧wr.ownsRow w.heap.size 5 1 v 0 (qu [])∧Below w.heap.size w wr) (fun _ _ _=>0)
  case atStart=>exact ⟨rfl,hown,hB3⟩
  case round =>
   clear hown hB3
   obtain ⟨rfl,hown,hB⟩:=hrel
   have hcv:=Ke hown
   go_wp2
   go_ret
   exact ⟨rfl,hB⟩
abbrev modV (sort:UInt8) (g c p:Nat):Value:=.agg #[strB [sort],.int .i64 (g:Int),.int .i64 (c:Int),.int .i64 (p:Int)]
def BoxM (w:World) (q:Nat) (sort:UInt8) (g c p:Nat):Prop :=
 w.cell? ⟨q,0,none⟩=some (strB [sort])∧w.cell? ⟨q,1,none⟩=some (.int .i64 (g:Int))∧w.cell? ⟨q,2,none⟩=some (.int .i64 (c:Int))∧w.cell? ⟨q,3,none⟩=some (.int .i64 (p:Int))
theorem BoxM.later {w w':World} {q g c p:Nat} {sort:UInt8} (h:BoxM w q sort g c p) (hb:Below w.heap.size w w') (hq:q < w.heap.size):BoxM w' q sort g c p:=by
 obtain ⟨h0,h1,h2,h3⟩:=h
 exact ⟨(hb.cell (p:=⟨q,_,none⟩) hq).trans h0,(hb.cell (p:=⟨q,_,none⟩) hq).trans h1,(hb.cell (p:=⟨q,_,none⟩) hq).trans h2,(hb.cell (p:=⟨q,_,none⟩) hq).trans h3⟩
theorem BoxM.alloc {w:World} {q g c p:Nat} {sort:UInt8} (h:BoxM w q sort g c p) (o:Obj):BoxM (w.alloc o) q sort g c p:=by
 obtain ⟨h0,h1,h2,h3⟩:=h
 exact ⟨je o h0,je o h1,je o h2,je o h3⟩
def PJ (w:World) (v:Value) (f:List UInt8):Prop:=∀ w',Below w.heap.size w w'→Calls Tryz.prog 93 #[v] w' fun e w2=>e=.returned (strB f)∧Below w'.heap.size w' w2
theorem KD (w:World):PJ w (.slice none 0 0) []:=fun w' _=>TU w'
theorem XN (sort:UInt8) (g c p:Nat) (pre:List UInt8) (bv:Value) (f:List UInt8) (w:World) (hg:g≤65535) (hc:c≤65535) (hp:p≤65535) (hpre:pre.length≤20) (hf:f.length≤5000) (hJ:PJ w bv f) :
  Calls Tryz.prog 87 #[modV sort g c p,strB pre,bv] w fun e w'=>e=.returned (strB (jR pre sort g c p++f))∧Below w.heap.size w w':=by
 have HJ:=hid hJ
 clear hJ
 have HE:Hid ([xB pre,[sort],qQ (g:Int),qQ (c:Int),qQ (p:Int),f].flatten=jR pre sort g c p++f):=by simp [Hid,jR]
 have hxl:(xB pre).length≤40:=by have:=jY pre.length (by omega);simp only [xB,List.length_append];omega
 go_enter Tryz.func87,Tryz.ntmps87
 go_wp2_with fail
 obtain ⟨hb0,hs0,hc0,_⟩:=jJ w #[strB [sort],.int .i64 (g:Int),.int .i64 (c:Int),.int .i64 (p:Int)] 73
 have X0:BoxM _ w.heap.size sort g c p:=⟨hc0 0,hc0 1,hc0 2,hc0 3⟩
 have Hb0:=hid hb0
 clear hc0 hb0
 generalize w.alloc _=wb at *
 generalize hX:xB pre=X at *
 generalize hG:qQ (g:Int)=G at *
 generalize hC:qQ (c:Int)=C at *
 generalize hP:qQ (p:Int)=P at *
 have HT:Hid (∀ w',Calls Tryz.prog 115 #[strB pre] w' fun e w2=>e=.returned (strB X)∧Below w'.heap.size w' w2):=by
  intro w';rw [← hX];exact VE pre w' (by omega)
 have HG:Hid (∀ w',Calls Tryz.prog 100 #[.int .i64 (g:Int)] w' fun e w2=>e=.returned (strB G)∧Below w'.heap.size w' w2):=by
  intro w';rw [← hG];exact JW _ w' (by omega) (by omega)
 have HC:Hid (∀ w',Calls Tryz.prog 100 #[.int .i64 (c:Int)] w' fun e w2=>e=.returned (strB C)∧Below w'.heap.size w' w2):=by
  intro w';rw [← hC];exact JW _ w' (by omega) (by omega)
 have HP:Hid (∀ w',Calls Tryz.prog 100 #[.int .i64 (p:Int)] w' fun e w2=>e=.returned (strB P)∧Below w'.heap.size w' w2):=by
  intro w';rw [← hP];exact JW _ w' (by omega) (by omega)
 have hGl:G.length=2:=by rw [← hG];rfl
 have hCl:C.length=2:=by rw [← hC];rfl
 have hPl:P.length=2:=by rw [← hP];rfl
 clear hX hG hC hP
 go_region_held3 (fun w'=>w'.cell? ⟨w.heap.size,0,none⟩=some (strB [sort])∧w'.cell? ⟨w.heap.size,1,none⟩=some (.int .i64 (g:Int))∧w'.cell? ⟨w.heap.size,2,none⟩=some (.int .i64 (c:Int))∧w'.cell? ⟨w.heap.size,3,none⟩=some (.int .i64 (p:Int)))
  (first|exact X6|exact X5.alloc _|exact X5|exact X4|exact X3|exact X2|exact X1|exact X0)
  (first
   | (go_at_call 115;refine (HT.out _).mono ?_;rintro e w1 ⟨rfl,hb1⟩;replace hb1:=jl hb1;have X1:=X0.later hb1 hs0;have hs1:=Nat.lt_of_lt_of_le hs0 hb1.size)
   | (go_at_call_of 100 (Value.int IntKind.i64 (g:Int));refine (HG.out _).mono ?_;rintro e w2 ⟨rfl,hb2⟩;have X2:=X1.later hb2 hs1;have hs2:=Nat.lt_of_lt_of_le hs1 hb2.size)
   | (go_at_call_of 100 (Value.int IntKind.i64 (c:Int));refine (HC.out _).mono ?_;rintro e w3 ⟨rfl,hb3⟩;have X3:=X2.later hb3 hs2;have hs3:=Nat.lt_of_lt_of_le hs2 hb3.size)
   | (go_at_call_of 100 (Value.int IntKind.i64 (p:Int));refine (HP.out _).mono ?_;rintro e w4 ⟨rfl,hb4⟩;have X4:=X3.later hb4 hs3;have hs4:=Nat.lt_of_lt_of_le hs3 hb4.size)
   | (go_at_call_of 93 bv;refine (HJ.out _ ?_).mono ?_;exact (((Hb0.out.trans (hb1.mono Hb0.out.size)).trans (hb2.mono (Nat.le_trans Hb0.out.size hb1.size))).trans (hb3.mono (Nat.le_trans (Nat.le_trans Hb0.out.size hb1.size) hb2.size))).trans (hb4.mono (Nat.le_trans (Nat.le_trans (Nat.le_trans Hb0.out.size hb1.size) hb2.size) hb3.size));rintro e w5 ⟨rfl,hb5⟩;have X5:=X4.later hb5 hs4;have hs5:=Nat.lt_of_lt_of_le hs4 hb5.size)
   | (go_at_call 93;refine (QZ [X,[sort],G,C,P,f] #[strB X,strB [sort],strB G,strB C,strB P,strB f] 6 _ _ ?_ rfl rfl ?_ ?_).mono ?_;(first|rfl|simp);decide;(simp;omega);rintro e w6 ⟨rfl,hb6⟩;have X6:=X5.later hb6 hs5))
 have hB1:=Hb0.out.trans (hb1.mono Hb0.out.size)
 have hB2:=hB1.trans (hb2.mono hB1.size)
 have hB3:=hB2.trans (hb3.mono hB2.size)
 have hB4:=hB3.trans (hb4.mono hB3.size)
 have hB5:=hB4.trans (hb5.mono hB4.size)
 have HB6:=hid (hB5.trans (hb6.mono hB5.size))
 clear X0 X1 X2 X3 X4 X5 X6 hb1 hb2 hb3 hb4 hb5 hb6 hB1 hB2 hB3 hB4 hB5
 go_wp2
 go_ret
 exact ⟨xh (by rw [← HE.out];simp),HB6.out⟩
end
end Go.Proofs.YthhpbhpfagoapabGreat
