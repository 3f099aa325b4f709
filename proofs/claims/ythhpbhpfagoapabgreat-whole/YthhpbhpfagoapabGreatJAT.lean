import Derived.Test.YthhpbhpfagoapabGreatJAL
import Derived.Test.YthhpbhpfagoapabGreatJAV
namespace Go.Proofs.YthhpbhpfagoapabGreat
set_option linter.unusedVariables false
set_option linter.unusedSimpArgs false
set_option maxRecDepth 100000
set_option maxHeartbeats 16000000
open Go.RowKit
section
def RZ (a b c d m:Nat):Int:=if a≠8 then 1 else if b≠4 then 2 else if 5000 < c∨5000+m < d then 3 else 0
def KE (a b:Nat):Int:=if a≠8 then 1 else if b≠4 then 2 else 0
theorem Pd (sec non:ByteArray) (w:World) (h1:sec.size≤maxLen) (h2:non.size≤maxLen) :
  Calls Tryz.prog 56 #[.string sec,.string non] w fun e w'=>e=.returned (.int .i64 (KE sec.size non.size))∧w'=w:=by
 unfold maxLen at h1 h2
 by_cases g1:sec.size=8
 ·have e1:((sec.size:Int) != 8)=false:=by simp [g1]
  by_cases g2:non.size=4
  ·have e2:((non.size:Int) != 4)=false:=by simp [g2]
   have HE:Hid (KE sec.size non.size=0):=by simp [Hid,KE,g1,g2]
   clear g1 g2
   go_enter Tryz.func56,Tryz.ntmps56
   go_wp2
   go_ret
   exact ⟨xd HE.out.symm,rfl⟩
  ·have e2:((non.size:Int) != 4)=true:=by rw [bne_iff_ne];omega
   have HE:Hid (KE sec.size non.size=2):=by simp [Hid,KE,g1,g2]
   clear g1 g2
   go_enter Tryz.func56,Tryz.ntmps56
   go_wp2
   go_ret
   exact ⟨xd HE.out.symm,rfl⟩
 ·have e1:((sec.size:Int) != 8)=true:=by rw [bne_iff_ne];omega
  have HE:Hid (KE sec.size non.size=1):=by simp [Hid,KE,g1]
  clear g1
  go_enter Tryz.func56,Tryz.ntmps56
  go_wp2
  go_ret
  exact ⟨xd HE.out.symm,rfl⟩
theorem Mn {a b c d m:Nat} (h:RZ a b c d m=0):a=8∧b=4∧c≤5000∧d≤5000+m:=by
 unfold RZ at h
 by_cases g1:a=8<;>by_cases g2:b=4<;>by_cases g3:5000 < c<;>by_cases g4:5000+m < d<;>simp_all
end
section
theorem QW (a:Option Addr) (cap:Nat) (r:List KeyB) (n:Int) (w:World) (hm:r.length≤maxLen) (hl:LiesK w a r) :
  Calls Tryz.prog 76 #[.slice a r.length cap,.int .i64 n] w fun e w'=>e=.returned (.tuple #[strB (ji r n),.bool (jw r n)])∧Below w.heap.size w w':=by
 have Hl:=hid hl
 clear hl
 unfold maxLen at hm
 go_enter Tryz.func76,Tryz.ntmps76
 go_wp2
 go_loopw [10] (fun i wr=>∃ k:Nat,k≤r.length∧i=.int .i64 k∧jw (r.take k) n=false∧Below w.heap.size w wr) (fun i _=>r.length - (intOf i).toNat)
 case atStart=>exact ⟨0,Nat.zero_le _,rfl,rfl,Below.refl _ _⟩
 case round =>
  obtain ⟨k,hkl,rfl,hno,hB⟩:=hrel
  have Hno:=hid hno
  clear hno
  by_cases hlt:k < r.length
  ·obtain ⟨b,off,rfl,hbw,hcell⟩:=(Hl.out.later hB).at_ (List.ne_nil_of_length_pos (by omega))
   obtain ⟨g1,g2⟩:=hcell k hlt
   clear hcell
   have hki:(k:Int) < (r.length:Int):=by omega
   have HB1:=hid (hB.alloc hB.size (Obj.cells #[.int .i64 (r[k]).number,strB (r[k]).secret] 68))
   by_cases he:(r[k]).number=n
   ·have HF:=hid (Bk hlt Hno.out he)
    have HH:Hid (jw r n=true):=by
     simp only [Hid,jw,List.any_eq_true]
     exact ⟨r[k],List.getElem_mem hlt,by simp [he]⟩
    rw [he] at g1 HB1
    clear he
    go_wp2
    go_ret2
    exact ⟨by rw [ji,HF.out,HH.out];rfl,HB1.out⟩
   ·have hne:((r[k]).number == n)=false:=by simpa using he
    have He:=hid he
    have HS:=hid (GF (r:=r) (k:=r.length) (m:=k) hlt hlt n)
    rw [List.take_length] at HS
    clear he
    go_wp2
    go_roundw
    case rel=>exact ⟨k+1,by omega,by go_num,by rw [HS.out,Hno.out];simp [He.out],HB1.out⟩
    case measure=>simp [intOf];omega
  ·have HN:Hid (jw r n=false):=by have:=Hno.out;rw [List.take_of_length_le (by omega)] at this;exact this
   go_wp2
   go_ret2
   exact ⟨by rw [ji,Es HN.out,HN.out];rfl,hB⟩
theorem Ic {kind:Int} (l:List CellB) (h:kind=0∨kind=1):qC kind l=(decide (l.length≤60) && l.all (xh kind)):=by
 unfold qC
 rcases h with rfl|rfl<;>simp
theorem AP (a:Option Addr) (cap:Nat) (t:List ColB) (w:World) (hm:t.length≤maxLen) (hcap:t.length≤cap) (hl:LiesT w a t) :
  Calls Tryz.prog 58 #[.slice a t.length cap] w fun e w'=>e=.returned (.bool (xy t))∧Below w.heap.size w w':=by
 have Hl:=hid hl
 clear hl
 go_enter Tryz.func58,Tryz.ntmps58
 go_wp2_with fail
 refine (GW a cap t w hm hcap Hl.out).mono ?_
 rintro e w1 ⟨rfl,hb1⟩
 cases hh:jX t with
 | false =>
  have HF:Hid (xy t=false):=by show xy t=false;rw [xy,hh,Bool.false_and]
  clear hh
  go_wp2
  go_ret
  exact ⟨qc HF.out.symm,hb1⟩
 | true =>
  have h6:1≤t.length∧t.length≤6:=by
   simp only [jX,Bool.and_eq_true,decide_eq_true_eq] at hh
   exact hh.2
  have Hh:=hid hh
  obtain ⟨h1,h6⟩:=h6
  clear hh
  obtain ⟨b,off,rfl,hbw,hcell⟩:=(Hl.out.later hb1).at_ (List.ne_nil_of_length_pos (by omega))
  obtain ⟨_,_,_,v0,f4,ca0,cap0,rfl,hcc0,hcl0,hcm0⟩:=hcell 0 (by omega)
  simp only [Nat.zero_mul,Nat.add_zero] at f4
  have h0i:(0:Int) < (t.length:Int):=by omega
  have HR:=hid (NL (t:=t) (by omega))
  clear hcell hcl0
  go_wp2
  go_loopw [16] (fun i wr=>∃ k:Nat,k≤t.length∧i=.int .i64 k∧((t.take k).all fun c=>qC c.kind c.cells && decide (c.cells.length=qb t))=true∧Below w.heap.size w wr) (fun i _=>t.length - (intOf i).toNat)
  case atStart=>exact ⟨0,Nat.zero_le _,rfl,rfl,hb1⟩
  case round =>
   clear hb1 f4 hbw
   obtain ⟨k,hkl,rfl,hall,hB⟩:=hrel
   have Hall:=hid hall
   clear hall
   by_cases hlt:k < t.length
   ·obtain ⟨b,off,hab,hbw,hcell⟩:=(Hl.out.later hB).at_ (List.ne_nil_of_length_pos (by omega))
    simp only [Option.some.injEq,Addr.mk.injEq,and_true] at hab
    obtain ⟨rfl,rfl⟩:=hab
    obtain ⟨g1,g2,g3,v,g4,ca,cap2,rfl,hcc,hcl,hcm⟩:=hcell k hlt
    clear hcell
    have HT:Hid (((t.take (k+1)).all fun c=>qC c.kind c.cells && decide (c.cells.length=qb t))=(qC (t[k]).kind (t[k]).cells && decide ((t[k]).cells.length=qb t))):=by
     show _=_
     rw [List.take_succ_eq_append_getElem hlt,List.all_append,Hall.out]
     simp
    have HN:=hid (Lt (t:=t) hlt)
    have hki:(k:Int) < (t.length:Int):=by omega
    have HK:Hid (qC (t[k]).kind (t[k]).cells=(decide ((t[k]).cells.length≤60) && (t[k]).cells.all (xh (t[k]).kind))):=by
     refine Ic _ ?_
     have h1:=Hh.out
     simp only [jX,Bool.and_eq_true] at h1
     exact (Qi (JF h1.1 (Nat.le_refl _) k hlt).1).2.1
    have hbb:=(Below.refl wr.heap.size wr).alloc (Nat.le_refl _) (.cells #[strB (t[k]).name,.int .i64 (t[k]).kind,.int .i64 (t[k]).key,.slice ca (t[k]).cells.length cap2] 31)
    have HBb:=hid (hB.trans (hbb.mono hB.size))
    have Hcl:=hid (hcl.later hbb)
    clear hbb hcl hB
    by_cases he:(t[k]).cells.length=(t[0]'(by omega)).cells.length
    ·have hei:(((t[k]).cells.length:Int) != ((t[0]'(by omega)).cells.length:Int))=false:=by simp [he]
     have HX:=hid he
     clear he
     go_wp2_with fail
     refine (EU (t[k]).kind ca cap2 (t[k]).cells _ (by omega) Hcl.out).mono ?_
     rintro e w3 ⟨rfl,hb3⟩
     have hB3:=HBb.out.trans (hb3.mono HBb.out.size)
     rw [← HK.out]
     cases hok:qC (t[k]).kind (t[k]).cells with
     | false =>
      have Hok:=hid hok
      clear hok
      go_wp2
      go_ret
      exact ⟨qc (HN.out (by rw [Hok.out];rfl)).symm,hB3⟩
     | true =>
      have Hok:=hid hok
      clear hok
      go_wp2
      go_roundw
      case rel=>exact ⟨k+1,by omega,by go_num,by rw [HT.out,Hok.out,HR.out];simp [HX.out],hB3⟩
      case measure=>simp [intOf];omega
    ·have hei:(((t[k]).cells.length:Int) != ((t[0]'(by omega)).cells.length:Int))=true:=by simp;omega
     have HX:=hid he
     clear he
     go_wp2
     go_ret
     exact ⟨qc (HN.out (by rw [HR.out];simp [HX.out])).symm,HBb.out⟩
   ·have HE:Hid (xy t=true):=by
     show xy t=true
     have:=Hall.out
     rw [List.take_of_length_le (by omega)] at this
     rw [xy,Hh.out,this];rfl
    go_wp2
    go_ret
    exact ⟨qc HE.out.symm,hB⟩
def VK (r:List KeyB):List Value:=(List.range 10).map fun (n:Nat)=>Value.bool (jw r (n:Int))
theorem Gn (r:List KeyB):(VK r).length=10:=by simp [VK]
theorem Ra (r:List KeyB) (m:Nat) (hm:m < 10):(VK r)[m]?=some (.bool (jw r (m:Int))):=by simp [VK,hm]
theorem TK {r:List KeyB} {k m:Nat} (hk:k < r.length) (hm:(r[k]).number=(m:Int)) (h10:m < 10):(VK (r.take k)).set m (.bool true)=VK (r.take (k+1)):=by
 apply List.ext_getElem?
 intro i
 have e:∀ n:Int,jw (r.take (k+1)) n=(jw (r.take k) n || decide ((r[k]).number=n)):=by
  intro n
  have:=GF (r:=r) (k:=r.length) (m:=k) hk hk n
  rw [List.take_length] at this
  exact this
 rw [List.getElem?_set]
 by_cases hi:i < 10
 ·rw [Ra _ i hi,Ra _ i hi,Gn,e,hm]
  by_cases hmi:m=i
  ·subst hmi;simp [h10]
  ·have:¬ ((m:Int)=(i:Int)):=by omega
   simp [hmi,this]
 ·have h1:(VK (r.take k))[i]?=none:=List.getElem?_eq_none (by rw [Gn];omega)
  have h2:(VK (r.take (k+1)))[i]?=none:=List.getElem?_eq_none (by rw [Gn];omega)
  rw [h1,h2,if_neg (by omega)]
theorem NU (a:Option Addr) (cap:Nat) (r:List KeyB) (w:World) (hm:r.length≤maxLen) (hl:LiesK w a r) :
  Calls Tryz.prog 39 #[.slice a r.length cap] w fun e w'=>e=.returned (.bool (xI r))∧Below w.heap.size w w':=by
 have Hl:=hid hl
 clear hl
 unfold maxLen at hm
 go_enter Tryz.func39,Tryz.ntmps39
 go_wp2
 generalize hg:w.heap.size=g at *
 go_loopw [8] (fun i wr=>∃ k:Nat,k≤r.length∧i=.int .i64 k∧XX r k=true∧wr.ownsRow g 137 1 (.slice (some ⟨g,0,none⟩) 10 10) 10 (VK (r.take k))∧Below g w wr∧g < wr.heap.size) (fun i _=>r.length - (intOf i).toNat)
 case atStart =>
  refine ⟨0,Nat.zero_le _,rfl,rfl,?_,?_,?_⟩
  ·have:=World.ownsRow_lit (base:=w.heap.size) (e:=137) (size:=1) w #[.bool false,.bool false,.bool false,.bool false,.bool false,.bool false,.bool false,.bool false,.bool false,.bool false] 10 (Nat.le_refl _) (by decide) rfl
   rw [hg] at this
   exact this
  ·rw [← hg];exact (Below.refl _ _).alloc (Nat.le_refl _) _
  ·rw [← hg];simp
 case round =>
  obtain ⟨k,hkl,rfl,hall,hown,hB,hG⟩:=hrel
  have Hall:=hid hall
  clear hall
  by_cases hlt:k < r.length
  ·obtain ⟨b,off,rfl,hbw,hcell⟩:=(Hl.out.later (by rw [hg];exact hB)).at_ (List.ne_nil_of_length_pos (by omega))
   obtain ⟨g1,g2⟩:=hcell k hlt
   clear hcell
   obtain ⟨ok1,ok2⟩:=Hl.out.ok r[k] (List.getElem_mem hlt)
   unfold maxLen at ok1
   have HT:=hid (DL hlt Hall.out)
   have HN:=hid (Pz (r:=r) hlt)
   have HF:=hid (FG (c:=r[k]))
   have hki:(k:Int) < (r.length:Int):=by omega
   have HSS:=hid (fun (m:Nat)=>TK (r:=r) (k:=k) (m:=m) hlt)
   have HKE:Hid (Xh r[k]=((decide (1≤(r[k]).number) && decide ((r[k]).number≤9)) && decide ((r[k]).secret.length=8))):=rfl
   have hob:=hown.alloc (.cells #[.int .i64 (r[k]).number,strB (r[k]).secret] 68)
   have HBb:=hid (hB.alloc (Nat.le_of_lt hG) (.cells #[.int .i64 (r[k]).number,strB (r[k]).secret] 68))
   have Hown0:=hid hown
   have HB0:=hid hB
   clear hown hB
   by_cases hr1:1≤(r[k]).number∧(r[k]).number≤9
   ·obtain ⟨m,hm1⟩:∃ m:Nat,(r[k]).number=(m:Int):=⟨(r[k]).number.toNat,by omega⟩
    have hm10:m < 10:=by omega
    have hmi:(m:Int) < 10:=by omega
    have hcm:=hob.cellAt m (by omega)
    rw [Ra _ m hm10] at hcm
    have hfm:=hob.frozenAt m
    have HSt:=hid ((Hown0.out.stored m (.bool true)).1.alloc (.cells #[.int .i64 (r[k]).number,strB (r[k]).secret] 68))
    have HB2:=hid ((HB0.out.setCell (p:=⟨g,m,none⟩) (Nat.le_refl _) (.bool true)).alloc (by simp;omega) (.cells #[.int .i64 (r[k]).number,strB (r[k]).secret] 68))
    rw [hm1] at g1 HBb HSt hcm hfm HKE HB2
    have HSS2:=hid (HSS.out m hm1 hm10)
    have HNm:Hid (jw (r.take k) (r[k]).number=jw (r.take k) (m:Int)):=by rw [hm1];rfl
    rw [HNm.out] at HT HN
    have hkt:(decide ((1:Int)≤(m:Int)) && decide ((m:Int)≤9))=true:=by simp;omega
    clear hr1 HF HSS hm1 hob HNm ok2
    go_wp2_with fail
    refine (Kh (m:Int) _).mono ?_
    rintro e w5 ⟨rfl,rfl⟩
    rw [hkt]
    cases hx:jw (r.take k) (m:Int) with
    | true =>
     rw [hx] at HN hcm
     clear hx
     go_wp2
     go_ret
     exact ⟨qc (HN.out (by simp)).symm,by rw [hg];exact HBb.out⟩
    | false =>
     rw [hx] at HN hcm HT
     clear hx
     by_cases h8:(r[k]).secret.length=8
     ·have q3:(((r[k]).secret.length:Int) != 8)=false:=by simp;omega
      have HT2:Hid (XX r (k+1)=true):=by
       show _=_
       rw [HT.out,HKE.out,hkt,decide_eq_true h8];rfl
      clear h8 HT HKE HN
      go_wp2
      go_roundw
      case rel=>exact ⟨k+1,by omega,by go_num,HT2.out,by rw [← HSS2.out];exact HSt.out,HB2.out,by simp;omega⟩
      case measure=>simp [intOf];omega
     ·have q3:(((r[k]).secret.length:Int) != 8)=true:=by simp;omega
      have HF2:Hid (Xh r[k]=false):=by show _=_;rw [HKE.out,decide_eq_false h8,Bool.and_false]
      clear h8 HT HKE
      go_wp2
      go_ret
      exact ⟨qc (HN.out (by rw [HF2.out];rfl)).symm,by rw [hg];exact HBb.out⟩
   ·have hkt:(decide (1≤(r[k]).number) && decide ((r[k]).number≤9))=false:=by
     simp only [Bool.and_eq_false_iff,decide_eq_false_iff_not];omega
    have HF2:Hid (Xh r[k]=false):=by show _=_;rw [HKE.out,hkt];rfl
    clear hr1 HKE HT HF hob
    generalize hnn:(r[k]).number=nn at *
    have Hnn:=hid hnn
    clear hnn
    go_wp2_with fail
    refine (Kh nn _).mono ?_
    rintro e w5 ⟨rfl,rfl⟩
    rw [hkt]
    clear hkt
    go_wp2
    go_ret
    exact ⟨qc (HN.out (by rw [HF2.out];rfl)).symm,by rw [hg];exact HBb.out⟩
  ·have hke:k=r.length:=by omega
   subst hke
   go_wp2
   go_ret
   exact ⟨qc Hall.out.symm,by rw [hg];exact hB⟩
def KV (t:List ColB) (r:List KeyB) (k:Nat):Bool:=(t.take k).all fun c=>decide (c.key=0) || jw r c.key
theorem Cz {t:List ColB} {r:List KeyB} {k:Nat} (hk:k < t.length):KV t r (k+1)=(KV t r k && (decide ((t[k]).key=0) || jw r (t[k]).key)):=by
 unfold KV
 rw [List.take_succ_eq_append_getElem hk,List.all_append]
 simp
theorem CK {j:JobB} {r:List KeyB} (h:xy j.table=true):(KV j.table r j.table.length && jw r j.plan.foot)=!KC j r:=by
 have hk:∀ c ∈ j.table,0≤c.key:=by
  intro c hc
  obtain ⟨k,hk,rfl⟩:=List.mem_iff_getElem.1 hc
  simp only [xy,jX,Bool.and_eq_true] at h
  exact (Qi (JF h.1.1 (Nat.le_refl _) k hk).1).2.2.1
 apply Tj
 simp only [KV,KC,List.take_length,Bool.and_eq_true,List.all_eq_true,Bool.or_eq_true,decide_eq_true_eq,Bool.not_or,Bool.not_not,Bool.not_eq_true',List.any_eq_false,Bool.not_eq_true]
 constructor
 ·rintro ⟨h1,h2⟩
  refine ⟨h2,fun c hc hn=>?_⟩
  rcases h1 c hc with h|h
  ·omega
  ·rw [h] at hn;simp at hn
 ·rintro ⟨h1,h2⟩
  refine ⟨fun c hc=>?_,h1⟩
  have:=h2 c hc
  have h0:=hk c hc
  by_cases hz:c.key=0
  ·exact .inl hz
  ·right
   cases hn:jw r c.key with
   | true=>rfl
   | false=>exact absurd ⟨by omega,hn⟩ this
end
end Go.Proofs.YthhpbhpfagoapabGreat
