import Derived.Test.YthhpbhpfagoapaaGreatWBounds
import Derived.Test.YthhpbhpfagoapaaGreatJAM
import Derived.Test.YthhpbhpfagoapaaGreatJAQ
import Derived.Test.YthhpbhpfagoapaaGreatWFoot
namespace Go.Proofs.YthhpbhpfagoapaaGreat
set_option linter.unusedVariables false
set_option linter.unusedSimpArgs false
set_option maxRecDepth 100000
set_option maxHeartbeats 16000000
open Go.RowKit
section
theorem NE (a:Option Addr) (cap:Nat) (r:List KeyB) (n:Int) (w:World) (hm:r.length≤maxLen) (hl:LiesK w a r) :
  Calls Tryz.prog 162 #[.slice a r.length cap,.int .i64 n] w fun e w'=>e=.returned (.tuple #[strB (jm r n),.bool (jA r n)])∧Below w.heap.size w w':=by
 have Hl:=hid hl
 clear hl
 unfold maxLen at hm
 go_enter Tryz.func162,Tryz.ntmps162
 go_wp2
 go_loopw [10] (fun i wr=>∃ k:Nat,k≤r.length∧i=.int .i64 k∧jA (r.take k) n=false∧Below w.heap.size w wr) (fun i _=>r.length - (intOf i).toNat)
 case atStart=>exact ⟨0,Nat.zero_le _,rfl,rfl,Below.refl _ _⟩
 case round =>
  obtain ⟨k,hkl,rfl,hno,hB⟩:=hrel
  have Hno:=hid hno
  clear hno
  by_cases hlt:k < r.length
  ·obtain ⟨b,off,rfl,hbw,hcell⟩:=(Hl.out.later hB).at_ (List.ne_nil_of_length_pos (by omega))
   obtain ⟨g1,g2⟩:=hcell k hlt
   clear hcell
   have hki:(k:Int) < (r.length:Int):=by omega
   have HB1:=hid (hB.alloc hB.size (Obj.cells #[.int .i64 (r[k]).number,strB (r[k]).secret] 63))
   by_cases he:(r[k]).number=n
   ·have HF:=hid (DG hlt Hno.out he)
    have HH:Hid (jA r n=true):=by
     simp only [Hid,jA,List.any_eq_true]
     exact ⟨r[k],List.getElem_mem hlt,by simp [he]⟩
    rw [he] at g1 HB1
    clear he
    go_wp2
    go_ret2
    exact ⟨by rw [jm,HF.out,HH.out];rfl,HB1.out⟩
   ·have hne:((r[k]).number == n)=false:=by simpa using he
    have He:=hid he
    have HS:=hid (XO (r:=r) (k:=r.length) (m:=k) hlt hlt n)
    rw [List.take_length] at HS
    clear he
    go_wp2
    go_roundw
    case rel=>exact ⟨k+1,by omega,by go_num,by rw [HS.out,Hno.out];simp [He.out],HB1.out⟩
    case measure=>simp [intOf];omega
  ·have HN:Hid (jA r n=false):=by have:=Hno.out;rw [List.take_of_length_le (by omega)] at this;exact this
   go_wp2
   go_ret2
   exact ⟨by rw [jm,Vl HN.out,HN.out];rfl,hB⟩
def UY (r:List KeyB):List Value:=(List.range 10).map fun (n:Nat)=>Value.bool (jA r (n:Int))
theorem VB (r:List KeyB):(UY r).length=10:=by simp [UY]
theorem Nu (r:List KeyB) (m:Nat) (hm:m < 10):(UY r)[m]?=some (.bool (jA r (m:Int))):=by simp [UY,hm]
theorem Md {r:List KeyB} {k m:Nat} (hk:k < r.length) (hm:(r[k]).number=(m:Int)) (h10:m < 10):(UY (r.take k)).set m (.bool true)=UY (r.take (k+1)):=by
 apply List.ext_getElem?
 intro i
 have e:∀ n:Int,jA (r.take (k+1)) n=(jA (r.take k) n || decide ((r[k]).number=n)):=by
  intro n
  have:=XO (r:=r) (k:=r.length) (m:=k) hk hk n
  rw [List.take_length] at this
  exact this
 rw [List.getElem?_set]
 by_cases hi:i < 10
 ·rw [Nu _ i hi,Nu _ i hi,VB,e,hm]
  by_cases hmi:m=i
  ·subst hmi;simp [h10]
  ·have:¬ ((m:Int)=(i:Int)):=by omega
   simp [hmi,this]
 ·have h1:(UY (r.take k))[i]?=none:=List.getElem?_eq_none (by rw [VB];omega)
  have h2:(UY (r.take (k+1)))[i]?=none:=List.getElem?_eq_none (by rw [VB];omega)
  rw [h1,h2,if_neg (by omega)]
theorem Ar (a:Option Addr) (cap:Nat) (r:List KeyB) (w:World) (hm:r.length≤maxLen) (hl:LiesK w a r) :
  Calls Tryz.prog 95 #[.slice a r.length cap] w fun e w'=>e=.returned (.bool (xX r))∧Below w.heap.size w w':=by
 have Hl:=hid hl
 clear hl
 unfold maxLen at hm
 go_enter Tryz.func95,Tryz.ntmps95
 go_wp2
 generalize hg:w.heap.size=g at *
 go_loopw [8] (fun i wr=>∃ k:Nat,k≤r.length∧i=.int .i64 k∧Xe r k=true∧wr.ownsRow g 247 1 (.slice (some ⟨g,0,none⟩) 10 10) 10 (UY (r.take k))∧Below g w wr∧g < wr.heap.size) (fun i _=>r.length - (intOf i).toNat)
 case atStart =>
  refine ⟨0,Nat.zero_le _,rfl,rfl,?_,?_,?_⟩
  ·have:=World.ownsRow_lit (base:=w.heap.size) (e:=247) (size:=1) w #[.bool false,.bool false,.bool false,.bool false,.bool false,.bool false,.bool false,.bool false,.bool false,.bool false] 10 (Nat.le_refl _) (by decide) rfl
   rw [hg] at this
   exact this
  ·rw [← hg];exact (Below.refl _ _).alloc (Nat.le_refl _) _
  ·rw [← hg];simp
 case round =>
  obtain ⟨k,hkl,rfl,hall,hown,hB,hG⟩:=hrel
  have Hall:=hid hall
  clear hall
  by_cases hlt:k < r.length
  ·obtain ⟨b,off,rfl,hbw,hcell⟩:=(Hl.out.later (by rw [hg];exact hB)).at_ (List.ne_nil_of_length_pos (by omega))
   obtain ⟨g1,g2⟩:=hcell k hlt
   clear hcell
   obtain ⟨ok1,ok2⟩:=Hl.out.ok r[k] (List.getElem_mem hlt)
   unfold maxLen at ok1
   have HT:=hid (VQ hlt Hall.out)
   have HN:=hid (Yb (r:=r) hlt)
   have HF:=hid (PG (c:=r[k]))
   have hki:(k:Int) < (r.length:Int):=by omega
   have HSS:=hid (fun (m:Nat)=>Md (r:=r) (k:=k) (m:=m) hlt)
   have HKE:Hid (Xf r[k]=((decide (1≤(r[k]).number) && decide ((r[k]).number≤9)) && decide ((r[k]).secret.length=8))):=rfl
   have hob:=hown.alloc (.cells #[.int .i64 (r[k]).number,strB (r[k]).secret] 63)
   have HBb:=hid (hB.alloc (Nat.le_of_lt hG) (.cells #[.int .i64 (r[k]).number,strB (r[k]).secret] 63))
   have Hown0:=hid hown
   have HB0:=hid hB
   clear hown hB
   by_cases hr1:1≤(r[k]).number∧(r[k]).number≤9
   ·obtain ⟨m,hm1⟩:∃ m:Nat,(r[k]).number=(m:Int):=⟨(r[k]).number.toNat,by omega⟩
    have hm10:m < 10:=by omega
    have hmi:(m:Int) < 10:=by omega
    have hcm:=hob.cellAt m (by omega)
    rw [Nu _ m hm10] at hcm
    have hfm:=hob.frozenAt m
    have HSt:=hid ((Hown0.out.stored m (.bool true)).1.alloc (.cells #[.int .i64 (r[k]).number,strB (r[k]).secret] 63))
    have HB2:=hid ((HB0.out.setCell (p:=⟨g,m,none⟩) (Nat.le_refl _) (.bool true)).alloc (by simp;omega) (.cells #[.int .i64 (r[k]).number,strB (r[k]).secret] 63))
    rw [hm1] at g1 HBb HSt hcm hfm HKE HB2
    have HSS2:=hid (HSS.out m hm1 hm10)
    have HNm:Hid (jA (r.take k) (r[k]).number=jA (r.take k) (m:Int)):=by rw [hm1];rfl
    rw [HNm.out] at HT HN
    have hkt:(decide ((1:Int)≤(m:Int)) && decide ((m:Int)≤9))=true:=by simp;omega
    clear hr1 HF HSS hm1 hob HNm ok2
    go_wp2_with fail
    refine (Zt (m:Int) _).mono ?_
    rintro e w5 ⟨rfl,rfl⟩
    rw [hkt]
    cases hx:jA (r.take k) (m:Int) with
    | true =>
     rw [hx] at HN hcm
     clear hx
     go_wp2
     go_ret
     exact ⟨jI (HN.out (by simp)).symm,by rw [hg];exact HBb.out⟩
    | false =>
     rw [hx] at HN hcm HT
     clear hx
     by_cases h8:(r[k]).secret.length=8
     ·have q3:(((r[k]).secret.length:Int) != 8)=false:=by simp;omega
      have HT2:Hid (Xe r (k+1)=true):=by
       show _=_
       rw [HT.out,HKE.out,hkt,decide_eq_true h8];rfl
      clear h8 HT HKE HN
      go_wp2
      go_roundw
      case rel=>exact ⟨k+1,by omega,by go_num,HT2.out,by rw [← HSS2.out];exact HSt.out,HB2.out,by simp;omega⟩
      case measure=>simp [intOf];omega
     ·have q3:(((r[k]).secret.length:Int) != 8)=true:=by simp;omega
      have HF2:Hid (Xf r[k]=false):=by show _=_;rw [HKE.out,decide_eq_false h8,Bool.and_false]
      clear h8 HT HKE
      go_wp2
      go_ret
      exact ⟨jI (HN.out (by rw [HF2.out];rfl)).symm,by rw [hg];exact HBb.out⟩
   ·have hkt:(decide (1≤(r[k]).number) && decide ((r[k]).number≤9))=false:=by
     simp only [Bool.and_eq_false_iff,decide_eq_false_iff_not];omega
    have HF2:Hid (Xf r[k]=false):=by show _=_;rw [HKE.out,hkt];rfl
    clear hr1 HKE HT HF hob
    generalize hnn:(r[k]).number=nn at *
    have Hnn:=hid hnn
    clear hnn
    go_wp2_with fail
    refine (Zt nn _).mono ?_
    rintro e w5 ⟨rfl,rfl⟩
    rw [hkt]
    clear hkt
    go_wp2
    go_ret
    exact ⟨jI (HN.out (by rw [HF2.out];rfl)).symm,by rw [hg];exact HBb.out⟩
  ·have hke:k=r.length:=by omega
   subst hke
   go_wp2
   go_ret
   exact ⟨jI Hall.out.symm,by rw [hg];exact hB⟩
end
section
theorem jg {w w':World} {B p:Nat} (h:w.grownBy w' (some p)) (hp:B≤p) (hB:B≤w.heap.size):Below B w w' :=
 ⟨h.os,h.tape,h.output,h.size,fun k hk=>h.block k (by omega) (fun e=>by cases e;omega)⟩
theorem XG (s:List UInt8) (w:World) :
  Calls Tryz.prog 157 #[strB s] w fun e w'=>e=.returned (.pointer (some ⟨w.heap.size,0,none⟩))∧qp w' w.heap.size s s∧Below w.heap.size w w':=by
 go_enter Tryz.func157,Tryz.ntmps157
 go_wp2
 go_ret
 exact ⟨rfl,⟨0,heap_alloc_new w _,Nat.zero_le _,rfl⟩,(Below.refl _ _).alloc (Nat.le_refl _) _⟩
theorem Gy {a b:List UInt8} (h:a≠b):(a == b)=false:=by simp [h]
theorem IS (p:Nat) (s rest:List UInt8) (w:World) (hs:s.length≤maxLen) (hp:qp w p s rest) :
  Calls Tryz.prog 156 #[.pointer (some ⟨p,0,none⟩)] w (Ul (fun n:Nat=>n≤65535) (fun n=>qv (n:Int)++[67,70]) (fun n=>.int .i64 (n:Int)) p s rest w):=by
 have Hs:=hid hs
 have Hp:=hid hp
 clear hs hp
 go_enter Tryz.func156,Tryz.ntmps156
 go_wp2_with fail
 refine (UN p s rest w Hs.out Hp.out).mono ?_
 rintro e w1 ⟨hg1,⟨hr,rfl⟩|⟨a,b,r,hr,rfl,hp1⟩⟩
 ·have HN:Hid (∀ (n:Nat) q,n≤65535→rest≠(qv (n:Int)++[67,70])++q):=by
   rintro n q hn rfl
   simp only [List.length_append,jB] at hr
   omega
  have HG:=hid hg1
  clear hr hg1
  go_wp2
  exact ⟨rfl,HG.out,.inl ⟨rfl,HN.out⟩⟩
 ·have HG1:=hid hg1
  have Hp1:=hid hp1
  have hab:a.toNat+256*b.toNat≤65535:=by have:=a.toNat_lt;have:=b.toNat_lt;omega
  have HX:Hid (∀ (n:Nat) q,n≤65535→rest=(qv (n:Int)++[67,70])++q→r.take 2=[67,70]):=by
   intro n q hn h
   rw [hr,List.append_assoc] at h
   have h':[a,b]++r=qv (n:Int)++([67,70]++q):=h
   obtain ⟨_,h2⟩:=List.append_inj h' (by rw [jB];rfl)
   rw [h2];rfl
  have HY:Hid (r.take 2=[67,70]→rest=(qv ((a.toNat+256*b.toNat:Nat):Int)++[67,70])++r.drop 2):=by
   intro h
   rw [XK,hr,← h,List.append_assoc,List.take_append_drop]
   rfl
  clear hr hg1 hp1
  generalize a.toNat+256*b.toNat=n at *
  go_wp2_with fail
  refine (Jf p s r 2 w1 Hs.out (by omega) Hp1.out).mono ?_
  rintro e w2 ⟨hg2,⟨hlt,rfl⟩|⟨hle,rfl,hp2⟩⟩
  ·have HG2:=hid (ja HG1.out hg2)
   have HN:Hid (∀ (n:Nat) q,n≤65535→rest≠(qv (n:Int)++[67,70])++q):=by
    intro n q hn h
    have:=congrArg List.length (HX.out n q hn h)
    rw [List.length_take] at this
    simp at this
    omega
   clear hg2
   go_wp2
   exact ⟨rfl,HG2.out,.inl ⟨rfl,HN.out⟩⟩
  ·have HG2:=hid (ja HG1.out hg2)
   have Hp2:=hid hp2
   clear hg2 hp2
   generalize r.take 2=T at *
   by_cases hT:T=[67,70]
   ·have HY2:=hid (HY.out hT)
    subst hT
    go_wp2_with fail
    refine (jX _).mono ?_
    rintro e w3 ⟨rfl,rfl⟩
    go_wp2
    go_ret
    exact ⟨HG2.out,.inr ⟨n,_,hab,rfl,Hp2.out,HY2.out⟩⟩
   ·have hne:=Gy hT
    go_wp2_with fail
    refine (qM _).mono ?_
    rintro e w3 ⟨rfl,rfl⟩
    have HN:Hid (∀ (n:Nat) q,n≤65535→rest≠(qv (n:Int)++[67,70])++q):=fun n q hn h=>hT (HX.out n q hn h)
    clear hne
    go_wp2
    exact ⟨rfl,HG2.out,.inl ⟨rfl,HN.out⟩⟩
def Qv (told:Bool) (ft:Nat):List UInt8:=[67,70]++[if told=true then 79 else 69]++[byB (ft:Int)]
theorem PT {w:World} {q:Nat} {c0 c1 c2 c3 c4 c5 c6 c7 c8 c9 v:Value} {t:TypeId} (h:w.heap[q]?=some (.cells #[c0,c1,c2,c3,c4,c5,c6,c7,c8,c9] t (0,0))):(w.setCell ⟨q,0,none⟩ v).heap[q]?=some (.cells #[v,c1,c2,c3,c4,c5,c6,c7,c8,c9] t (0,0)):=by
 rw [heap_setCell_same w q 0 _ t v h];rfl
theorem Sr {w:World} {q:Nat} {c0 c1 c2 c3 c4 c5 c6 c7 c8 c9 v:Value} {t:TypeId} (h:w.heap[q]?=some (.cells #[c0,c1,c2,c3,c4,c5,c6,c7,c8,c9] t (0,0))):(w.setCell ⟨q,1,none⟩ v).heap[q]?=some (.cells #[c0,v,c2,c3,c4,c5,c6,c7,c8,c9] t (0,0)):=by
 rw [heap_setCell_same w q 1 _ t v h];rfl
theorem PO {w:World} {q:Nat} {c0 c1 c2 c3 c4 c5 c6 c7 c8 c9 v:Value} {t:TypeId} (h:w.heap[q]?=some (.cells #[c0,c1,c2,c3,c4,c5,c6,c7,c8,c9] t (0,0))):(w.setCell ⟨q,2,none⟩ v).heap[q]?=some (.cells #[c0,c1,v,c3,c4,c5,c6,c7,c8,c9] t (0,0)):=by
 rw [heap_setCell_same w q 2 _ t v h];rfl
theorem qn (w:World) (q i:Nat) (v:Value):w.grownBy (w.setCell ⟨q,i,none⟩ v) (some q) :=
 ⟨rfl,rfl,rfl,by simp,fun k _ hk=>heap_setCell_other w ⟨q,i,none⟩ k v (fun e=>hk (by simp [e]))⟩
theorem xg {w:World} {q:Nat} {c0 c1 c2 c3 c4 c5 c6 c7 c8 c9:Value} {t:TypeId} (h:w.heap[q]?=some (.cells #[c0,c1,c2,c3,c4,c5,c6,c7,c8,c9] t (0,0))) :
  (w.cell? ⟨q,0,none⟩=some c0∧w.cell? ⟨q,1,none⟩=some c1∧w.cell? ⟨q,2,none⟩=some c2∧w.cell? ⟨q,3,none⟩=some c3∧w.cell? ⟨q,4,none⟩=some c4∧w.cell? ⟨q,5,none⟩=some c5∧w.cell? ⟨q,6,none⟩=some c6∧w.cell? ⟨q,7,none⟩=some c7∧w.cell? ⟨q,8,none⟩=some c8∧w.cell? ⟨q,9,none⟩=some c9)∧(∀ j,w.frozen? ⟨q,j,none⟩=false) :=
 ⟨⟨by rw [jd h];rfl,by rw [jd h];rfl,by rw [jd h];rfl,by rw [jd h];rfl,by rw [jd h];rfl,by rw [jd h];rfl,by rw [jd h];rfl,by rw [jd h];rfl,by rw [jd h];rfl,by rw [jd h];rfl⟩,
  fun j=>frozen_of_row w q j _ t h⟩
theorem YB (p q B:Nat) (s rest:List UInt8) (c0 c1 c2 c3 c4 c5 c6 c7 c8 c9:Value) (w:World) (hs:s.length≤maxLen) (hp:qp w p s rest) (hq:w.heap[q]?=some (.cells #[c0,c1,c2,c3,c4,c5,c6,c7,c8,c9] 115 (0,0))) (hpq:p≠q) (hBp:B≤p) (hBq:B≤q) :
  Calls Tryz.prog 158 #[.pointer (some ⟨q,0,none⟩),.pointer (some ⟨p,0,none⟩)] w fun e w'=>Below B w w'∧((e=gaveUp∧∀ (told:Bool) (ft:Nat) (r:List UInt8),1≤ft→ft≤9→rest≠Qv told ft++r) ∨
   ∃ (told:Bool) (ft:Nat) (r:List UInt8),1≤ft∧ft≤9∧e=.returned (.tuple #[])∧rest=Qv told ft++r∧w'.heap[q]?=some (.cells #[.int .i64 (ft:Int),.bool told,c2,c3,c4,c5,c6,c7,c8,c9] 115 (0,0))):=by
 have Hs:=hid hs
 have Hp:=hid hp
 have Hq:=hid hq
 have hplt:=xh hp
 have hqlt:=(Array.getElem?_eq_some_iff.1 hq).1
 have HX:Hid (∀ (told:Bool) (ft:Nat) (r:List UInt8),1≤ft→ft≤9→rest=Qv told ft++r→rest.take 2=[67,70]∧(rest.drop 2).take 1=[if told=true then 79 else 69]∧(rest.drop 2).drop 1=byB (ft:Int) :: r):=by
  rintro told ft r h1 h9 rfl
  exact ⟨rfl,rfl,rfl⟩
 clear hs hp hq
 go_enter Tryz.func158,Tryz.ntmps158
 go_wp2_with fail
 refine (Jf p s rest 2 w Hs.out (by omega) Hp.out).mono ?_
 rintro e w1 ⟨hg1,⟨hlt,rfl⟩|⟨hle,rfl,hp1⟩⟩
 ·have HB:=hid (jg hg1 hBp (by omega))
  clear hg1
  go_wp2
  exact ⟨rfl,HB.out,.inl ⟨rfl,fun told ft r h1 h9 h=>by
   have:=congrArg List.length (HX.out told ft r h1 h9 h).1
   rw [List.length_take] at this
   simp at this
   omega⟩⟩
 have HB1:=hid (jg hg1 hBp (by omega))
 have Hq1:=hid (jf hg1 Hq.out (Ne.symm hpq))
 have Hp1:=hid hp1
 have hs1:=hg1.size
 clear hg1 hp1
 have HT0:Hid (rest.take 2=rest.take 2):=rfl
 generalize hT:rest.take 2=T at *
 have HT:=hid hT
 clear hT HT0
 by_cases hT2:T≠[67,70]
 ·have hne:=Gy hT2
  go_wp2_with fail
  refine (qM _).mono ?_
  rintro e w2 ⟨rfl,rfl⟩
  clear hne
  go_wp2
  exact ⟨rfl,HB1.out,.inl ⟨rfl,fun told ft r h1 h9 h=>hT2 (HX.out told ft r h1 h9 h).1⟩⟩
 have hT3:=Decidable.not_not.1 hT2
 clear hT2
 subst hT3
 go_wp2_with fail
 refine (jX _).mono ?_
 rintro e w2 ⟨rfl,rfl⟩
 go_wp2_with fail
 refine (Jf p s (rest.drop 2) 1 w2 Hs.out (by omega) Hp1.out).mono ?_
 rintro e w3 ⟨hg3,⟨hlt,rfl⟩|⟨hle3,rfl,hp3⟩⟩
 ·have HB3:=hid (HB1.out.trans (jg hg3 hBp (by omega)))
  clear hg3
  go_wp2
  exact ⟨rfl,HB3.out,.inl ⟨rfl,fun told ft r h1 h9 h=>by
   have:=congrArg List.length (HX.out told ft r h1 h9 h).2.1
   rw [List.length_take] at this
   simp only [List.length_cons,List.length_nil] at this
   omega⟩⟩
 have HB3:=hid (HB1.out.trans (jg hg3 hBp (by omega)))
 have Hq3:=hid (jf hg3 Hq1.out (Ne.symm hpq))
 have Hp3:=hid hp3
 have hs3:=hg3.size
 clear hg3 hp3
 generalize hU:(rest.drop 2).take 1=U at *
 have HU:=hid hU
 clear hU
 have fin:∀ (told:Bool),U=[if told=true then 79 else 69]→U≠[]:=fun told h=>by rw [h];simp
 by_cases hO:¬ ∃ told:Bool,U=[if told=true then 79 else 69]
 ·have n1:=Gy (show U≠[79] from fun h=>hO ⟨true,h⟩)
  have n2:=Gy (show U≠[69] from fun h=>hO ⟨false,h⟩)
  go_wp2_with fail
  refine (qM _).mono ?_
  rintro e w4 ⟨rfl,rfl⟩
  clear n1 n2
  go_wp2
  exact ⟨rfl,HB3.out,.inl ⟨rfl,fun told ft r h1 h9 h=>hO ⟨told,(HX.out told ft r h1 h9 h).2.1⟩⟩⟩
 obtain ⟨told,hUt⟩:=Classical.not_not.1 hO
 have HUt:=hid hUt
 have hU1:(U == [79])=told:=by rw [hUt];cases told<;>decide
 have hU2:told=false→(U == [69])=true:=by rintro rfl;rw [hUt];decide
 clear fin hUt hO
 obtain ⟨⟨q0,q1,q2,q3,q4,q5,q6,q7,q8,q9⟩,cf⟩:=xg Hq3.out
 have f1:=cf 1
 clear cf
 have hs4:q < w3.heap.size:=(Array.getElem?_eq_some_iff.1 Hq3.out).1
 have step:∀ w4:World,w4=w3.setCell ⟨q,1,none⟩ (.bool told)→qp w4 p s ((rest.drop 2).drop 1)∧w4.heap[q]?=some (.cells #[c0,.bool told,c2,c3,c4,c5,c6,c7,c8,c9] 115 (0,0))∧Below B w w4∧w4.heap.size=w3.heap.size:=by
  rintro w4 rfl
  exact ⟨zD Hp3.out (qn w3 q 1 _) hpq,Sr Hq3.out,HB3.out.trans (jg (qn w3 q 1 _) hBq (by omega)),by simp⟩
 have HST:=hid step
 clear step
 cases told
 all_goals
  (try have hU3:=hU2 rfl)
  go_wp2_with fail
  refine (jX _).mono ?_
  rintro e w4 ⟨rfl,rfl⟩
  go_wp2_with fail
  obtain ⟨hp5,hq5,hB5,hz5⟩:=HST.out _ rfl
  generalize w4.setCell _ _=w5 at *
  have Hq5:=hid hq5
  have HB5:=hid hB5
  clear q0 q1 q2 q3 q4 q5 q6 q7 q8 q9 f1 hq5 hB5 HST
  refine (XI p s _ w5 Hs.out hp5).mono ?_
  rintro e w6 ⟨hg6,⟨hr,rfl⟩|⟨c,r,hr,rfl,hp6⟩⟩
  ·have HB6:=hid (HB5.out.trans (jg hg6 hBp (by omega)))
   have Hr:=hid hr
   clear hg6 hr
   go_wp2
   exact ⟨rfl,HB6.out,.inl ⟨rfl,fun told ft r h1 h9 h=>by
    have:=(HX.out told ft r h1 h9 h).2.2
    rw [Hr.out] at this
    cases this⟩⟩
  have Hr:=hid hr
  have Hq6:=hid (jf hg6 Hq5.out (Ne.symm hpq))
  have HB6:=hid (HB5.out.trans (jg hg6 hBp (by omega)))
  have lc:=c.toNat_lt
  have hwc:IntKind.i64.wrap (c.toNat:Int)=(c.toNat:Int):=IntWalk.i64_in _ ⟨by omega,by omega⟩
  have hs6:=hg6.size
  clear hg6 hp6 hr
  obtain ⟨⟨q0,q1,q2,q3,q4,q5,q6,q7,q8,q9⟩,cf⟩:=xg Hq6.out
  have f0:=cf 0
  clear cf
  go_wp2_with fail
  have Hq7:=hid (PT (v:=.int .i64 (c.toNat:Int)) Hq6.out)
  have HB7:=hid (HB6.out.trans (jg (qn w6 q 0 (.int .i64 (c.toNat:Int))) hBq (by omega)))
  refine (Zt _ _).mono ?_
  rintro e w7 ⟨rfl,rfl⟩
  clear q0 q1 q2 q3 q4 q5 q6 q7 q8 q9 f0
  generalize w6.setCell _ _=w7 at *
  by_cases hk:1≤c.toNat∧c.toNat≤9
  ·have hk2:(decide (1≤(c.toNat:Int)) && decide ((c.toNat:Int)≤9))=true:=by simp;omega
   rw [hk2]
   go_wp2_with fail
   refine (jX _).mono ?_
   rintro e w8 ⟨rfl,rfl⟩
   go_wp2
   go_end0
   refine ⟨HB7.out,.inr ⟨_,c.toNat,r,hk.1,hk.2,rfl,?_,Hq7.out⟩⟩
   have hby:byB (c.toNat:Int)=c:=UInt8.toNat_inj.1 (JL _ (by omega))
   rw [← List.take_append_drop 2 rest,HT.out,← List.take_append_drop 1 (rest.drop 2),HU.out,HUt.out,Hr.out]
   unfold Qv
   rw [hby]
   simp
  ·have hk2:(decide (1≤(c.toNat:Int)) && decide ((c.toNat:Int)≤9))=false:=by
    rw [Bool.and_eq_false_iff]
    simp only [decide_eq_false_iff_not]
    omega
   rw [hk2]
   go_wp2_with fail
   refine (qM _).mono ?_
   rintro e w8 ⟨rfl,rfl⟩
   go_wp2
   refine ⟨rfl,HB7.out,.inl ⟨rfl,fun told ft r2 h1 h9 h=>?_⟩⟩
   have:=(HX.out told ft r2 h1 h9 h).2.2
   rw [Hr.out] at this
   simp only [List.cons.injEq] at this
   have h2:=congrArg UInt8.toNat this.1
   rw [JL _ (by omega)] at h2
   omega
theorem AG {x y:NB} {r q:List UInt8} (hx:Jx x) (hy:Jx y) (h:xn x++r=xn y++q):x=y∧r=q:=by
 unfold xn at h
 simp only [List.append_assoc] at h
 obtain ⟨h1,h2⟩:=List.append_inj h (by rw [jB,jB])
 have hl:=Qt hx.2.2 hy.2.2 h1
 obtain ⟨h3,h4⟩:=List.append_inj h2 (by rw [hx.1,hy.1])
 obtain ⟨h5,h6⟩:=List.append_inj h4 hl
 exact ⟨Prod.ext h3 h5,h6⟩
def qU (told:Bool) (footer:List UInt8) (x:NB):List UInt8:=(if told=true then qv (footer.length:Int)++footer else [])++xn x
theorem Sl {w:World} {q:Nat} {c0 c1 c2 c3 c4 c5 c6 c7 c8 c9 v3 v4 v5 v6 v7 v8:Value} {t:TypeId} (h:w.heap[q]?=some (.cells #[c0,c1,c2,c3,c4,c5,c6,c7,c8,c9] t (0,0))):(w.setCells q 3 [v3,v4,v5,v6,v7,v8]).heap[q]?=some (.cells #[c0,c1,c2,v3,v4,v5,v6,v7,v8,c9] t (0,0)) :=
 Zb (w:=w) [v3,v4,v5,v6,v7,v8] [c0,c1,c2] [c9] [c3,c4,c5,c6,c7,c8] rfl h
def LN (B q ft:Nat) (told:Bool) (rest:List UInt8) (c9:Value) (w:World) (e:Ending) (w':World):Prop :=
 Below B w w'∧((e=gaveUp∧∀ (footer:List UInt8) (x:NB),(told=false→footer=[])→footer.length≤65535→Jx x→rest≠qU told footer x) ∨
   ∃ (footer:List UInt8) (x:NB),(told=false→footer=[])∧Jx x∧e=.returned (.tuple #[])∧rest=qU told footer x∧w'.heap[q]?=some (.cells #[.int .i64 (ft:Int),.bool told,strB footer,strB [if told=true then 83 else 70],.int .i64 0,.int .i64 0,.int .i64 0,strB x.1,strB x.2,c9] 115 (0,0)))
theorem YE (p q B ft:Nat) (told:Bool) (s rest:List UInt8) (c3 c4 c5 c6 c7 c8 c9:Value) (w:World) (hs:s.length≤maxLen) (hp:qp w p s rest) (hq:w.heap[q]?=some (.cells #[.int .i64 (ft:Int),.bool told,strB [],c3,c4,c5,c6,c7,c8,c9] 115 (0,0))) (hpq:p≠q) (hBp:B≤p) (hBq:B≤q) :
  Calls Tryz.prog 159 #[.pointer (some ⟨q,0,none⟩),.pointer (some ⟨p,0,none⟩)] w (LN B q ft told rest c9 w):=by
 have Hs:=hid hs
 have Hp:=hid hp
 have Hq:=hid hq
 have hplt:=xh hp
 have hqlt:=(Array.getElem?_eq_some_iff.1 hq).1
 clear hs hp hq
 obtain ⟨⟨q0,q1,q2,q3,q4,q5,q6,q7,q8,q9⟩,cf⟩:=xg Hq.out
 have f2:=cf 2
 clear cf
 go_enter Tryz.func159,Tryz.ntmps159
 cases told
 case' false =>
  have HBT:Hid (Below B w w):=Below.refl _ _
  have HXT:Hid (∀ (footer':List UInt8) (x:NB),(false=false→footer'=[])→footer'.length≤65535→Jx x→rest=qU false footer' x→rest=xn x):=by
   intro f' x hf _ hx h
   simpa [qU] using h
  have HYT:Hid (∀ x:NB,rest=xn x→rest=qU false [] x):=by
   intro x h
   simpa [qU] using h
  have HpT:=Hp
  have HqT:=Hq
  have hFN:false=false→([]:List UInt8)=[]:=fun _=>rfl
  have hTlt:=hplt
  have hTqlt:=hqlt
  clear q0 q2 q3 q4 q5 q6 q7 q8 q9 f2
  go_wp2_with fail
  clear q1
 case' true =>
  clear q0 q3 q4 q5 q6 q7 q8 q9
  go_wp2_with fail
  clear q1
  refine (UN p s rest w Hs.out Hp.out).mono ?_
  rintro e w1 ⟨hg1,⟨hr,rfl⟩|⟨a,b,r,hr,rfl,hp1⟩⟩
  ·have HN:Hid (∀ (footer:List UInt8) (x:NB),(true=false→footer=[])→footer.length≤65535→Jx x→rest≠qU true footer x):=by
    rintro f x _ _ _ rfl
    simp only [qU,if_true,List.length_append,jB] at hr
    omega
   have HB:=hid (jg hg1 hBp (by omega))
   clear hr hg1 q2 f2
   go_wp2
   exact ⟨rfl,HB.out,.inl ⟨rfl,HN.out⟩⟩
  have HB1:=hid (jg hg1 hBp (by omega))
  have Hq1:=hid (jf hg1 Hq.out (Ne.symm hpq))
  have Hp1:=hid hp1
  have hs1:=hg1.size
  have hab:a.toNat+256*b.toNat≤65535:=by have:=a.toNat_lt;have:=b.toNat_lt;omega
  have HX1:Hid (∀ (footer:List UInt8) (x:NB),footer.length≤65535→rest=qU true footer x→footer.length=a.toNat+256*b.toNat∧r=footer++xn x):=by
   intro f x hf h
   rw [hr] at h
   simp only [qU,if_true,List.append_assoc] at h
   have h':[a,b]++r=qv (f.length:Int)++(f++xn x):=h
   obtain ⟨h1,h2⟩:=List.append_inj h' (by rw [jB];rfl)
   rw [← XK a b] at h1
   exact ⟨(Qt (by omega) hf h1).symm,h2⟩
  have HY1:Hid (∀ (x:NB),a.toNat+256*b.toNat≤r.length→r.drop (a.toNat+256*b.toNat)=xn x→rest=qU true (r.take (a.toNat+256*b.toNat)) x):=by
   intro x hl h
   have hl2:(r.take (a.toNat+256*b.toNat)).length=a.toNat+256*b.toNat:=by rw [List.length_take];omega
   simp only [qU,if_true]
   rw [hl2,XK,← h,List.append_assoc,List.take_append_drop,hr]
   rfl
  clear hr hg1 hp1 q2 f2
  obtain ⟨⟨q0,q1,q2,q3,q4,q5,q6,q7,q8,q9⟩,cf⟩:=xg Hq1.out
  clear q0 q1 q2 q3 q4 q5 q6 q7 q8 q9 cf
  generalize a.toNat+256*b.toNat=n at *
  go_wp2_with fail
  refine (Jf p s r n w1 Hs.out (by omega) Hp1.out).mono ?_
  rintro e w2 ⟨hg2,⟨hlt,rfl⟩|⟨hle,rfl,hp2⟩⟩
  ·have HN:Hid (∀ (footer:List UInt8) (x:NB),(true=false→footer=[])→footer.length≤65535→Jx x→rest≠qU true footer x):=by
    intro f x _ hf _ h
    obtain ⟨h1,h2⟩:=HX1.out f x hf h
    rw [h2,List.length_append] at hlt
    omega
   have HB:=hid (HB1.out.trans (jg hg2 hBp (by omega)))
   clear hlt hg2
   go_wp2
   exact ⟨rfl,HB.out,.inl ⟨rfl,HN.out⟩⟩
  have HB2:=hid (HB1.out.trans (jg hg2 hBp (by omega)))
  have Hq2:=hid (jf hg2 Hq1.out (Ne.symm hpq))
  have Hp2:=hid hp2
  have hs2:=hg2.size
  clear hg2 hp2
  obtain ⟨⟨q0,q1,q2,q3,q4,q5,q6,q7,q8,q9⟩,cf⟩:=xg Hq2.out
  have f2:=cf 2
  clear q0 q1 q3 q4 q5 q6 q7 q8 q9 cf
  have HXT:Hid (∀ (footer':List UInt8) (x:NB),(true=false→footer'=[])→footer'.length≤65535→Jx x→rest=qU true footer' x→r.drop n=xn x):=by
   intro f' x _ hf hx h
   obtain ⟨h1,h2⟩:=HX1.out f' x hf h
   rw [h2,← h1,List.drop_left]
  have HYT:Hid (∀ x:NB,r.drop n=xn x→rest=qU true (r.take n) x):=fun x h=>HY1.out x hle h
  have hFN:true=false→r.take n=[]:=fun h=>by cases h
  clear HX1 HY1
  generalize r.take n=F at *
  generalize r.drop n=r1 at *
  have HqT:=hid (PO (v:=strB F) Hq2.out)
  have HBT:=hid (HB2.out.trans (jg (qn w2 q 2 (strB F)) hBq (by omega)))
  have HpT:=hid (zD Hp2.out (qn w2 q 2 (strB F)) hpq)
  go_wp2_with fail
  clear q2 f2
  generalize w2.setCell _ _=w3 at *
  have hTlt:=xh HpT.out
  have hTqlt:=(Array.getElem?_eq_some_iff.1 HqT.out).1
 all_goals
  refine (Ky p 0 0 0 _ s _ _ Hs.out HpT.out).mono ?_
  rintro e w6 ⟨hg6,⟨rfl,hno⟩|⟨x,r6,hx,rfl,hp6,hr6⟩⟩
  ·have HB6:=hid (HBT.out.trans (jg hg6 hBp (by omega)))
   have Hno:=hid hno
   clear hg6 hno
   go_wp2
   exact ⟨rfl,HB6.out,.inl ⟨rfl,fun f x hf hl hx h=>Hno.out x [] hx (by rw [List.append_nil];exact HXT.out f x (by first|exact hf|exact (fun _=>hf rfl)) hl hx h)⟩⟩
  have HB6:=hid (HBT.out.trans (jg hg6 hBp (by omega)))
  have Hq6:=hid (jf hg6 HqT.out (Ne.symm hpq))
  have Hp6:=hid hp6
  have Hr6:=hid hr6
  have hs6:=hg6.size
  clear hg6 hp6 hr6
  obtain ⟨⟨q0,q1,q2,q3,q4,q5,q6,q7,q8,q9⟩,cf⟩:=xg Hq6.out
  have f3:=cf 3
  have f4:=cf 4
  have f5:=cf 5
  have f6:=cf 6
  have f7:=cf 7
  have f8:=cf 8
  clear q0 q1 q2 q9 cf
  have Hq7:=hid (fun v3:Value=>Sl (v3:=v3) (v4:=.int .i64 0) (v5:=.int .i64 0) (v6:=.int .i64 0) (v7:=strB x.1) (v8:=strB x.2) Hq6.out)
  have Hg7:=hid (fun v3:Value=>xy q [v3,.int .i64 0,.int .i64 0,.int .i64 0,strB x.1,strB x.2] w6 3)
  have HB7:=hid (fun v3:Value=>HB6.out.trans (jg (Hg7.out v3) hBq (by omega)))
  have Hp7:=hid (fun v3:Value=>zD Hp6.out (Hg7.out v3) hpq)
  clear Hg7
  go_wp2_with fail
  clear q3 q4 q5 q6 q7 q8 f3 f4 f5 f6 f7 f8
  refine (Rb p s r6 (w6.setCells q 3 [strB _,.int .i64 0,.int .i64 0,.int .i64 0,strB x.1,strB x.2]) Hs.out (Hp7.out _)).mono ?_
  rintro e w8 ⟨hb8,⟨hne,rfl⟩|⟨hnil,rfl⟩⟩
  ·have HB8:=hid ((HB7.out _).trans (hb8.mono (by rw [QS];omega)))
   have HN:=hid hne
   clear hb8 hne
   go_wp2
   refine ⟨rfl,HB8.out,.inl ⟨rfl,fun f y hf hl hy h=>?_⟩⟩
   have h1:=HXT.out f y (by first|exact hf|exact (fun _=>hf rfl)) hl hy h
   rw [Hr6.out] at h1
   have h2:xn x++r6=xn y++[]:=by rw [List.append_nil];exact h1
   exact HN.out (AG hx hy h2).2
  ·have HB8:=hid ((HB7.out _).trans (hb8.mono (by rw [QS];omega)))
   have Hq8:=hid ((hb8.block q (by rw [QS];omega)).trans (Hq7.out _))
   have HE:=hid (HYT.out x (by rw [Hr6.out,hnil,List.append_nil]))
   clear hb8 hnil
   go_wp2
   go_end0
   first
   | exact ⟨HB8.out,.inr ⟨_,x,hFN,hx,rfl,HE.out,Hq8.out⟩⟩
   | exact ⟨HB8.out,.inr ⟨[],x,fun _=>rfl,hx,rfl,HE.out,Hq8.out⟩⟩
end
end Go.Proofs.YthhpbhpfagoapaaGreat
