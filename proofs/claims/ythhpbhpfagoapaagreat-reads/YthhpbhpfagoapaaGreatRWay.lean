import Derived.Test.YthhpbhpfagoapaaGreatJAO
import Derived.Deep.DeepCutAuto
namespace Go.Proofs.YthhpbhpfagoapaaGreat
set_option linter.unusedVariables false
set_option linter.unusedSimpArgs false
set_option maxRecDepth 100000
set_option maxHeartbeats 16000000
open Go.RowKit
structure Vals (w:World) (a:Option Addr) (l:List CellB):Prop where
 lies:Lies w a l
 small:∀ c ∈ l,qw c
 few:l.length≤60
theorem Vals.later {w w':World} {a:Option Addr} {l:List CellB} (h:Vals w a l) (hb:Below w.heap.size w w'):Vals w' a l:=⟨h.lies.later hb,h.small,h.few⟩
theorem CS {c:CellB} (h:qw c):okC c:=⟨h.1,h.2.1,by have:=h.2.2;unfold maxLen;omega⟩
def Qo (w:World) (g:Nat) (c:CellB):Prop :=
 w.cell? ⟨g,0,none⟩=some (.bool c.null)∧w.cell? ⟨g,1,none⟩=some (.int .i64 c.int)∧w.cell? ⟨g,2,none⟩=some (strB c.text)
theorem xZ (wr:World) (c d:CellB) :
  Qo ((wr.alloc (.cells #[.bool c.null,.int .i64 c.int,strB c.text] 58)).alloc (.cells #[.bool d.null,.int .i64 d.int,strB d.text] 58)) wr.heap.size c ∧
  Qo ((wr.alloc (.cells #[.bool c.null,.int .i64 c.int,strB c.text] 58)).alloc (.cells #[.bool d.null,.int .i64 d.int,strB d.text] 58)) (wr.heap.size+1) d ∧
  Below wr.heap.size wr ((wr.alloc (.cells #[.bool c.null,.int .i64 c.int,strB c.text] 58)).alloc (.cells #[.bool d.null,.int .i64 d.int,strB d.text] 58)) ∧
  ((wr.alloc (.cells #[.bool c.null,.int .i64 c.int,strB c.text] 58)).alloc (.cells #[.bool d.null,.int .i64 d.int,strB d.text] 58)).heap.size=wr.heap.size+2:=by
 refine ⟨⟨?_,?_,?_⟩,⟨?_,?_,?_⟩,((Below.refl _ _).alloc (Nat.le_refl _) _).alloc (by simp) _,by simp⟩
 all_goals simp [go_sem]
set_option maxRecDepth 100000 in
theorem Ba (a:Option Addr) (cap:Nat) (l:List CellB) (w:World) (hv:Vals w a l) :
  Calls Tryz.prog 117 #[.int .i64 0,.slice a l.length cap] w fun e w'=>e=.returned (strB (qq 0 l))∧Below w.heap.size w w':=by
 have Hv:=hid hv
 have hn:=hv.few
 clear hv
 go_enter Tryz.func117,Tryz.ntmps117
 go_wp2_with fail
 refine (Jh a cap l _ (by omega) Hv.out.lies).mono ?_
 rintro e w1 ⟨dv,rfl,hdown,hb1⟩
 clear hdown
 go_wp2_with fail
 go_loopw [5,8] (fun s i wr=>∃ k:Nat,k≤l.length∧i=.int .i64 (k:Int)∧s=strB (js 0 l k)∧Below w.heap.size w wr) (fun _ i _=>l.length - (intOf i).toNat)
 case atStart=>exact ⟨0,Nat.zero_le _,rfl,rfl,hb1⟩
 case round =>
  clear hb1
  obtain ⟨k,hkl,rfl,rfl,hB⟩:=hrel
  by_cases hlt:k < l.length
  ·have hlies:=(Hv.out.later hB).lies
   have hlen:=xl 0 l Hv.out.small hn k
   have hstep:=QI 0 l Hv.out.small hn k
   have HS:Hid (js 0 l (k+1)=js 0 l k++qG 0 l k):=rfl
   have hsm:=Hv.out.small l[k] (List.getElem_mem hlt)
   have hpr:=Jb l Hv.out.small k
   have HT:Hid (qG 0 l k=bB (l[k]).int):=by show bB (xP l k).int=_;rw [jY l k hlt]
   obtain ⟨b,off,ha,hbw,hcell⟩:=hlies.at_ (List.ne_nil_of_length_pos (by omega))
   subst ha
   have Hcell:=hid hcell
   clear hlies
   obtain ⟨g1,g2,g3⟩:=hcell k hlt
   clear hcell
   generalize js 0 l k=acc at *
   have hz0:=hB.size
   go_upto_if 47 with fail
   go_cut [10] (fun p wc=>p=.pointer (some ⟨wr.heap.size+1,0,none⟩)∧Qo wc wr.heap.size l[k]∧Qo wc (wr.heap.size+1) (jR l k)∧Below wr.heap.size wr wc∧wc.heap.size=wr.heap.size+2)
   case first =>
    by_cases hk0:k=0
    ·subst hk0
     go_wp2
     go_meet
     case rel=>exact ⟨rfl,xZ wr l[0] qz⟩
    ·obtain ⟨m,rfl⟩:∃ m,k=m+1:=⟨k - 1,by omega⟩
     obtain ⟨f1,f2,f3⟩:=Hcell.out m (by omega)
     have hpm:jR l (m+1)=l[m]:=by unfold jR;rw [if_neg (by omega)];exact jY l m (by omega)
     have Hpm:=hid hpm
     clear hpm
     go_wp2
     go_meet
     case rel=>exact ⟨rfl,by rw [Hpm.out];exact xZ wr l[m+1] l[m]⟩
   case rest =>
    obtain ⟨rfl,hh1,hh2,hb3,hsz⟩:=hcut
    obtain ⟨v1,v2,v3⟩:=hh1
    obtain ⟨q1,q2,q3⟩:=hh2
    have hB3:=hB.trans (hb3.mono hz0)
    have hz3:=hB3.size
    obtain ⟨s1,s2,s3⟩:=hsm
    obtain ⟨r1,r2,r3⟩:=hpr
    have HB3:=hid hb3
    clear g1 g2 g3 hb3 hB
    go_wp2_with fail
    refine (LX _ _ s1 s2).mono ?_
    rintro e w4 ⟨rfl,hb4⟩
    have hbl:=Xt l[k].int
    have hbl2:(bB l[k].int).length≤8:=by omega
    clear hbl
    go_wp2
    go_roundw
    case rel=>exact ⟨k+1,by omega,by go_num,by rw [HS.out,HT.out];rw [xe],hB3.trans (hb4.mono hz3)⟩
    case measure=>simp [intOf];omega
  ·have hke:k=l.length:=by omega
   subst hke
   go_wp2
   go_ret
   exact ⟨qt (by simp [qq]),hB⟩
set_option maxRecDepth 100000 in
theorem Bb (a:Option Addr) (cap:Nat) (l:List CellB) (w:World) (hv:Vals w a l) :
  Calls Tryz.prog 117 #[.int .i64 1,.slice a l.length cap] w fun e w'=>e=.returned (strB (qq 1 l))∧Below w.heap.size w w':=by
 have Hv:=hid hv
 have hn:=hv.few
 clear hv
 go_enter Tryz.func117,Tryz.ntmps117
 go_wp2_with fail
 refine (Jh a cap l _ (by omega) Hv.out.lies).mono ?_
 rintro e w1 ⟨dv,rfl,hdown,hb1⟩
 clear hdown
 go_wp2_with fail
 go_loopw [5,8] (fun s i wr=>∃ k:Nat,k≤l.length∧i=.int .i64 (k:Int)∧s=strB (js 1 l k)∧Below w.heap.size w wr) (fun _ i _=>l.length - (intOf i).toNat)
 case atStart=>exact ⟨0,Nat.zero_le _,rfl,rfl,hb1⟩
 case round =>
  clear hb1
  obtain ⟨k,hkl,rfl,rfl,hB⟩:=hrel
  by_cases hlt:k < l.length
  ·have hlies:=(Hv.out.later hB).lies
   have hlen:=xl 1 l Hv.out.small hn k
   have hstep:=QI 1 l Hv.out.small hn k
   have HS:Hid (js 1 l (k+1)=js 1 l k++qG 1 l k):=rfl
   have hsm:=Hv.out.small l[k] (List.getElem_mem hlt)
   have hpr:=Jb l Hv.out.small k
   have HT:Hid (qG 1 l k=zB (wrap64 ((l[k]).int - (jR l k).int))):=by show zB (wrap64 ((xP l k).int - (jR l k).int))=_;rw [jY l k hlt]
   obtain ⟨b,off,ha,hbw,hcell⟩:=hlies.at_ (List.ne_nil_of_length_pos (by omega))
   subst ha
   have Hcell:=hid hcell
   clear hlies
   obtain ⟨g1,g2,g3⟩:=hcell k hlt
   clear hcell
   generalize js 1 l k=acc at *
   have hz0:=hB.size
   go_upto_if 47 with fail
   go_cut [10] (fun p wc=>p=.pointer (some ⟨wr.heap.size+1,0,none⟩)∧Qo wc wr.heap.size l[k]∧Qo wc (wr.heap.size+1) (jR l k)∧Below wr.heap.size wr wc∧wc.heap.size=wr.heap.size+2)
   case first =>
    by_cases hk0:k=0
    ·subst hk0
     go_wp2
     go_meet
     case rel=>exact ⟨rfl,xZ wr l[0] qz⟩
    ·obtain ⟨m,rfl⟩:∃ m,k=m+1:=⟨k - 1,by omega⟩
     obtain ⟨f1,f2,f3⟩:=Hcell.out m (by omega)
     have hpm:jR l (m+1)=l[m]:=by unfold jR;rw [if_neg (by omega)];exact jY l m (by omega)
     have Hpm:=hid hpm
     clear hpm
     go_wp2
     go_meet
     case rel=>exact ⟨rfl,by rw [Hpm.out];exact xZ wr l[m+1] l[m]⟩
   case rest =>
    obtain ⟨rfl,hh1,hh2,hb3,hsz⟩:=hcut
    obtain ⟨v1,v2,v3⟩:=hh1
    obtain ⟨q1,q2,q3⟩:=hh2
    have hB3:=hB.trans (hb3.mono hz0)
    have hz3:=hB3.size
    obtain ⟨s1,s2,s3⟩:=hsm
    obtain ⟨r1,r2,r3⟩:=hpr
    have HB3:=hid hb3
    clear g1 g2 g3 hb3 hB
    obtain ⟨e1,e2⟩:=zk ((l[k]).int - (jR l k).int)
    go_wp2_with fail
    refine (Dy _ _ e1 e2).mono ?_
    rintro e w4 ⟨rfl,hb4⟩
    have hbl:=Kr _ e1 e2
    go_wp2
    go_roundw
    case rel=>exact ⟨k+1,by omega,by go_num,by rw [HS.out,HT.out];rw [xe],hB3.trans (hb4.mono hz3)⟩
    case measure=>simp [intOf];omega
  ·have hke:k=l.length:=by omega
   subst hke
   go_wp2
   go_ret
   exact ⟨qt (by simp [qq]),hB⟩
set_option maxRecDepth 100000 in
theorem Bc (a:Option Addr) (cap:Nat) (l:List CellB) (w:World) (hv:Vals w a l) :
  Calls Tryz.prog 117 #[.int .i64 5,.slice a l.length cap] w fun e w'=>e=.returned (strB (qq 5 l))∧Below w.heap.size w w':=by
 have Hv:=hid hv
 have hn:=hv.few
 clear hv
 go_enter Tryz.func117,Tryz.ntmps117
 go_wp2_with fail
 refine (Jh a cap l _ (by omega) Hv.out.lies).mono ?_
 rintro e w1 ⟨dv,rfl,hdown,hb1⟩
 clear hdown
 go_wp2_with fail
 go_loopw [5,8] (fun s i wr=>∃ k:Nat,k≤l.length∧i=.int .i64 (k:Int)∧s=strB (js 5 l k)∧Below w.heap.size w wr) (fun _ i _=>l.length - (intOf i).toNat)
 case atStart=>exact ⟨0,Nat.zero_le _,rfl,rfl,hb1⟩
 case round =>
  clear hb1
  obtain ⟨k,hkl,rfl,rfl,hB⟩:=hrel
  by_cases hlt:k < l.length
  ·have hlies:=(Hv.out.later hB).lies
   have hlen:=xl 5 l Hv.out.small hn k
   have hstep:=QI 5 l Hv.out.small hn k
   have HS:Hid (js 5 l (k+1)=js 5 l k++qG 5 l k):=rfl
   have hsm:=Hv.out.small l[k] (List.getElem_mem hlt)
   have hpr:=Jb l Hv.out.small k
   have HT:Hid (qG 5 l k=xB (l[k]).text):=by show xB (xP l k).text=_;rw [jY l k hlt]
   obtain ⟨b,off,ha,hbw,hcell⟩:=hlies.at_ (List.ne_nil_of_length_pos (by omega))
   subst ha
   have Hcell:=hid hcell
   clear hlies
   obtain ⟨g1,g2,g3⟩:=hcell k hlt
   clear hcell
   generalize js 5 l k=acc at *
   have hz0:=hB.size
   go_upto_if 47 with fail
   go_cut [10] (fun p wc=>p=.pointer (some ⟨wr.heap.size+1,0,none⟩)∧Qo wc wr.heap.size l[k]∧Qo wc (wr.heap.size+1) (jR l k)∧Below wr.heap.size wr wc∧wc.heap.size=wr.heap.size+2)
   case first =>
    by_cases hk0:k=0
    ·subst hk0
     go_wp2
     go_meet
     case rel=>exact ⟨rfl,xZ wr l[0] qz⟩
    ·obtain ⟨m,rfl⟩:∃ m,k=m+1:=⟨k - 1,by omega⟩
     obtain ⟨f1,f2,f3⟩:=Hcell.out m (by omega)
     have hpm:jR l (m+1)=l[m]:=by unfold jR;rw [if_neg (by omega)];exact jY l m (by omega)
     have Hpm:=hid hpm
     clear hpm
     go_wp2
     go_meet
     case rel=>exact ⟨rfl,by rw [Hpm.out];exact xZ wr l[m+1] l[m]⟩
   case rest =>
    obtain ⟨rfl,hh1,hh2,hb3,hsz⟩:=hcut
    obtain ⟨v1,v2,v3⟩:=hh1
    obtain ⟨q1,q2,q3⟩:=hh2
    have hB3:=hB.trans (hb3.mono hz0)
    have hz3:=hB3.size
    obtain ⟨s1,s2,s3⟩:=hsm
    obtain ⟨r1,r2,r3⟩:=hpr
    have HB3:=hid hb3
    clear g1 g2 g3 hb3 hB
    go_wp2_with fail
    refine (DP _ _ (by rw [jK];omega)).mono ?_
    rintro e w4 ⟨rfl,hb4⟩
    rw [UC]
    have hbl:=Uq _ s3
    go_wp2
    go_roundw
    case rel=>exact ⟨k+1,by omega,by go_num,by rw [HS.out,HT.out];rw [xe],hB3.trans (hb4.mono hz3)⟩
    case measure=>simp [intOf];omega
  ·have hke:k=l.length:=by omega
   subst hke
   go_wp2
   go_ret
   exact ⟨qt (by simp [qq]),hB⟩
end Go.Proofs.YthhpbhpfagoapaaGreat
