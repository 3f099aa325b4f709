import Derived.Test.YthhpbhpfagoapabGreatJAA
import Derived.Test.YthhpbhpfagoapabGreatJAY
import Derived.Test.YthhpbhpfagoapabGreatRTk
import Derived.Deep.QuietTactic
import Derived.BigQuiet
import Derived.Deep.Cut
import Derived.Deep.CutBlock
namespace Go.Proofs.YthhpbhpfagoapabGreat
set_option linter.unusedVariables false
set_option linter.unusedSimpArgs false
set_option maxRecDepth 100000
set_option maxHeartbeats 16000000
open Go.RowKit
theorem PD (a a2:Option Addr) (cap cap2:Nat) (l l2:List CellB) (w:World) (hm:l.length≤maxLen) (hm2:l2.length≤maxLen) (hl:Lies w a l) (hl2:Lies w a2 l2) :
  Calls Tryz.prog 31 #[.slice a l.length cap,.slice a2 l2.length cap2] w fun e w'=>e=.returned (.bool (XL l l2))∧Below w.heap.size w w':=by
 have Hl:=hid hl
 have Hl2:=hid hl2
 clear hl hl2
 unfold maxLen at hm hm2
 by_cases hlen:l.length=l2.length
 ·have hne:((l.length:Int) != (l2.length:Int))=false:=by simp;omega
  have Hlen:=hid hlen
  clear hlen
  go_enter Tryz.func31,Tryz.ntmps31
  go_wp2
  go_loopw [5] (fun i wr=>∃ k:Nat,k≤l.length∧i=.int .i64 (k:Int)∧l.take k=l2.take k∧Below w.heap.size w wr) (fun i _=>l.length - (intOf i).toNat)
  case atStart=>exact ⟨0,Nat.zero_le _,rfl,rfl,Below.refl _ _⟩
  case round =>
   obtain ⟨k,hk,rfl,ht,hB⟩:=hrel
   have Ht:=hid ht
   clear ht hne
   by_cases hlt:k < l.length
   ·have hlt2:k < l2.length:=by have:=Hlen.out;omega
    obtain ⟨b,off,rfl,hbw,hcell⟩:=(Hl.out.later hB).at_ (List.ne_nil_of_length_pos (by omega))
    obtain ⟨g1,g2,g3⟩:=hcell k hlt
    obtain ⟨b',off',rfl,hbw',hcell'⟩:=(Hl2.out.later hB).at_ (List.ne_nil_of_length_pos (by omega))
    obtain ⟨k1,k2,k3⟩:=hcell' k hlt2
    clear hcell hcell'
    have hki:(k:Int) < (l.length:Int):=by omega
    have hki2:(k:Int) < (l2.length:Int):=by omega
    by_cases heq:l[k]=l2[k]
    ·have HN:=hid (Vb hlt hlt2 Ht.out heq)
     rw [← heq] at k1 k2 k3
     clear heq
     generalize l[k]=c at *
     go_wp2_with fail
     go_quiet (fail)
     go_wp2_with fail
     go_roundw
     case rel=>exact ⟨k+1,by omega,by go_num,HN.out,below_drewN hB nq⟩
     case measure=>simp [intOf];omega
    ·have HNE:Hid (XL l l2=false):=by
      show XL l l2=false
      rw [deqC_no]
      intro e
      subst e
      exact heq rfl
     generalize l[k]=c at *
     generalize l2[k]=d at *
     obtain ⟨c1,c2,c3⟩:=c
     obtain ⟨d1,d2,d3⟩:=d
     simp only at g1 g2 g3 k1 k2 k3
     by_cases h1:c1=d1
     ·subst h1
      by_cases h2:c2=d2
      ·subst h2
       have h3:¬ c3=d3:=fun e=>heq (by rw [e])
       have q1:(c3 == d3)=false:=by simpa using h3
       have q2:(c3 != d3)=true:=by simpa using h3
       clear heq h3
       go_wp2_with fail
       go_quiet (fail)
       go_wp2
       go_ret
       exact ⟨by rw [HNE.out];rfl,below_drewN hB nq⟩
      ·have q1:(c2 == d2)=false:=by simpa using h2
       have q2:(c2 != d2)=true:=by simpa using h2
       clear heq h2
       go_wp2_with fail
       go_quiet (fail)
       go_wp2
       go_ret
       exact ⟨by rw [HNE.out];rfl,below_drewN hB nq⟩
     ·have q1:(c1 == d1)=false:=by simpa using h1
      have q2:(c1 != d1)=true:=by simpa using h1
      clear heq h1
      go_wp2_with fail
      go_quiet (fail)
      go_wp2
      go_ret
      exact ⟨by rw [HNE.out];rfl,below_drewN hB nq⟩
   ·have HE:Hid (XL l l2=true):=by
     show XL l l2=true
     rw [deqC_iff]
     have ht':=Ht.out
     have hk':k=l.length:=by omega
     have hl':=Hlen.out
     rw [hk',List.take_length,hl',List.take_length] at ht'
     exact ht'
    go_wp2
    go_ret
    exact ⟨by rw [HE.out];rfl,hB⟩
 ·have hne:((l.length:Int) != (l2.length:Int))=true:=by simp;omega
  have HNE:Hid (XL l l2=false):=by
   show XL l l2=false
   rw [deqC_no]
   intro e
   subst e
   exact hlen rfl
  clear hlen
  go_enter Tryz.func31,Tryz.ntmps31
  go_wp2
  go_ret
  exact ⟨by rw [HNE.out];rfl,Below.refl _ _⟩
def JA (F:Nat→FoundB) (T:List ColB):Nat→Bool
 | 0=>true
 | k+1=>JA F T k && (decide ((F k).name=(jf T k).name) && decide ((F k).kind=(jf T k).kind) && decide ((F k).key=(jf T k).key))
def Ji (F:Nat→FoundB) (n:Nat) (T:List ColB):Bool:=decide (n=T.length) && JA F T n
theorem TY {F:Nat→FoundB} {T:List ColB} {n k:Nat} (hk:k < n) (h:JA F T (k+1)=false):JA F T n=false:=by
 induction n with
 | zero=>omega
 | succ n ih =>
  by_cases e:k=n
  ·subst e;exact h
  ·simp only [JA,ih (by omega),Bool.false_and]
theorem NH {F:Nat→FoundB} {T:List ColB}:∀ {n:Nat},JA F T n=true ↔ ∀ k,k < n→(F k).name=(jf T k).name∧(F k).kind=(jf T k).kind∧(F k).key=(jf T k).key:=by
 intro n
 induction n with
 | zero=>exact ⟨fun _ k hk=>by omega,fun _=>rfl⟩
 | succ n ih =>
  simp only [JA,Bool.and_eq_true,decide_eq_true_eq]
  rw [ih]
  refine ⟨fun ⟨h1,⟨h2,h3⟩,h4⟩ k hk=>?_,fun h=>⟨fun k hk=>h k (by omega),⟨(h n (by omega)).1,(h n (by omega)).2.1⟩,(h n (by omega)).2.2⟩⟩
  by_cases e:k=n
  ·subst e;exact ⟨h2,h3,h4⟩
  ·exact h1 k (by omega)
theorem DQ (a a2:Option Addr) (cap cap2:Nat) (F:Nat→FoundB) (n:Nat) (T:List ColB) (w:World) (hm:n≤1000) (hm2:T.length≤maxLen) (hl:LiesF w a F n) (hl2:LiesT w a2 T) :
  Calls Tryz.prog 30 #[.slice a n cap,.slice a2 T.length cap2] w fun e w'=>e=.returned (.bool (Ji F n T))∧Below w.heap.size w w':=by
 have Hl:=hid hl
 have Hl2:=hid hl2
 clear hl hl2
 unfold maxLen at hm2
 by_cases hlen:n=T.length
 ·have hne:((n:Int) != (T.length:Int))=false:=by simp;omega
  have HH:Hid (Ji F n T=JA F T n):=by show Ji F n T=_;simp [Ji,hlen]
  have Hlen:=hid hlen
  clear hlen
  go_enter Tryz.func30,Tryz.ntmps30
  go_wp2
  go_loopw [5] (fun i wr=>∃ k:Nat,k≤n∧i=.int .i64 (k:Int)∧JA F T k=true∧Below w.heap.size w wr) (fun i _=>n - (intOf i).toNat)
  case atStart=>exact ⟨0,Nat.zero_le _,rfl,rfl,Below.refl _ _⟩
  case round =>
   obtain ⟨k,hk,rfl,ht,hB⟩:=hrel
   have Ht:=hid ht
   have HB:=hid hB
   clear ht hne
   by_cases hlt:k < n
   ·have hlt2:k < T.length:=by have:=Hlen.out;omega
    obtain ⟨b,rfl,hbw,hcell⟩:=(Hl.out.later hB).at_ (by omega)
    obtain ⟨ca,cc,g1,g2,g3,g4,g5,g6,g7⟩:=hcell k hlt
    obtain ⟨b',off,rfl,hbw',hcell'⟩:=(Hl2.out.later hB).at_ (List.ne_nil_of_length_pos (by omega))
    obtain ⟨k1,k2,k3,k4⟩:=hcell' k hlt2
    clear hcell hcell' k4 hB g4 g5 g6 g7
    have hki:(k:Int) < (n:Int):=by omega
    have hki2:(k:Int) < (T.length:Int):=by omega
    have HN:Hid (JA F T (k+1)=(decide ((F k).name=(T[k]).name) && decide ((F k).kind=(T[k]).kind) && decide ((F k).key=(T[k]).key))):=by
     show JA F T (k+1)=_
     rw [← xz hlt2]
     simp only [JA,Ht.out,Bool.true_and]
    have HNO:=hid (fun h=>TY (F:=F) (T:=T) hlt h)
    generalize (F k).name=nm at *
    generalize (F k).kind=kd at *
    generalize (F k).key=ky at *
    generalize (T[k]).name=nm' at *
    generalize (T[k]).kind=kd' at *
    generalize (T[k]).key=ky' at *
    have HS0:=hid (show wr.cell? ⟨b,k*5,none⟩=some (strB nm)∧wr.cell? ⟨b,k*5+1,none⟩=some (.int .i64 kd)∧wr.cell? ⟨b,k*5+2,none⟩=some (.int .i64 ky)∧wr.cell? ⟨b',off+k*4,none⟩=some (strB nm')∧wr.cell? ⟨b',off+k*4+1,none⟩=some (.int .i64 kd')∧wr.cell? ⟨b',off+k*4+2,none⟩=some (.int .i64 ky') from ⟨g1,g2,g3,k1,k2,k3⟩)
    clear g1 g2 g3 k1 k2 k3
    by_cases e1:nm=nm'
    ·subst e1
     by_cases e2:kd=kd'
     ·subst e2
      by_cases e3:ky=ky'
      ·subst e3
       have HY:Hid (JA F T (k+1)=true):=by show JA F T (k+1)=_;rw [HN.out];simp
       clear HN HNO
       go_upto_region 6 with fail
       refine wp_region_held_drew (S:=fun w'=>w'.cell? ⟨b,k*5,none⟩=some (strB nm)∧w'.cell? ⟨b,k*5+1,none⟩=some (.int .i64 kd)∧w'.cell? ⟨b,k*5+2,none⟩=some (.int .i64 ky)∧w'.cell? ⟨b',off+k*4,none⟩=some (strB nm)∧w'.cell? ⟨b',off+k*4+1,none⟩=some (.int .i64 kd)∧w'.cell? ⟨b',off+k*4+2,none⟩=some (.int .i64 ky)) (by kernel_rfl) HS0.out (fun hHeld=>?_)
       refine tk 0 (.slice (some ⟨b,0,none⟩) n cap) ?_
       refine tk 1 (.int .i64 (k:Int)) ?_
       refine tk 2 (.pointer (some ⟨b,k*5,none⟩)) ?_
       refine tk 3 (.pointer (some ⟨b,k*5,none⟩)) ?_
       refine tk 4 (strB nm) ?_
       refine tk 5 (.slice (some ⟨b',off,none⟩) T.length cap2) ?_
       refine tk 6 (.int .i64 (k:Int)) ?_
       refine tk 7 (.pointer (some ⟨b',off+k*4,none⟩)) ?_
       refine tk 8 (.pointer (some ⟨b',off+k*4,none⟩)) ?_
       refine tk 9 (strB nm) ?_
       refine tk 10 (.bool false) ?_
       refine tk 11 (.bool false) ?_
       refine tk 12 (.slice (some ⟨b,0,none⟩) n cap) ?_
       refine tk 13 (.int .i64 (k:Int)) ?_
       refine tk 14 (.pointer (some ⟨b,k*5,none⟩)) ?_
       refine tk 15 (.pointer (some ⟨b,k*5+1,none⟩)) ?_
       refine tk 16 (.int .i64 kd) ?_
       refine tk 17 (.slice (some ⟨b',off,none⟩) T.length cap2) ?_
       refine tk 18 (.int .i64 (k:Int)) ?_
       refine tk 19 (.pointer (some ⟨b',off+k*4,none⟩)) ?_
       refine tk 20 (.pointer (some ⟨b',off+k*4+1,none⟩)) ?_
       refine tk 21 (.int .i64 kd) ?_
       refine tk 22 (.bool false) ?_
       refine tk 23 (.bool false) ?_
       refine tk 24 (.bool false) ?_
       refine tk 25 (.slice (some ⟨b,0,none⟩) n cap) ?_
       refine tk 26 (.int .i64 (k:Int)) ?_
       refine tk 27 (.pointer (some ⟨b,k*5,none⟩)) ?_
       refine tk 28 (.pointer (some ⟨b,k*5+2,none⟩)) ?_
       refine tk 29 (.int .i64 ky) ?_
       refine tk 30 (.slice (some ⟨b',off,none⟩) T.length cap2) ?_
       refine tk 31 (.int .i64 (k:Int)) ?_
       refine tk 32 (.pointer (some ⟨b',off+k*4,none⟩)) ?_
       refine tk 33 (.pointer (some ⟨b',off+k*4+2,none⟩)) ?_
       refine tk 34 (.int .i64 ky) ?_
       refine tk 35 (.bool false) ?_
       refine tk 36 (.bool false) ?_
       simp only [jA,jB,jC,Act.put,jD,jE,jF]
       refine wpAnyH_done (by kernel_rfl) ?_ _
       clear hHeld
       go_wp2
       go_roundw
       case rel=>exact ⟨k+1,by omega,by go_num,HY.out,Xs HB.out⟩
       case measure=>simp [intOf];omega
      ·have HX:Hid (JA F T n=false):=HNO.out (by rw [HN.out];simp [e3])
       have q1:(ky == ky')=false:=by simpa using e3
       have q2:(ky != ky')=true:=by simpa using e3
       clear HN HNO e3
       go_upto_region 6 with fail
       refine wp_region_held_drew (S:=fun w'=>w'.cell? ⟨b,k*5,none⟩=some (strB nm)∧w'.cell? ⟨b,k*5+1,none⟩=some (.int .i64 kd)∧w'.cell? ⟨b,k*5+2,none⟩=some (.int .i64 ky)∧w'.cell? ⟨b',off+k*4,none⟩=some (strB nm)∧w'.cell? ⟨b',off+k*4+1,none⟩=some (.int .i64 kd)∧w'.cell? ⟨b',off+k*4+2,none⟩=some (.int .i64 ky')) (by kernel_rfl) HS0.out (fun hHeld=>?_)
       refine tk 0 (.slice (some ⟨b,0,none⟩) n cap) ?_
       refine tk 1 (.int .i64 (k:Int)) ?_
       refine tk 2 (.pointer (some ⟨b,k*5,none⟩)) ?_
       refine tk 3 (.pointer (some ⟨b,k*5,none⟩)) ?_
       refine tk 4 (strB nm) ?_
       refine tk 5 (.slice (some ⟨b',off,none⟩) T.length cap2) ?_
       refine tk 6 (.int .i64 (k:Int)) ?_
       refine tk 7 (.pointer (some ⟨b',off+k*4,none⟩)) ?_
       refine tk 8 (.pointer (some ⟨b',off+k*4,none⟩)) ?_
       refine tk 9 (strB nm) ?_
       refine tk 10 (.bool false) ?_
       refine tk 11 (.bool false) ?_
       refine tk 12 (.slice (some ⟨b,0,none⟩) n cap) ?_
       refine tk 13 (.int .i64 (k:Int)) ?_
       refine tk 14 (.pointer (some ⟨b,k*5,none⟩)) ?_
       refine tk 15 (.pointer (some ⟨b,k*5+1,none⟩)) ?_
       refine tk 16 (.int .i64 kd) ?_
       refine tk 17 (.slice (some ⟨b',off,none⟩) T.length cap2) ?_
       refine tk 18 (.int .i64 (k:Int)) ?_
       refine tk 19 (.pointer (some ⟨b',off+k*4,none⟩)) ?_
       refine tk 20 (.pointer (some ⟨b',off+k*4+1,none⟩)) ?_
       refine tk 21 (.int .i64 kd) ?_
       refine tk 22 (.bool false) ?_
       refine tk 23 (.bool false) ?_
       refine tk 24 (.bool false) ?_
       refine tk 25 (.slice (some ⟨b,0,none⟩) n cap) ?_
       refine tk 26 (.int .i64 (k:Int)) ?_
       refine tk 27 (.pointer (some ⟨b,k*5,none⟩)) ?_
       refine tk 28 (.pointer (some ⟨b,k*5+2,none⟩)) ?_
       refine tk 29 (.int .i64 ky) ?_
       refine tk 30 (.slice (some ⟨b',off,none⟩) T.length cap2) ?_
       refine tk 31 (.int .i64 (k:Int)) ?_
       refine tk 32 (.pointer (some ⟨b',off+k*4,none⟩)) ?_
       refine tk 33 (.pointer (some ⟨b',off+k*4+2,none⟩)) ?_
       refine tk 34 (.int .i64 ky') ?_
       refine tk 35 (.bool true) ?_
       refine tk 36 (.bool true) ?_
       simp only [jA,jB,jC,Act.put,jD,jE,jF]
       refine wpAnyH_done (by kernel_rfl) ?_ _
       clear hHeld
       go_wp2
       go_ret
       exact ⟨by rw [HH.out,HX.out];rfl,Xs HB.out⟩
     ·have HX:Hid (JA F T n=false):=HNO.out (by rw [HN.out];simp [e2])
      have q1:(kd == kd')=false:=by simpa using e2
      have q2:(kd != kd')=true:=by simpa using e2
      clear HN HNO e2
      go_upto_region 6 with fail
      refine wp_region_held_drew (S:=fun w'=>w'.cell? ⟨b,k*5,none⟩=some (strB nm)∧w'.cell? ⟨b,k*5+1,none⟩=some (.int .i64 kd)∧w'.cell? ⟨b,k*5+2,none⟩=some (.int .i64 ky)∧w'.cell? ⟨b',off+k*4,none⟩=some (strB nm)∧w'.cell? ⟨b',off+k*4+1,none⟩=some (.int .i64 kd')∧w'.cell? ⟨b',off+k*4+2,none⟩=some (.int .i64 ky')) (by kernel_rfl) HS0.out (fun hHeld=>?_)
      refine tk 0 (.slice (some ⟨b,0,none⟩) n cap) ?_
      refine tk 1 (.int .i64 (k:Int)) ?_
      refine tk 2 (.pointer (some ⟨b,k*5,none⟩)) ?_
      refine tk 3 (.pointer (some ⟨b,k*5,none⟩)) ?_
      refine tk 4 (strB nm) ?_
      refine tk 5 (.slice (some ⟨b',off,none⟩) T.length cap2) ?_
      refine tk 6 (.int .i64 (k:Int)) ?_
      refine tk 7 (.pointer (some ⟨b',off+k*4,none⟩)) ?_
      refine tk 8 (.pointer (some ⟨b',off+k*4,none⟩)) ?_
      refine tk 9 (strB nm) ?_
      refine tk 10 (.bool false) ?_
      refine tk 11 (.bool false) ?_
      refine tk 12 (.slice (some ⟨b,0,none⟩) n cap) ?_
      refine tk 13 (.int .i64 (k:Int)) ?_
      refine tk 14 (.pointer (some ⟨b,k*5,none⟩)) ?_
      refine tk 15 (.pointer (some ⟨b,k*5+1,none⟩)) ?_
      refine tk 16 (.int .i64 kd) ?_
      refine tk 17 (.slice (some ⟨b',off,none⟩) T.length cap2) ?_
      refine tk 18 (.int .i64 (k:Int)) ?_
      refine tk 19 (.pointer (some ⟨b',off+k*4,none⟩)) ?_
      refine tk 20 (.pointer (some ⟨b',off+k*4+1,none⟩)) ?_
      refine tk 21 (.int .i64 kd') ?_
      refine tk 22 (.bool true) ?_
      refine tk 23 (.bool true) ?_
      refine tk 24 (.bool true) ?_
      refine tu 25 ?_
      refine tu 26 ?_
      refine tu 27 ?_
      refine tu 28 ?_
      refine tu 29 ?_
      refine tu 30 ?_
      refine tu 31 ?_
      refine tu 32 ?_
      refine tu 33 ?_
      refine tu 34 ?_
      refine tu 35 ?_
      refine tk 36 (.bool true) ?_
      simp only [jA,jB,jC,Act.put,jD,jE,jF]
      refine wpAnyH_done (by kernel_rfl) ?_ _
      clear hHeld
      go_wp2
      go_ret
      exact ⟨by rw [HH.out,HX.out];rfl,Xs HB.out⟩
    ·have HX:Hid (JA F T n=false):=HNO.out (by rw [HN.out];simp [e1])
     have q1:(nm == nm')=false:=by simpa using e1
     have q2:(nm != nm')=true:=by simpa using e1
     clear HN HNO e1
     go_upto_region 6 with fail
     refine wp_region_held_drew (S:=fun w'=>w'.cell? ⟨b,k*5,none⟩=some (strB nm)∧w'.cell? ⟨b,k*5+1,none⟩=some (.int .i64 kd)∧w'.cell? ⟨b,k*5+2,none⟩=some (.int .i64 ky)∧w'.cell? ⟨b',off+k*4,none⟩=some (strB nm')∧w'.cell? ⟨b',off+k*4+1,none⟩=some (.int .i64 kd')∧w'.cell? ⟨b',off+k*4+2,none⟩=some (.int .i64 ky')) (by kernel_rfl) HS0.out (fun hHeld=>?_)
     refine tk 0 (.slice (some ⟨b,0,none⟩) n cap) ?_
     refine tk 1 (.int .i64 (k:Int)) ?_
     refine tk 2 (.pointer (some ⟨b,k*5,none⟩)) ?_
     refine tk 3 (.pointer (some ⟨b,k*5,none⟩)) ?_
     refine tk 4 (strB nm) ?_
     refine tk 5 (.slice (some ⟨b',off,none⟩) T.length cap2) ?_
     refine tk 6 (.int .i64 (k:Int)) ?_
     refine tk 7 (.pointer (some ⟨b',off+k*4,none⟩)) ?_
     refine tk 8 (.pointer (some ⟨b',off+k*4,none⟩)) ?_
     refine tk 9 (strB nm') ?_
     refine tk 10 (.bool true) ?_
     refine tk 11 (.bool true) ?_
     refine tu 12 ?_
     refine tu 13 ?_
     refine tu 14 ?_
     refine tu 15 ?_
     refine tu 16 ?_
     refine tu 17 ?_
     refine tu 18 ?_
     refine tu 19 ?_
     refine tu 20 ?_
     refine tu 21 ?_
     refine tu 22 ?_
     refine tk 23 (.bool true) ?_
     refine tk 24 (.bool true) ?_
     refine tu 25 ?_
     refine tu 26 ?_
     refine tu 27 ?_
     refine tu 28 ?_
     refine tu 29 ?_
     refine tu 30 ?_
     refine tu 31 ?_
     refine tu 32 ?_
     refine tu 33 ?_
     refine tu 34 ?_
     refine tu 35 ?_
     refine tk 36 (.bool true) ?_
     simp only [jA,jB,jC,Act.put,jD,jE,jF]
     refine wpAnyH_done (by kernel_rfl) ?_ _
     clear hHeld
     go_wp2
     go_ret
     exact ⟨by rw [HH.out,HX.out];rfl,Xs HB.out⟩
   ·have hke:k=n:=by omega
    subst hke
    go_wp2
    go_ret
    exact ⟨by rw [HH.out,Ht.out];rfl,HB.out⟩
 ·have hne:((n:Int) != (T.length:Int))=true:=by simp;omega
  have HH:Hid (Ji F n T=false):=by show Ji F n T=_;simp [Ji,hlen]
  clear hlen
  go_enter Tryz.func30,Tryz.ntmps30
  go_wp2
  go_ret
  exact ⟨by rw [HH.out];rfl,Below.refl _ _⟩
end Go.Proofs.YthhpbhpfagoapabGreat
