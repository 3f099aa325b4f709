import Derived.Test.YthhpbhpfagoapabGreatJAA
import Derived.Test.YthhpbhpfagoapabGreatQJobs
import Derived.Test.YthhpbhpfagoapabGreatJBH
import Derived.Deep.QuietTactic
import Derived.BigQuiet
namespace Go.Proofs.YthhpbhpfagoapabGreat
set_option linter.unusedVariables false
set_option linter.unusedSimpArgs false
set_option maxRecDepth 100000
set_option maxHeartbeats 16000000
open Go.RowKit
theorem DR (a a2:Option Addr) (cap cap2:Nat) (l l2:List CellB) (w:World) (hm:l.length≤maxLen) (hm2:l2.length≤maxLen) (hl:Lies w a l) (hl2:Lies w a2 l2) :
  Calls Tryz.prog 82 #[.slice a l.length cap,.slice a2 l2.length cap2] w fun e w'=>e=.returned (.bool (XL l l2))∧Below w.heap.size w w':=by
 have Hl:=hid hl
 have Hl2:=hid hl2
 clear hl hl2
 unfold maxLen at hm hm2
 by_cases hlen:l.length=l2.length
 ·have hne:((l.length:Int) != (l2.length:Int))=false:=by simp;omega
  have Hlen:=hid hlen
  clear hlen
  go_enter Tryz.func82,Tryz.ntmps82
  go_wp2
  go_loopw [13] (fun i wr=>∃ k:Nat,k≤l.length∧i=.int .i64 (k:Int)∧l.take k=l2.take k∧Below w.heap.size w wr) (fun i _=>l.length - (intOf i).toNat)
  case atStart=>exact ⟨0,Nat.zero_le _,rfl,rfl,Below.refl _ _⟩
  case round =>
   obtain ⟨k,hk,rfl,ht,hB⟩:=hrel
   have Ht:=hid ht
   clear ht hne
   by_cases hlt:k < l.length
   ·have hlt2:k < l2.length:=by have:=Hlen.out;omega
    obtain ⟨b,off,rfl,hbw,hcell⟩:=(Hl.out.later hB).at_ (List.ne_nil_of_length_pos (by omega))
    obtain ⟨g1,g2,g3⟩:=hcell k hlt
    obtain ⟨b',off',rfl,hbw',hcell'⟩:=(Hl2.out.later hB).at_ (List.ne_nil_of_length_pos (by omega))
    obtain ⟨k1,k2,k3⟩:=hcell' k hlt2
    clear hcell hcell'
    have hki:(k:Int) < (l.length:Int):=by omega
    have hki2:(k:Int) < (l2.length:Int):=by omega
    by_cases heq:l[k]=l2[k]
    ·have HN:=hid (Vb hlt hlt2 Ht.out heq)
     rw [← heq] at k1 k2 k3
     clear heq
     generalize l[k]=c at *
     go_wp2_with fail
     go_quiet (fail)
     go_wp2_with fail
     go_roundw
     case rel=>exact ⟨k+1,by omega,by go_num,HN.out,below_drewN hB nq⟩
     case measure=>simp [intOf];omega
    ·have HNE:Hid (XL l l2=false):=by
      show XL l l2=false
      rw [deqC_no]
      intro e
      subst e
      exact heq rfl
     generalize l[k]=c at *
     generalize l2[k]=d at *
     obtain ⟨c1,c2,c3⟩:=c
     obtain ⟨d1,d2,d3⟩:=d
     simp only at g1 g2 g3 k1 k2 k3
     by_cases h1:c1=d1
     ·subst h1
      by_cases h2:c2=d2
      ·subst h2
       have h3:¬ c3=d3:=fun e=>heq (by rw [e])
       have q1:(c3 == d3)=false:=by simpa using h3
       have q2:(c3 != d3)=true:=by simpa using h3
       clear heq h3
       go_wp2_with fail
       go_quiet (fail)
       go_wp2
       go_ret
       exact ⟨by rw [HNE.out];rfl,below_drewN hB nq⟩
      ·have q1:(c2 == d2)=false:=by simpa using h2
       have q2:(c2 != d2)=true:=by simpa using h2
       clear heq h2
       go_wp2_with fail
       go_quiet (fail)
       go_wp2
       go_ret
       exact ⟨by rw [HNE.out];rfl,below_drewN hB nq⟩
     ·have q1:(c1 == d1)=false:=by simpa using h1
      have q2:(c1 != d1)=true:=by simpa using h1
      clear heq h1
      go_wp2_with fail
      go_quiet (fail)
      go_wp2
      go_ret
      exact ⟨by rw [HNE.out];rfl,below_drewN hB nq⟩
   ·have HE:Hid (XL l l2=true):=by
     show XL l l2=true
     rw [deqC_iff]
     have ht':=Ht.out
     have hk':k=l.length:=by omega
     have hl':=Hlen.out
     rw [hk',List.take_length,hl',List.take_length] at ht'
     exact ht'
    go_wp2
    go_ret
    exact ⟨by rw [HE.out];rfl,hB⟩
 ·have hne:((l.length:Int) != (l2.length:Int))=true:=by simp;omega
  have HNE:Hid (XL l l2=false):=by
   show XL l l2=false
   rw [deqC_no]
   intro e
   subst e
   exact hlen rfl
  clear hlen
  go_enter Tryz.func82,Tryz.ntmps82
  go_wp2
  go_ret
  exact ⟨by rw [HNE.out];rfl,Below.refl _ _⟩
theorem Rj (f:FoundB) (cv:Value) (w:World) :
  Calls Tryz.prog 54 #[.agg #[strB f.name,.int .i64 f.kind,.int .i64 f.key,.int .i64 f.state,cv]] w fun e w'=>e=.returned (.bool (xD f))∧Below w.heap.size w w':=by
 obtain ⟨hb0,hs0,_,hh0⟩:=jK w #[strB f.name,.int .i64 f.kind,.int .i64 f.key,.int .i64 f.state,cv] 94
 have HB:=hid hb0
 have HP:Hid (xD f=(decide (f.key≠0) && decide (f.state=0))):=rfl
 clear hb0 hh0
 obtain ⟨nm,kd,ky,st,ce⟩:=f
 simp only at HP ⊢
 by_cases h1:ky=0
 ·have HX:Hid (xD ⟨nm,kd,ky,st,ce⟩=false):=by show xD _=false;rw [HP.out];simp [h1]
  have q:(ky != 0)=false:=by simp [h1]
  clear h1 HP
  go_enter Tryz.func54,Tryz.ntmps54
  go_wp2
  go_ret
  exact ⟨by rw [HX.out];rfl,HB.out⟩
 ·have q:(ky != 0)=true:=by simpa using h1
  by_cases h2:st=0
  ·have HX:Hid (xD ⟨nm,kd,ky,st,ce⟩=true):=by show xD _=true;rw [HP.out];simp [h1,h2]
   have q2:(st == 0)=true:=by simp [h2]
   clear h1 h2 HP
   go_enter Tryz.func54,Tryz.ntmps54
   go_wp2
   go_ret
   exact ⟨by rw [HX.out];rfl,HB.out⟩
  ·have HX:Hid (xD ⟨nm,kd,ky,st,ce⟩=false):=by show xD _=false;rw [HP.out];simp [h2]
   have q2:(st == 0)=false:=by simpa using h2
   clear h1 h2 HP
   go_enter Tryz.func54,Tryz.ntmps54
   go_wp2
   go_ret
   exact ⟨by rw [HX.out];rfl,HB.out⟩
theorem GD (w:World) (o o2:Obj):Below w.heap.size w ((w.alloc o).alloc o2):=((Below.refl _ _).alloc (Nat.le_refl _) _).alloc (by simp) _
def Zo (x:FoundB) (c:ColB):Bool:=decide (x.name=c.name) && decide (x.kind=c.kind) && decide (x.key=c.key) && (!xD x || XL x.cells c.cells)
theorem DZ (f:FoundB) (c:ColB) (ca ca':Option Addr) (cc cc':Nat) (w:World) (hm:f.cells.length≤maxLen) (hm2:c.cells.length≤maxLen) (hl:Lies w ca f.cells) (hl2:Lies w ca' c.cells) :
  Calls Tryz.prog 51 #[.agg #[strB f.name,.int .i64 f.kind,.int .i64 f.key,.int .i64 f.state,.slice ca f.cells.length cc],.agg #[strB c.name,.int .i64 c.kind,.int .i64 c.key,.slice ca' c.cells.length cc']] w fun e w'=>e=.returned (.bool (Zo f c))∧Below w.heap.size w w':=by
 obtain ⟨hb0,hs0,_,hh0⟩:=jK w #[strB f.name,.int .i64 f.kind,.int .i64 f.key,.int .i64 f.state,.slice ca f.cells.length cc] 94
 have HP:=hid (fun w'=>Rj f (.slice ca f.cells.length cc) w')
 have HE:=hid (fun w' (hb:Below w.heap.size w w')=>DR ca ca' cc cc' f.cells c.cells w' hm hm2 (hl.later hb) (hl2.later hb))
 have HC:Hid (Zo f c=(decide (f.name=c.name) && decide (f.kind=c.kind) && decide (f.key=c.key) && (!xD f || XL f.cells c.cells))):=rfl
 clear hl hl2 hm hm2
 generalize hn:f.cells.length=n at *
 generalize hn':c.cells.length=n' at *
 generalize XL f.cells c.cells=D at *
 generalize xD f=Pv at *
 generalize Zo f c=R at *
 generalize f.name=nm at *
 generalize f.kind=kd at *
 generalize f.key=ky at *
 generalize f.state=st at *
 generalize c.name=nm' at *
 generalize c.kind=kd' at *
 generalize c.key=ky' at *
 clear hn hn'
 by_cases e1:nm=nm'
 ·by_cases e2:kd=kd'
  ·by_cases e3:ky=ky'
   ·have HX:Hid (R=(!Pv || D)):=by show R=_;rw [HC.out];simp [e1,e2,e3]
    subst e1
    subst e2
    subst e3
    clear HC
    go_enter Tryz.func51,Tryz.ntmps51
    go_upto_region 3 with fail
    obtain ⟨hb1,hs1,_,hh1⟩:=jK (w.alloc (.cells #[strB nm,.int .i64 kd,.int .i64 ky,.int .i64 st,.slice ca n cc] 94)) #[strB nm,.int .i64 kd,.int .i64 ky,.slice ca' n' cc'] 31
    have hz:(w.alloc (.cells #[strB nm,.int .i64 kd,.int .i64 ky,.int .i64 st,.slice ca n cc] 94)).heap.size=w.heap.size+1:=by simp
    have hh2:=(hb1.block w.heap.size hs0).trans hh0
    have HB2:=hid (hb0.trans (hb1.mono hb0.size))
    have hltw:=Nat.lt_of_lt_of_le hs0 hb1.size
    rw [hz] at hs1 hh1
    generalize (w.alloc (.cells #[strB nm,.int .i64 kd,.int .i64 ky,.int .i64 st,.slice ca n cc] 94)).alloc (.cells #[strB nm,.int .i64 kd,.int .i64 ky,.slice ca' n' cc'] 31)=w2 at *
    clear hb1 hz hb0 hs0 hh0
    have x0:w2.cell? ⟨w.heap.size,0,none⟩=some (strB nm):=by rw [jb hh2];rfl
    have x1:w2.cell? ⟨w.heap.size,1,none⟩=some (.int .i64 kd):=by rw [jb hh2];rfl
    have x2:w2.cell? ⟨w.heap.size,2,none⟩=some (.int .i64 ky):=by rw [jb hh2];rfl
    have x3:w2.cell? ⟨w.heap.size,3,none⟩=some (.int .i64 st):=by rw [jb hh2];rfl
    have x4:w2.cell? ⟨w.heap.size,4,none⟩=some (.slice ca n cc):=by rw [jb hh2];rfl
    have y3:w2.cell? ⟨w.heap.size+1,3,none⟩=some (.slice ca' n' cc'):=by rw [jb hh1];rfl
    clear hh1 hh2
    go_wp2_with fail
    refine (HP.out _).mono ?_
    clear HP
    rintro e w3 ⟨rfl,hb3⟩
    have HB3:=hid (HB2.out.trans (hb3.mono HB2.out.size))
    have z4:=(hb3.cell (p:=⟨w.heap.size,4,none⟩) hltw).trans x4
    have t3:=(hb3.cell (p:=⟨w.heap.size+1,3,none⟩) hs1).trans y3
    clear x0 x1 x2 x3 x4 y3 hb3
    cases Pv with
    | false =>
     clear HE z4 t3
     go_wp2
     go_ret
     exact ⟨by rw [HX.out];rfl,HB3.out⟩
    | true =>
     go_wp2_with fail
     refine (HE.out _ HB3.out).mono ?_
     clear HE
     rintro e w4 ⟨rfl,hb4⟩
     have HB4:=hid (HB3.out.trans (hb4.mono HB3.out.size))
     clear z4 t3 hb4
     go_wp2
     go_ret
     exact ⟨by rw [HX.out];rfl,HB4.out⟩
   ·have HX:Hid (R=false):=by show R=_;rw [HC.out];simp [e3]
    have q1:(ky != ky')=true:=by simpa using e3
    subst e1
    subst e2
    clear HC HE HP e3
    go_enter Tryz.func51,Tryz.ntmps51
    go_wp2
    go_ret
    exact ⟨by rw [HX.out];rfl,GD w _ _⟩
  ·have HX:Hid (R=false):=by show R=_;rw [HC.out];simp [e2]
   have q1:(kd != kd')=true:=by simpa using e2
   subst e1
   clear HC HE HP e2
   go_enter Tryz.func51,Tryz.ntmps51
   go_wp2
   go_ret
   exact ⟨by rw [HX.out];rfl,GD w _ _⟩
 ·have HX:Hid (R=false):=by show R=_;rw [HC.out];simp [e1]
  have q1:(nm != nm')=true:=by simpa using e1
  have q2:(nm == nm')=false:=by simpa using e1
  clear HC HE HP
  go_enter Tryz.func51,Tryz.ntmps51
  go_wp2
  go_ret
  exact ⟨by rw [HX.out];rfl,GD w _ _⟩
def Qe (F:Nat→FoundB) (T:List ColB):Nat→Bool
 | 0=>true
 | k+1=>Qe F T k && Zo (F k) (jf T k)
def zX (F:Nat→FoundB) (n:Nat) (T:List ColB):Bool:=decide (n=T.length) && Qe F T n
theorem LV {F:Nat→FoundB} {T:List ColB} {n k:Nat} (hk:k < n) (h:Zo (F k) (jf T k)=false):Qe F T n=false:=by
 induction n with
 | zero=>omega
 | succ n ih =>
  by_cases e:k=n
  ·subst e;simp only [Qe,h,Bool.and_false]
  ·simp only [Qe,ih (by omega),Bool.false_and]
theorem isTab_iff {F:Nat→FoundB} {T:List ColB}:∀ {n:Nat},Qe F T n=true ↔ ∀ k,k < n→Zo (F k) (jf T k)=true:=by
 intro n
 induction n with
 | zero=>exact ⟨fun _ k hk=>by omega,fun _=>rfl⟩
 | succ n ih =>
  simp only [Qe,Bool.and_eq_true]
  rw [ih]
  refine ⟨fun ⟨h1,h2⟩ k hk=>?_,fun h=>⟨fun k hk=>h k (by omega),h n (by omega)⟩⟩
  by_cases e:k=n
  ·subst e;exact h2
  ·exact h1 k (by omega)
theorem Ms (a a2:Option Addr) (cap cap2:Nat) (F:Nat→FoundB) (n:Nat) (T:List ColB) (w:World) (hm:n≤1000) (hm2:T.length≤maxLen) (hl:LiesF w a F n) (hl2:LiesT w a2 T) :
  Calls Tryz.prog 50 #[.slice a n cap,.slice a2 T.length cap2,fnV 51] w fun e w'=>e=.returned (.bool (zX F n T))∧Below w.heap.size w w':=by
 have Hl:=hid hl
 have Hl2:=hid hl2
 clear hl hl2
 unfold maxLen at hm2
 by_cases hlen:n=T.length
 ·have hne:((n:Int) != (T.length:Int))=false:=by simp;omega
  have HH:Hid (zX F n T=Qe F T n):=by show zX F n T=_;simp [zX,hlen]
  have Hlen:=hid hlen
  clear hlen
  go_enter Tryz.func50,Tryz.ntmps50
  go_wp2
  go_loopw [17] (fun i wr=>∃ k:Nat,k≤n∧i=.int .i64 (k:Int)∧Qe F T k=true∧Below w.heap.size w wr) (fun i _=>n - (intOf i).toNat)
  case atStart=>exact ⟨0,Nat.zero_le _,rfl,rfl,Below.refl _ _⟩
  case round =>
   obtain ⟨k,hk,rfl,ht,hB⟩:=hrel
   have Ht:=hid ht
   have HB:=hid hB
   clear ht hne
   by_cases hlt:k < n
   ·have hlt2:k < T.length:=by have:=Hlen.out;omega
    obtain ⟨b,rfl,hbw,hcell⟩:=(Hl.out.later hB).at_ (by omega)
    obtain ⟨ca,cc,g1,g2,g3,g4,g5,g6,g7⟩:=hcell k hlt
    obtain ⟨b',off,rfl,hbw',hcell'⟩:=(Hl2.out.later hB).at_ (List.ne_nil_of_length_pos (by omega))
    obtain ⟨k1,k2,k3,v,k4,ca',cc',rfl,hcc,hlc,hcm⟩:=hcell' k hlt2
    have hki:(k:Int) < (n:Int):=by omega
    have hki2:(k:Int) < (T.length:Int):=by omega
    have HI:=hid (fun w' (hb:Below wr.heap.size wr w')=>DZ (F k) T[k] ca ca' cc cc' w' (by unfold maxLen;omega) (by unfold maxLen;omega) (g6.later hb) (hlc.later hb))
    have HY:Hid (Zo (F k) T[k]=true→Qe F T (k+1)=true):=by
     intro h
     simp only [Qe,Ht.out,Bool.true_and]
     rw [xz hlt2]
     exact h
    have HN:Hid (Zo (F k) T[k]=false→Qe F T n=false):=fun h=>LV hlt (by rw [xz hlt2];exact h)
    clear hcell hcell' hB g6 g7 hlc hcm hcc
    generalize Zo (F k) T[k]=R at *
    generalize (F k).cells.length=m at *
    generalize (F k).name=nm at *
    generalize (F k).kind=kd at *
    generalize (F k).key=ky at *
    generalize (F k).state=st at *
    generalize (T[k]).name=nm' at *
    generalize (T[k]).kind=kd' at *
    generalize (T[k]).key=ky' at *
    generalize (T[k]).cells.length=m' at *
    go_upto_region 7 with fail
    clear g1 g2 g3 g4 g5 k1 k2 k3 k4
    obtain ⟨hb0,hs0,_,hh0⟩:=jK wr #[strB nm,.int .i64 kd,.int .i64 ky,.int .i64 st,.slice ca m cc] 94
    obtain ⟨hb1,hs1,_,hh1⟩:=jK (wr.alloc (.cells #[strB nm,.int .i64 kd,.int .i64 ky,.int .i64 st,.slice ca m cc] 94)) #[strB nm',.int .i64 kd',.int .i64 ky',.slice ca' m' cc'] 31
    have hz:(wr.alloc (.cells #[strB nm,.int .i64 kd,.int .i64 ky,.int .i64 st,.slice ca m cc] 94)).heap.size=wr.heap.size+1:=by simp
    have hh2:=(hb1.block wr.heap.size hs0).trans hh0
    have hb2:=hb0.trans (hb1.mono hb0.size)
    have HB2:=hid (HB.out.trans (hb2.mono HB.out.size))
    rw [hz] at hs1 hh1
    generalize (wr.alloc (.cells #[.string ⟨nm.toArray⟩,.int .i64 kd,.int .i64 ky,.int .i64 st,.slice ca m cc] 94)).alloc (.cells #[.string ⟨nm'.toArray⟩,.int .i64 kd',.int .i64 ky',.slice ca' m' cc'] 31)=w2 at *
    have x0:w2.cell? ⟨wr.heap.size,0,none⟩=some (strB nm):=by rw [jb hh2];rfl
    have x1:w2.cell? ⟨wr.heap.size,1,none⟩=some (.int .i64 kd):=by rw [jb hh2];rfl
    have x2:w2.cell? ⟨wr.heap.size,2,none⟩=some (.int .i64 ky):=by rw [jb hh2];rfl
    have x3:w2.cell? ⟨wr.heap.size,3,none⟩=some (.int .i64 st):=by rw [jb hh2];rfl
    have x4:w2.cell? ⟨wr.heap.size,4,none⟩=some (.slice ca m cc):=by rw [jb hh2];rfl
    have y0:w2.cell? ⟨wr.heap.size+1,0,none⟩=some (strB nm'):=by rw [jb hh1];rfl
    have y1:w2.cell? ⟨wr.heap.size+1,1,none⟩=some (.int .i64 kd'):=by rw [jb hh1];rfl
    have y2:w2.cell? ⟨wr.heap.size+1,2,none⟩=some (.int .i64 ky'):=by rw [jb hh1];rfl
    have y3:w2.cell? ⟨wr.heap.size+1,3,none⟩=some (.slice ca' m' cc'):=by rw [jb hh1];rfl
    have HI2:=hid (HI.out w2 hb2)
    clear hh1 hh2 hb1 hz hb0 hs0 hh0 hb2 HI hs1
    go_wp2_with fail
    refine HI2.out.mono ?_
    clear HI2 x0 x1 x2 x3 x4 y0 y1 y2 y3
    rintro e w3 ⟨rfl,hb3⟩
    have HB3:=hid (HB2.out.trans (hb3.mono HB2.out.size))
    clear hb3
    cases R with
    | true =>
     have HX:=hid (HY.out rfl)
     clear HY HN
     go_wp2
     go_roundw
     case rel=>exact ⟨k+1,by omega,by go_num,HX.out,HB3.out⟩
     case measure=>simp [intOf];omega
    | false =>
     have HX:=hid (HN.out rfl)
     clear HY HN
     go_wp2
     go_ret
     exact ⟨by rw [HH.out,HX.out];rfl,HB3.out⟩
   ·have hke:k=n:=by omega
    subst hke
    go_wp2
    go_ret
    exact ⟨by rw [HH.out,Ht.out];rfl,HB.out⟩
 ·have hne:((n:Int) != (T.length:Int))=true:=by simp;omega
  have HH:Hid (zX F n T=false):=by show zX F n T=_;simp [zX,hlen]
  clear hlen
  go_enter Tryz.func50,Tryz.ntmps50
  go_wp2
  go_ret
  exact ⟨by rw [HH.out];rfl,Below.refl _ _⟩
def Jo (F:Nat→FoundB) (n:Nat) (pre:List UInt8) (js:List JobB):Prop :=
 ∃ k,∃ h:k < js.length,(js[k]).pre=pre∧(∀ j ∈ js.take k,j.pre≠pre)∧zX F n (js[k]).table=true
theorem YB (a:Option Addr) (cap:Nat) (F:Nat→FoundB) (n:Nat) (pre:List UInt8) (ja:Option Addr) (jc:Nat) (js:List JobB) (w:World) (hm:n≤1000) (hm2:js.length≤maxLen) (hl:LiesF w a F n) (hj:LiesJs w ja js) :
  Calls Tryz.prog 27 #[.slice a n cap,strB pre,.slice ja js.length jc] w fun e w'=>((e=.returned (.bool true)∧Jo F n pre js)∨(e=.returned (.bool false)∧¬ Jo F n pre js))∧Below w.heap.size w w':=by
 have Hl:=hid hl
 have Hj:=hid hj
 clear hl hj
 have Hm2:=hid hm2
 unfold maxLen at hm2
 go_enter Tryz.func27,Tryz.ntmps27
 go_wp2_with fail
 refine (Re pre _).mono ?_
 rintro e w1 ⟨rfl,hc1,hlt1,hb1⟩
 have HB1:=hid hb1
 have HI:=hid (RO ja jc js pre w.heap.size w1 Hm2.out (Hj.out.later hb1) hc1)
 clear hb1 hc1
 go_wp2_with fail
 refine HI.out.mono ?_
 clear HI
 rintro e w2 ⟨⟨r,rfl,⟨k,hk,rfl,hp,hfirst⟩|⟨rfl,hp⟩⟩,hb2⟩
 ·have HB2:=hid (HB1.out.trans (hb2.mono HB1.out.size))
  have hki:(k:Int) < (js.length:Int):=by omega
  obtain ⟨b,off,rfl,hbw,hcell⟩:=(Hj.out.later HB2.out).at_ (List.ne_nil_of_length_pos (by omega))
  obtain ⟨ta,tc,c0,_,_,_,_,_,_,hlj⟩:=hcell k hk
  have HE:=hid (Ms a ta cap tc F n (js[k]).table w2 hm hlj.len (Hl.out.later HB2.out) hlj.table)
  have HW:Hid (Jo F n pre js ↔ zX F n (js[k]).table=true):=by
   refine ⟨fun ⟨k',hk',h1,h2,h3⟩=>?_,fun h=>⟨k,hk,hp,hfirst,h⟩⟩
   have e:k'=k:=by
    rcases Nat.lt_trichotomy k' k with h|h|h
    ·exact absurd h1 (hfirst _ (List.mem_take_iff_getElem.2 ⟨k',by omega,rfl⟩))
    ·exact h
    ·exact absurd hp (h2 _ (List.mem_take_iff_getElem.2 ⟨k,by omega,rfl⟩))
   subst e
   exact h3
  clear hp hfirst hcell hlj hb2
  generalize zX F n (js[k]).table=R at *
  generalize (js[k]).table.length=tl at *
  go_wp2_with fail
  refine HE.out.mono ?_
  clear HE c0
  rintro e w3 ⟨rfl,hb3⟩
  have HB3:=hid (HB2.out.trans (hb3.mono HB2.out.size))
  clear hb3
  cases R with
  | true =>
   have HX:=hid (HW.out.2 rfl)
   clear HW
   go_wp2
   go_ret
   exact ⟨.inl ⟨rfl,HX.out⟩,HB3.out⟩
  | false =>
   have HX:Hid (¬ Jo F n pre js):=fun h=>by have:=HW.out.1 h;simp at this
   clear HW
   go_wp2
   go_ret
   exact ⟨.inr ⟨rfl,HX.out⟩,HB3.out⟩
 ·have HX:Hid (¬ Jo F n pre js):=fun ⟨k,hk,h1,_⟩=>hp _ (List.getElem_mem hk) h1
  have HB2:=hid (HB1.out.trans (hb2.mono HB1.out.size))
  clear hp hb2
  go_wp2
  go_ret
  exact ⟨.inr ⟨rfl,HX.out⟩,HB2.out⟩
end Go.Proofs.YthhpbhpfagoapabGreat
