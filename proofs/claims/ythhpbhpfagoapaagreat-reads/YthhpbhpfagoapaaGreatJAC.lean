import Derived.Test.YthhpbhpfagoapaaGreatTk
import Derived.Test.YthhpbhpfagoapaaGreatJAQ
import Derived.Test.YthhpbhpfagoapaaGreatDShortI
namespace Go.Proofs.YthhpbhpfagoapaaGreat
set_option linter.unusedVariables false
set_option linter.unusedSimpArgs false
set_option maxRecDepth 100000
set_option maxHeartbeats 16000000
open Go.RowKit
section
theorem Lq (g b cap:Nat) (l:List CellB) (w:World) (hs:Small l) (hl:TextsLie w b l) (hg:g < w.heap.size) (hw:TxtW w g) :
  Calls Tryz.prog 208 #[txtC g,.slice (some ⟨b,0,none⟩) l.length cap] w fun e w'=>e=.returned (strB (jE 1 l 3))∧Below w.heap.size w w':=by
 have Hs:=hid hs
 have Hl:=hid hl
 have Hw:=hid hw
 have HBL:=hid (fun k=>Xx 1 l hs.small hs.few k)
 have HWL:=hid (fun n=>Kw n l hs.small hs.few)
 clear hs hl hw
 go_enter Tryz.func208,Tryz.ntmps208
 go_wp2
 obtain ⟨hb0,hs0,hc0⟩:=zV w #[.slice (some ⟨g,0,none⟩) 3 3,fnV 202,fnV 203,fnV 204,fnV 205,fnV 206,fnV 207] 225
 have Hc:Hid (BoxT _ g w.heap.size):=⟨hc0 0,hc0 1,hc0 2,hc0 3,hc0 4,hc0 5,hc0 6⟩
 have Hl0:=hid (Hl.out.later hb0)
 have Hw0:=hid (Hw.out.later hg hb0)
 have Hb0:=hid hb0
 have hs1:=Nat.lt_of_lt_of_eq (Nat.lt_succ_self w.heap.size) hs0.symm
 have hg0:=Nat.lt_of_lt_of_le hg hb0.size
 clear hc0 hb0 hs0
 generalize w.alloc _=w0 at *
 go_loopw [5,12] (fun v i wr=>∃ k:Nat,k≤3∧i=.int .i64 (k:Int)∧v=strB (jE 1 l k)∧Below w0.heap.size w0 wr)
  (fun _ i _=>3 - (intOf i).toNat)
 case atStart=>exact ⟨0,Nat.zero_le _,rfl,rfl,Below.refl _ _⟩
 case round =>
  obtain ⟨k,hk,rfl,rfl,hB⟩:=hrel
  have hwl:=Hw0.out.later hg0 hB
  have hbx:=qT Hc.out hB hs1
  have hwr:w.heap.size < wr.heap.size:=Nat.lt_of_lt_of_le hs1 hB.size
  have hgr:g < wr.heap.size:=Nat.lt_of_lt_of_le hg0 hB.size
  have Hlr:=hid (Hl0.out.later hB)
  have hbl:=HBL.out k
  rcases (show k=0∨k=1∨k=2∨k=3 by omega) with rfl|rfl|rfl|rfl
  ·have c0:wr.cell? ⟨g,0,none⟩=some (.int .u8 0):=jV hwl 0 rfl
   have c1:wr.cell? ⟨g,1,none⟩=some (fnV 196):=jV hwl 1 rfl
   have c2:wr.cell? ⟨g,2,none⟩=some (fnV 197):=jV hwl 2 rfl
   have HE:Hid (∀ w',TextsLie w' b l→Calls Tryz.prog 196 #[txtC g,.slice (some ⟨b,0,none⟩) l.length cap] w' fun e w2=>e=.returned (strB (qq 5 l))∧Below w'.heap.size w' w2):=fun w' h=>SF g b cap l w' Hs.out h
   have HBT:Hid (jE 1 l (0+1)=if 0=0∨([byB 0]++qq 5 l).length < (jE 1 l 0).length then [byB 0]++qq 5 l else jE 1 l 0):=rfl
   have hwn:=HWL.out 5
   have hwn_:True:=trivial
   clear hwl
   generalize qq 5 l=W5 at *
   have hbe:jE 1 l 0=[]:=rfl
   rw [hbe] at HBT
   rw [hbe] at hbl
   rw [hbe]
   clear hbe
   go_upto_region 5 with fail
   obtain ⟨hb1,hs2,hc1⟩:=zV wr #[.int .u8 0,fnV 196,fnV 197] 281
   have f0:=hc1 0
   have f1:=hc1 1
   simp only [List.getElem?_toArray,List.getElem?_cons_zero,List.getElem?_cons_succ] at f0 f1
   have hbx1:=qT hbx hb1 hwr
   have Hl1:=hid (Hlr.out.later hb1)
   have hz1:=Nat.lt_of_lt_of_eq (Nat.lt_succ_self wr.heap.size) hs2.symm
   have hwr1:=Nat.lt_of_lt_of_le hwr hb1.size
   have HB1:=hid (hB.trans (hb1.mono hB.size))
   clear hc1 hs2 hb1 hbx c0 c1 c2 hB
   generalize wr.alloc _=w1 at *
   have S1:ST w1 wr.heap.size 0 196 g w.heap.size:=⟨f0,f1,hbx1⟩
   clear f0 f1 hbx1
   go_cut [8] (fun v wd=>v=strB (byB 0 :: W5)∧Below w1.heap.size w1 wd)
   case first =>
    obtain ⟨f0,f1,x0,x1,x2,x3,x4,x5,x6⟩:=S1
    have S1:ST w1 wr.heap.size 0 196 g w.heap.size:=⟨f0,f1,x0,x1,x2,x3,x4,x5,x6⟩
    have HS1:=hid S1
    clear S1
    refine wp_region_noPanic ?_
    refine wp_region_held_drew (S:=fun w'=>w'.cell? ⟨wr.heap.size,0,none⟩=some (.int .u8 0)∧w'.cell? ⟨wr.heap.size,1,none⟩=some (fnV 196)∧w'.cell? ⟨w.heap.size,0,none⟩=some (.slice (some ⟨g,0,none⟩) 3 3)∧w'.cell? ⟨w.heap.size,1,none⟩=some (fnV 202)∧w'.cell? ⟨w.heap.size,2,none⟩=some (fnV 203)∧w'.cell? ⟨w.heap.size,3,none⟩=some (fnV 204)∧w'.cell? ⟨w.heap.size,4,none⟩=some (fnV 205)∧w'.cell? ⟨w.heap.size,5,none⟩=some (fnV 206)∧w'.cell? ⟨w.heap.size,6,none⟩=some (fnV 207)) (by kernel_rfl) ?_ (fun hHeld=>?_)
    ·exact HS1.out
    refine tk 0 (.pointer (some ⟨wr.heap.size,0,none⟩)) ?_
    refine tk 1 (.int .u8 0) ?_
    refine tk 3 (.pointer (some ⟨wr.heap.size,1,none⟩)) ?_
    refine tk 4 (fnV 196) ?_
    refine tk 5 (txtC g) ?_
    refine tk 6 (.slice (some ⟨b,0,none⟩) l.length cap) ?_
    simp only [ga,gb,gc,Act.put,gd,ge,gf]
    refine wpAnyH_ready (rs:=[2]) (by kernel_rfl) (by simp) ?_
    refine AllReadyH.cons (o:=_) rfl (fun K hK=>?_) ?_
    ·simp only [ga,gb,gc]
     go_simp
     go_at_call 214
     refine (JG 0 _ (by decide) (by decide)).mono ?_
     rintro e w2 ⟨rfl,hb2⟩
     have hb2':Below w1.heap.size w1 w2:=ji hb2
     have X2:=Qk HS1.out hb2' hz1 hwr1
     try go_wp2_with fail
     refine hK.out _ _ ?_ (fun hHeld=>?_)
     ·exact X2
     clear hK K
     try simp only [ga,gb,gc,Act.put,gd,ge,gf]
     refine wpAnyH_ready (rs:=[7]) (by kernel_rfl) (by simp) ?_
     refine AllReadyH.cons (o:=_) rfl (fun K hK=>?_) ?_
     ·simp only [ga,gb,gc]
      go_simp
      go_at_call 196
      refine (HE.out _ (Hl1.out.later hb2')).mono ?_
      rintro e w3 ⟨rfl,hb3⟩
      have X3:=Qk X2 hb3 (Nat.lt_of_lt_of_le hz1 hb2'.size) (Nat.lt_of_lt_of_le hwr1 hb2'.size)
      try go_wp2_with fail
      refine hK.out _ _ ?_ (fun hHeld=>?_)
      ·exact X3
      clear hK K
      try simp only [ga,gb,gc,Act.put,gd,ge,gf]
      refine wpAnyH_ready (rs:=[8]) (by kernel_rfl) (by simp) ?_
      refine AllReadyH.cons (o:=_) rfl (fun K hK=>?_) ?_
      ·simp only [ga,gb,gc]
       go_simp
       refine hK.out _ _ ?_ (fun hHeld=>?_)
       ·exact NT _ X3
       clear hK K
       try simp only [ga,gb,gc,Act.put,gd,ge,gf]
       refine wpAnyH_ready (rs:=[9]) (by kernel_rfl) (by simp) ?_
       refine AllReadyH.cons (o:=_) rfl (fun K hK=>?_) ?_
       ·simp only [ga,gb,gc]
        go_simp
        go_at_call 194
        refine (Xm [[byB 0],W5] #[strB [byB 0],strB W5] 2 _ _ (by first|rfl|simp) rfl rfl (by decide) (by simp;omega)).mono ?_
        rintro e w6 ⟨rfl,hb6⟩
        have X6:=Qk X3 hb6 (Nat.lt_of_lt_of_le hz1 (Nat.le_trans hb2'.size hb3.size)) (Nat.lt_of_lt_of_le hwr1 (Nat.le_trans hb2'.size hb3.size))
        try go_wp2_with fail
        refine hK.out _ _ ?_ (fun hHeld=>?_)
        ·exact X6
        clear hK K
        try simp only [ga,gb,gc,Act.put,gd,ge,gf]
        refine wpAnyH_ready (rs:=[10]) (by kernel_rfl) (by simp) ?_
        refine AllReadyH.cons (o:=_) rfl (fun K hK=>?_) ?_
        ·simp only [ga,gb,gc]
         go_simp
         refine hK.out _ _ ?_ (fun hHeld=>?_)
         ·exact X6
         clear hK K
         try simp only [ga,gb,gc,Act.put,gd,ge,gf]
         refine wpAnyH_done (by kernel_rfl) ?_ _
         refine NoPanic.normal ?_
         have HBX:=hid ((hb2'.trans (hb3.mono hb2'.size)).trans (hb6.mono (Nat.le_trans hb2'.size hb3.size)))
         clear X2 X3 X6 hb2 hb2' hb3 hb6 HS1
         go_wp2_with fail
         go_meet
         case rel=>exact ⟨rfl,HBX.out⟩
        exact AllReadyH.nil
       exact AllReadyH.nil
      exact AllReadyH.nil
     exact AllReadyH.nil
    exact AllReadyH.nil
   case rest =>
    obtain ⟨rfl,hbc⟩:=hcut
    have HBC:=hid (HB1.out.trans (hbc.mono HB1.out.size))
    clear hbc S1 hbl hwn_
    have HN:Hid (jE 1 l (0+1)=byB 0 :: W5):=by
     show jE 1 l (0+1)=_
     rw [HBT.out,if_pos (.inl rfl)];rfl
    go_wp2
    go_roundw
    case rel=>exact ⟨1,by omega,by go_num,by rw [HN.out],HBC.out⟩
    case measure=>simp [intOf]
  ·have c0:wr.cell? ⟨g,3,none⟩=some (.int .u8 3):=jV hwl 3 rfl
   have c1:wr.cell? ⟨g,4,none⟩=some (fnV 198):=jV hwl 4 rfl
   have c2:wr.cell? ⟨g,5,none⟩=some (fnV 199):=jV hwl 5 rfl
   have HE:Hid (∀ w',TextsLie w' b l→Calls Tryz.prog 198 #[txtC g,.slice (some ⟨b,0,none⟩) l.length cap] w' fun e w2=>e=.returned (strB (qq 3 l))∧Below w'.heap.size w' w2):=fun w' h=>Sx g b cap l w' Hs.out h
   have HBT:Hid (jE 1 l (1+1)=if 1=0∨([byB 3]++qq 3 l).length < (jE 1 l 1).length then [byB 3]++qq 3 l else jE 1 l 1):=rfl
   have hwn:=HWL.out 3
   have hwn_:True:=trivial
   clear hwl
   generalize qq 3 l=W5 at *
   have Hbn:=hid (KB 1 l 0)
   generalize hbest:jE 1 l 1=best at *
   have Hbest:=hid hbest
   clear hbest
   go_upto_region 5 with fail
   obtain ⟨hb1,hs2,hc1⟩:=zV wr #[.int .u8 3,fnV 198,fnV 199] 281
   have f0:=hc1 0
   have f1:=hc1 1
   simp only [List.getElem?_toArray,List.getElem?_cons_zero,List.getElem?_cons_succ] at f0 f1
   have hbx1:=qT hbx hb1 hwr
   have Hl1:=hid (Hlr.out.later hb1)
   have hz1:=Nat.lt_of_lt_of_eq (Nat.lt_succ_self wr.heap.size) hs2.symm
   have hwr1:=Nat.lt_of_lt_of_le hwr hb1.size
   have HB1:=hid (hB.trans (hb1.mono hB.size))
   clear hc1 hs2 hb1 hbx c0 c1 c2 hB
   generalize wr.alloc _=w1 at *
   have S1:ST w1 wr.heap.size 3 198 g w.heap.size:=⟨f0,f1,hbx1⟩
   clear f0 f1 hbx1
   go_cut [8] (fun v wd=>v=strB (byB 3 :: W5)∧Below w1.heap.size w1 wd)
   case first =>
    obtain ⟨f0,f1,x0,x1,x2,x3,x4,x5,x6⟩:=S1
    have S1:ST w1 wr.heap.size 3 198 g w.heap.size:=⟨f0,f1,x0,x1,x2,x3,x4,x5,x6⟩
    have HS1:=hid S1
    clear S1
    refine wp_region_noPanic ?_
    refine wp_region_held_drew (S:=fun w'=>w'.cell? ⟨wr.heap.size,0,none⟩=some (.int .u8 3)∧w'.cell? ⟨wr.heap.size,1,none⟩=some (fnV 198)∧w'.cell? ⟨w.heap.size,0,none⟩=some (.slice (some ⟨g,0,none⟩) 3 3)∧w'.cell? ⟨w.heap.size,1,none⟩=some (fnV 202)∧w'.cell? ⟨w.heap.size,2,none⟩=some (fnV 203)∧w'.cell? ⟨w.heap.size,3,none⟩=some (fnV 204)∧w'.cell? ⟨w.heap.size,4,none⟩=some (fnV 205)∧w'.cell? ⟨w.heap.size,5,none⟩=some (fnV 206)∧w'.cell? ⟨w.heap.size,6,none⟩=some (fnV 207)) (by kernel_rfl) ?_ (fun hHeld=>?_)
    ·exact HS1.out
    refine tk 0 (.pointer (some ⟨wr.heap.size,0,none⟩)) ?_
    refine tk 1 (.int .u8 3) ?_
    refine tk 3 (.pointer (some ⟨wr.heap.size,1,none⟩)) ?_
    refine tk 4 (fnV 198) ?_
    refine tk 5 (txtC g) ?_
    refine tk 6 (.slice (some ⟨b,0,none⟩) l.length cap) ?_
    simp only [ga,gb,gc,Act.put,gd,ge,gf]
    refine wpAnyH_ready (rs:=[2]) (by kernel_rfl) (by simp) ?_
    refine AllReadyH.cons (o:=_) rfl (fun K hK=>?_) ?_
    ·simp only [ga,gb,gc]
     go_simp
     go_at_call 214
     refine (JG 3 _ (by decide) (by decide)).mono ?_
     rintro e w2 ⟨rfl,hb2⟩
     have hb2':Below w1.heap.size w1 w2:=ji hb2
     have X2:=Qk HS1.out hb2' hz1 hwr1
     try go_wp2_with fail
     refine hK.out _ _ ?_ (fun hHeld=>?_)
     ·exact X2
     clear hK K
     try simp only [ga,gb,gc,Act.put,gd,ge,gf]
     refine wpAnyH_ready (rs:=[7]) (by kernel_rfl) (by simp) ?_
     refine AllReadyH.cons (o:=_) rfl (fun K hK=>?_) ?_
     ·simp only [ga,gb,gc]
      go_simp
      go_at_call 198
      refine (HE.out _ (Hl1.out.later hb2')).mono ?_
      rintro e w3 ⟨rfl,hb3⟩
      have X3:=Qk X2 hb3 (Nat.lt_of_lt_of_le hz1 hb2'.size) (Nat.lt_of_lt_of_le hwr1 hb2'.size)
      try go_wp2_with fail
      refine hK.out _ _ ?_ (fun hHeld=>?_)
      ·exact X3
      clear hK K
      try simp only [ga,gb,gc,Act.put,gd,ge,gf]
      refine wpAnyH_ready (rs:=[8]) (by kernel_rfl) (by simp) ?_
      refine AllReadyH.cons (o:=_) rfl (fun K hK=>?_) ?_
      ·simp only [ga,gb,gc]
       go_simp
       refine hK.out _ _ ?_ (fun hHeld=>?_)
       ·exact NT _ X3
       clear hK K
       try simp only [ga,gb,gc,Act.put,gd,ge,gf]
       refine wpAnyH_ready (rs:=[9]) (by kernel_rfl) (by simp) ?_
       refine AllReadyH.cons (o:=_) rfl (fun K hK=>?_) ?_
       ·simp only [ga,gb,gc]
        go_simp
        go_at_call 194
        refine (Xm [[byB 3],W5] #[strB [byB 3],strB W5] 2 _ _ (by first|rfl|simp) rfl rfl (by decide) (by simp;omega)).mono ?_
        rintro e w6 ⟨rfl,hb6⟩
        have X6:=Qk X3 hb6 (Nat.lt_of_lt_of_le hz1 (Nat.le_trans hb2'.size hb3.size)) (Nat.lt_of_lt_of_le hwr1 (Nat.le_trans hb2'.size hb3.size))
        try go_wp2_with fail
        refine hK.out _ _ ?_ (fun hHeld=>?_)
        ·exact X6
        clear hK K
        try simp only [ga,gb,gc,Act.put,gd,ge,gf]
        refine wpAnyH_ready (rs:=[10]) (by kernel_rfl) (by simp) ?_
        refine AllReadyH.cons (o:=_) rfl (fun K hK=>?_) ?_
        ·simp only [ga,gb,gc]
         go_simp
         refine hK.out _ _ ?_ (fun hHeld=>?_)
         ·exact X6
         clear hK K
         try simp only [ga,gb,gc,Act.put,gd,ge,gf]
         refine wpAnyH_done (by kernel_rfl) ?_ _
         refine NoPanic.normal ?_
         have HBX:=hid ((hb2'.trans (hb3.mono hb2'.size)).trans (hb6.mono (Nat.le_trans hb2'.size hb3.size)))
         clear X2 X3 X6 hb2 hb2' hb3 hb6 HS1
         go_wp2_with fail
         go_meet
         case rel=>exact ⟨rfl,HBX.out⟩
        exact AllReadyH.nil
       exact AllReadyH.nil
      exact AllReadyH.nil
     exact AllReadyH.nil
    exact AllReadyH.nil
   case rest =>
    obtain ⟨rfl,hbc⟩:=hcut
    have HBC:=hid (HB1.out.trans (hbc.mono HB1.out.size))
    clear hbc S1 hbl hwn_
    have hbn:(best == [])=false:=by
     have h1:=Hbn.out
     simpa using h1
    have hbl2:best.length≤5001:=by have:=HBL.out 1;rw [Hbest.out] at this;exact this
    have hsz1:=jK best
    have hsz2:=jK (byB 3 :: W5)
    by_cases hcmp:(byB 3 :: W5).length < best.length
    ·have HN:Hid (jE 1 l (1+1)=byB 3 :: W5):=by
      show jE 1 l (1+1)=_
      rw [HBT.out,if_pos (.inr hcmp)];rfl
     have hc2:(W5.length:Int)+1 < (best.length:Int):=by simp at hcmp;omega
     go_wp2
     go_roundw
     case rel=>exact ⟨1+1,by omega,by go_num,by rw [HN.out],HBC.out⟩
     case measure=>simp [intOf]
    ·have HN:Hid (jE 1 l (1+1)=best):=by
      show jE 1 l (1+1)=_
      rw [HBT.out,if_neg]
      rintro (h|h)
      ·omega
      ·exact hcmp h
     have hc2:decide ((W5.length:Int)+1 < (best.length:Int))=false:=by simp at hcmp ⊢;omega
     go_wp2
     go_roundw
     case rel=>exact ⟨1+1,by omega,by go_num,by rw [HN.out],HBC.out⟩
     case measure=>simp [intOf]
  ·have c0:wr.cell? ⟨g,6,none⟩=some (.int .u8 4):=jV hwl 6 rfl
   have c1:wr.cell? ⟨g,7,none⟩=some (fnV 200):=jV hwl 7 rfl
   have c2:wr.cell? ⟨g,8,none⟩=some (fnV 201):=jV hwl 8 rfl
   have HE:Hid (∀ w',TextsLie w' b l→Calls Tryz.prog 200 #[txtC g,.slice (some ⟨b,0,none⟩) l.length cap] w' fun e w2=>e=.returned (strB (qq 4 l))∧Below w'.heap.size w' w2):=fun w' h=>SQ g b cap l w' Hs.out h
   have HBT:Hid (jE 1 l (2+1)=if 2=0∨([byB 4]++qq 4 l).length < (jE 1 l 2).length then [byB 4]++qq 4 l else jE 1 l 2):=rfl
   have hwn:=HWL.out 4
   have hwn_:True:=trivial
   clear hwl
   generalize qq 4 l=W5 at *
   have Hbn:=hid (KB 1 l 1)
   generalize hbest:jE 1 l 2=best at *
   have Hbest:=hid hbest
   clear hbest
   go_upto_region 5 with fail
   obtain ⟨hb1,hs2,hc1⟩:=zV wr #[.int .u8 4,fnV 200,fnV 201] 281
   have f0:=hc1 0
   have f1:=hc1 1
   simp only [List.getElem?_toArray,List.getElem?_cons_zero,List.getElem?_cons_succ] at f0 f1
   have hbx1:=qT hbx hb1 hwr
   have Hl1:=hid (Hlr.out.later hb1)
   have hz1:=Nat.lt_of_lt_of_eq (Nat.lt_succ_self wr.heap.size) hs2.symm
   have hwr1:=Nat.lt_of_lt_of_le hwr hb1.size
   have HB1:=hid (hB.trans (hb1.mono hB.size))
   clear hc1 hs2 hb1 hbx c0 c1 c2 hB
   generalize wr.alloc _=w1 at *
   have S1:ST w1 wr.heap.size 4 200 g w.heap.size:=⟨f0,f1,hbx1⟩
   clear f0 f1 hbx1
   go_cut [8] (fun v wd=>v=strB (byB 4 :: W5)∧Below w1.heap.size w1 wd)
   case first =>
    obtain ⟨f0,f1,x0,x1,x2,x3,x4,x5,x6⟩:=S1
    have S1:ST w1 wr.heap.size 4 200 g w.heap.size:=⟨f0,f1,x0,x1,x2,x3,x4,x5,x6⟩
    have HS1:=hid S1
    clear S1
    refine wp_region_noPanic ?_
    refine wp_region_held_drew (S:=fun w'=>w'.cell? ⟨wr.heap.size,0,none⟩=some (.int .u8 4)∧w'.cell? ⟨wr.heap.size,1,none⟩=some (fnV 200)∧w'.cell? ⟨w.heap.size,0,none⟩=some (.slice (some ⟨g,0,none⟩) 3 3)∧w'.cell? ⟨w.heap.size,1,none⟩=some (fnV 202)∧w'.cell? ⟨w.heap.size,2,none⟩=some (fnV 203)∧w'.cell? ⟨w.heap.size,3,none⟩=some (fnV 204)∧w'.cell? ⟨w.heap.size,4,none⟩=some (fnV 205)∧w'.cell? ⟨w.heap.size,5,none⟩=some (fnV 206)∧w'.cell? ⟨w.heap.size,6,none⟩=some (fnV 207)) (by kernel_rfl) ?_ (fun hHeld=>?_)
    ·exact HS1.out
    refine tk 0 (.pointer (some ⟨wr.heap.size,0,none⟩)) ?_
    refine tk 1 (.int .u8 4) ?_
    refine tk 3 (.pointer (some ⟨wr.heap.size,1,none⟩)) ?_
    refine tk 4 (fnV 200) ?_
    refine tk 5 (txtC g) ?_
    refine tk 6 (.slice (some ⟨b,0,none⟩) l.length cap) ?_
    simp only [ga,gb,gc,Act.put,gd,ge,gf]
    refine wpAnyH_ready (rs:=[2]) (by kernel_rfl) (by simp) ?_
    refine AllReadyH.cons (o:=_) rfl (fun K hK=>?_) ?_
    ·simp only [ga,gb,gc]
     go_simp
     go_at_call 214
     refine (JG 4 _ (by decide) (by decide)).mono ?_
     rintro e w2 ⟨rfl,hb2⟩
     have hb2':Below w1.heap.size w1 w2:=ji hb2
     have X2:=Qk HS1.out hb2' hz1 hwr1
     try go_wp2_with fail
     refine hK.out _ _ ?_ (fun hHeld=>?_)
     ·exact X2
     clear hK K
     try simp only [ga,gb,gc,Act.put,gd,ge,gf]
     refine wpAnyH_ready (rs:=[7]) (by kernel_rfl) (by simp) ?_
     refine AllReadyH.cons (o:=_) rfl (fun K hK=>?_) ?_
     ·simp only [ga,gb,gc]
      go_simp
      go_at_call 200
      refine (HE.out _ (Hl1.out.later hb2')).mono ?_
      rintro e w3 ⟨rfl,hb3⟩
      have X3:=Qk X2 hb3 (Nat.lt_of_lt_of_le hz1 hb2'.size) (Nat.lt_of_lt_of_le hwr1 hb2'.size)
      try go_wp2_with fail
      refine hK.out _ _ ?_ (fun hHeld=>?_)
      ·exact X3
      clear hK K
      try simp only [ga,gb,gc,Act.put,gd,ge,gf]
      refine wpAnyH_ready (rs:=[8]) (by kernel_rfl) (by simp) ?_
      refine AllReadyH.cons (o:=_) rfl (fun K hK=>?_) ?_
      ·simp only [ga,gb,gc]
       go_simp
       refine hK.out _ _ ?_ (fun hHeld=>?_)
       ·exact NT _ X3
       clear hK K
       try simp only [ga,gb,gc,Act.put,gd,ge,gf]
       refine wpAnyH_ready (rs:=[9]) (by kernel_rfl) (by simp) ?_
       refine AllReadyH.cons (o:=_) rfl (fun K hK=>?_) ?_
       ·simp only [ga,gb,gc]
        go_simp
        go_at_call 194
        refine (Xm [[byB 4],W5] #[strB [byB 4],strB W5] 2 _ _ (by first|rfl|simp) rfl rfl (by decide) (by simp;omega)).mono ?_
        rintro e w6 ⟨rfl,hb6⟩
        have X6:=Qk X3 hb6 (Nat.lt_of_lt_of_le hz1 (Nat.le_trans hb2'.size hb3.size)) (Nat.lt_of_lt_of_le hwr1 (Nat.le_trans hb2'.size hb3.size))
        try go_wp2_with fail
        refine hK.out _ _ ?_ (fun hHeld=>?_)
        ·exact X6
        clear hK K
        try simp only [ga,gb,gc,Act.put,gd,ge,gf]
        refine wpAnyH_ready (rs:=[10]) (by kernel_rfl) (by simp) ?_
        refine AllReadyH.cons (o:=_) rfl (fun K hK=>?_) ?_
        ·simp only [ga,gb,gc]
         go_simp
         refine hK.out _ _ ?_ (fun hHeld=>?_)
         ·exact X6
         clear hK K
         try simp only [ga,gb,gc,Act.put,gd,ge,gf]
         refine wpAnyH_done (by kernel_rfl) ?_ _
         refine NoPanic.normal ?_
         have HBX:=hid ((hb2'.trans (hb3.mono hb2'.size)).trans (hb6.mono (Nat.le_trans hb2'.size hb3.size)))
         clear X2 X3 X6 hb2 hb2' hb3 hb6 HS1
         go_wp2_with fail
         go_meet
         case rel=>exact ⟨rfl,HBX.out⟩
        exact AllReadyH.nil
       exact AllReadyH.nil
      exact AllReadyH.nil
     exact AllReadyH.nil
    exact AllReadyH.nil
   case rest =>
    obtain ⟨rfl,hbc⟩:=hcut
    have HBC:=hid (HB1.out.trans (hbc.mono HB1.out.size))
    clear hbc S1 hbl hwn_
    have hbn:(best == [])=false:=by
     have h1:=Hbn.out
     simpa using h1
    have hbl2:best.length≤5001:=by have:=HBL.out 2;rw [Hbest.out] at this;exact this
    have hsz1:=jK best
    have hsz2:=jK (byB 4 :: W5)
    by_cases hcmp:(byB 4 :: W5).length < best.length
    ·have HN:Hid (jE 1 l (2+1)=byB 4 :: W5):=by
      show jE 1 l (2+1)=_
      rw [HBT.out,if_pos (.inr hcmp)];rfl
     have hc2:(W5.length:Int)+1 < (best.length:Int):=by simp at hcmp;omega
     go_wp2
     go_roundw
     case rel=>exact ⟨2+1,by omega,by go_num,by rw [HN.out],HBC.out⟩
     case measure=>simp [intOf]
    ·have HN:Hid (jE 1 l (2+1)=best):=by
      show jE 1 l (2+1)=_
      rw [HBT.out,if_neg]
      rintro (h|h)
      ·omega
      ·exact hcmp h
     have hc2:decide ((W5.length:Int)+1 < (best.length:Int))=false:=by simp at hcmp ⊢;omega
     go_wp2
     go_roundw
     case rel=>exact ⟨2+1,by omega,by go_num,by rw [HN.out],HBC.out⟩
     case measure=>simp [intOf]
  ·go_wp2
   go_ret
   have hz:=Hb0.out.size
   exact ⟨rfl,Hb0.out.trans (hB.mono hz)⟩
end
section
theorem Tryz.infoInt:(Tryz.prog.info? 3).map (fun i=>(i.zero,i.size,i.bytes))=some (some (.int .i64 0),1,8):=by kernel_rfl
theorem Lk (c:CellB) (w:World) :
  Calls Tryz.prog 187 #[cellV c] w fun e w'=>e=.returned (.int .i64 c.int)∧Below w.heap.size w w':=by
 go_enter Tryz.func187,Tryz.ntmps187
 go_wp2
 go_ret
 exact ⟨rfl,(Below.refl _ _).alloc (Nat.le_refl _) _⟩
theorem Ll (c:CellB) (w:World) :
  Calls Tryz.prog 202 #[cellV c] w fun e w'=>e=.returned (strB c.text)∧Below w.heap.size w w':=by
 go_enter Tryz.func202,Tryz.ntmps202
 go_wp2
 go_ret
 exact ⟨rfl,(Below.refl _ _).alloc (Nat.le_refl _) _⟩
def QE (l:List CellB):List Value:=l.map fun c=>.int .i64 c.int
def Jt (l:List CellB):List Value:=zz (texts l)
theorem XR (l:List CellB):(je l).length≤l.length:=List.length_filter_le _ _
theorem JK (l:List CellB) (k:Nat) (h:k < l.length):je (l.take (k+1))=je (l.take k)++(if (l[k]).null=true then [] else [l[k]]):=by
 rw [List.take_succ_eq_append_getElem h]
 unfold je
 rw [List.filter_append]
 congr 1
 cases hn:(l[k]).null<;>simp [hn]
theorem Nj {w:World} {base n:Nat} {v:Value} {xs:List Value} (h:w.ownsRow base 3 1 v n xs) (w':World) :
  Sem.run Tryz.prog (Builtin.len_ #[82] 3 #[v]) w'=.ok (.int .i64 (n:Int)) w':=by
 rcases h.2 with ⟨rfl,rfl⟩|⟨g,cap,cur,rfl,_⟩
 ·exact run_len_slice (P:=Tryz.prog) w' 82 3 _ _ _ (by rw [Tryz.underlying82];rfl)
 ·exact run_len_slice (P:=Tryz.prog) w' 82 3 _ _ _ (by rw [Tryz.underlying82];rfl)
theorem Cy {w:World} {base n:Nat} {v:Value} {xs:List Value} (h:w.ownsRow base 9 1 v n xs) (w':World) :
  Sem.run Tryz.prog (Builtin.len_ #[71] 3 #[v]) w'=.ok (.int .i64 (n:Int)) w':=YW h w'
theorem IB {w:World} {base n:Nat} {v:Value} {D:List CellB} (h:w.ownsRow base 3 1 v n (QE D)) (hD:D≠[]):∃ b cap,v=.slice (some ⟨b,0,none⟩) D.length cap∧IntsLie w b D:=by
 have hl:D.length=n:=by simpa [QE] using h.1
 rcases h.2 with ⟨rfl,rfl⟩|⟨g,cap,cur,rfl,_⟩
 ·exact absurd (List.eq_nil_of_length_eq_zero hl) hD
 ·refine ⟨g,cap,by rw [hl],(h.lt g rfl).2,fun j hj=>?_⟩
  rw [h.cellAt j (by omega)]
  simp [QE,hj]
theorem Mn {w:World} {base n:Nat} {v:Value} {D:List CellB} (h:w.ownsRow base 9 1 v n (Jt D)) (hD:D≠[]):∃ b cap,v=.slice (some ⟨b,0,none⟩) D.length cap∧TextsLie w b D:=Vy h hD
theorem LO (g:Nat) (a:Option Addr) (cap:Nat) (l:List CellB) (w:World) (hn:l.length≤60) (hsm:∀ c ∈ l,qw c) (hl:Lies w a l) (hg:g < w.heap.size) (hw:NumW w g) :
  Calls Tryz.prog 126 #[numC g,.slice a l.length cap] w fun e w'=>e=.returned (strB (xw 0 l))∧Below w.heap.size w w':=by
 obtain ⟨i0,hi,hz0,hz1,hz2⟩:=info_parts Tryz.infoInt
 have Hsm:=hid hsm
 have Hl:=hid hl
 have Hw:=hid hw
 have hni:(l.length:Int)≤60:=by omega
 clear hsm hl hw
 go_enter Tryz.func126,Tryz.ntmps126
 go_wp2
 obtain ⟨hb0,hs0,hc0⟩:=zV w #[.slice (some ⟨g,0,none⟩) 3 3,fnV 187,fnV 188,fnV 189,fnV 190,fnV 191,fnV 192] 215
 have Hc:Hid (BoxI _ g w.heap.size):=⟨hc0 0,hc0 1,hc0 2,hc0 3,hc0 4,hc0 5,hc0 6⟩
 have Hl0:=hid (Hl.out.later hb0)
 have Hw0:=hid (Hw.out.later hg hb0)
 have Hb0:=hid hb0
 have hs1:=Nat.lt_of_lt_of_eq (Nat.lt_succ_self w.heap.size) hs0.symm
 have hg0:=Nat.lt_of_lt_of_le hg hb0.size
 clear hc0 hb0 hs0
 generalize w.alloc _=w0 at *
 go_loopw [5,10] (fun v i wr=>∃ k:Nat,k≤l.length∧i=.int .i64 (k:Int)∧wr.ownsRow w0.heap.size 3 1 v (je (l.take k)).length (QE (je (l.take k)))∧Below w0.heap.size w0 wr)
  (fun _ i _=>l.length - (intOf i).toNat)
 case atStart=>exact ⟨0,Nat.zero_le _,rfl,World.ownsRow_nil _ _ _ _,Below.refl _ _⟩
 case round =>
  obtain ⟨k,hkl,rfl,hown,hB⟩:=hrel
  have hvl:=XR (l.take k)
  rw [List.length_take] at hvl
  by_cases hlt:k < l.length
  ·obtain ⟨b,off,rfl,hbw,hcell⟩:=(Hl0.out.later hB).at_ (List.ne_nil_of_length_pos (by omega))
   obtain ⟨g1,g2,g3⟩:=hcell k hlt
   clear hcell
   have hcf:=(hB.cell (p:=⟨w.heap.size,1,none⟩) hs1).trans Hc.out.2.1
   have hwr:w.heap.size < wr.heap.size:=Nat.lt_of_lt_of_le hs1 hB.size
   cases hnl:(l[k]).null with
   | true =>
    have HV:Hid (je (l.take (k+1))=je (l.take k)):=by
     show je (l.take (k+1))=_
     rw [JK l k hlt,hnl];simp
    rw [hnl] at g1
    clear hnl
    have HOw:=hid (hown.alloc (Obj.cells #[.bool true,.int .i64 (l[k]).int,strB (l[k]).text] 58))
    have HB1:=hid (hB.alloc hB.size (Obj.cells #[.bool true,.int .i64 (l[k]).int,strB (l[k]).text] 58))
    clear hown hB
    go_wp2
    go_roundw
    case rel=>exact ⟨k+1,by omega,by go_num,by rw [HV.out];exact HOw.out,HB1.out⟩
    case measure=>simp [intOf];omega
   | false =>
    have HV:Hid (je (l.take (k+1))=je (l.take k)++[l[k]]):=by
     show je (l.take (k+1))=_
     rw [JK l k hlt,hnl];simp
    rw [hnl] at g1
    clear hnl
    generalize je (l.take k)=V at *
    have hown1:=hown.alloc (Obj.cells #[.bool false,.int .i64 (l[k]).int,strB (l[k]).text] 58)
    have hB1:=hB.alloc hB.size (Obj.cells #[.bool false,.int .i64 (l[k]).int,strB (l[k]).text] 58)
    have hcf1:=jc (Obj.cells #[.bool false,.int .i64 (l[k]).int,strB (l[k]).text] 58) hcf
    clear hown hB
    go_wp2_with fail
    refine (Lk ⟨false,(l[k]).int,(l[k]).text⟩ _).mono ?_
    rintro e w2 ⟨rfl,hb2⟩
    have hown2:=jH hown1 hb2
    have hB2:=hB1.trans (hb2.mono hB1.size)
    clear hown1 hb2 hB1 g1 g2 g3 hcf hcf1
    go_wp2_with (at_builtin;refine wpList_append_own _ rfl (.tmp 17) (.tmp 22) 82 rfl w0.heap.size 3 i0 (.int .i64 0) 1 8 Tryz.underlying82 hi hz0 hz1 hz2 rfl (by decide) _ _ _ rfl (hown2.alloc _) ⟨_,0,none⟩ 1 1 [.int .i64 (l[k]).int] rfl rfl ?c1 ?c2 ?c3 ?c4 ?c5 ?_)
    case c1=>exact qj w2 #[.int .i64 (l[k]).int] 3
    case c2=>intro u hu;simp at hu;subst hu;rfl
    case c3=>unfold maxLen;omega
    case c4=>omega
    case c5=>have:=hB2.size;simp;omega
    intro v3 w3 hown3 hgr3 _
    have HO3:=hid hown3
    have HB3:=hid ((hB2.alloc hB2.size _).grown hgr3 (by have:=hB2.size;simp;omega) (fun k hk=>(hown2.lt k hk).1))
    clear hown2 hown3 hgr3 hB2
    go_wp2
    go_roundw
    case rel=>exact ⟨k+1,by omega,by go_num,by rw [HV.out,show (V++[l[k]]).length=V.length+1 by simp,show QE (V++[l[k]])=QE V++[.int .i64 (l[k]).int] by simp [QE]];exact HO3.out,HB3.out⟩
    case measure=>simp [intOf];omega
  ·have hke:k=l.length:=by omega
   subst hke
   rw [List.take_length] at hown hvl
   have hln:=Nj hown
   have Hlr:=hid (Hl0.out.later hB)
   by_cases hv0:je l=[]
   ·have HP:Hid (xw 0 l=zr l):=by
     show xw 0 l=_
     rw [xw,if_pos hv0]
    have hv1:(je l).length=0:=by rw [hv0];rfl
    rw [hv1] at hln
    have hln2:=hln wr
    clear hln hv0 hv1 hown
    go_wp2_with fail
    refine (UW a cap l _ hn Hlr.out).mono ?_
    rintro e w2 ⟨rfl,hb2⟩
    go_wp2
    go_ret
    have hz:=Hb0.out.size
    have hBB:=Hb0.out.trans (hB.mono hz)
    exact ⟨qt HP.out.symm,hBB.trans (hb2.mono hBB.size)⟩
   ·have HP:Hid (zr l++jE 0 (je l) 3=xw 0 l):=by
     show _=xw 0 l
     rw [xw,if_neg hv0]
    have hln2:=hln wr
    have hvp:(((je l).length:Int) == 0)=false:=by
     have:=List.length_pos_iff.2 hv0
     simp;omega
    have HSm:Hid (Small (je l)):=⟨fun c hc=>Hsm.out c (List.mem_filter.1 hc).1,by omega,hv0⟩
    obtain ⟨bv,cv,rfl,hvl2⟩:=IB hown hv0
    have Hvl:=hid hvl2
    have hbx:=zf Hc.out hB hs1
    have Hbx:=hid hbx
    have hwr:w.heap.size < wr.heap.size:=Nat.lt_of_lt_of_le hs1 hB.size
    have hgr:g < wr.heap.size:=Nat.lt_of_lt_of_le hg0 hB.size
    have Hwr:=hid (Hw0.out.later hg0 hB)
    have hh:=Zx l hn
    have hbt:=Xx 0 (je l) HSm.out.small HSm.out.few 3
    have HU:Hid (∀ w',Lies w' a l→Calls Tryz.prog 193 #[.slice a l.length cap] w' fun e w2=>e=.returned (strB (zr l))∧Below w'.heap.size w' w2):=fun w' h=>UW a cap l w' hn h
    have HE:Hid (∀ w',IntsLie w' bv (je l)→g < w'.heap.size→NumW w' g→Calls Tryz.prog 195 #[numC g,.slice (some ⟨bv,0,none⟩) (je l).length cv] w' fun e w2=>e=.returned (strB (jE 0 (je l) 3))∧Below w'.heap.size w' w2):=fun w' h h1 h2=>SV g bv cv (je l) w' HSm.out h h1 h2
    clear hln hv0 hown hvl2 HSm
    generalize zr l=H at *
    generalize jE 0 (je l) 3=S3 at *
    generalize (je l)=V at *
    obtain ⟨x0,x1,x2,x3,x4,x5,x6⟩:=hbx
    go_wp2_with fail
    go_region_held3 (fun w'=>w'.cell? ⟨w.heap.size,0,none⟩=some (.slice (some ⟨g,0,none⟩) 3 3)∧w'.cell? ⟨w.heap.size,1,none⟩=some (fnV 187)∧w'.cell? ⟨w.heap.size,2,none⟩=some (fnV 188)∧w'.cell? ⟨w.heap.size,3,none⟩=some (fnV 189)∧w'.cell? ⟨w.heap.size,4,none⟩=some (fnV 190)∧w'.cell? ⟨w.heap.size,5,none⟩=some (fnV 191)∧w'.cell? ⟨w.heap.size,6,none⟩=some (fnV 192))
     (first|exact Nb _ X4|exact X6|exact X4|exact X3|exact Hbx.out)
     (first
      | (go_at_call 193;refine (HU.out _ (Hlr.out.later (ZX _))).mono ?_;rintro e w3 ⟨rfl,hb3⟩;have hb3':=ji hb3;have X3:=zf Hbx.out hb3' hwr)
      | (go_at_call 195;refine (HE.out _ (Hvl.out.later hb3') (Nat.lt_of_lt_of_le hgr hb3'.size) (Hwr.out.later hgr hb3')).mono ?_;rintro e w4 ⟨rfl,hb4⟩;have X4:=zf X3 hb4 (Nat.lt_of_lt_of_le hwr hb3'.size))
      | (go_at_call 194;refine (Xm [H,S3] #[strB H,strB S3] 2 _ _ ?_ rfl rfl ?_ ?_).mono ?_;(first|rfl|simp);decide;(simp;omega);rintro e w6 ⟨rfl,hb6⟩;have X6:=zf X4 hb6 (Nat.lt_of_lt_of_le hwr (Nat.le_trans hb3'.size hb4.size))))
    have hz:=Hb0.out.size
    have hBB:=Hb0.out.trans (hB.mono hz)
    have hB3:=hBB.trans (hb3'.mono hBB.size)
    have hB4:=hB3.trans (hb4.mono hB3.size)
    have HB6:=hid (hB4.trans (hb6.mono hB4.size))
    clear X3 X4 X6 x0 x1 x2 x3 x4 x5 x6 hb3 hb3' hb4 hb6 hB hz hBB hB3 hB4
    go_wp2
    go_ret
    exact ⟨qt HP.out,HB6.out⟩
theorem LR (g:Nat) (a:Option Addr) (cap:Nat) (l:List CellB) (w:World) (hn:l.length≤60) (hsm:∀ c ∈ l,qw c) (hl:Lies w a l) (hg:g < w.heap.size) (hw:TxtW w g) :
  Calls Tryz.prog 128 #[txtC g,.slice a l.length cap] w fun e w'=>e=.returned (strB (xw 1 l))∧Below w.heap.size w w':=by
 obtain ⟨i0,hi,hz0,hz1,hz2⟩:=info_parts Tryz.infoStr
 have Hsm:=hid hsm
 have Hl:=hid hl
 have Hw:=hid hw
 have hni:(l.length:Int)≤60:=by omega
 clear hsm hl hw
 go_enter Tryz.func128,Tryz.ntmps128
 go_wp2
 obtain ⟨hb0,hs0,hc0⟩:=zV w #[.slice (some ⟨g,0,none⟩) 3 3,fnV 202,fnV 203,fnV 204,fnV 205,fnV 206,fnV 207] 225
 have Hc:Hid (BoxT _ g w.heap.size):=⟨hc0 0,hc0 1,hc0 2,hc0 3,hc0 4,hc0 5,hc0 6⟩
 have Hl0:=hid (Hl.out.later hb0)
 have Hw0:=hid (Hw.out.later hg hb0)
 have Hb0:=hid hb0
 have hs1:=Nat.lt_of_lt_of_eq (Nat.lt_succ_self w.heap.size) hs0.symm
 have hg0:=Nat.lt_of_lt_of_le hg hb0.size
 clear hc0 hb0 hs0
 generalize w.alloc _=w0 at *
 go_loopw [5,10] (fun v i wr=>∃ k:Nat,k≤l.length∧i=.int .i64 (k:Int)∧wr.ownsRow w0.heap.size 9 1 v (je (l.take k)).length (Jt (je (l.take k)))∧Below w0.heap.size w0 wr)
  (fun _ i _=>l.length - (intOf i).toNat)
 case atStart=>exact ⟨0,Nat.zero_le _,rfl,World.ownsRow_nil _ _ _ _,Below.refl _ _⟩
 case round =>
  obtain ⟨k,hkl,rfl,hown,hB⟩:=hrel
  have hvl:=XR (l.take k)
  rw [List.length_take] at hvl
  by_cases hlt:k < l.length
  ·obtain ⟨b,off,rfl,hbw,hcell⟩:=(Hl0.out.later hB).at_ (List.ne_nil_of_length_pos (by omega))
   obtain ⟨g1,g2,g3⟩:=hcell k hlt
   clear hcell
   have hcf:=(hB.cell (p:=⟨w.heap.size,1,none⟩) hs1).trans Hc.out.2.1
   have hwr:w.heap.size < wr.heap.size:=Nat.lt_of_lt_of_le hs1 hB.size
   cases hnl:(l[k]).null with
   | true =>
    have HV:Hid (je (l.take (k+1))=je (l.take k)):=by
     show je (l.take (k+1))=_
     rw [JK l k hlt,hnl];simp
    rw [hnl] at g1
    clear hnl
    have HOw:=hid (hown.alloc (Obj.cells #[.bool true,.int .i64 (l[k]).int,strB (l[k]).text] 58))
    have HB1:=hid (hB.alloc hB.size (Obj.cells #[.bool true,.int .i64 (l[k]).int,strB (l[k]).text] 58))
    clear hown hB
    go_wp2
    go_roundw
    case rel=>exact ⟨k+1,by omega,by go_num,by rw [HV.out];exact HOw.out,HB1.out⟩
    case measure=>simp [intOf];omega
   | false =>
    have HV:Hid (je (l.take (k+1))=je (l.take k)++[l[k]]):=by
     show je (l.take (k+1))=_
     rw [JK l k hlt,hnl];simp
    rw [hnl] at g1
    clear hnl
    generalize je (l.take k)=V at *
    have hown1:=hown.alloc (Obj.cells #[.bool false,.int .i64 (l[k]).int,strB (l[k]).text] 58)
    have hB1:=hB.alloc hB.size (Obj.cells #[.bool false,.int .i64 (l[k]).int,strB (l[k]).text] 58)
    have hcf1:=jc (Obj.cells #[.bool false,.int .i64 (l[k]).int,strB (l[k]).text] 58) hcf
    clear hown hB
    go_wp2_with fail
    refine (Ll ⟨false,(l[k]).int,(l[k]).text⟩ _).mono ?_
    rintro e w2 ⟨rfl,hb2⟩
    have hown2:=jH hown1 hb2
    have hB2:=hB1.trans (hb2.mono hB1.size)
    clear hown1 hb2 hB1 g1 g2 g3 hcf hcf1
    go_wp2_with (at_builtin;refine wpList_append_own _ rfl (.tmp 17) (.tmp 22) 71 rfl w0.heap.size 9 i0 (.string ⟨#[]⟩) 1 16 Tryz.underlying71 hi hz0 hz1 hz2 rfl (by decide) _ _ _ rfl (hown2.alloc _) ⟨_,0,none⟩ 1 1 [strB (l[k]).text] rfl rfl ?c1 ?c2 ?c3 ?c4 ?c5 ?_)
    case c1=>exact qj w2 #[strB (l[k]).text] 9
    case c2=>intro u hu;simp at hu;subst hu;rfl
    case c3=>unfold maxLen;omega
    case c4=>omega
    case c5=>have:=hB2.size;simp;omega
    intro v3 w3 hown3 hgr3 _
    have HO3:=hid hown3
    have HB3:=hid ((hB2.alloc hB2.size _).grown hgr3 (by have:=hB2.size;simp;omega) (fun k hk=>(hown2.lt k hk).1))
    clear hown2 hown3 hgr3 hB2
    go_wp2
    go_roundw
    case rel=>exact ⟨k+1,by omega,by go_num,by rw [HV.out,show (V++[l[k]]).length=V.length+1 by simp,show Jt (V++[l[k]])=Jt V++[strB (l[k]).text] by simp [Jt,zz,texts]];exact HO3.out,HB3.out⟩
    case measure=>simp [intOf];omega
  ·have hke:k=l.length:=by omega
   subst hke
   rw [List.take_length] at hown hvl
   have hln:=Cy hown
   have Hlr:=hid (Hl0.out.later hB)
   by_cases hv0:je l=[]
   ·have HP:Hid (xw 1 l=zr l):=by
     show xw 1 l=_
     rw [xw,if_pos hv0]
    have hv1:(je l).length=0:=by rw [hv0];rfl
    rw [hv1] at hln
    have hln2:=hln wr
    clear hln hv0 hv1 hown
    go_wp2_with fail
    refine (UW a cap l _ hn Hlr.out).mono ?_
    rintro e w2 ⟨rfl,hb2⟩
    go_wp2
    go_ret
    have hz:=Hb0.out.size
    have hBB:=Hb0.out.trans (hB.mono hz)
    exact ⟨qt HP.out.symm,hBB.trans (hb2.mono hBB.size)⟩
   ·have HP:Hid (zr l++jE 1 (je l) 3=xw 1 l):=by
     show _=xw 1 l
     rw [xw,if_neg hv0]
    have hln2:=hln wr
    have hvp:(((je l).length:Int) == 0)=false:=by
     have:=List.length_pos_iff.2 hv0
     simp;omega
    have HSm:Hid (Small (je l)):=⟨fun c hc=>Hsm.out c (List.mem_filter.1 hc).1,by omega,hv0⟩
    obtain ⟨bv,cv,rfl,hvl2⟩:=Mn hown hv0
    have Hvl:=hid hvl2
    have hbx:=qT Hc.out hB hs1
    have Hbx:=hid hbx
    have hwr:w.heap.size < wr.heap.size:=Nat.lt_of_lt_of_le hs1 hB.size
    have hgr:g < wr.heap.size:=Nat.lt_of_lt_of_le hg0 hB.size
    have Hwr:=hid (Hw0.out.later hg0 hB)
    have hh:=Zx l hn
    have hbt:=Xx 1 (je l) HSm.out.small HSm.out.few 3
    have HU:Hid (∀ w',Lies w' a l→Calls Tryz.prog 193 #[.slice a l.length cap] w' fun e w2=>e=.returned (strB (zr l))∧Below w'.heap.size w' w2):=fun w' h=>UW a cap l w' hn h
    have HE:Hid (∀ w',TextsLie w' bv (je l)→g < w'.heap.size→TxtW w' g→Calls Tryz.prog 208 #[txtC g,.slice (some ⟨bv,0,none⟩) (je l).length cv] w' fun e w2=>e=.returned (strB (jE 1 (je l) 3))∧Below w'.heap.size w' w2):=fun w' h h1 h2=>Lq g bv cv (je l) w' HSm.out h h1 h2
    clear hln hv0 hown hvl2 HSm
    generalize zr l=H at *
    generalize jE 1 (je l) 3=S3 at *
    generalize (je l)=V at *
    obtain ⟨x0,x1,x2,x3,x4,x5,x6⟩:=hbx
    go_wp2_with fail
    go_region_held3 (fun w'=>w'.cell? ⟨w.heap.size,0,none⟩=some (.slice (some ⟨g,0,none⟩) 3 3)∧w'.cell? ⟨w.heap.size,1,none⟩=some (fnV 202)∧w'.cell? ⟨w.heap.size,2,none⟩=some (fnV 203)∧w'.cell? ⟨w.heap.size,3,none⟩=some (fnV 204)∧w'.cell? ⟨w.heap.size,4,none⟩=some (fnV 205)∧w'.cell? ⟨w.heap.size,5,none⟩=some (fnV 206)∧w'.cell? ⟨w.heap.size,6,none⟩=some (fnV 207))
     (first|exact Ur _ X4|exact X6|exact X4|exact X3|exact Hbx.out)
     (first
      | (go_at_call 193;refine (HU.out _ (Hlr.out.later (ZX _))).mono ?_;rintro e w3 ⟨rfl,hb3⟩;have hb3':=ji hb3;have X3:=qT Hbx.out hb3' hwr)
      | (go_at_call 208;refine (HE.out _ (Hvl.out.later hb3') (Nat.lt_of_lt_of_le hgr hb3'.size) (Hwr.out.later hgr hb3')).mono ?_;rintro e w4 ⟨rfl,hb4⟩;have X4:=qT X3 hb4 (Nat.lt_of_lt_of_le hwr hb3'.size))
      | (go_at_call 194;refine (Xm [H,S3] #[strB H,strB S3] 2 _ _ ?_ rfl rfl ?_ ?_).mono ?_;(first|rfl|simp);decide;(simp;omega);rintro e w6 ⟨rfl,hb6⟩;have X6:=qT X4 hb6 (Nat.lt_of_lt_of_le hwr (Nat.le_trans hb3'.size hb4.size))))
    have hz:=Hb0.out.size
    have hBB:=Hb0.out.trans (hB.mono hz)
    have hB3:=hBB.trans (hb3'.mono hBB.size)
    have hB4:=hB3.trans (hb4.mono hB3.size)
    have HB6:=hid (hB4.trans (hb6.mono hB4.size))
    clear X3 X4 X6 x0 x1 x2 x3 x4 x5 x6 hb3 hb3' hb4 hb6 hB hz hBB hB3 hB4
    go_wp2
    go_ret
    exact ⟨qt HP.out,HB6.out⟩
end
end Go.Proofs.YthhpbhpfagoapaaGreat
