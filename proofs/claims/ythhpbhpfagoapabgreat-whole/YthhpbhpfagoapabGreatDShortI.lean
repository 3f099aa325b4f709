import Derived.Test.YthhpbhpfagoapabGreatRTk
import Derived.Test.YthhpbhpfagoapabGreatJAE
namespace Go.Proofs.YthhpbhpfagoapabGreat
set_option linter.unusedVariables false
set_option linter.unusedSimpArgs false
set_option maxRecDepth 100000
set_option maxHeartbeats 16000000
open Go.RowKit
theorem Fp (g b cap:Nat) (l:List CellB) (w:World) (hs:Small l) (hl:IntsLie w b l) (hg:g < w.heap.size) (hw:NumW w g) :
  Calls Tryz.prog 158 #[numC g,.slice (some ⟨b,0,none⟩) l.length cap] w fun e w'=>e=.returned (strB (jQ 0 l 3))∧Below w.heap.size w w':=by
 have Hs:=hid hs
 have Hl:=hid hl
 have Hw:=hid hw
 have HBL:=hid (fun k=>KD 0 l hs.small hs.few k)
 have HWL:=hid (fun n=>VA n l hs.small hs.few)
 clear hs hl hw
 go_enter Tryz.func158,Tryz.ntmps158
 go_wp2
 obtain ⟨hb0,hs0,hc0⟩:=Ja w #[.slice (some ⟨g,0,none⟩) 3 3,fnV 151,fnV 152,fnV 153,fnV 154,fnV 155,fnV 156] 205
 have Hc:Hid (BoxI _ g w.heap.size):=⟨hc0 0,hc0 1,hc0 2,hc0 3,hc0 4,hc0 5,hc0 6⟩
 have Hl0:=hid (Hl.out.later hb0)
 have Hw0:=hid (Hw.out.later hg hb0)
 have Hb0:=hid hb0
 have hs1:=Nat.lt_of_lt_of_eq (Nat.lt_succ_self w.heap.size) hs0.symm
 have hg0:=Nat.lt_of_lt_of_le hg hb0.size
 clear hc0 hb0 hs0
 generalize w.alloc _=w0 at *
 go_loopw [5,12] (fun v i wr=>∃ k:Nat,k≤3∧i=.int .i64 (k:Int)∧v=strB (jQ 0 l k)∧Below w0.heap.size w0 wr)
  (fun _ i _=>3 - (intOf i).toNat)
 case atStart=>exact ⟨0,Nat.zero_le _,rfl,rfl,Below.refl _ _⟩
 case round =>
  obtain ⟨k,hk,rfl,rfl,hB⟩:=hrel
  have hwl:=Hw0.out.later hg0 hB
  have hbx:=zk Hc.out hB hs1
  have hwr:w.heap.size < wr.heap.size:=Nat.lt_of_lt_of_le hs1 hB.size
  have hgr:g < wr.heap.size:=Nat.lt_of_lt_of_le hg0 hB.size
  have Hlr:=hid (Hl0.out.later hB)
  have hbl:=HBL.out k
  rcases (show k=0∨k=1∨k=2∨k=3 by omega) with rfl|rfl|rfl|rfl
  ·have c0:wr.cell? ⟨g,0,none⟩=some (.int .u8 0):=qe hwl 0 rfl
   have c1:wr.cell? ⟨g,1,none⟩=some (fnV 145):=qe hwl 1 rfl
   have c2:wr.cell? ⟨g,2,none⟩=some (fnV 146):=qe hwl 2 rfl
   have HE:Hid (∀ w',IntsLie w' b l→Calls Tryz.prog 145 #[numC g,.slice (some ⟨b,0,none⟩) l.length cap] w' fun e w2=>e=.returned (strB (qL 0 l))∧Below w'.heap.size w' w2):=fun w' h=>Wa g b cap l w' Hs.out h
   have HBT:Hid (jQ 0 l (0+1)=if 0=0∨([byB 0]++qL 0 l).length < (jQ 0 l 0).length then [byB 0]++qL 0 l else jQ 0 l 0):=rfl
   have hwn:=HWL.out 0
   have hwn_:True:=trivial
   clear hwl
   generalize qL 0 l=W5 at *
   have hbe:jQ 0 l 0=[]:=rfl
   rw [hbe] at HBT
   rw [hbe] at hbl
   rw [hbe]
   clear hbe
   go_upto_region 5 with fail
   obtain ⟨hb1,hs2,hc1⟩:=Ja wr #[.int .u8 0,fnV 145,fnV 146] 228
   have f0:=hc1 0
   have f1:=hc1 1
   simp only [List.getElem?_toArray,List.getElem?_cons_zero,List.getElem?_cons_succ] at f0 f1
   have hbx1:=zk hbx hb1 hwr
   have Hl1:=hid (Hlr.out.later hb1)
   have hz1:=Nat.lt_of_lt_of_eq (Nat.lt_succ_self wr.heap.size) hs2.symm
   have hwr1:=Nat.lt_of_lt_of_le hwr hb1.size
   have HB1:=hid (hB.trans (hb1.mono hB.size))
   clear hc1 hs2 hb1 hbx c0 c1 c2 hB
   generalize wr.alloc _=w1 at *
   have S1:SI w1 wr.heap.size 0 145 g w.heap.size:=⟨f0,f1,hbx1⟩
   clear f0 f1 hbx1
   go_cut [8] (fun v wd=>v=strB (byB 0 :: W5)∧Below w1.heap.size w1 wd)
   case first =>
    obtain ⟨f0,f1,x0,x1,x2,x3,x4,x5,x6⟩:=S1
    have S1:SI w1 wr.heap.size 0 145 g w.heap.size:=⟨f0,f1,x0,x1,x2,x3,x4,x5,x6⟩
    have HS1:=hid S1
    clear S1
    refine wp_region_noPanic ?_
    refine wp_region_held_drew (S:=fun w'=>w'.cell? ⟨wr.heap.size,0,none⟩=some (.int .u8 0)∧w'.cell? ⟨wr.heap.size,1,none⟩=some (fnV 145)∧w'.cell? ⟨w.heap.size,0,none⟩=some (.slice (some ⟨g,0,none⟩) 3 3)∧w'.cell? ⟨w.heap.size,1,none⟩=some (fnV 151)∧w'.cell? ⟨w.heap.size,2,none⟩=some (fnV 152)∧w'.cell? ⟨w.heap.size,3,none⟩=some (fnV 153)∧w'.cell? ⟨w.heap.size,4,none⟩=some (fnV 154)∧w'.cell? ⟨w.heap.size,5,none⟩=some (fnV 155)∧w'.cell? ⟨w.heap.size,6,none⟩=some (fnV 156)) (by kernel_rfl) ?_ (fun hHeld=>?_)
    ·exact HS1.out
    refine tk 0 (.pointer (some ⟨wr.heap.size,0,none⟩)) ?_
    refine tk 1 (.int .u8 0) ?_
    refine tk 3 (.pointer (some ⟨wr.heap.size,1,none⟩)) ?_
    refine tk 4 (fnV 145) ?_
    refine tk 5 (numC g) ?_
    refine tk 6 (.slice (some ⟨b,0,none⟩) l.length cap) ?_
    simp only [jA,jB,jC,Act.put,jD,jE,jF]
    refine wpAnyH_ready (rs:=[2]) (by kernel_rfl) (by simp) ?_
    refine AllReadyH.cons (o:=_) rfl (fun K hK=>?_) ?_
    ·simp only [jA,jB,jC]
     go_simp
     go_at_call 94
     refine (zR 0 _ (by decide) (by decide)).mono ?_
     rintro e w2 ⟨rfl,hb2⟩
     have hb2':Below w1.heap.size w1 w2:=jl hb2
     have X2:=QK HS1.out hb2' hz1 hwr1
     try go_wp2_with fail
     refine hK.out _ _ ?_ (fun hHeld=>?_)
     ·exact X2
     clear hK K
     try simp only [jA,jB,jC,Act.put,jD,jE,jF]
     refine wpAnyH_ready (rs:=[7]) (by kernel_rfl) (by simp) ?_
     refine AllReadyH.cons (o:=_) rfl (fun K hK=>?_) ?_
     ·simp only [jA,jB,jC]
      go_simp
      go_at_call 145
      refine (HE.out _ (Hl1.out.later hb2')).mono ?_
      rintro e w3 ⟨rfl,hb3⟩
      have X3:=QK X2 hb3 (Nat.lt_of_lt_of_le hz1 hb2'.size) (Nat.lt_of_lt_of_le hwr1 hb2'.size)
      try go_wp2_with fail
      refine hK.out _ _ ?_ (fun hHeld=>?_)
      ·exact X3
      clear hK K
      try simp only [jA,jB,jC,Act.put,jD,jE,jF]
      refine wpAnyH_ready (rs:=[8]) (by kernel_rfl) (by simp) ?_
      refine AllReadyH.cons (o:=_) rfl (fun K hK=>?_) ?_
      ·simp only [jA,jB,jC]
       go_simp
       refine hK.out _ _ ?_ (fun hHeld=>?_)
       ·exact Rc _ X3
       clear hK K
       try simp only [jA,jB,jC,Act.put,jD,jE,jF]
       refine wpAnyH_ready (rs:=[9]) (by kernel_rfl) (by simp) ?_
       refine AllReadyH.cons (o:=_) rfl (fun K hK=>?_) ?_
       ·simp only [jA,jB,jC]
        go_simp
        go_at_call 93
        refine (Xk [[byB 0],W5] #[strB [byB 0],strB W5] 2 _ _ (by first|rfl|simp) rfl rfl (by decide) (by simp;omega)).mono ?_
        rintro e w6 ⟨rfl,hb6⟩
        have X6:=QK X3 hb6 (Nat.lt_of_lt_of_le hz1 (Nat.le_trans hb2'.size hb3.size)) (Nat.lt_of_lt_of_le hwr1 (Nat.le_trans hb2'.size hb3.size))
        try go_wp2_with fail
        refine hK.out _ _ ?_ (fun hHeld=>?_)
        ·exact X6
        clear hK K
        try simp only [jA,jB,jC,Act.put,jD,jE,jF]
        refine wpAnyH_ready (rs:=[10]) (by kernel_rfl) (by simp) ?_
        refine AllReadyH.cons (o:=_) rfl (fun K hK=>?_) ?_
        ·simp only [jA,jB,jC]
         go_simp
         refine hK.out _ _ ?_ (fun hHeld=>?_)
         ·exact X6
         clear hK K
         try simp only [jA,jB,jC,Act.put,jD,jE,jF]
         refine wpAnyH_done (by kernel_rfl) ?_ _
         refine NoPanic.normal ?_
         have HBX:=hid ((hb2'.trans (hb3.mono hb2'.size)).trans (hb6.mono (Nat.le_trans hb2'.size hb3.size)))
         clear X2 X3 X6 hb2 hb2' hb3 hb6 HS1
         go_wp2_with fail
         go_meet
         case rel=>exact ⟨rfl,HBX.out⟩
        exact AllReadyH.nil
       exact AllReadyH.nil
      exact AllReadyH.nil
     exact AllReadyH.nil
    exact AllReadyH.nil
   case rest =>
    obtain ⟨rfl,hbc⟩:=hcut
    have HBC:=hid (HB1.out.trans (hbc.mono HB1.out.size))
    clear hbc S1 hbl hwn_
    have HN:Hid (jQ 0 l (0+1)=byB 0 :: W5):=by
     show jQ 0 l (0+1)=_
     rw [HBT.out,if_pos (.inl rfl)];rfl
    go_wp2
    go_roundw
    case rel=>exact ⟨1,by omega,by go_num,by rw [HN.out],HBC.out⟩
    case measure=>simp [intOf]
  ·have c0:wr.cell? ⟨g,3,none⟩=some (.int .u8 1):=qe hwl 3 rfl
   have c1:wr.cell? ⟨g,4,none⟩=some (fnV 147):=qe hwl 4 rfl
   have c2:wr.cell? ⟨g,5,none⟩=some (fnV 148):=qe hwl 5 rfl
   have HE:Hid (∀ w',IntsLie w' b l→Calls Tryz.prog 147 #[numC g,.slice (some ⟨b,0,none⟩) l.length cap] w' fun e w2=>e=.returned (strB (qL 1 l))∧Below w'.heap.size w' w2):=fun w' h=>Fl g b cap l w' Hs.out h
   have HBT:Hid (jQ 0 l (1+1)=if 1=0∨([byB 1]++qL 1 l).length < (jQ 0 l 1).length then [byB 1]++qL 1 l else jQ 0 l 1):=rfl
   have hwn:=HWL.out 1
   have hwn_:True:=trivial
   clear hwl
   generalize qL 1 l=W5 at *
   have Hbn:=hid (UP 0 l 0)
   generalize hbest:jQ 0 l 1=best at *
   have Hbest:=hid hbest
   clear hbest
   go_upto_region 5 with fail
   obtain ⟨hb1,hs2,hc1⟩:=Ja wr #[.int .u8 1,fnV 147,fnV 148] 228
   have f0:=hc1 0
   have f1:=hc1 1
   simp only [List.getElem?_toArray,List.getElem?_cons_zero,List.getElem?_cons_succ] at f0 f1
   have hbx1:=zk hbx hb1 hwr
   have Hl1:=hid (Hlr.out.later hb1)
   have hz1:=Nat.lt_of_lt_of_eq (Nat.lt_succ_self wr.heap.size) hs2.symm
   have hwr1:=Nat.lt_of_lt_of_le hwr hb1.size
   have HB1:=hid (hB.trans (hb1.mono hB.size))
   clear hc1 hs2 hb1 hbx c0 c1 c2 hB
   generalize wr.alloc _=w1 at *
   have S1:SI w1 wr.heap.size 1 147 g w.heap.size:=⟨f0,f1,hbx1⟩
   clear f0 f1 hbx1
   go_cut [8] (fun v wd=>v=strB (byB 1 :: W5)∧Below w1.heap.size w1 wd)
   case first =>
    obtain ⟨f0,f1,x0,x1,x2,x3,x4,x5,x6⟩:=S1
    have S1:SI w1 wr.heap.size 1 147 g w.heap.size:=⟨f0,f1,x0,x1,x2,x3,x4,x5,x6⟩
    have HS1:=hid S1
    clear S1
    refine wp_region_noPanic ?_
    refine wp_region_held_drew (S:=fun w'=>w'.cell? ⟨wr.heap.size,0,none⟩=some (.int .u8 1)∧w'.cell? ⟨wr.heap.size,1,none⟩=some (fnV 147)∧w'.cell? ⟨w.heap.size,0,none⟩=some (.slice (some ⟨g,0,none⟩) 3 3)∧w'.cell? ⟨w.heap.size,1,none⟩=some (fnV 151)∧w'.cell? ⟨w.heap.size,2,none⟩=some (fnV 152)∧w'.cell? ⟨w.heap.size,3,none⟩=some (fnV 153)∧w'.cell? ⟨w.heap.size,4,none⟩=some (fnV 154)∧w'.cell? ⟨w.heap.size,5,none⟩=some (fnV 155)∧w'.cell? ⟨w.heap.size,6,none⟩=some (fnV 156)) (by kernel_rfl) ?_ (fun hHeld=>?_)
    ·exact HS1.out
    refine tk 0 (.pointer (some ⟨wr.heap.size,0,none⟩)) ?_
    refine tk 1 (.int .u8 1) ?_
    refine tk 3 (.pointer (some ⟨wr.heap.size,1,none⟩)) ?_
    refine tk 4 (fnV 147) ?_
    refine tk 5 (numC g) ?_
    refine tk 6 (.slice (some ⟨b,0,none⟩) l.length cap) ?_
    simp only [jA,jB,jC,Act.put,jD,jE,jF]
    refine wpAnyH_ready (rs:=[2]) (by kernel_rfl) (by simp) ?_
    refine AllReadyH.cons (o:=_) rfl (fun K hK=>?_) ?_
    ·simp only [jA,jB,jC]
     go_simp
     go_at_call 94
     refine (zR 1 _ (by decide) (by decide)).mono ?_
     rintro e w2 ⟨rfl,hb2⟩
     have hb2':Below w1.heap.size w1 w2:=jl hb2
     have X2:=QK HS1.out hb2' hz1 hwr1
     try go_wp2_with fail
     refine hK.out _ _ ?_ (fun hHeld=>?_)
     ·exact X2
     clear hK K
     try simp only [jA,jB,jC,Act.put,jD,jE,jF]
     refine wpAnyH_ready (rs:=[7]) (by kernel_rfl) (by simp) ?_
     refine AllReadyH.cons (o:=_) rfl (fun K hK=>?_) ?_
     ·simp only [jA,jB,jC]
      go_simp
      go_at_call 147
      refine (HE.out _ (Hl1.out.later hb2')).mono ?_
      rintro e w3 ⟨rfl,hb3⟩
      have X3:=QK X2 hb3 (Nat.lt_of_lt_of_le hz1 hb2'.size) (Nat.lt_of_lt_of_le hwr1 hb2'.size)
      try go_wp2_with fail
      refine hK.out _ _ ?_ (fun hHeld=>?_)
      ·exact X3
      clear hK K
      try simp only [jA,jB,jC,Act.put,jD,jE,jF]
      refine wpAnyH_ready (rs:=[8]) (by kernel_rfl) (by simp) ?_
      refine AllReadyH.cons (o:=_) rfl (fun K hK=>?_) ?_
      ·simp only [jA,jB,jC]
       go_simp
       refine hK.out _ _ ?_ (fun hHeld=>?_)
       ·exact Rc _ X3
       clear hK K
       try simp only [jA,jB,jC,Act.put,jD,jE,jF]
       refine wpAnyH_ready (rs:=[9]) (by kernel_rfl) (by simp) ?_
       refine AllReadyH.cons (o:=_) rfl (fun K hK=>?_) ?_
       ·simp only [jA,jB,jC]
        go_simp
        go_at_call 93
        refine (Xk [[byB 1],W5] #[strB [byB 1],strB W5] 2 _ _ (by first|rfl|simp) rfl rfl (by decide) (by simp;omega)).mono ?_
        rintro e w6 ⟨rfl,hb6⟩
        have X6:=QK X3 hb6 (Nat.lt_of_lt_of_le hz1 (Nat.le_trans hb2'.size hb3.size)) (Nat.lt_of_lt_of_le hwr1 (Nat.le_trans hb2'.size hb3.size))
        try go_wp2_with fail
        refine hK.out _ _ ?_ (fun hHeld=>?_)
        ·exact X6
        clear hK K
        try simp only [jA,jB,jC,Act.put,jD,jE,jF]
        refine wpAnyH_ready (rs:=[10]) (by kernel_rfl) (by simp) ?_
        refine AllReadyH.cons (o:=_) rfl (fun K hK=>?_) ?_
        ·simp only [jA,jB,jC]
         go_simp
         refine hK.out _ _ ?_ (fun hHeld=>?_)
         ·exact X6
         clear hK K
         try simp only [jA,jB,jC,Act.put,jD,jE,jF]
         refine wpAnyH_done (by kernel_rfl) ?_ _
         refine NoPanic.normal ?_
         have HBX:=hid ((hb2'.trans (hb3.mono hb2'.size)).trans (hb6.mono (Nat.le_trans hb2'.size hb3.size)))
         clear X2 X3 X6 hb2 hb2' hb3 hb6 HS1
         go_wp2_with fail
         go_meet
         case rel=>exact ⟨rfl,HBX.out⟩
        exact AllReadyH.nil
       exact AllReadyH.nil
      exact AllReadyH.nil
     exact AllReadyH.nil
    exact AllReadyH.nil
   case rest =>
    obtain ⟨rfl,hbc⟩:=hcut
    have HBC:=hid (HB1.out.trans (hbc.mono HB1.out.size))
    clear hbc S1 hbl hwn_
    have hbn:(best == [])=false:=by
     have h1:=Hbn.out
     simpa using h1
    have hbl2:best.length≤5001:=by have:=HBL.out 1;rw [Hbest.out] at this;exact this
    have hsz1:=jM best
    have hsz2:=jM (byB 1 :: W5)
    by_cases hcmp:(byB 1 :: W5).length < best.length
    ·have HN:Hid (jQ 0 l (1+1)=byB 1 :: W5):=by
      show jQ 0 l (1+1)=_
      rw [HBT.out,if_pos (.inr hcmp)];rfl
     have hc2:(W5.length:Int)+1 < (best.length:Int):=by simp at hcmp;omega
     go_wp2
     go_roundw
     case rel=>exact ⟨1+1,by omega,by go_num,by rw [HN.out],HBC.out⟩
     case measure=>simp [intOf]
    ·have HN:Hid (jQ 0 l (1+1)=best):=by
      show jQ 0 l (1+1)=_
      rw [HBT.out,if_neg]
      rintro (h|h)
      ·omega
      ·exact hcmp h
     have hc2:decide ((W5.length:Int)+1 < (best.length:Int))=false:=by simp at hcmp ⊢;omega
     go_wp2
     go_roundw
     case rel=>exact ⟨1+1,by omega,by go_num,by rw [HN.out],HBC.out⟩
     case measure=>simp [intOf]
  ·have c0:wr.cell? ⟨g,6,none⟩=some (.int .u8 2):=qe hwl 6 rfl
   have c1:wr.cell? ⟨g,7,none⟩=some (fnV 149):=qe hwl 7 rfl
   have c2:wr.cell? ⟨g,8,none⟩=some (fnV 150):=qe hwl 8 rfl
   have HE:Hid (∀ w',IntsLie w' b l→Calls Tryz.prog 149 #[numC g,.slice (some ⟨b,0,none⟩) l.length cap] w' fun e w2=>e=.returned (strB (qL 2 l))∧Below w'.heap.size w' w2):=fun w' h=>FS g b cap l w' Hs.out h
   have HBT:Hid (jQ 0 l (2+1)=if 2=0∨([byB 2]++qL 2 l).length < (jQ 0 l 2).length then [byB 2]++qL 2 l else jQ 0 l 2):=rfl
   have hwn:=HWL.out 2
   have hwn_:True:=trivial
   clear hwl
   generalize qL 2 l=W5 at *
   have Hbn:=hid (UP 0 l 1)
   generalize hbest:jQ 0 l 2=best at *
   have Hbest:=hid hbest
   clear hbest
   go_upto_region 5 with fail
   obtain ⟨hb1,hs2,hc1⟩:=Ja wr #[.int .u8 2,fnV 149,fnV 150] 228
   have f0:=hc1 0
   have f1:=hc1 1
   simp only [List.getElem?_toArray,List.getElem?_cons_zero,List.getElem?_cons_succ] at f0 f1
   have hbx1:=zk hbx hb1 hwr
   have Hl1:=hid (Hlr.out.later hb1)
   have hz1:=Nat.lt_of_lt_of_eq (Nat.lt_succ_self wr.heap.size) hs2.symm
   have hwr1:=Nat.lt_of_lt_of_le hwr hb1.size
   have HB1:=hid (hB.trans (hb1.mono hB.size))
   clear hc1 hs2 hb1 hbx c0 c1 c2 hB
   generalize wr.alloc _=w1 at *
   have S1:SI w1 wr.heap.size 2 149 g w.heap.size:=⟨f0,f1,hbx1⟩
   clear f0 f1 hbx1
   go_cut [8] (fun v wd=>v=strB (byB 2 :: W5)∧Below w1.heap.size w1 wd)
   case first =>
    obtain ⟨f0,f1,x0,x1,x2,x3,x4,x5,x6⟩:=S1
    have S1:SI w1 wr.heap.size 2 149 g w.heap.size:=⟨f0,f1,x0,x1,x2,x3,x4,x5,x6⟩
    have HS1:=hid S1
    clear S1
    refine wp_region_noPanic ?_
    refine wp_region_held_drew (S:=fun w'=>w'.cell? ⟨wr.heap.size,0,none⟩=some (.int .u8 2)∧w'.cell? ⟨wr.heap.size,1,none⟩=some (fnV 149)∧w'.cell? ⟨w.heap.size,0,none⟩=some (.slice (some ⟨g,0,none⟩) 3 3)∧w'.cell? ⟨w.heap.size,1,none⟩=some (fnV 151)∧w'.cell? ⟨w.heap.size,2,none⟩=some (fnV 152)∧w'.cell? ⟨w.heap.size,3,none⟩=some (fnV 153)∧w'.cell? ⟨w.heap.size,4,none⟩=some (fnV 154)∧w'.cell? ⟨w.heap.size,5,none⟩=some (fnV 155)∧w'.cell? ⟨w.heap.size,6,none⟩=some (fnV 156)) (by kernel_rfl) ?_ (fun hHeld=>?_)
    ·exact HS1.out
    refine tk 0 (.pointer (some ⟨wr.heap.size,0,none⟩)) ?_
    refine tk 1 (.int .u8 2) ?_
    refine tk 3 (.pointer (some ⟨wr.heap.size,1,none⟩)) ?_
    refine tk 4 (fnV 149) ?_
    refine tk 5 (numC g) ?_
    refine tk 6 (.slice (some ⟨b,0,none⟩) l.length cap) ?_
    simp only [jA,jB,jC,Act.put,jD,jE,jF]
    refine wpAnyH_ready (rs:=[2]) (by kernel_rfl) (by simp) ?_
    refine AllReadyH.cons (o:=_) rfl (fun K hK=>?_) ?_
    ·simp only [jA,jB,jC]
     go_simp
     go_at_call 94
     refine (zR 2 _ (by decide) (by decide)).mono ?_
     rintro e w2 ⟨rfl,hb2⟩
     have hb2':Below w1.heap.size w1 w2:=jl hb2
     have X2:=QK HS1.out hb2' hz1 hwr1
     try go_wp2_with fail
     refine hK.out _ _ ?_ (fun hHeld=>?_)
     ·exact X2
     clear hK K
     try simp only [jA,jB,jC,Act.put,jD,jE,jF]
     refine wpAnyH_ready (rs:=[7]) (by kernel_rfl) (by simp) ?_
     refine AllReadyH.cons (o:=_) rfl (fun K hK=>?_) ?_
     ·simp only [jA,jB,jC]
      go_simp
      go_at_call 149
      refine (HE.out _ (Hl1.out.later hb2')).mono ?_
      rintro e w3 ⟨rfl,hb3⟩
      have X3:=QK X2 hb3 (Nat.lt_of_lt_of_le hz1 hb2'.size) (Nat.lt_of_lt_of_le hwr1 hb2'.size)
      try go_wp2_with fail
      refine hK.out _ _ ?_ (fun hHeld=>?_)
      ·exact X3
      clear hK K
      try simp only [jA,jB,jC,Act.put,jD,jE,jF]
      refine wpAnyH_ready (rs:=[8]) (by kernel_rfl) (by simp) ?_
      refine AllReadyH.cons (o:=_) rfl (fun K hK=>?_) ?_
      ·simp only [jA,jB,jC]
       go_simp
       refine hK.out _ _ ?_ (fun hHeld=>?_)
       ·exact Rc _ X3
       clear hK K
       try simp only [jA,jB,jC,Act.put,jD,jE,jF]
       refine wpAnyH_ready (rs:=[9]) (by kernel_rfl) (by simp) ?_
       refine AllReadyH.cons (o:=_) rfl (fun K hK=>?_) ?_
       ·simp only [jA,jB,jC]
        go_simp
        go_at_call 93
        refine (Xk [[byB 2],W5] #[strB [byB 2],strB W5] 2 _ _ (by first|rfl|simp) rfl rfl (by decide) (by simp;omega)).mono ?_
        rintro e w6 ⟨rfl,hb6⟩
        have X6:=QK X3 hb6 (Nat.lt_of_lt_of_le hz1 (Nat.le_trans hb2'.size hb3.size)) (Nat.lt_of_lt_of_le hwr1 (Nat.le_trans hb2'.size hb3.size))
        try go_wp2_with fail
        refine hK.out _ _ ?_ (fun hHeld=>?_)
        ·exact X6
        clear hK K
        try simp only [jA,jB,jC,Act.put,jD,jE,jF]
        refine wpAnyH_ready (rs:=[10]) (by kernel_rfl) (by simp) ?_
        refine AllReadyH.cons (o:=_) rfl (fun K hK=>?_) ?_
        ·simp only [jA,jB,jC]
         go_simp
         refine hK.out _ _ ?_ (fun hHeld=>?_)
         ·exact X6
         clear hK K
         try simp only [jA,jB,jC,Act.put,jD,jE,jF]
         refine wpAnyH_done (by kernel_rfl) ?_ _
         refine NoPanic.normal ?_
         have HBX:=hid ((hb2'.trans (hb3.mono hb2'.size)).trans (hb6.mono (Nat.le_trans hb2'.size hb3.size)))
         clear X2 X3 X6 hb2 hb2' hb3 hb6 HS1
         go_wp2_with fail
         go_meet
         case rel=>exact ⟨rfl,HBX.out⟩
        exact AllReadyH.nil
       exact AllReadyH.nil
      exact AllReadyH.nil
     exact AllReadyH.nil
    exact AllReadyH.nil
   case rest =>
    obtain ⟨rfl,hbc⟩:=hcut
    have HBC:=hid (HB1.out.trans (hbc.mono HB1.out.size))
    clear hbc S1 hbl hwn_
    have hbn:(best == [])=false:=by
     have h1:=Hbn.out
     simpa using h1
    have hbl2:best.length≤5001:=by have:=HBL.out 2;rw [Hbest.out] at this;exact this
    have hsz1:=jM best
    have hsz2:=jM (byB 2 :: W5)
    by_cases hcmp:(byB 2 :: W5).length < best.length
    ·have HN:Hid (jQ 0 l (2+1)=byB 2 :: W5):=by
      show jQ 0 l (2+1)=_
      rw [HBT.out,if_pos (.inr hcmp)];rfl
     have hc2:(W5.length:Int)+1 < (best.length:Int):=by simp at hcmp;omega
     go_wp2
     go_roundw
     case rel=>exact ⟨2+1,by omega,by go_num,by rw [HN.out],HBC.out⟩
     case measure=>simp [intOf]
    ·have HN:Hid (jQ 0 l (2+1)=best):=by
      show jQ 0 l (2+1)=_
      rw [HBT.out,if_neg]
      rintro (h|h)
      ·omega
      ·exact hcmp h
     have hc2:decide ((W5.length:Int)+1 < (best.length:Int))=false:=by simp at hcmp ⊢;omega
     go_wp2
     go_roundw
     case rel=>exact ⟨2+1,by omega,by go_num,by rw [HN.out],HBC.out⟩
     case measure=>simp [intOf]
  ·go_wp2
   go_ret
   have hz:=Hb0.out.size
   exact ⟨rfl,Hb0.out.trans (hB.mono hz)⟩
end Go.Proofs.YthhpbhpfagoapabGreat
