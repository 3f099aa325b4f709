import Derived.Test.YthhpbhpfagoapabGreatRTk
import Derived.Test.YthhpbhpfagoapabGreatDValues
namespace Go.Proofs.YthhpbhpfagoapabGreat
set_option linter.unusedVariables false
set_option linter.unusedSimpArgs false
set_option maxRecDepth 100000
set_option maxHeartbeats 16000000
open Go.RowKit
theorem Lu (g p:Nat) (fl:List Bool) (v:Value) (base:Nat) (s rest:List UInt8) (w:World) (hs:s.length≤maxLen) (hfl:fl.length≤60) (hp:qv w p s rest) (hv:w.ownsRow base 4 1 v fl.length (QJ fl)) (hg:g < w.heap.size) (hw:TxtW w g) (hgp:g≠p) :
  Calls Tryz.prog 176 #[txtC g,.pointer (some ⟨p,0,none⟩),v] w (Xk 9 JB (IF (cnt fl)) (GX 1) p s rest w):=by
 have Hs:=hid hs
 have Hp:=hid hp
 have Hw:=hid hw
 have hplt:=xD hp
 obtain ⟨a,cap,rfl,hsh⟩:=Zv hv
 have Hsh:=hid hsh
 clear hs hp hw hv hsh
 go_enter Tryz.func176,Tryz.ntmps176
 go_wp2
 obtain ⟨hb0,hs0,hc0⟩:=Ja w #[.slice (some ⟨g,0,none⟩) 3 3,fnV 165,fnV 166,fnV 115,fnV 167,fnV 168,fnV 169] 214
 have Hc:Hid (BoxT _ g w.heap.size):=⟨hc0 0,hc0 1,hc0 2,hc0 3,hc0 4,hc0 5,hc0 6⟩
 have Hp0:=hid (qH Hp.out hb0 hplt)
 have Hw0:=hid (Hw.out.later hg hb0)
 have Hb0:=hid hb0
 have hs1:=Nat.lt_of_lt_of_eq (Nat.lt_succ_self w.heap.size) hs0.symm
 have hplt0:=Nat.lt_of_lt_of_le hplt hb0.size
 have hg0:=Nat.lt_of_lt_of_le hg hb0.size
 have hpne:w.heap.size≠p:=by omega
 have Hsh0:Hid (fl≠[]→∃ b,a=some ⟨b,0,none⟩∧∀ j (h:j < fl.length),(w.alloc (.cells #[.slice (some ⟨g,0,none⟩) 3 3,fnV 165,fnV 166,fnV 115,fnV 167,fnV 168,fnV 169] 214)).cell? ⟨b,j,none⟩=some (.bool fl[j])):=by
  intro hne
  obtain ⟨b,hb,hlt,hcell⟩:=Hsh.out hne
  exact ⟨b,hb,fun j hj=>(Hb0.out.cell (p:=⟨b,j,none⟩) hlt).trans (hcell j hj)⟩
 clear hc0 hb0 hs0
 generalize w.alloc _=w0 at *
 go_loopw [7,14] (fun c i wr=>∃ k:Nat,k≤fl.length∧i=.int .i64 (k:Int)∧c=.int .i64 (cnt (fl.take k):Int)∧wr=w0) (fun _ i _=>fl.length - (intOf i).toNat)
 case atStart=>exact ⟨0,Nat.zero_le _,rfl,rfl,rfl⟩
 case round =>
  obtain ⟨k,hk,rfl,rfl,rfl⟩:=hrel
  have hcl:=Nf (fl.take k)
  rw [List.length_take] at hcl
  by_cases hlt:k < fl.length
  ·obtain ⟨b,rfl,hcell⟩:=Hsh0.out (List.ne_nil_of_length_pos (by omega))
   have hck:=hcell k hlt
   have HCS:=hid (Uh fl k hlt)
   clear hcell
   cases hb:fl[k] with
   | true =>
    rw [hb] at hck HCS
    clear hb
    go_wp2
    go_roundw
    case rel=>exact ⟨k+1,by omega,by go_num,by rw [HCS.out];simp,trivial⟩
    case measure=>simp [intOf];omega
   | false =>
    rw [hb] at hck HCS
    clear hb
    go_wp2
    go_roundw
    case rel=>exact ⟨k+1,by omega,by go_num,by rw [HCS.out];simp,trivial⟩
    case measure=>simp [intOf];omega
  ·have hke:k=fl.length:=by omega
   subst hke
   rw [List.take_length] at *
   obtain ⟨W0,rfl⟩:∃ W0,W0=wr:=⟨_,rfl⟩
   generalize hcc:cnt fl=count at *
   have Hcc:=hid hcc
   clear hcc
   have hcount:count≤60:=by omega
   by_cases hc0:count=0
   ·have hci:((count:Int) == 0)=true:=by simp [hc0]
    have Hc0:=hid hc0
    clear hc0
    go_wp2
    go_ret
    refine ⟨jG (jU w _) Hb0.out,.inr ⟨[],rest,_,⟨Hc0.out.symm,(fun c h=>zZ h)⟩,rfl,World.ownsRow_nil _ _ _ _,Hp0.out,fun l2 q hl2 h=>?_⟩⟩
    have e1:l2=[]:=List.eq_nil_of_length_eq_zero (by rw [hl2.1];exact Hc0.out)
    subst e1
    exact ⟨rfl,h.symm⟩
   ·have hci:((count:Int) == 0)=false:=by rw [beq_eq_false_iff_ne];omega
    have hc1:1≤count:=by omega
    clear hc0
    go_wp2_with fail
    refine (Zm p s rest _ Hs.out Hp0.out).mono ?_
    rintro e w2 ⟨hg2,⟨rfl,rfl⟩|⟨c,r1,rfl,rfl,hrd2⟩⟩
    ·go_wp2
     refine ⟨rfl,jf (jG (jU w _) Hb0.out) hg2,.inl ⟨rfl,fun l2 q hl2 h=>?_⟩⟩
     obtain ⟨_,_,_,_,_,e⟩:=Jo (kind:=1) (l:=l2) (q:=q) (by intro h0;rw [h0] at hl2;have:=hl2.1;simp at this;omega) h.symm
     cases e
    ·have hG2:=jf (jG (jU w (some p)) Hb0.out) hg2
     have HG2:=hid hG2
     have hbx2:=JF Hc.out hg2 hs1 hpne
     have Hw2:=hid (Hw0.out.grown hg2 hg0 hgp)
     have hs2:=Nat.lt_of_lt_of_le hs1 hg2.size
     have hgg2:=Nat.lt_of_lt_of_le hg0 hg2.size
     have hp2:=xD hrd2
     have hct:=c.toNat_lt
     clear hg2 hG2
     have hx0:=je (Obj.cells #[.int .u8 (c.toNat:Int)] 5) hbx2.1
     have Hbx2:=hid hbx2
     clear hbx2
     go_wp2_with fail
     have hbA:Below w2.heap.size w2 (w2.alloc (Obj.cells #[.int .u8 (c.toNat:Int)] 5)):=(Below.refl _ _).alloc (Nat.le_refl _) _
     refine (BE g w2.heap.size (c.toNat:Int) _ (Nat.lt_of_lt_of_le hgg2 hbA.size) (Hw2.out.later hgg2 hbA) (World.cell?_alloc_mark ..)).mono ?_
     rintro e w3 ⟨rfl,hb3⟩
     have hb3':Below w2.heap.size w2 w3:=xE hb3
     have hrd3:=qH hrd2 hb3' hp2
     have hG3:=jG HG2.out hb3'
     have Hbx3:=hid (xj Hbx2.out hb3' hs2)
     have Hw3:=hid (Hw2.out.later hgg2 hb3')
     have hs3:=Nat.lt_of_lt_of_le hs2 hb3'.size
     clear hb3 hb3' hbA hx0 hrd2
     rcases (show (c.toNat=0∨c.toNat=3∨c.toNat=4)∨¬ (c.toNat=0∨c.toNat=3∨c.toNat=4) from Classical.em _) with (hc|hc|hc)|hc
     ·have hwa:QN (c.toNat:Int)=0:=by
       unfold QN
       rw [if_pos (by omega)]
      rw [hwa]
      clear hwa
      have f2:w3.cell? ⟨g,2,none⟩=some (fnV 160):=qb Hw3.out 2 rfl
      have HU:Hid (∀ l2 q,IF count l2→c :: r1=GX 1 l2++q→r1=qJ 5 l2++q):=by
       intro l2 q hl2 h
       obtain ⟨j,c',r',hj,⟨e1,e2⟩,e3⟩:=Jo (kind:=1) (l:=l2) (q:=q) (by intro h0;rw [h0] at hl2;have:=hl2.1;simp at this;omega) h.symm
       simp only [List.cons.injEq] at e3
       obtain ⟨rfl,rfl⟩:=e3
       rcases (show j=0∨j=1∨j=2 by omega) with rfl|rfl|rfl
       ·have:=xJ (n:=0) e1 (by decide);exact e2
       ·have:=xJ (n:=3) e1 (by decide);omega
       ·have:=xJ (n:=4) e1 (by decide);omega
      go_wp2_with fail
      refine (qe _).mono ?_
      rintro e wN ⟨rfl,rfl⟩
      go_wp2_with fail
      refine wp_region_held_drew (S:=fun w'=>w'.cell? ⟨g,2,none⟩=some (fnV 160)∧w'.cell? ⟨w.heap.size,0,none⟩=some (.slice (some ⟨g,0,none⟩) 3 3)∧w'.cell? ⟨w.heap.size,1,none⟩=some (fnV 165)∧w'.cell? ⟨w.heap.size,2,none⟩=some (fnV 166)∧w'.cell? ⟨w.heap.size,3,none⟩=some (fnV 115)∧w'.cell? ⟨w.heap.size,4,none⟩=some (fnV 167)∧w'.cell? ⟨w.heap.size,5,none⟩=some (fnV 168)∧w'.cell? ⟨w.heap.size,6,none⟩=some (fnV 169)) (by kernel_rfl) ⟨f2,Hbx3.out⟩ (fun hHeld=>?_)
      refine tk 0 (.pointer (some ⟨w.heap.size,0,none⟩)) ?_
      refine tk 1 (.slice (some ⟨g,0,none⟩) 3 3) ?_
      refine tk 2 (.int .i64 0) ?_
      refine tk 3 (.pointer (some ⟨g,0,none⟩)) ?_
      refine tk 4 (.pointer (some ⟨g,2,none⟩)) ?_
      refine tk 5 (fnV 160) ?_
      refine tk 6 (txtC g) ?_
      refine tk 7 (.pointer (some ⟨p,0,none⟩)) ?_
      refine tk 8 (.int .i64 (count:Int)) ?_
      simp only [jA,jB,jC,Act.put,jD,jE,jF]
      refine rd 9 (fun K hK=>?_)
      simp only [jA,jB,jC]
      go_simp
      go_at_call 160
      refine (Yq g p count s r1 wN.drew Hs.out hcount (show qv wN.drew p s r1 from hrd3)).mono ?_
      rintro e w4 ⟨hg4,⟨rfl,hno⟩|⟨l,r4,v4,hl,rfl,hown4,hrd4,hu4⟩⟩
      ·exact ⟨rfl,jf hG3 (jP hg4),.inl ⟨rfl,fun l2 q hl2 h=>hno l2 q hl2 ((HU.out l2 q hl2 h).trans (congrArg (·++q) (XD 5 (by decide) Zu l2 (fun i hi=>rfl)).symm.symm))⟩⟩
      ·have hg4':=jP hg4
       have HG4:=hid (jf hG3 hg4')
       have HS4:Hid (w4.cell? ⟨g,2,none⟩=some (fnV 160)∧BoxT w4 g w.heap.size):=⟨(hg4'.cell_far ⟨g,2,none⟩ (World.block_lt_of_cell? wN _ f2) (by intro h;simp at h;exact hgp h)).trans f2,JF Hbx3.out hg4' hs3 hpne⟩
       have Hl:=hid hl
       have Hown4:=hid hown4
       have Hrd4:=hid hrd4
       have Hu4:=hid hu4
       clear hg4 hg4' hl hown4 hrd4 hu4
       try go_wp2_with fail
       refine hK.out _ _ HS4.out (fun hHeld=>?_)
       clear hK K
       try simp only [jA,jB,jC,Act.put,jD,jE,jF]
       refine rd 10 (fun K hK=>?_)
       simp only [jA,jB,jC]
       go_simp
       try go_wp2_with fail
       refine hK.out _ _ HS4.out (fun hHeld=>?_)
       clear hK K
       try simp only [jA,jB,jC,Act.put,jD,jE,jF]
       refine wpAnyH_done (by kernel_rfl) ?_ _
       clear hHeld
       go_wp2
       go_ret
       refine ⟨HG4.out,.inr ⟨l,r4,_,Hl.out,rfl,jS Hown4.out hG3.size,Hrd4.out,fun l2 q hl2 h=>Hu4.out l2 q hl2 ((HU.out l2 q hl2 h).trans (congrArg (·++q) (XD 5 (by decide) Zu l2 (fun i hi=>rfl)).symm.symm))⟩⟩
     ·have hwa:QN (c.toNat:Int)=1:=by
       unfold QN
       rw [if_neg (by omega),if_pos (by omega)]
      rw [hwa]
      clear hwa
      have f2:w3.cell? ⟨g,5,none⟩=some (fnV 162):=qb Hw3.out 5 rfl
      have HU:Hid (∀ l2 q,IF count l2→c :: r1=GX 1 l2++q→r1=qJ 3 l2++q):=by
       intro l2 q hl2 h
       obtain ⟨j,c',r',hj,⟨e1,e2⟩,e3⟩:=Jo (kind:=1) (l:=l2) (q:=q) (by intro h0;rw [h0] at hl2;have:=hl2.1;simp at this;omega) h.symm
       simp only [List.cons.injEq] at e3
       obtain ⟨rfl,rfl⟩:=e3
       rcases (show j=0∨j=1∨j=2 by omega) with rfl|rfl|rfl
       ·have:=xJ (n:=0) e1 (by decide);omega
       ·have:=xJ (n:=3) e1 (by decide);exact e2
       ·have:=xJ (n:=4) e1 (by decide);omega
      go_wp2_with fail
      refine (qe _).mono ?_
      rintro e wN ⟨rfl,rfl⟩
      go_wp2_with fail
      refine wp_region_held_drew (S:=fun w'=>w'.cell? ⟨g,5,none⟩=some (fnV 162)∧w'.cell? ⟨w.heap.size,0,none⟩=some (.slice (some ⟨g,0,none⟩) 3 3)∧w'.cell? ⟨w.heap.size,1,none⟩=some (fnV 165)∧w'.cell? ⟨w.heap.size,2,none⟩=some (fnV 166)∧w'.cell? ⟨w.heap.size,3,none⟩=some (fnV 115)∧w'.cell? ⟨w.heap.size,4,none⟩=some (fnV 167)∧w'.cell? ⟨w.heap.size,5,none⟩=some (fnV 168)∧w'.cell? ⟨w.heap.size,6,none⟩=some (fnV 169)) (by kernel_rfl) ⟨f2,Hbx3.out⟩ (fun hHeld=>?_)
      refine tk 0 (.pointer (some ⟨w.heap.size,0,none⟩)) ?_
      refine tk 1 (.slice (some ⟨g,0,none⟩) 3 3) ?_
      refine tk 2 (.int .i64 1) ?_
      refine tk 3 (.pointer (some ⟨g,3,none⟩)) ?_
      refine tk 4 (.pointer (some ⟨g,5,none⟩)) ?_
      refine tk 5 (fnV 162) ?_
      refine tk 6 (txtC g) ?_
      refine tk 7 (.pointer (some ⟨p,0,none⟩)) ?_
      refine tk 8 (.int .i64 (count:Int)) ?_
      simp only [jA,jB,jC,Act.put,jD,jE,jF]
      refine rd 9 (fun K hK=>?_)
      simp only [jA,jB,jC]
      go_simp
      go_at_call 162
      refine (IJ g p count s r1 wN.drew Hs.out hcount hc1 (show qv wN.drew p s r1 from hrd3)).mono ?_
      rintro e w4 ⟨hg4,⟨rfl,hno⟩|⟨l,r4,v4,hl,rfl,hown4,hrd4,hu4⟩⟩
      ·exact ⟨rfl,jf hG3 (jP hg4),.inl ⟨rfl,fun l2 q hl2 h=>hno l2 q hl2 ((HU.out l2 q hl2 h).trans (congrArg (·++q) rfl.symm))⟩⟩
      ·have hg4':=jP hg4
       have HG4:=hid (jf hG3 hg4')
       have HS4:Hid (w4.cell? ⟨g,5,none⟩=some (fnV 162)∧BoxT w4 g w.heap.size):=⟨(hg4'.cell_far ⟨g,5,none⟩ (World.block_lt_of_cell? wN _ f2) (by intro h;simp at h;exact hgp h)).trans f2,JF Hbx3.out hg4' hs3 hpne⟩
       have Hl:=hid hl
       have Hown4:=hid hown4
       have Hrd4:=hid hrd4
       have Hu4:=hid hu4
       clear hg4 hg4' hl hown4 hrd4 hu4
       try go_wp2_with fail
       refine hK.out _ _ HS4.out (fun hHeld=>?_)
       clear hK K
       try simp only [jA,jB,jC,Act.put,jD,jE,jF]
       refine rd 10 (fun K hK=>?_)
       simp only [jA,jB,jC]
       go_simp
       try go_wp2_with fail
       refine hK.out _ _ HS4.out (fun hHeld=>?_)
       clear hK K
       try simp only [jA,jB,jC,Act.put,jD,jE,jF]
       refine wpAnyH_done (by kernel_rfl) ?_ _
       clear hHeld
       go_wp2
       go_ret
       refine ⟨HG4.out,.inr ⟨l,r4,_,Hl.out,rfl,jS Hown4.out hG3.size,Hrd4.out,fun l2 q hl2 h=>Hu4.out l2 q hl2 ((HU.out l2 q hl2 h).trans (congrArg (·++q) rfl.symm))⟩⟩
     ·have hwa:QN (c.toNat:Int)=2:=by
       unfold QN
       rw [if_neg (by omega),if_neg (by omega),if_pos (by omega)]
      rw [hwa]
      clear hwa
      have f2:w3.cell? ⟨g,8,none⟩=some (fnV 164):=qb Hw3.out 8 rfl
      have HU:Hid (∀ l2 q,IF count l2→c :: r1=GX 1 l2++q→r1=qJ 4 l2++q):=by
       intro l2 q hl2 h
       obtain ⟨j,c',r',hj,⟨e1,e2⟩,e3⟩:=Jo (kind:=1) (l:=l2) (q:=q) (by intro h0;rw [h0] at hl2;have:=hl2.1;simp at this;omega) h.symm
       simp only [List.cons.injEq] at e3
       obtain ⟨rfl,rfl⟩:=e3
       rcases (show j=0∨j=1∨j=2 by omega) with rfl|rfl|rfl
       ·have:=xJ (n:=0) e1 (by decide);omega
       ·have:=xJ (n:=3) e1 (by decide);omega
       ·have:=xJ (n:=4) e1 (by decide);exact e2
      go_wp2_with fail
      refine (qe _).mono ?_
      rintro e wN ⟨rfl,rfl⟩
      go_wp2_with fail
      refine wp_region_held_drew (S:=fun w'=>w'.cell? ⟨g,8,none⟩=some (fnV 164)∧w'.cell? ⟨w.heap.size,0,none⟩=some (.slice (some ⟨g,0,none⟩) 3 3)∧w'.cell? ⟨w.heap.size,1,none⟩=some (fnV 165)∧w'.cell? ⟨w.heap.size,2,none⟩=some (fnV 166)∧w'.cell? ⟨w.heap.size,3,none⟩=some (fnV 115)∧w'.cell? ⟨w.heap.size,4,none⟩=some (fnV 167)∧w'.cell? ⟨w.heap.size,5,none⟩=some (fnV 168)∧w'.cell? ⟨w.heap.size,6,none⟩=some (fnV 169)) (by kernel_rfl) ⟨f2,Hbx3.out⟩ (fun hHeld=>?_)
      refine tk 0 (.pointer (some ⟨w.heap.size,0,none⟩)) ?_
      refine tk 1 (.slice (some ⟨g,0,none⟩) 3 3) ?_
      refine tk 2 (.int .i64 2) ?_
      refine tk 3 (.pointer (some ⟨g,6,none⟩)) ?_
      refine tk 4 (.pointer (some ⟨g,8,none⟩)) ?_
      refine tk 5 (fnV 164) ?_
      refine tk 6 (txtC g) ?_
      refine tk 7 (.pointer (some ⟨p,0,none⟩)) ?_
      refine tk 8 (.int .i64 (count:Int)) ?_
      simp only [jA,jB,jC,Act.put,jD,jE,jF]
      refine rd 9 (fun K hK=>?_)
      simp only [jA,jB,jC]
      go_simp
      go_at_call 164
      refine (MP g p count s r1 wN.drew Hs.out hcount (show qv wN.drew p s r1 from hrd3)).mono ?_
      rintro e w4 ⟨hg4,⟨rfl,hno⟩|⟨l,r4,v4,hl,rfl,hown4,hrd4,hu4⟩⟩
      ·exact ⟨rfl,jf hG3 (jP hg4),.inl ⟨rfl,fun l2 q hl2 h=>hno l2 q hl2 ((HU.out l2 q hl2 h).trans (congrArg (·++q) (XD 4 (by decide) UC l2 (fun i hi=>by simp only [xL,UC,NT,KC])).symm.symm))⟩⟩
      ·have hg4':=jP hg4
       have HG4:=hid (jf hG3 hg4')
       have HS4:Hid (w4.cell? ⟨g,8,none⟩=some (fnV 164)∧BoxT w4 g w.heap.size):=⟨(hg4'.cell_far ⟨g,8,none⟩ (World.block_lt_of_cell? wN _ f2) (by intro h;simp at h;exact hgp h)).trans f2,JF Hbx3.out hg4' hs3 hpne⟩
       have Hl:=hid hl
       have Hown4:=hid hown4
       have Hrd4:=hid hrd4
       have Hu4:=hid hu4
       clear hg4 hg4' hl hown4 hrd4 hu4
       try go_wp2_with fail
       refine hK.out _ _ HS4.out (fun hHeld=>?_)
       clear hK K
       try simp only [jA,jB,jC,Act.put,jD,jE,jF]
       refine rd 10 (fun K hK=>?_)
       simp only [jA,jB,jC]
       go_simp
       try go_wp2_with fail
       refine hK.out _ _ HS4.out (fun hHeld=>?_)
       clear hK K
       try simp only [jA,jB,jC,Act.put,jD,jE,jF]
       refine wpAnyH_done (by kernel_rfl) ?_ _
       clear hHeld
       go_wp2
       go_ret
       refine ⟨HG4.out,.inr ⟨l,r4,_,Hl.out,rfl,jS Hown4.out hG3.size,Hrd4.out,fun l2 q hl2 h=>Hu4.out l2 q hl2 ((HU.out l2 q hl2 h).trans (congrArg (·++q) (XD 4 (by decide) UC l2 (fun i hi=>by simp only [xL,UC,NT,KC])).symm.symm))⟩⟩
     ·have hwa:QN (c.toNat:Int)=-1:=by
       unfold QN
       rw [if_neg (by omega),if_neg (by omega),if_neg (by omega)]
      rw [hwa]
      go_wp2_with fail
      refine (qS _).mono ?_
      rintro e wN ⟨rfl,rfl⟩
      go_wp2
      refine ⟨rfl,hG3,.inl ⟨rfl,fun l2 q hl2 h=>?_⟩⟩
      obtain ⟨j,c',r',hj,⟨e1,e2⟩,e3⟩:=Jo (kind:=1) (l:=l2) (q:=q) (by intro h0;rw [h0] at hl2;have:=hl2.1;simp at this;omega) h.symm
      simp only [List.cons.injEq] at e3
      obtain ⟨rfl,rfl⟩:=e3
      rcases (show j=0∨j=1∨j=2 by omega) with rfl|rfl|rfl
      ·have:=xJ (n:=0) e1 (by decide);omega
      ·have:=xJ (n:=3) e1 (by decide);omega
      ·have:=xJ (n:=4) e1 (by decide);omega
end Go.Proofs.YthhpbhpfagoapabGreat
