import Derived.Test.YthhpbhpfagoapaaGreatRTk
import Derived.Test.YthhpbhpfagoapaaGreatJAB
namespace Go.Proofs.YthhpbhpfagoapaaGreat
set_option linter.unusedVariables false
set_option linter.unusedSimpArgs false
set_option maxRecDepth 100000
set_option maxHeartbeats 16000000
open Go.RowKit
section
def cnt (fl:List Bool):Nat:=(fl.filter fun b=>!b).length
theorem Gu (fl:List Bool):cnt fl≤fl.length:=List.length_filter_le _ _
theorem Kx (fl:List Bool) (k:Nat) (h:k < fl.length):cnt (fl.take (k+1))=cnt (fl.take k)+(if fl[k]=true then 0 else 1):=by
 rw [List.take_succ_eq_append_getElem h]
 unfold cnt
 rw [List.filter_append,List.length_append]
 cases hb:fl[k]<;>simp
def Gg (kind:Int) (l:List CellB):List UInt8:=if l=[] then [] else jH kind l 3
theorem zM {kind:Int} {l:List CellB} {rest q:List UInt8} (hl:l≠[]) (h:Gg kind l++q=rest):∃ j c r,j < 3∧(c=byB ((Zi kind j:Int) % 5)∧r=qz (Zi kind j) l++q)∧rest=c :: r:=by
 unfold Gg at h
 rw [if_neg hl] at h
 obtain ⟨j,hj,he⟩:=DI kind l
 rw [he,QR] at h
 exact ⟨j,_,_,hj,⟨rfl,rfl⟩,h.symm⟩
theorem Qy {w w':World} {g B p:Nat} (h:BoxI w g B) (hg:w.grownBy w' (some p)) (hB:B < w.heap.size) (hne:B≠p):BoxI w' g B:=by
 have k:∀ j,w'.cell? ⟨B,j,none⟩=w.cell? ⟨B,j,none⟩:=fun j=>hg.cell_far ⟨B,j,none⟩ hB (by intro h;simp at h;exact hne h)
 obtain ⟨h0,h1,h2,h3,h4,h5,h6⟩:=h
 exact ⟨(k 0).trans h0,(k 1).trans h1,(k 2).trans h2,(k 3).trans h3,(k 4).trans h4,(k 5).trans h5,(k 6).trans h6⟩
theorem NumW.grown {w w':World} {g p:Nat} (h:NumW w g) (hg:w.grownBy w' (some p)) (hl:g < w.heap.size) (hne:g≠p):NumW w' g:=(hg.block g hl (by intro h;simp at h;exact hne h)).trans h
theorem TxtW.grown {w w':World} {g p:Nat} (h:TxtW w g) (hg:w.grownBy w' (some p)) (hl:g < w.heap.size) (hne:g≠p):TxtW w' g:=(hg.block g hl (by intro h;simp at h;exact hne h)).trans h
theorem xo {c:UInt8} {n:Nat} (h:c=byB (n:Int)) (hn:n≤255):(c.toNat:Int)=(n:Int):=by
 rw [h,xH _ (by omega) (by omega)]
theorem Zb {w:World} {base:Nat} {v:Value} {fl:List Bool} (h:w.ownsRow base 4 1 v fl.length (Qh fl)):∃ a cap,v=.slice a fl.length cap∧(fl≠[]→∃ b,a=some ⟨b,0,none⟩∧b < w.heap.size∧∀ j (h:j < fl.length),w.cell? ⟨b,j,none⟩=some (.bool fl[j])):=by
 rcases h.2 with ⟨rfl,h0⟩|⟨g,cap,cur,rfl,_⟩
 ·exact ⟨none,0,by rw [h0],fun hne=>absurd (List.eq_nil_of_length_eq_zero h0) hne⟩
 ·refine ⟨_,cap,rfl,fun _=>⟨g,rfl,(h.lt g rfl).2,fun j hj=>?_⟩⟩
  rw [h.cellAt j (by omega)]
  simp [Qh,hj]
theorem St (g p:Nat) (fl:List Bool) (v:Value) (base:Nat) (s rest:List UInt8) (w:World) (hs:s.length≤maxLen) (hfl:fl.length≤60) (hp:qp w p s rest) (hv:w.ownsRow base 4 1 v fl.length (Qh fl)) (hg:g < w.heap.size) (hw:NumW w g) (hgp:g≠p) :
  Calls Tryz.prog 210 #[numC g,.pointer (some ⟨p,0,none⟩),v] w (QS 3 Qx (YT (cnt fl)) (Gg 0) p s rest w):=by
 have Hs:=hid hs
 have Hp:=hid hp
 have Hw:=hid hw
 have hplt:=xh hp
 obtain ⟨a,cap,rfl,hsh⟩:=Zb hv
 have Hsh:=hid hsh
 clear hs hp hw hv hsh
 go_enter Tryz.func210,Tryz.ntmps210
 go_wp2
 obtain ⟨hb0,hs0,hc0⟩:=zx w #[.slice (some ⟨g,0,none⟩) 3 3,fnV 187,fnV 188,fnV 189,fnV 190,fnV 191,fnV 192] 215
 have Hc:Hid (BoxI _ g w.heap.size):=⟨hc0 0,hc0 1,hc0 2,hc0 3,hc0 4,hc0 5,hc0 6⟩
 have Hp0:=hid (qy Hp.out hb0 hplt)
 have Hw0:=hid (Hw.out.later hg hb0)
 have Hb0:=hid hb0
 have hs1:=Nat.lt_of_lt_of_eq (Nat.lt_succ_self w.heap.size) hs0.symm
 have hplt0:=Nat.lt_of_lt_of_le hplt hb0.size
 have hg0:=Nat.lt_of_lt_of_le hg hb0.size
 have hpne:w.heap.size≠p:=by omega
 have Hsh0:Hid (fl≠[]→∃ b,a=some ⟨b,0,none⟩∧∀ j (h:j < fl.length),(w.alloc (.cells #[.slice (some ⟨g,0,none⟩) 3 3,fnV 187,fnV 188,fnV 189,fnV 190,fnV 191,fnV 192] 215)).cell? ⟨b,j,none⟩=some (.bool fl[j])):=by
  intro hne
  obtain ⟨b,hb,hlt,hcell⟩:=Hsh.out hne
  exact ⟨b,hb,fun j hj=>(Hb0.out.cell (p:=⟨b,j,none⟩) hlt).trans (hcell j hj)⟩
 clear hc0 hb0 hs0
 generalize w.alloc _=w0 at *
 go_loopw [7,14] (fun c i wr=>∃ k:Nat,k≤fl.length∧i=.int .i64 (k:Int)∧c=.int .i64 (cnt (fl.take k):Int)∧wr=w0) (fun _ i _=>fl.length - (intOf i).toNat)
 case atStart=>exact ⟨0,Nat.zero_le _,rfl,rfl,rfl⟩
 case round =>
  obtain ⟨k,hk,rfl,rfl,rfl⟩:=hrel
  have hcl:=Gu (fl.take k)
  rw [List.length_take] at hcl
  by_cases hlt:k < fl.length
  ·obtain ⟨b,rfl,hcell⟩:=Hsh0.out (List.ne_nil_of_length_pos (by omega))
   have hck:=hcell k hlt
   have HCS:=hid (Kx fl k hlt)
   clear hcell
   cases hb:fl[k] with
   | true =>
    rw [hb] at hck HCS
    clear hb
    go_wp2
    go_roundw
    case rel=>exact ⟨k+1,by omega,by go_num,by rw [HCS.out];simp,trivial⟩
    case measure=>simp [intOf];omega
   | false =>
    rw [hb] at hck HCS
    clear hb
    go_wp2
    go_roundw
    case rel=>exact ⟨k+1,by omega,by go_num,by rw [HCS.out];simp,trivial⟩
    case measure=>simp [intOf];omega
  ·have hke:k=fl.length:=by omega
   subst hke
   rw [List.take_length] at *
   obtain ⟨W0,rfl⟩:∃ W0,W0=wr:=⟨_,rfl⟩
   generalize hcc:cnt fl=count at *
   have Hcc:=hid hcc
   clear hcc
   have hcount:count≤60:=by omega
   by_cases hc0:count=0
   ·have hci:((count:Int) == 0)=true:=by simp [hc0]
    have Hc0:=hid hc0
    clear hc0
    go_wp2
    go_ret
    refine ⟨jw (jK w _) Hb0.out,.inr ⟨[],rest,_,⟨Hc0.out.symm,(fun c h=>zy h)⟩,rfl,World.ownsRow_nil _ _ _ _,Hp0.out,fun l2 q hl2 h=>?_⟩⟩
    have e1:l2=[]:=List.eq_nil_of_length_eq_zero (by rw [hl2.1];exact Hc0.out)
    subst e1
    exact ⟨rfl,h.symm⟩
   ·have hci:((count:Int) == 0)=false:=by rw [beq_eq_false_iff_ne];omega
    have hc1:1≤count:=by omega
    clear hc0
    go_wp2_with fail
    refine (XF p s rest _ Hs.out Hp0.out).mono ?_
    rintro e w2 ⟨hg2,⟨rfl,rfl⟩|⟨c,r1,rfl,rfl,hrd2⟩⟩
    ·go_wp2
     refine ⟨rfl,jd (jw (jK w _) Hb0.out) hg2,.inl ⟨rfl,fun l2 q hl2 h=>?_⟩⟩
     obtain ⟨_,_,_,_,_,e⟩:=zM (kind:=0) (l:=l2) (q:=q) (by intro h0;rw [h0] at hl2;have:=hl2.1;simp at this;omega) h.symm
     cases e
    ·have hG2:=jd (jw (jK w (some p)) Hb0.out) hg2
     have HG2:=hid hG2
     have hbx2:=Qy Hc.out hg2 hs1 hpne
     have Hw2:=hid (Hw0.out.grown hg2 hg0 hgp)
     have hs2:=Nat.lt_of_lt_of_le hs1 hg2.size
     have hgg2:=Nat.lt_of_lt_of_le hg0 hg2.size
     have hp2:=xh hrd2
     have hct:=c.toNat_lt
     clear hg2 hG2
     have hx0:=jc (Obj.cells #[.int .u8 (c.toNat:Int)] 5) hbx2.1
     have Hbx2:=hid hbx2
     clear hbx2
     go_wp2_with fail
     have hbA:Below w2.heap.size w2 (w2.alloc (Obj.cells #[.int .u8 (c.toNat:Int)] 5)):=(Below.refl _ _).alloc (Nat.le_refl _) _
     refine (SR g w2.heap.size (c.toNat:Int) _ (Nat.lt_of_lt_of_le hgg2 hbA.size) (Hw2.out.later hgg2 hbA) (World.cell?_alloc_mark ..)).mono ?_
     rintro e w3 ⟨rfl,hb3⟩
     have hb3':Below w2.heap.size w2 w3:=xk hb3
     have hrd3:=qy hrd2 hb3' hp2
     have hG3:=jw HG2.out hb3'
     have Hbx3:=hid (xP Hbx2.out hb3' hs2)
     have Hw3:=hid (Hw2.out.later hgg2 hb3')
     have hs3:=Nat.lt_of_lt_of_le hs2 hb3'.size
     clear hb3 hb3' hbA hx0 hrd2
     rcases (show (c.toNat=0∨c.toNat=1∨c.toNat=2)∨¬ (c.toNat=0∨c.toNat=1∨c.toNat=2) from Classical.em _) with (hc|hc|hc)|hc
     ·have hwa:Qk (c.toNat:Int)=0:=by
       unfold Qk
       rw [if_pos (by omega)]
      rw [hwa]
      clear hwa
      have f2:w3.cell? ⟨g,2,none⟩=some (fnV 182):=jV Hw3.out 2 rfl
      have HU:Hid (∀ l2 q,YT count l2→c :: r1=Gg 0 l2++q→r1=qz 0 l2++q):=by
       intro l2 q hl2 h
       obtain ⟨j,c',r',hj,⟨e1,e2⟩,e3⟩:=zM (kind:=0) (l:=l2) (q:=q) (by intro h0;rw [h0] at hl2;have:=hl2.1;simp at this;omega) h.symm
       simp only [List.cons.injEq] at e3
       obtain ⟨rfl,rfl⟩:=e3
       rcases (show j=0∨j=1∨j=2 by omega) with rfl|rfl|rfl
       ·have:=xo (n:=0) e1 (by decide);exact e2
       ·have:=xo (n:=1) e1 (by decide);omega
       ·have:=xo (n:=2) e1 (by decide);omega
      go_wp2_with fail
      refine (jW _).mono ?_
      rintro e wN ⟨rfl,rfl⟩
      go_wp2_with fail
      refine wp_region_held_drew (S:=fun w'=>w'.cell? ⟨g,2,none⟩=some (fnV 182)∧w'.cell? ⟨w.heap.size,0,none⟩=some (.slice (some ⟨g,0,none⟩) 3 3)∧w'.cell? ⟨w.heap.size,1,none⟩=some (fnV 187)∧w'.cell? ⟨w.heap.size,2,none⟩=some (fnV 188)∧w'.cell? ⟨w.heap.size,3,none⟩=some (fnV 189)∧w'.cell? ⟨w.heap.size,4,none⟩=some (fnV 190)∧w'.cell? ⟨w.heap.size,5,none⟩=some (fnV 191)∧w'.cell? ⟨w.heap.size,6,none⟩=some (fnV 192)) (by kernel_rfl) ⟨f2,Hbx3.out⟩ (fun hHeld=>?_)
      refine tk 0 (.pointer (some ⟨w.heap.size,0,none⟩)) ?_
      refine tk 1 (.slice (some ⟨g,0,none⟩) 3 3) ?_
      refine tk 2 (.int .i64 0) ?_
      refine tk 3 (.pointer (some ⟨g,0,none⟩)) ?_
      refine tk 4 (.pointer (some ⟨g,2,none⟩)) ?_
      refine tk 5 (fnV 182) ?_
      refine tk 6 (numC g) ?_
      refine tk 7 (.pointer (some ⟨p,0,none⟩)) ?_
      refine tk 8 (.int .i64 (count:Int)) ?_
      simp only [jA,jB,jC,Act.put,jD,jE,jF]
      refine rd 9 (fun K hK=>?_)
      simp only [jA,jB,jC]
      go_simp
      go_at_call 182
      refine (Mr g p count s r1 wN.drew Hs.out hcount (show qp wN.drew p s r1 from hrd3)).mono ?_
      rintro e w4 ⟨hg4,⟨rfl,hno⟩|⟨l,r4,v4,hl,rfl,hown4,hrd4,hu4⟩⟩
      ·exact ⟨rfl,jd hG3 (jG hg4),.inl ⟨rfl,fun l2 q hl2 h=>hno l2 q hl2 ((HU.out l2 q hl2 h).trans (congrArg (·++q) (Xd 0 (by decide) Gy l2 (fun i hi=>rfl)).symm.symm))⟩⟩
      ·have hg4':=jG hg4
       have HG4:=hid (jd hG3 hg4')
       have HS4:Hid (w4.cell? ⟨g,2,none⟩=some (fnV 182)∧BoxI w4 g w.heap.size):=⟨(hg4'.cell_far ⟨g,2,none⟩ (World.block_lt_of_cell? wN _ f2) (by intro h;simp at h;exact hgp h)).trans f2,Qy Hbx3.out hg4' hs3 hpne⟩
       have Hl:=hid hl
       have Hown4:=hid hown4
       have Hrd4:=hid hrd4
       have Hu4:=hid hu4
       clear hg4 hg4' hl hown4 hrd4 hu4
       try go_wp2_with fail
       refine hK.out _ _ HS4.out (fun hHeld=>?_)
       clear hK K
       try simp only [jA,jB,jC,Act.put,jD,jE,jF]
       refine rd 10 (fun K hK=>?_)
       simp only [jA,jB,jC]
       go_simp
       try go_wp2_with fail
       refine hK.out _ _ HS4.out (fun hHeld=>?_)
       clear hK K
       try simp only [jA,jB,jC,Act.put,jD,jE,jF]
       refine wpAnyH_done (by kernel_rfl) ?_ _
       clear hHeld
       go_wp2
       go_ret
       refine ⟨HG4.out,.inr ⟨l,r4,_,Hl.out,rfl,jI Hown4.out hG3.size,Hrd4.out,fun l2 q hl2 h=>Hu4.out l2 q hl2 ((HU.out l2 q hl2 h).trans (congrArg (·++q) (Xd 0 (by decide) Gy l2 (fun i hi=>rfl)).symm.symm))⟩⟩
     ·have hwa:Qk (c.toNat:Int)=1:=by
       unfold Qk
       rw [if_neg (by omega),if_pos (by omega)]
      rw [hwa]
      clear hwa
      have f2:w3.cell? ⟨g,5,none⟩=some (fnV 184):=jV Hw3.out 5 rfl
      have HU:Hid (∀ l2 q,YT count l2→c :: r1=Gg 0 l2++q→r1=qz 1 l2++q):=by
       intro l2 q hl2 h
       obtain ⟨j,c',r',hj,⟨e1,e2⟩,e3⟩:=zM (kind:=0) (l:=l2) (q:=q) (by intro h0;rw [h0] at hl2;have:=hl2.1;simp at this;omega) h.symm
       simp only [List.cons.injEq] at e3
       obtain ⟨rfl,rfl⟩:=e3
       rcases (show j=0∨j=1∨j=2 by omega) with rfl|rfl|rfl
       ·have:=xo (n:=0) e1 (by decide);omega
       ·have:=xo (n:=1) e1 (by decide);exact e2
       ·have:=xo (n:=2) e1 (by decide);omega
      go_wp2_with fail
      refine (jW _).mono ?_
      rintro e wN ⟨rfl,rfl⟩
      go_wp2_with fail
      refine wp_region_held_drew (S:=fun w'=>w'.cell? ⟨g,5,none⟩=some (fnV 184)∧w'.cell? ⟨w.heap.size,0,none⟩=some (.slice (some ⟨g,0,none⟩) 3 3)∧w'.cell? ⟨w.heap.size,1,none⟩=some (fnV 187)∧w'.cell? ⟨w.heap.size,2,none⟩=some (fnV 188)∧w'.cell? ⟨w.heap.size,3,none⟩=some (fnV 189)∧w'.cell? ⟨w.heap.size,4,none⟩=some (fnV 190)∧w'.cell? ⟨w.heap.size,5,none⟩=some (fnV 191)∧w'.cell? ⟨w.heap.size,6,none⟩=some (fnV 192)) (by kernel_rfl) ⟨f2,Hbx3.out⟩ (fun hHeld=>?_)
      refine tk 0 (.pointer (some ⟨w.heap.size,0,none⟩)) ?_
      refine tk 1 (.slice (some ⟨g,0,none⟩) 3 3) ?_
      refine tk 2 (.int .i64 1) ?_
      refine tk 3 (.pointer (some ⟨g,3,none⟩)) ?_
      refine tk 4 (.pointer (some ⟨g,5,none⟩)) ?_
      refine tk 5 (fnV 184) ?_
      refine tk 6 (numC g) ?_
      refine tk 7 (.pointer (some ⟨p,0,none⟩)) ?_
      refine tk 8 (.int .i64 (count:Int)) ?_
      simp only [jA,jB,jC,Act.put,jD,jE,jF]
      refine rd 9 (fun K hK=>?_)
      simp only [jA,jB,jC]
      go_simp
      go_at_call 184
      refine (AK g p count s r1 wN.drew Hs.out hcount (show qp wN.drew p s r1 from hrd3)).mono ?_
      rintro e w4 ⟨hg4,⟨rfl,hno⟩|⟨l,r4,v4,hl,rfl,hown4,hrd4,hu4⟩⟩
      ·exact ⟨rfl,jd hG3 (jG hg4),.inl ⟨rfl,fun l2 q hl2 h=>hno l2 q hl2 ((HU.out l2 q hl2 h).trans (congrArg (·++q) (Xd 1 (by decide) Gn l2 (fun i hi=>rfl)).symm.symm))⟩⟩
      ·have hg4':=jG hg4
       have HG4:=hid (jd hG3 hg4')
       have HS4:Hid (w4.cell? ⟨g,5,none⟩=some (fnV 184)∧BoxI w4 g w.heap.size):=⟨(hg4'.cell_far ⟨g,5,none⟩ (World.block_lt_of_cell? wN _ f2) (by intro h;simp at h;exact hgp h)).trans f2,Qy Hbx3.out hg4' hs3 hpne⟩
       have Hl:=hid hl
       have Hown4:=hid hown4
       have Hrd4:=hid hrd4
       have Hu4:=hid hu4
       clear hg4 hg4' hl hown4 hrd4 hu4
       try go_wp2_with fail
       refine hK.out _ _ HS4.out (fun hHeld=>?_)
       clear hK K
       try simp only [jA,jB,jC,Act.put,jD,jE,jF]
       refine rd 10 (fun K hK=>?_)
       simp only [jA,jB,jC]
       go_simp
       try go_wp2_with fail
       refine hK.out _ _ HS4.out (fun hHeld=>?_)
       clear hK K
       try simp only [jA,jB,jC,Act.put,jD,jE,jF]
       refine wpAnyH_done (by kernel_rfl) ?_ _
       clear hHeld
       go_wp2
       go_ret
       refine ⟨HG4.out,.inr ⟨l,r4,_,Hl.out,rfl,jI Hown4.out hG3.size,Hrd4.out,fun l2 q hl2 h=>Hu4.out l2 q hl2 ((HU.out l2 q hl2 h).trans (congrArg (·++q) (Xd 1 (by decide) Gn l2 (fun i hi=>rfl)).symm.symm))⟩⟩
     ·have hwa:Qk (c.toNat:Int)=2:=by
       unfold Qk
       rw [if_neg (by omega),if_neg (by omega),if_pos (by omega)]
      rw [hwa]
      clear hwa
      have f2:w3.cell? ⟨g,8,none⟩=some (fnV 186):=jV Hw3.out 8 rfl
      have HU:Hid (∀ l2 q,YT count l2→c :: r1=Gg 0 l2++q→r1=qz 2 l2++q):=by
       intro l2 q hl2 h
       obtain ⟨j,c',r',hj,⟨e1,e2⟩,e3⟩:=zM (kind:=0) (l:=l2) (q:=q) (by intro h0;rw [h0] at hl2;have:=hl2.1;simp at this;omega) h.symm
       simp only [List.cons.injEq] at e3
       obtain ⟨rfl,rfl⟩:=e3
       rcases (show j=0∨j=1∨j=2 by omega) with rfl|rfl|rfl
       ·have:=xo (n:=0) e1 (by decide);omega
       ·have:=xo (n:=1) e1 (by decide);omega
       ·have:=xo (n:=2) e1 (by decide);exact e2
      go_wp2_with fail
      refine (jW _).mono ?_
      rintro e wN ⟨rfl,rfl⟩
      go_wp2_with fail
      refine wp_region_held_drew (S:=fun w'=>w'.cell? ⟨g,8,none⟩=some (fnV 186)∧w'.cell? ⟨w.heap.size,0,none⟩=some (.slice (some ⟨g,0,none⟩) 3 3)∧w'.cell? ⟨w.heap.size,1,none⟩=some (fnV 187)∧w'.cell? ⟨w.heap.size,2,none⟩=some (fnV 188)∧w'.cell? ⟨w.heap.size,3,none⟩=some (fnV 189)∧w'.cell? ⟨w.heap.size,4,none⟩=some (fnV 190)∧w'.cell? ⟨w.heap.size,5,none⟩=some (fnV 191)∧w'.cell? ⟨w.heap.size,6,none⟩=some (fnV 192)) (by kernel_rfl) ⟨f2,Hbx3.out⟩ (fun hHeld=>?_)
      refine tk 0 (.pointer (some ⟨w.heap.size,0,none⟩)) ?_
      refine tk 1 (.slice (some ⟨g,0,none⟩) 3 3) ?_
      refine tk 2 (.int .i64 2) ?_
      refine tk 3 (.pointer (some ⟨g,6,none⟩)) ?_
      refine tk 4 (.pointer (some ⟨g,8,none⟩)) ?_
      refine tk 5 (fnV 186) ?_
      refine tk 6 (numC g) ?_
      refine tk 7 (.pointer (some ⟨p,0,none⟩)) ?_
      refine tk 8 (.int .i64 (count:Int)) ?_
      simp only [jA,jB,jC,Act.put,jD,jE,jF]
      refine rd 9 (fun K hK=>?_)
      simp only [jA,jB,jC]
      go_simp
      go_at_call 186
      refine (MQ g p count s r1 wN.drew Hs.out hcount (show qp wN.drew p s r1 from hrd3)).mono ?_
      rintro e w4 ⟨hg4,⟨rfl,hno⟩|⟨l,r4,v4,hl,rfl,hown4,hrd4,hu4⟩⟩
      ·exact ⟨rfl,jd hG3 (jG hg4),.inl ⟨rfl,fun l2 q hl2 h=>hno l2 q hl2 ((HU.out l2 q hl2 h).trans (congrArg (·++q) (show jN 2 l2 l2.length=qz 2 l2 by simp [qz]).symm))⟩⟩
      ·have hg4':=jG hg4
       have HG4:=hid (jd hG3 hg4')
       have HS4:Hid (w4.cell? ⟨g,8,none⟩=some (fnV 186)∧BoxI w4 g w.heap.size):=⟨(hg4'.cell_far ⟨g,8,none⟩ (World.block_lt_of_cell? wN _ f2) (by intro h;simp at h;exact hgp h)).trans f2,Qy Hbx3.out hg4' hs3 hpne⟩
       have Hl:=hid hl
       have Hown4:=hid hown4
       have Hrd4:=hid hrd4
       have Hu4:=hid hu4
       clear hg4 hg4' hl hown4 hrd4 hu4
       try go_wp2_with fail
       refine hK.out _ _ HS4.out (fun hHeld=>?_)
       clear hK K
       try simp only [jA,jB,jC,Act.put,jD,jE,jF]
       refine rd 10 (fun K hK=>?_)
       simp only [jA,jB,jC]
       go_simp
       try go_wp2_with fail
       refine hK.out _ _ HS4.out (fun hHeld=>?_)
       clear hK K
       try simp only [jA,jB,jC,Act.put,jD,jE,jF]
       refine wpAnyH_done (by kernel_rfl) ?_ _
       clear hHeld
       go_wp2
       go_ret
       refine ⟨HG4.out,.inr ⟨l,r4,_,Hl.out,rfl,jI Hown4.out hG3.size,Hrd4.out,fun l2 q hl2 h=>Hu4.out l2 q hl2 ((HU.out l2 q hl2 h).trans (congrArg (·++q) (show jN 2 l2 l2.length=qz 2 l2 by simp [qz]).symm))⟩⟩
     ·have hwa:Qk (c.toNat:Int)=-1:=by
       unfold Qk
       rw [if_neg (by omega),if_neg (by omega),if_neg (by omega)]
      rw [hwa]
      go_wp2_with fail
      refine (qK _).mono ?_
      rintro e wN ⟨rfl,rfl⟩
      go_wp2
      refine ⟨rfl,hG3,.inl ⟨rfl,fun l2 q hl2 h=>?_⟩⟩
      obtain ⟨j,c',r',hj,⟨e1,e2⟩,e3⟩:=zM (kind:=0) (l:=l2) (q:=q) (by intro h0;rw [h0] at hl2;have:=hl2.1;simp at this;omega) h.symm
      simp only [List.cons.injEq] at e3
      obtain ⟨rfl,rfl⟩:=e3
      rcases (show j=0∨j=1∨j=2 by omega) with rfl|rfl|rfl
      ·have:=xo (n:=0) e1 (by decide);omega
      ·have:=xo (n:=1) e1 (by decide);omega
      ·have:=xo (n:=2) e1 (by decide);omega
end
section
theorem PY (g p:Nat) (fl:List Bool) (v:Value) (base:Nat) (s rest:List UInt8) (w:World) (hs:s.length≤maxLen) (hfl:fl.length≤60) (hp:qp w p s rest) (hv:w.ownsRow base 4 1 v fl.length (Qh fl)) (hg:g < w.heap.size) (hw:TxtW w g) (hgp:g≠p) :
  Calls Tryz.prog 211 #[txtC g,.pointer (some ⟨p,0,none⟩),v] w (QS 9 Ji (Ia (cnt fl)) (Gg 1) p s rest w):=by
 have Hs:=hid hs
 have Hp:=hid hp
 have Hw:=hid hw
 have hplt:=xh hp
 obtain ⟨a,cap,rfl,hsh⟩:=Zb hv
 have Hsh:=hid hsh
 clear hs hp hw hv hsh
 go_enter Tryz.func211,Tryz.ntmps211
 go_wp2
 obtain ⟨hb0,hs0,hc0⟩:=zx w #[.slice (some ⟨g,0,none⟩) 3 3,fnV 202,fnV 203,fnV 204,fnV 205,fnV 206,fnV 207] 225
 have Hc:Hid (BoxT _ g w.heap.size):=⟨hc0 0,hc0 1,hc0 2,hc0 3,hc0 4,hc0 5,hc0 6⟩
 have Hp0:=hid (qy Hp.out hb0 hplt)
 have Hw0:=hid (Hw.out.later hg hb0)
 have Hb0:=hid hb0
 have hs1:=Nat.lt_of_lt_of_eq (Nat.lt_succ_self w.heap.size) hs0.symm
 have hplt0:=Nat.lt_of_lt_of_le hplt hb0.size
 have hg0:=Nat.lt_of_lt_of_le hg hb0.size
 have hpne:w.heap.size≠p:=by omega
 have Hsh0:Hid (fl≠[]→∃ b,a=some ⟨b,0,none⟩∧∀ j (h:j < fl.length),(w.alloc (.cells #[.slice (some ⟨g,0,none⟩) 3 3,fnV 202,fnV 203,fnV 204,fnV 205,fnV 206,fnV 207] 225)).cell? ⟨b,j,none⟩=some (.bool fl[j])):=by
  intro hne
  obtain ⟨b,hb,hlt,hcell⟩:=Hsh.out hne
  exact ⟨b,hb,fun j hj=>(Hb0.out.cell (p:=⟨b,j,none⟩) hlt).trans (hcell j hj)⟩
 clear hc0 hb0 hs0
 generalize w.alloc _=w0 at *
 go_loopw [7,14] (fun c i wr=>∃ k:Nat,k≤fl.length∧i=.int .i64 (k:Int)∧c=.int .i64 (cnt (fl.take k):Int)∧wr=w0) (fun _ i _=>fl.length - (intOf i).toNat)
 case atStart=>exact ⟨0,Nat.zero_le _,rfl,rfl,rfl⟩
 case round =>
  obtain ⟨k,hk,rfl,rfl,rfl⟩:=hrel
  have hcl:=Gu (fl.take k)
  rw [List.length_take] at hcl
  by_cases hlt:k < fl.length
  ·obtain ⟨b,rfl,hcell⟩:=Hsh0.out (List.ne_nil_of_length_pos (by omega))
   have hck:=hcell k hlt
   have HCS:=hid (Kx fl k hlt)
   clear hcell
   cases hb:fl[k] with
   | true =>
    rw [hb] at hck HCS
    clear hb
    go_wp2
    go_roundw
    case rel=>exact ⟨k+1,by omega,by go_num,by rw [HCS.out];simp,trivial⟩
    case measure=>simp [intOf];omega
   | false =>
    rw [hb] at hck HCS
    clear hb
    go_wp2
    go_roundw
    case rel=>exact ⟨k+1,by omega,by go_num,by rw [HCS.out];simp,trivial⟩
    case measure=>simp [intOf];omega
  ·have hke:k=fl.length:=by omega
   subst hke
   rw [List.take_length] at *
   obtain ⟨W0,rfl⟩:∃ W0,W0=wr:=⟨_,rfl⟩
   generalize hcc:cnt fl=count at *
   have Hcc:=hid hcc
   clear hcc
   have hcount:count≤60:=by omega
   by_cases hc0:count=0
   ·have hci:((count:Int) == 0)=true:=by simp [hc0]
    have Hc0:=hid hc0
    clear hc0
    go_wp2
    go_ret
    refine ⟨jw (jK w _) Hb0.out,.inr ⟨[],rest,_,⟨Hc0.out.symm,(fun c h=>zy h)⟩,rfl,World.ownsRow_nil _ _ _ _,Hp0.out,fun l2 q hl2 h=>?_⟩⟩
    have e1:l2=[]:=List.eq_nil_of_length_eq_zero (by rw [hl2.1];exact Hc0.out)
    subst e1
    exact ⟨rfl,h.symm⟩
   ·have hci:((count:Int) == 0)=false:=by rw [beq_eq_false_iff_ne];omega
    have hc1:1≤count:=by omega
    clear hc0
    go_wp2_with fail
    refine (XF p s rest _ Hs.out Hp0.out).mono ?_
    rintro e w2 ⟨hg2,⟨rfl,rfl⟩|⟨c,r1,rfl,rfl,hrd2⟩⟩
    ·go_wp2
     refine ⟨rfl,jd (jw (jK w _) Hb0.out) hg2,.inl ⟨rfl,fun l2 q hl2 h=>?_⟩⟩
     obtain ⟨_,_,_,_,_,e⟩:=zM (kind:=1) (l:=l2) (q:=q) (by intro h0;rw [h0] at hl2;have:=hl2.1;simp at this;omega) h.symm
     cases e
    ·have hG2:=jd (jw (jK w (some p)) Hb0.out) hg2
     have HG2:=hid hG2
     have hbx2:=zZ Hc.out hg2 hs1 hpne
     have Hw2:=hid (Hw0.out.grown hg2 hg0 hgp)
     have hs2:=Nat.lt_of_lt_of_le hs1 hg2.size
     have hgg2:=Nat.lt_of_lt_of_le hg0 hg2.size
     have hp2:=xh hrd2
     have hct:=c.toNat_lt
     clear hg2 hG2
     have hx0:=jc (Obj.cells #[.int .u8 (c.toNat:Int)] 5) hbx2.1
     have Hbx2:=hid hbx2
     clear hbx2
     go_wp2_with fail
     have hbA:Below w2.heap.size w2 (w2.alloc (Obj.cells #[.int .u8 (c.toNat:Int)] 5)):=(Below.refl _ _).alloc (Nat.le_refl _) _
     refine (Ld g w2.heap.size (c.toNat:Int) _ (Nat.lt_of_lt_of_le hgg2 hbA.size) (Hw2.out.later hgg2 hbA) (World.cell?_alloc_mark ..)).mono ?_
     rintro e w3 ⟨rfl,hb3⟩
     have hb3':Below w2.heap.size w2 w3:=xk hb3
     have hrd3:=qy hrd2 hb3' hp2
     have hG3:=jw HG2.out hb3'
     have Hbx3:=hid (qU Hbx2.out hb3' hs2)
     have Hw3:=hid (Hw2.out.later hgg2 hb3')
     have hs3:=Nat.lt_of_lt_of_le hs2 hb3'.size
     clear hb3 hb3' hbA hx0 hrd2
     rcases (show (c.toNat=0∨c.toNat=3∨c.toNat=4)∨¬ (c.toNat=0∨c.toNat=3∨c.toNat=4) from Classical.em _) with (hc|hc|hc)|hc
     ·have hwa:Qi (c.toNat:Int)=0:=by
       unfold Qi
       rw [if_pos (by omega)]
      rw [hwa]
      clear hwa
      have f2:w3.cell? ⟨g,2,none⟩=some (fnV 197):=jV Hw3.out 2 rfl
      have HU:Hid (∀ l2 q,Ia count l2→c :: r1=Gg 1 l2++q→r1=qz 5 l2++q):=by
       intro l2 q hl2 h
       obtain ⟨j,c',r',hj,⟨e1,e2⟩,e3⟩:=zM (kind:=1) (l:=l2) (q:=q) (by intro h0;rw [h0] at hl2;have:=hl2.1;simp at this;omega) h.symm
       simp only [List.cons.injEq] at e3
       obtain ⟨rfl,rfl⟩:=e3
       rcases (show j=0∨j=1∨j=2 by omega) with rfl|rfl|rfl
       ·have:=xo (n:=0) e1 (by decide);exact e2
       ·have:=xo (n:=3) e1 (by decide);omega
       ·have:=xo (n:=4) e1 (by decide);omega
      go_wp2_with fail
      refine (jW _).mono ?_
      rintro e wN ⟨rfl,rfl⟩
      go_wp2_with fail
      refine wp_region_held_drew (S:=fun w'=>w'.cell? ⟨g,2,none⟩=some (fnV 197)∧w'.cell? ⟨w.heap.size,0,none⟩=some (.slice (some ⟨g,0,none⟩) 3 3)∧w'.cell? ⟨w.heap.size,1,none⟩=some (fnV 202)∧w'.cell? ⟨w.heap.size,2,none⟩=some (fnV 203)∧w'.cell? ⟨w.heap.size,3,none⟩=some (fnV 204)∧w'.cell? ⟨w.heap.size,4,none⟩=some (fnV 205)∧w'.cell? ⟨w.heap.size,5,none⟩=some (fnV 206)∧w'.cell? ⟨w.heap.size,6,none⟩=some (fnV 207)) (by kernel_rfl) ⟨f2,Hbx3.out⟩ (fun hHeld=>?_)
      refine tk 0 (.pointer (some ⟨w.heap.size,0,none⟩)) ?_
      refine tk 1 (.slice (some ⟨g,0,none⟩) 3 3) ?_
      refine tk 2 (.int .i64 0) ?_
      refine tk 3 (.pointer (some ⟨g,0,none⟩)) ?_
      refine tk 4 (.pointer (some ⟨g,2,none⟩)) ?_
      refine tk 5 (fnV 197) ?_
      refine tk 6 (txtC g) ?_
      refine tk 7 (.pointer (some ⟨p,0,none⟩)) ?_
      refine tk 8 (.int .i64 (count:Int)) ?_
      simp only [jA,jB,jC,Act.put,jD,jE,jF]
      refine rd 9 (fun K hK=>?_)
      simp only [jA,jB,jC]
      go_simp
      go_at_call 197
      refine (RQ g p count s r1 wN.drew Hs.out hcount (show qp wN.drew p s r1 from hrd3)).mono ?_
      rintro e w4 ⟨hg4,⟨rfl,hno⟩|⟨l,r4,v4,hl,rfl,hown4,hrd4,hu4⟩⟩
      ·exact ⟨rfl,jd hG3 (jG hg4),.inl ⟨rfl,fun l2 q hl2 h=>hno l2 q hl2 ((HU.out l2 q hl2 h).trans (congrArg (·++q) (Xd 5 (by decide) XV l2 (fun i hi=>rfl)).symm.symm))⟩⟩
      ·have hg4':=jG hg4
       have HG4:=hid (jd hG3 hg4')
       have HS4:Hid (w4.cell? ⟨g,2,none⟩=some (fnV 197)∧BoxT w4 g w.heap.size):=⟨(hg4'.cell_far ⟨g,2,none⟩ (World.block_lt_of_cell? wN _ f2) (by intro h;simp at h;exact hgp h)).trans f2,zZ Hbx3.out hg4' hs3 hpne⟩
       have Hl:=hid hl
       have Hown4:=hid hown4
       have Hrd4:=hid hrd4
       have Hu4:=hid hu4
       clear hg4 hg4' hl hown4 hrd4 hu4
       try go_wp2_with fail
       refine hK.out _ _ HS4.out (fun hHeld=>?_)
       clear hK K
       try simp only [jA,jB,jC,Act.put,jD,jE,jF]
       refine rd 10 (fun K hK=>?_)
       simp only [jA,jB,jC]
       go_simp
       try go_wp2_with fail
       refine hK.out _ _ HS4.out (fun hHeld=>?_)
       clear hK K
       try simp only [jA,jB,jC,Act.put,jD,jE,jF]
       refine wpAnyH_done (by kernel_rfl) ?_ _
       clear hHeld
       go_wp2
       go_ret
       refine ⟨HG4.out,.inr ⟨l,r4,_,Hl.out,rfl,jI Hown4.out hG3.size,Hrd4.out,fun l2 q hl2 h=>Hu4.out l2 q hl2 ((HU.out l2 q hl2 h).trans (congrArg (·++q) (Xd 5 (by decide) XV l2 (fun i hi=>rfl)).symm.symm))⟩⟩
     ·have hwa:Qi (c.toNat:Int)=1:=by
       unfold Qi
       rw [if_neg (by omega),if_pos (by omega)]
      rw [hwa]
      clear hwa
      have f2:w3.cell? ⟨g,5,none⟩=some (fnV 199):=jV Hw3.out 5 rfl
      have HU:Hid (∀ l2 q,Ia count l2→c :: r1=Gg 1 l2++q→r1=qz 3 l2++q):=by
       intro l2 q hl2 h
       obtain ⟨j,c',r',hj,⟨e1,e2⟩,e3⟩:=zM (kind:=1) (l:=l2) (q:=q) (by intro h0;rw [h0] at hl2;have:=hl2.1;simp at this;omega) h.symm
       simp only [List.cons.injEq] at e3
       obtain ⟨rfl,rfl⟩:=e3
       rcases (show j=0∨j=1∨j=2 by omega) with rfl|rfl|rfl
       ·have:=xo (n:=0) e1 (by decide);omega
       ·have:=xo (n:=3) e1 (by decide);exact e2
       ·have:=xo (n:=4) e1 (by decide);omega
      go_wp2_with fail
      refine (jW _).mono ?_
      rintro e wN ⟨rfl,rfl⟩
      go_wp2_with fail
      refine wp_region_held_drew (S:=fun w'=>w'.cell? ⟨g,5,none⟩=some (fnV 199)∧w'.cell? ⟨w.heap.size,0,none⟩=some (.slice (some ⟨g,0,none⟩) 3 3)∧w'.cell? ⟨w.heap.size,1,none⟩=some (fnV 202)∧w'.cell? ⟨w.heap.size,2,none⟩=some (fnV 203)∧w'.cell? ⟨w.heap.size,3,none⟩=some (fnV 204)∧w'.cell? ⟨w.heap.size,4,none⟩=some (fnV 205)∧w'.cell? ⟨w.heap.size,5,none⟩=some (fnV 206)∧w'.cell? ⟨w.heap.size,6,none⟩=some (fnV 207)) (by kernel_rfl) ⟨f2,Hbx3.out⟩ (fun hHeld=>?_)
      refine tk 0 (.pointer (some ⟨w.heap.size,0,none⟩)) ?_
      refine tk 1 (.slice (some ⟨g,0,none⟩) 3 3) ?_
      refine tk 2 (.int .i64 1) ?_
      refine tk 3 (.pointer (some ⟨g,3,none⟩)) ?_
      refine tk 4 (.pointer (some ⟨g,5,none⟩)) ?_
      refine tk 5 (fnV 199) ?_
      refine tk 6 (txtC g) ?_
      refine tk 7 (.pointer (some ⟨p,0,none⟩)) ?_
      refine tk 8 (.int .i64 (count:Int)) ?_
      simp only [jA,jB,jC,Act.put,jD,jE,jF]
      refine rd 9 (fun K hK=>?_)
      simp only [jA,jB,jC]
      go_simp
      go_at_call 199
      refine (Is g p count s r1 wN.drew Hs.out hcount hc1 (show qp wN.drew p s r1 from hrd3)).mono ?_
      rintro e w4 ⟨hg4,⟨rfl,hno⟩|⟨l,r4,v4,hl,rfl,hown4,hrd4,hu4⟩⟩
      ·exact ⟨rfl,jd hG3 (jG hg4),.inl ⟨rfl,fun l2 q hl2 h=>hno l2 q hl2 ((HU.out l2 q hl2 h).trans (congrArg (·++q) rfl.symm))⟩⟩
      ·have hg4':=jG hg4
       have HG4:=hid (jd hG3 hg4')
       have HS4:Hid (w4.cell? ⟨g,5,none⟩=some (fnV 199)∧BoxT w4 g w.heap.size):=⟨(hg4'.cell_far ⟨g,5,none⟩ (World.block_lt_of_cell? wN _ f2) (by intro h;simp at h;exact hgp h)).trans f2,zZ Hbx3.out hg4' hs3 hpne⟩
       have Hl:=hid hl
       have Hown4:=hid hown4
       have Hrd4:=hid hrd4
       have Hu4:=hid hu4
       clear hg4 hg4' hl hown4 hrd4 hu4
       try go_wp2_with fail
       refine hK.out _ _ HS4.out (fun hHeld=>?_)
       clear hK K
       try simp only [jA,jB,jC,Act.put,jD,jE,jF]
       refine rd 10 (fun K hK=>?_)
       simp only [jA,jB,jC]
       go_simp
       try go_wp2_with fail
       refine hK.out _ _ HS4.out (fun hHeld=>?_)
       clear hK K
       try simp only [jA,jB,jC,Act.put,jD,jE,jF]
       refine wpAnyH_done (by kernel_rfl) ?_ _
       clear hHeld
       go_wp2
       go_ret
       refine ⟨HG4.out,.inr ⟨l,r4,_,Hl.out,rfl,jI Hown4.out hG3.size,Hrd4.out,fun l2 q hl2 h=>Hu4.out l2 q hl2 ((HU.out l2 q hl2 h).trans (congrArg (·++q) rfl.symm))⟩⟩
     ·have hwa:Qi (c.toNat:Int)=2:=by
       unfold Qi
       rw [if_neg (by omega),if_neg (by omega),if_pos (by omega)]
      rw [hwa]
      clear hwa
      have f2:w3.cell? ⟨g,8,none⟩=some (fnV 201):=jV Hw3.out 8 rfl
      have HU:Hid (∀ l2 q,Ia count l2→c :: r1=Gg 1 l2++q→r1=qz 4 l2++q):=by
       intro l2 q hl2 h
       obtain ⟨j,c',r',hj,⟨e1,e2⟩,e3⟩:=zM (kind:=1) (l:=l2) (q:=q) (by intro h0;rw [h0] at hl2;have:=hl2.1;simp at this;omega) h.symm
       simp only [List.cons.injEq] at e3
       obtain ⟨rfl,rfl⟩:=e3
       rcases (show j=0∨j=1∨j=2 by omega) with rfl|rfl|rfl
       ·have:=xo (n:=0) e1 (by decide);omega
       ·have:=xo (n:=3) e1 (by decide);omega
       ·have:=xo (n:=4) e1 (by decide);exact e2
      go_wp2_with fail
      refine (jW _).mono ?_
      rintro e wN ⟨rfl,rfl⟩
      go_wp2_with fail
      refine wp_region_held_drew (S:=fun w'=>w'.cell? ⟨g,8,none⟩=some (fnV 201)∧w'.cell? ⟨w.heap.size,0,none⟩=some (.slice (some ⟨g,0,none⟩) 3 3)∧w'.cell? ⟨w.heap.size,1,none⟩=some (fnV 202)∧w'.cell? ⟨w.heap.size,2,none⟩=some (fnV 203)∧w'.cell? ⟨w.heap.size,3,none⟩=some (fnV 204)∧w'.cell? ⟨w.heap.size,4,none⟩=some (fnV 205)∧w'.cell? ⟨w.heap.size,5,none⟩=some (fnV 206)∧w'.cell? ⟨w.heap.size,6,none⟩=some (fnV 207)) (by kernel_rfl) ⟨f2,Hbx3.out⟩ (fun hHeld=>?_)
      refine tk 0 (.pointer (some ⟨w.heap.size,0,none⟩)) ?_
      refine tk 1 (.slice (some ⟨g,0,none⟩) 3 3) ?_
      refine tk 2 (.int .i64 2) ?_
      refine tk 3 (.pointer (some ⟨g,6,none⟩)) ?_
      refine tk 4 (.pointer (some ⟨g,8,none⟩)) ?_
      refine tk 5 (fnV 201) ?_
      refine tk 6 (txtC g) ?_
      refine tk 7 (.pointer (some ⟨p,0,none⟩)) ?_
      refine tk 8 (.int .i64 (count:Int)) ?_
      simp only [jA,jB,jC,Act.put,jD,jE,jF]
      refine rd 9 (fun K hK=>?_)
      simp only [jA,jB,jC]
      go_simp
      go_at_call 201
      refine (Di g p count s r1 wN.drew Hs.out hcount (show qp wN.drew p s r1 from hrd3)).mono ?_
      rintro e w4 ⟨hg4,⟨rfl,hno⟩|⟨l,r4,v4,hl,rfl,hown4,hrd4,hu4⟩⟩
      ·exact ⟨rfl,jd hG3 (jG hg4),.inl ⟨rfl,fun l2 q hl2 h=>hno l2 q hl2 ((HU.out l2 q hl2 h).trans (congrArg (·++q) (Xd 4 (by decide) KK l2 (fun i hi=>by simp only [xu,KK,GC,ZV])).symm.symm))⟩⟩
      ·have hg4':=jG hg4
       have HG4:=hid (jd hG3 hg4')
       have HS4:Hid (w4.cell? ⟨g,8,none⟩=some (fnV 201)∧BoxT w4 g w.heap.size):=⟨(hg4'.cell_far ⟨g,8,none⟩ (World.block_lt_of_cell? wN _ f2) (by intro h;simp at h;exact hgp h)).trans f2,zZ Hbx3.out hg4' hs3 hpne⟩
       have Hl:=hid hl
       have Hown4:=hid hown4
       have Hrd4:=hid hrd4
       have Hu4:=hid hu4
       clear hg4 hg4' hl hown4 hrd4 hu4
       try go_wp2_with fail
       refine hK.out _ _ HS4.out (fun hHeld=>?_)
       clear hK K
       try simp only [jA,jB,jC,Act.put,jD,jE,jF]
       refine rd 10 (fun K hK=>?_)
       simp only [jA,jB,jC]
       go_simp
       try go_wp2_with fail
       refine hK.out _ _ HS4.out (fun hHeld=>?_)
       clear hK K
       try simp only [jA,jB,jC,Act.put,jD,jE,jF]
       refine wpAnyH_done (by kernel_rfl) ?_ _
       clear hHeld
       go_wp2
       go_ret
       refine ⟨HG4.out,.inr ⟨l,r4,_,Hl.out,rfl,jI Hown4.out hG3.size,Hrd4.out,fun l2 q hl2 h=>Hu4.out l2 q hl2 ((HU.out l2 q hl2 h).trans (congrArg (·++q) (Xd 4 (by decide) KK l2 (fun i hi=>by simp only [xu,KK,GC,ZV])).symm.symm))⟩⟩
     ·have hwa:Qi (c.toNat:Int)=-1:=by
       unfold Qi
       rw [if_neg (by omega),if_neg (by omega),if_neg (by omega)]
      rw [hwa]
      go_wp2_with fail
      refine (qK _).mono ?_
      rintro e wN ⟨rfl,rfl⟩
      go_wp2
      refine ⟨rfl,hG3,.inl ⟨rfl,fun l2 q hl2 h=>?_⟩⟩
      obtain ⟨j,c',r',hj,⟨e1,e2⟩,e3⟩:=zM (kind:=1) (l:=l2) (q:=q) (by intro h0;rw [h0] at hl2;have:=hl2.1;simp at this;omega) h.symm
      simp only [List.cons.injEq] at e3
      obtain ⟨rfl,rfl⟩:=e3
      rcases (show j=0∨j=1∨j=2 by omega) with rfl|rfl|rfl
      ·have:=xo (n:=0) e1 (by decide);omega
      ·have:=xo (n:=3) e1 (by decide);omega
      ·have:=xo (n:=4) e1 (by decide);omega
end
end Go.Proofs.YthhpbhpfagoapaaGreat
