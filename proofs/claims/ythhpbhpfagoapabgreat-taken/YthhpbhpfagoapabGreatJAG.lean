import Derived.Test.YthhpbhpfagoapabGreatRTk
import Derived.Test.YthhpbhpfagoapabGreatJAB
import Derived.Test.YthhpbhpfagoapabGreatJBI
import Derived.Test.YthhpbhpfagoapabGreatJAM
import Derived.Test.YthhpbhpfagoapabGreatJBH
namespace Go.Proofs.YthhpbhpfagoapabGreat
set_option linter.unusedVariables false
set_option linter.unusedSimpArgs false
set_option maxRecDepth 100000
set_option maxHeartbeats 16000000
open Go.RowKit
section
def cnt (fl:List Bool):Nat:=(fl.filter fun b=>!b).length
theorem NE (fl:List Bool):cnt fl≤fl.length:=List.length_filter_le _ _
theorem Ut (fl:List Bool) (k:Nat) (h:k < fl.length):cnt (fl.take (k+1))=cnt (fl.take k)+(if fl[k]=true then 0 else 1):=by
 rw [List.take_succ_eq_append_getElem h]
 unfold cnt
 rw [List.filter_append,List.length_append]
 cases hb:fl[k]<;>simp
def Nk (kind:Int) (l:List CellB):List UInt8:=if l=[] then [] else jQ kind l 3
theorem Jr {kind:Int} {l:List CellB} {rest q:List UInt8} (hl:l≠[]) (h:Nk kind l++q=rest):∃ j c r,j < 3∧(c=byB ((ZW kind j:Int) % 5)∧r=qL (ZW kind j) l++q)∧rest=c :: r:=by
 unfold Nk at h
 rw [if_neg hl] at h
 obtain ⟨j,hj,he⟩:=Tm kind l
 rw [he,Xz] at h
 exact ⟨j,_,_,hj,⟨rfl,rfl⟩,h.symm⟩
theorem QX {w w':World} {g B p:Nat} (h:BoxI w g B) (hg:w.grownBy w' (some p)) (hB:B < w.heap.size) (hne:B≠p):BoxI w' g B:=by
 have k:∀ j,w'.cell? ⟨B,j,none⟩=w.cell? ⟨B,j,none⟩:=fun j=>hg.cell_far ⟨B,j,none⟩ hB (by intro h;simp at h;exact hne h)
 obtain ⟨h0,h1,h2,h3,h4,h5,h6⟩:=h
 exact ⟨(k 0).trans h0,(k 1).trans h1,(k 2).trans h2,(k 3).trans h3,(k 4).trans h4,(k 5).trans h5,(k 6).trans h6⟩
theorem NumW.grown {w w':World} {g p:Nat} (h:NumW w g) (hg:w.grownBy w' (some p)) (hl:g < w.heap.size) (hne:g≠p):NumW w' g:=(hg.block g hl (by intro h;simp at h;exact hne h)).trans h
theorem TxtW.grown {w w':World} {g p:Nat} (h:TxtW w g) (hg:w.grownBy w' (some p)) (hl:g < w.heap.size) (hne:g≠p):TxtW w' g:=(hg.block g hl (by intro h;simp at h;exact hne h)).trans h
theorem xL {c:UInt8} {n:Nat} (h:c=byB (n:Int)) (hn:n≤255):(c.toNat:Int)=(n:Int):=by
 rw [h,xY _ (by omega) (by omega)]
theorem ZR {w:World} {base:Nat} {v:Value} {fl:List Bool} (h:w.ownsRow base 4 1 v fl.length (QR fl)):∃ a cap,v=.slice a fl.length cap∧(fl≠[]→∃ b,a=some ⟨b,0,none⟩∧b < w.heap.size∧∀ j (h:j < fl.length),w.cell? ⟨b,j,none⟩=some (.bool fl[j])):=by
 rcases h.2 with ⟨rfl,h0⟩|⟨g,cap,cur,rfl,_⟩
 ·exact ⟨none,0,by rw [h0],fun hne=>absurd (List.eq_nil_of_length_eq_zero h0) hne⟩
 ·refine ⟨_,cap,rfl,fun _=>⟨g,rfl,(h.lt g rfl).2,fun j hj=>?_⟩⟩
  rw [h.cellAt j (by omega)]
  simp [QR,hj]
theorem BE (g p:Nat) (fl:List Bool) (v:Value) (base:Nat) (s rest:List UInt8) (w:World) (hs:s.length≤maxLen) (hfl:fl.length≤60) (hp:qy w p s rest) (hv:w.ownsRow base 4 1 v fl.length (QR fl)) (hg:g < w.heap.size) (hw:NumW w g) (hgp:g≠p) :
  Calls Tryz.prog 175 #[numC g,.pointer (some ⟨p,0,none⟩),v] w (Xu 3 Xe (EI (cnt fl)) (Nk 0) p s rest w):=by
 have Hs:=hid hs
 have Hp:=hid hp
 have Hw:=hid hw
 have hplt:=xF hp
 obtain ⟨a,cap,rfl,hsh⟩:=ZR hv
 have Hsh:=hid hsh
 clear hs hp hw hv hsh
 go_enter Tryz.func175,Tryz.ntmps175
 go_wp2
 obtain ⟨hb0,hs0,hc0⟩:=Ja w #[.slice (some ⟨g,0,none⟩) 3 3,fnV 151,fnV 152,fnV 153,fnV 154,fnV 155,fnV 156] 205
 have Hc:Hid (BoxI _ g w.heap.size):=⟨hc0 0,hc0 1,hc0 2,hc0 3,hc0 4,hc0 5,hc0 6⟩
 have Hp0:=hid (qJ Hp.out hb0 hplt)
 have Hw0:=hid (Hw.out.later hg hb0)
 have Hb0:=hid hb0
 have hs1:=Nat.lt_of_lt_of_eq (Nat.lt_succ_self w.heap.size) hs0.symm
 have hplt0:=Nat.lt_of_lt_of_le hplt hb0.size
 have hg0:=Nat.lt_of_lt_of_le hg hb0.size
 have hpne:w.heap.size≠p:=by omega
 have Hsh0:Hid (fl≠[]→∃ b,a=some ⟨b,0,none⟩∧∀ j (h:j < fl.length),(w.alloc (.cells #[.slice (some ⟨g,0,none⟩) 3 3,fnV 151,fnV 152,fnV 153,fnV 154,fnV 155,fnV 156] 205)).cell? ⟨b,j,none⟩=some (.bool fl[j])):=by
  intro hne
  obtain ⟨b,hb,hlt,hcell⟩:=Hsh.out hne
  exact ⟨b,hb,fun j hj=>(Hb0.out.cell (p:=⟨b,j,none⟩) hlt).trans (hcell j hj)⟩
 clear hc0 hb0 hs0
 generalize w.alloc _=w0 at *
 go_loopw [7,14] (fun c i wr=>∃ k:Nat,k≤fl.length∧i=.int .i64 (k:Int)∧c=.int .i64 (cnt (fl.take k):Int)∧wr=w0) (fun _ i _=>fl.length - (intOf i).toNat)
 case atStart=>exact ⟨0,Nat.zero_le _,rfl,rfl,rfl⟩
 case round =>
  obtain ⟨k,hk,rfl,rfl,rfl⟩:=hrel
  have hcl:=NE (fl.take k)
  rw [List.length_take] at hcl
  by_cases hlt:k < fl.length
  ·obtain ⟨b,rfl,hcell⟩:=Hsh0.out (List.ne_nil_of_length_pos (by omega))
   have hck:=hcell k hlt
   have HCS:=hid (Ut fl k hlt)
   clear hcell
   cases hb:fl[k] with
   | true =>
    rw [hb] at hck HCS
    clear hb
    go_wp2
    go_roundw
    case rel=>exact ⟨k+1,by omega,by go_num,by rw [HCS.out];simp,trivial⟩
    case measure=>simp [intOf];omega
   | false =>
    rw [hb] at hck HCS
    clear hb
    go_wp2
    go_roundw
    case rel=>exact ⟨k+1,by omega,by go_num,by rw [HCS.out];simp,trivial⟩
    case measure=>simp [intOf];omega
  ·have hke:k=fl.length:=by omega
   subst hke
   rw [List.take_length] at *
   obtain ⟨W0,rfl⟩:∃ W0,W0=wr:=⟨_,rfl⟩
   generalize hcc:cnt fl=count at *
   have Hcc:=hid hcc
   clear hcc
   have hcount:count≤60:=by omega
   by_cases hc0:count=0
   ·have hci:((count:Int) == 0)=true:=by simp [hc0]
    have Hc0:=hid hc0
    clear hc0
    go_wp2
    go_ret
    refine ⟨jG (jU w _) Hb0.out,.inr ⟨[],rest,_,⟨Hc0.out.symm,(fun c h=>Jc h)⟩,rfl,World.ownsRow_nil _ _ _ _,Hp0.out,fun l2 q hl2 h=>?_⟩⟩
    have e1:l2=[]:=List.eq_nil_of_length_eq_zero (by rw [hl2.1];exact Hc0.out)
    subst e1
    exact ⟨rfl,h.symm⟩
   ·have hci:((count:Int) == 0)=false:=by rw [beq_eq_false_iff_ne];omega
    have hc1:1≤count:=by omega
    clear hc0
    go_wp2_with fail
    refine (Zg p s rest _ Hs.out Hp0.out).mono ?_
    rintro e w2 ⟨hg2,⟨rfl,rfl⟩|⟨c,r1,rfl,rfl,hrd2⟩⟩
    ·go_wp2
     refine ⟨rfl,jg (jG (jU w _) Hb0.out) hg2,.inl ⟨rfl,fun l2 q hl2 h=>?_⟩⟩
     obtain ⟨_,_,_,_,_,e⟩:=Jr (kind:=0) (l:=l2) (q:=q) (by intro h0;rw [h0] at hl2;have:=hl2.1;simp at this;omega) h.symm
     cases e
    ·have hG2:=jg (jG (jU w (some p)) Hb0.out) hg2
     have HG2:=hid hG2
     have hbx2:=QX Hc.out hg2 hs1 hpne
     have Hw2:=hid (Hw0.out.grown hg2 hg0 hgp)
     have hs2:=Nat.lt_of_lt_of_le hs1 hg2.size
     have hgg2:=Nat.lt_of_lt_of_le hg0 hg2.size
     have hp2:=xF hrd2
     have hct:=c.toNat_lt
     clear hg2 hG2
     have hx0:=je (Obj.cells #[.int .u8 (c.toNat:Int)] 5) hbx2.1
     have Hbx2:=hid hbx2
     clear hbx2
     go_wp2_with fail
     have hbA:Below w2.heap.size w2 (w2.alloc (Obj.cells #[.int .u8 (c.toNat:Int)] 5)):=(Below.refl _ _).alloc (Nat.le_refl _) _
     refine (Fo g w2.heap.size (c.toNat:Int) _ (Nat.lt_of_lt_of_le hgg2 hbA.size) (Hw2.out.later hgg2 hbA) (World.cell?_alloc_mark ..)).mono ?_
     rintro e w3 ⟨rfl,hb3⟩
     have hb3':Below w2.heap.size w2 w3:=xG hb3
     have hrd3:=qJ hrd2 hb3' hp2
     have hG3:=jG HG2.out hb3'
     have Hbx3:=hid (zk Hbx2.out hb3' hs2)
     have Hw3:=hid (Hw2.out.later hgg2 hb3')
     have hs3:=Nat.lt_of_lt_of_le hs2 hb3'.size
     clear hb3 hb3' hbA hx0 hrd2
     rcases (show (c.toNat=0∨c.toNat=1∨c.toNat=2)∨¬ (c.toNat=0∨c.toNat=1∨c.toNat=2) from Classical.em _) with (hc|hc|hc)|hc
     ·have hwa:Xa (c.toNat:Int)=0:=by
       unfold Xa
       rw [if_pos (by omega)]
      rw [hwa]
      clear hwa
      have f2:w3.cell? ⟨g,2,none⟩=some (fnV 146):=qe Hw3.out 2 rfl
      have HU:Hid (∀ l2 q,EI count l2→c :: r1=Nk 0 l2++q→r1=qL 0 l2++q):=by
       intro l2 q hl2 h
       obtain ⟨j,c',r',hj,⟨e1,e2⟩,e3⟩:=Jr (kind:=0) (l:=l2) (q:=q) (by intro h0;rw [h0] at hl2;have:=hl2.1;simp at this;omega) h.symm
       simp only [List.cons.injEq] at e3
       obtain ⟨rfl,rfl⟩:=e3
       rcases (show j=0∨j=1∨j=2 by omega) with rfl|rfl|rfl
       ·have:=xL (n:=0) e1 (by decide);exact e2
       ·have:=xL (n:=1) e1 (by decide);omega
       ·have:=xL (n:=2) e1 (by decide);omega
      go_wp2_with fail
      refine (qh _).mono ?_
      rintro e wN ⟨rfl,rfl⟩
      go_wp2_with fail
      refine wp_region_held_drew (S:=fun w'=>w'.cell? ⟨g,2,none⟩=some (fnV 146)∧w'.cell? ⟨w.heap.size,0,none⟩=some (.slice (some ⟨g,0,none⟩) 3 3)∧w'.cell? ⟨w.heap.size,1,none⟩=some (fnV 151)∧w'.cell? ⟨w.heap.size,2,none⟩=some (fnV 152)∧w'.cell? ⟨w.heap.size,3,none⟩=some (fnV 153)∧w'.cell? ⟨w.heap.size,4,none⟩=some (fnV 154)∧w'.cell? ⟨w.heap.size,5,none⟩=some (fnV 155)∧w'.cell? ⟨w.heap.size,6,none⟩=some (fnV 156)) (by kernel_rfl) ⟨f2,Hbx3.out⟩ (fun hHeld=>?_)
      refine tk 0 (.pointer (some ⟨w.heap.size,0,none⟩)) ?_
      refine tk 1 (.slice (some ⟨g,0,none⟩) 3 3) ?_
      refine tk 2 (.int .i64 0) ?_
      refine tk 3 (.pointer (some ⟨g,0,none⟩)) ?_
      refine tk 4 (.pointer (some ⟨g,2,none⟩)) ?_
      refine tk 5 (fnV 146) ?_
      refine tk 6 (numC g) ?_
      refine tk 7 (.pointer (some ⟨p,0,none⟩)) ?_
      refine tk 8 (.int .i64 (count:Int)) ?_
      simp only [jA,jB,jC,Act.put,jD,jE,jF]
      refine rd 9 (fun K hK=>?_)
      simp only [jA,jB,jC]
      go_simp
      go_at_call 146
      refine (Sm g p count s r1 wN.drew Hs.out hcount (show qy wN.drew p s r1 from hrd3)).mono ?_
      rintro e w4 ⟨hg4,⟨rfl,hno⟩|⟨l,r4,v4,hl,rfl,hown4,hrd4,hu4⟩⟩
      ·exact ⟨rfl,jg hG3 (jP hg4),.inl ⟨rfl,fun l2 q hl2 h=>hno l2 q hl2 ((HU.out l2 q hl2 h).trans (congrArg (·++q) (XR 0 (by decide) Nt l2 (fun i hi=>rfl)).symm.symm))⟩⟩
      ·have hg4':=jP hg4
       have HG4:=hid (jg hG3 hg4')
       have HS4:Hid (w4.cell? ⟨g,2,none⟩=some (fnV 146)∧BoxI w4 g w.heap.size):=⟨(hg4'.cell_far ⟨g,2,none⟩ (World.block_lt_of_cell? wN _ f2) (by intro h;simp at h;exact hgp h)).trans f2,QX Hbx3.out hg4' hs3 hpne⟩
       have Hl:=hid hl
       have Hown4:=hid hown4
       have Hrd4:=hid hrd4
       have Hu4:=hid hu4
       clear hg4 hg4' hl hown4 hrd4 hu4
       try go_wp2_with fail
       refine hK.out _ _ HS4.out (fun hHeld=>?_)
       clear hK K
       try simp only [jA,jB,jC,Act.put,jD,jE,jF]
       refine rd 10 (fun K hK=>?_)
       simp only [jA,jB,jC]
       go_simp
       try go_wp2_with fail
       refine hK.out _ _ HS4.out (fun hHeld=>?_)
       clear hK K
       try simp only [jA,jB,jC,Act.put,jD,jE,jF]
       refine wpAnyH_done (by kernel_rfl) ?_ _
       clear hHeld
       go_wp2
       go_ret
       refine ⟨HG4.out,.inr ⟨l,r4,_,Hl.out,rfl,jS Hown4.out hG3.size,Hrd4.out,fun l2 q hl2 h=>Hu4.out l2 q hl2 ((HU.out l2 q hl2 h).trans (congrArg (·++q) (XR 0 (by decide) Nt l2 (fun i hi=>rfl)).symm.symm))⟩⟩
     ·have hwa:Xa (c.toNat:Int)=1:=by
       unfold Xa
       rw [if_neg (by omega),if_pos (by omega)]
      rw [hwa]
      clear hwa
      have f2:w3.cell? ⟨g,5,none⟩=some (fnV 148):=qe Hw3.out 5 rfl
      have HU:Hid (∀ l2 q,EI count l2→c :: r1=Nk 0 l2++q→r1=qL 1 l2++q):=by
       intro l2 q hl2 h
       obtain ⟨j,c',r',hj,⟨e1,e2⟩,e3⟩:=Jr (kind:=0) (l:=l2) (q:=q) (by intro h0;rw [h0] at hl2;have:=hl2.1;simp at this;omega) h.symm
       simp only [List.cons.injEq] at e3
       obtain ⟨rfl,rfl⟩:=e3
       rcases (show j=0∨j=1∨j=2 by omega) with rfl|rfl|rfl
       ·have:=xL (n:=0) e1 (by decide);omega
       ·have:=xL (n:=1) e1 (by decide);exact e2
       ·have:=xL (n:=2) e1 (by decide);omega
      go_wp2_with fail
      refine (qh _).mono ?_
      rintro e wN ⟨rfl,rfl⟩
      go_wp2_with fail
      refine wp_region_held_drew (S:=fun w'=>w'.cell? ⟨g,5,none⟩=some (fnV 148)∧w'.cell? ⟨w.heap.size,0,none⟩=some (.slice (some ⟨g,0,none⟩) 3 3)∧w'.cell? ⟨w.heap.size,1,none⟩=some (fnV 151)∧w'.cell? ⟨w.heap.size,2,none⟩=some (fnV 152)∧w'.cell? ⟨w.heap.size,3,none⟩=some (fnV 153)∧w'.cell? ⟨w.heap.size,4,none⟩=some (fnV 154)∧w'.cell? ⟨w.heap.size,5,none⟩=some (fnV 155)∧w'.cell? ⟨w.heap.size,6,none⟩=some (fnV 156)) (by kernel_rfl) ⟨f2,Hbx3.out⟩ (fun hHeld=>?_)
      refine tk 0 (.pointer (some ⟨w.heap.size,0,none⟩)) ?_
      refine tk 1 (.slice (some ⟨g,0,none⟩) 3 3) ?_
      refine tk 2 (.int .i64 1) ?_
      refine tk 3 (.pointer (some ⟨g,3,none⟩)) ?_
      refine tk 4 (.pointer (some ⟨g,5,none⟩)) ?_
      refine tk 5 (fnV 148) ?_
      refine tk 6 (numC g) ?_
      refine tk 7 (.pointer (some ⟨p,0,none⟩)) ?_
      refine tk 8 (.int .i64 (count:Int)) ?_
      simp only [jA,jB,jC,Act.put,jD,jE,jF]
      refine rd 9 (fun K hK=>?_)
      simp only [jA,jB,jC]
      go_simp
      go_at_call 148
      refine (Ck g p count s r1 wN.drew Hs.out hcount (show qy wN.drew p s r1 from hrd3)).mono ?_
      rintro e w4 ⟨hg4,⟨rfl,hno⟩|⟨l,r4,v4,hl,rfl,hown4,hrd4,hu4⟩⟩
      ·exact ⟨rfl,jg hG3 (jP hg4),.inl ⟨rfl,fun l2 q hl2 h=>hno l2 q hl2 ((HU.out l2 q hl2 h).trans (congrArg (·++q) (XR 1 (by decide) Nw l2 (fun i hi=>rfl)).symm.symm))⟩⟩
      ·have hg4':=jP hg4
       have HG4:=hid (jg hG3 hg4')
       have HS4:Hid (w4.cell? ⟨g,5,none⟩=some (fnV 148)∧BoxI w4 g w.heap.size):=⟨(hg4'.cell_far ⟨g,5,none⟩ (World.block_lt_of_cell? wN _ f2) (by intro h;simp at h;exact hgp h)).trans f2,QX Hbx3.out hg4' hs3 hpne⟩
       have Hl:=hid hl
       have Hown4:=hid hown4
       have Hrd4:=hid hrd4
       have Hu4:=hid hu4
       clear hg4 hg4' hl hown4 hrd4 hu4
       try go_wp2_with fail
       refine hK.out _ _ HS4.out (fun hHeld=>?_)
       clear hK K
       try simp only [jA,jB,jC,Act.put,jD,jE,jF]
       refine rd 10 (fun K hK=>?_)
       simp only [jA,jB,jC]
       go_simp
       try go_wp2_with fail
       refine hK.out _ _ HS4.out (fun hHeld=>?_)
       clear hK K
       try simp only [jA,jB,jC,Act.put,jD,jE,jF]
       refine wpAnyH_done (by kernel_rfl) ?_ _
       clear hHeld
       go_wp2
       go_ret
       refine ⟨HG4.out,.inr ⟨l,r4,_,Hl.out,rfl,jS Hown4.out hG3.size,Hrd4.out,fun l2 q hl2 h=>Hu4.out l2 q hl2 ((HU.out l2 q hl2 h).trans (congrArg (·++q) (XR 1 (by decide) Nw l2 (fun i hi=>rfl)).symm.symm))⟩⟩
     ·have hwa:Xa (c.toNat:Int)=2:=by
       unfold Xa
       rw [if_neg (by omega),if_neg (by omega),if_pos (by omega)]
      rw [hwa]
      clear hwa
      have f2:w3.cell? ⟨g,8,none⟩=some (fnV 150):=qe Hw3.out 8 rfl
      have HU:Hid (∀ l2 q,EI count l2→c :: r1=Nk 0 l2++q→r1=qL 2 l2++q):=by
       intro l2 q hl2 h
       obtain ⟨j,c',r',hj,⟨e1,e2⟩,e3⟩:=Jr (kind:=0) (l:=l2) (q:=q) (by intro h0;rw [h0] at hl2;have:=hl2.1;simp at this;omega) h.symm
       simp only [List.cons.injEq] at e3
       obtain ⟨rfl,rfl⟩:=e3
       rcases (show j=0∨j=1∨j=2 by omega) with rfl|rfl|rfl
       ·have:=xL (n:=0) e1 (by decide);omega
       ·have:=xL (n:=1) e1 (by decide);omega
       ·have:=xL (n:=2) e1 (by decide);exact e2
      go_wp2_with fail
      refine (qh _).mono ?_
      rintro e wN ⟨rfl,rfl⟩
      go_wp2_with fail
      refine wp_region_held_drew (S:=fun w'=>w'.cell? ⟨g,8,none⟩=some (fnV 150)∧w'.cell? ⟨w.heap.size,0,none⟩=some (.slice (some ⟨g,0,none⟩) 3 3)∧w'.cell? ⟨w.heap.size,1,none⟩=some (fnV 151)∧w'.cell? ⟨w.heap.size,2,none⟩=some (fnV 152)∧w'.cell? ⟨w.heap.size,3,none⟩=some (fnV 153)∧w'.cell? ⟨w.heap.size,4,none⟩=some (fnV 154)∧w'.cell? ⟨w.heap.size,5,none⟩=some (fnV 155)∧w'.cell? ⟨w.heap.size,6,none⟩=some (fnV 156)) (by kernel_rfl) ⟨f2,Hbx3.out⟩ (fun hHeld=>?_)
      refine tk 0 (.pointer (some ⟨w.heap.size,0,none⟩)) ?_
      refine tk 1 (.slice (some ⟨g,0,none⟩) 3 3) ?_
      refine tk 2 (.int .i64 2) ?_
      refine tk 3 (.pointer (some ⟨g,6,none⟩)) ?_
      refine tk 4 (.pointer (some ⟨g,8,none⟩)) ?_
      refine tk 5 (fnV 150) ?_
      refine tk 6 (numC g) ?_
      refine tk 7 (.pointer (some ⟨p,0,none⟩)) ?_
      refine tk 8 (.int .i64 (count:Int)) ?_
      simp only [jA,jB,jC,Act.put,jD,jE,jF]
      refine rd 9 (fun K hK=>?_)
      simp only [jA,jB,jC]
      go_simp
      go_at_call 150
      refine (Ps g p count s r1 wN.drew Hs.out hcount (show qy wN.drew p s r1 from hrd3)).mono ?_
      rintro e w4 ⟨hg4,⟨rfl,hno⟩|⟨l,r4,v4,hl,rfl,hown4,hrd4,hu4⟩⟩
      ·exact ⟨rfl,jg hG3 (jP hg4),.inl ⟨rfl,fun l2 q hl2 h=>hno l2 q hl2 ((HU.out l2 q hl2 h).trans (congrArg (·++q) (show jW 2 l2 l2.length=qL 2 l2 by simp [qL]).symm))⟩⟩
      ·have hg4':=jP hg4
       have HG4:=hid (jg hG3 hg4')
       have HS4:Hid (w4.cell? ⟨g,8,none⟩=some (fnV 150)∧BoxI w4 g w.heap.size):=⟨(hg4'.cell_far ⟨g,8,none⟩ (World.block_lt_of_cell? wN _ f2) (by intro h;simp at h;exact hgp h)).trans f2,QX Hbx3.out hg4' hs3 hpne⟩
       have Hl:=hid hl
       have Hown4:=hid hown4
       have Hrd4:=hid hrd4
       have Hu4:=hid hu4
       clear hg4 hg4' hl hown4 hrd4 hu4
       try go_wp2_with fail
       refine hK.out _ _ HS4.out (fun hHeld=>?_)
       clear hK K
       try simp only [jA,jB,jC,Act.put,jD,jE,jF]
       refine rd 10 (fun K hK=>?_)
       simp only [jA,jB,jC]
       go_simp
       try go_wp2_with fail
       refine hK.out _ _ HS4.out (fun hHeld=>?_)
       clear hK K
       try simp only [jA,jB,jC,Act.put,jD,jE,jF]
       refine wpAnyH_done (by kernel_rfl) ?_ _
       clear hHeld
       go_wp2
       go_ret
       refine ⟨HG4.out,.inr ⟨l,r4,_,Hl.out,rfl,jS Hown4.out hG3.size,Hrd4.out,fun l2 q hl2 h=>Hu4.out l2 q hl2 ((HU.out l2 q hl2 h).trans (congrArg (·++q) (show jW 2 l2 l2.length=qL 2 l2 by simp [qL]).symm))⟩⟩
     ·have hwa:Xa (c.toNat:Int)=-1:=by
       unfold Xa
       rw [if_neg (by omega),if_neg (by omega),if_neg (by omega)]
      rw [hwa]
      go_wp2_with fail
      refine (qU _).mono ?_
      rintro e wN ⟨rfl,rfl⟩
      go_wp2
      refine ⟨rfl,hG3,.inl ⟨rfl,fun l2 q hl2 h=>?_⟩⟩
      obtain ⟨j,c',r',hj,⟨e1,e2⟩,e3⟩:=Jr (kind:=0) (l:=l2) (q:=q) (by intro h0;rw [h0] at hl2;have:=hl2.1;simp at this;omega) h.symm
      simp only [List.cons.injEq] at e3
      obtain ⟨rfl,rfl⟩:=e3
      rcases (show j=0∨j=1∨j=2 by omega) with rfl|rfl|rfl
      ·have:=xL (n:=0) e1 (by decide);omega
      ·have:=xL (n:=1) e1 (by decide);omega
      ·have:=xL (n:=2) e1 (by decide);omega
end
section
theorem Bl (g p:Nat) (fl:List Bool) (v:Value) (base:Nat) (s rest:List UInt8) (w:World) (hs:s.length≤maxLen) (hfl:fl.length≤60) (hp:qy w p s rest) (hv:w.ownsRow base 4 1 v fl.length (QR fl)) (hg:g < w.heap.size) (hw:TxtW w g) (hgp:g≠p) :
  Calls Tryz.prog 176 #[txtC g,.pointer (some ⟨p,0,none⟩),v] w (Xu 9 JI (Df (cnt fl)) (Nk 1) p s rest w):=by
 have Hs:=hid hs
 have Hp:=hid hp
 have Hw:=hid hw
 have hplt:=xF hp
 obtain ⟨a,cap,rfl,hsh⟩:=ZR hv
 have Hsh:=hid hsh
 clear hs hp hw hv hsh
 go_enter Tryz.func176,Tryz.ntmps176
 go_wp2
 obtain ⟨hb0,hs0,hc0⟩:=Ja w #[.slice (some ⟨g,0,none⟩) 3 3,fnV 165,fnV 166,fnV 115,fnV 167,fnV 168,fnV 169] 214
 have Hc:Hid (BoxT _ g w.heap.size):=⟨hc0 0,hc0 1,hc0 2,hc0 3,hc0 4,hc0 5,hc0 6⟩
 have Hp0:=hid (qJ Hp.out hb0 hplt)
 have Hw0:=hid (Hw.out.later hg hb0)
 have Hb0:=hid hb0
 have hs1:=Nat.lt_of_lt_of_eq (Nat.lt_succ_self w.heap.size) hs0.symm
 have hplt0:=Nat.lt_of_lt_of_le hplt hb0.size
 have hg0:=Nat.lt_of_lt_of_le hg hb0.size
 have hpne:w.heap.size≠p:=by omega
 have Hsh0:Hid (fl≠[]→∃ b,a=some ⟨b,0,none⟩∧∀ j (h:j < fl.length),(w.alloc (.cells #[.slice (some ⟨g,0,none⟩) 3 3,fnV 165,fnV 166,fnV 115,fnV 167,fnV 168,fnV 169] 214)).cell? ⟨b,j,none⟩=some (.bool fl[j])):=by
  intro hne
  obtain ⟨b,hb,hlt,hcell⟩:=Hsh.out hne
  exact ⟨b,hb,fun j hj=>(Hb0.out.cell (p:=⟨b,j,none⟩) hlt).trans (hcell j hj)⟩
 clear hc0 hb0 hs0
 generalize w.alloc _=w0 at *
 go_loopw [7,14] (fun c i wr=>∃ k:Nat,k≤fl.length∧i=.int .i64 (k:Int)∧c=.int .i64 (cnt (fl.take k):Int)∧wr=w0) (fun _ i _=>fl.length - (intOf i).toNat)
 case atStart=>exact ⟨0,Nat.zero_le _,rfl,rfl,rfl⟩
 case round =>
  obtain ⟨k,hk,rfl,rfl,rfl⟩:=hrel
  have hcl:=NE (fl.take k)
  rw [List.length_take] at hcl
  by_cases hlt:k < fl.length
  ·obtain ⟨b,rfl,hcell⟩:=Hsh0.out (List.ne_nil_of_length_pos (by omega))
   have hck:=hcell k hlt
   have HCS:=hid (Ut fl k hlt)
   clear hcell
   cases hb:fl[k] with
   | true =>
    rw [hb] at hck HCS
    clear hb
    go_wp2
    go_roundw
    case rel=>exact ⟨k+1,by omega,by go_num,by rw [HCS.out];simp,trivial⟩
    case measure=>simp [intOf];omega
   | false =>
    rw [hb] at hck HCS
    clear hb
    go_wp2
    go_roundw
    case rel=>exact ⟨k+1,by omega,by go_num,by rw [HCS.out];simp,trivial⟩
    case measure=>simp [intOf];omega
  ·have hke:k=fl.length:=by omega
   subst hke
   rw [List.take_length] at *
   obtain ⟨W0,rfl⟩:∃ W0,W0=wr:=⟨_,rfl⟩
   generalize hcc:cnt fl=count at *
   have Hcc:=hid hcc
   clear hcc
   have hcount:count≤60:=by omega
   by_cases hc0:count=0
   ·have hci:((count:Int) == 0)=true:=by simp [hc0]
    have Hc0:=hid hc0
    clear hc0
    go_wp2
    go_ret
    refine ⟨jG (jU w _) Hb0.out,.inr ⟨[],rest,_,⟨Hc0.out.symm,(fun c h=>Jc h)⟩,rfl,World.ownsRow_nil _ _ _ _,Hp0.out,fun l2 q hl2 h=>?_⟩⟩
    have e1:l2=[]:=List.eq_nil_of_length_eq_zero (by rw [hl2.1];exact Hc0.out)
    subst e1
    exact ⟨rfl,h.symm⟩
   ·have hci:((count:Int) == 0)=false:=by rw [beq_eq_false_iff_ne];omega
    have hc1:1≤count:=by omega
    clear hc0
    go_wp2_with fail
    refine (Zg p s rest _ Hs.out Hp0.out).mono ?_
    rintro e w2 ⟨hg2,⟨rfl,rfl⟩|⟨c,r1,rfl,rfl,hrd2⟩⟩
    ·go_wp2
     refine ⟨rfl,jg (jG (jU w _) Hb0.out) hg2,.inl ⟨rfl,fun l2 q hl2 h=>?_⟩⟩
     obtain ⟨_,_,_,_,_,e⟩:=Jr (kind:=1) (l:=l2) (q:=q) (by intro h0;rw [h0] at hl2;have:=hl2.1;simp at this;omega) h.symm
     cases e
    ·have hG2:=jg (jG (jU w (some p)) Hb0.out) hg2
     have HG2:=hid hG2
     have hbx2:=JL Hc.out hg2 hs1 hpne
     have Hw2:=hid (Hw0.out.grown hg2 hg0 hgp)
     have hs2:=Nat.lt_of_lt_of_le hs1 hg2.size
     have hgg2:=Nat.lt_of_lt_of_le hg0 hg2.size
     have hp2:=xF hrd2
     have hct:=c.toNat_lt
     clear hg2 hG2
     have hx0:=je (Obj.cells #[.int .u8 (c.toNat:Int)] 5) hbx2.1
     have Hbx2:=hid hbx2
     clear hbx2
     go_wp2_with fail
     have hbA:Below w2.heap.size w2 (w2.alloc (Obj.cells #[.int .u8 (c.toNat:Int)] 5)):=(Below.refl _ _).alloc (Nat.le_refl _) _
     refine (Fi g w2.heap.size (c.toNat:Int) _ (Nat.lt_of_lt_of_le hgg2 hbA.size) (Hw2.out.later hgg2 hbA) (World.cell?_alloc_mark ..)).mono ?_
     rintro e w3 ⟨rfl,hb3⟩
     have hb3':Below w2.heap.size w2 w3:=xG hb3
     have hrd3:=qJ hrd2 hb3' hp2
     have hG3:=jG HG2.out hb3'
     have Hbx3:=hid (xm Hbx2.out hb3' hs2)
     have Hw3:=hid (Hw2.out.later hgg2 hb3')
     have hs3:=Nat.lt_of_lt_of_le hs2 hb3'.size
     clear hb3 hb3' hbA hx0 hrd2
     rcases (show (c.toNat=0∨c.toNat=3∨c.toNat=4)∨¬ (c.toNat=0∨c.toNat=3∨c.toNat=4) from Classical.em _) with (hc|hc|hc)|hc
     ·have hwa:QY (c.toNat:Int)=0:=by
       unfold QY
       rw [if_pos (by omega)]
      rw [hwa]
      clear hwa
      have f2:w3.cell? ⟨g,2,none⟩=some (fnV 160):=qe Hw3.out 2 rfl
      have HU:Hid (∀ l2 q,Df count l2→c :: r1=Nk 1 l2++q→r1=qL 5 l2++q):=by
       intro l2 q hl2 h
       obtain ⟨j,c',r',hj,⟨e1,e2⟩,e3⟩:=Jr (kind:=1) (l:=l2) (q:=q) (by intro h0;rw [h0] at hl2;have:=hl2.1;simp at this;omega) h.symm
       simp only [List.cons.injEq] at e3
       obtain ⟨rfl,rfl⟩:=e3
       rcases (show j=0∨j=1∨j=2 by omega) with rfl|rfl|rfl
       ·have:=xL (n:=0) e1 (by decide);exact e2
       ·have:=xL (n:=3) e1 (by decide);omega
       ·have:=xL (n:=4) e1 (by decide);omega
      go_wp2_with fail
      refine (qh _).mono ?_
      rintro e wN ⟨rfl,rfl⟩
      go_wp2_with fail
      refine wp_region_held_drew (S:=fun w'=>w'.cell? ⟨g,2,none⟩=some (fnV 160)∧w'.cell? ⟨w.heap.size,0,none⟩=some (.slice (some ⟨g,0,none⟩) 3 3)∧w'.cell? ⟨w.heap.size,1,none⟩=some (fnV 165)∧w'.cell? ⟨w.heap.size,2,none⟩=some (fnV 166)∧w'.cell? ⟨w.heap.size,3,none⟩=some (fnV 115)∧w'.cell? ⟨w.heap.size,4,none⟩=some (fnV 167)∧w'.cell? ⟨w.heap.size,5,none⟩=some (fnV 168)∧w'.cell? ⟨w.heap.size,6,none⟩=some (fnV 169)) (by kernel_rfl) ⟨f2,Hbx3.out⟩ (fun hHeld=>?_)
      refine tk 0 (.pointer (some ⟨w.heap.size,0,none⟩)) ?_
      refine tk 1 (.slice (some ⟨g,0,none⟩) 3 3) ?_
      refine tk 2 (.int .i64 0) ?_
      refine tk 3 (.pointer (some ⟨g,0,none⟩)) ?_
      refine tk 4 (.pointer (some ⟨g,2,none⟩)) ?_
      refine tk 5 (fnV 160) ?_
      refine tk 6 (txtC g) ?_
      refine tk 7 (.pointer (some ⟨p,0,none⟩)) ?_
      refine tk 8 (.int .i64 (count:Int)) ?_
      simp only [jA,jB,jC,Act.put,jD,jE,jF]
      refine rd 9 (fun K hK=>?_)
      simp only [jA,jB,jC]
      go_simp
      go_at_call 160
      refine (Et g p count s r1 wN.drew Hs.out hcount (show qy wN.drew p s r1 from hrd3)).mono ?_
      rintro e w4 ⟨hg4,⟨rfl,hno⟩|⟨l,r4,v4,hl,rfl,hown4,hrd4,hu4⟩⟩
      ·exact ⟨rfl,jg hG3 (jP hg4),.inl ⟨rfl,fun l2 q hl2 h=>hno l2 q hl2 ((HU.out l2 q hl2 h).trans (congrArg (·++q) (XR 5 (by decide) ZA l2 (fun i hi=>rfl)).symm.symm))⟩⟩
      ·have hg4':=jP hg4
       have HG4:=hid (jg hG3 hg4')
       have HS4:Hid (w4.cell? ⟨g,2,none⟩=some (fnV 160)∧BoxT w4 g w.heap.size):=⟨(hg4'.cell_far ⟨g,2,none⟩ (World.block_lt_of_cell? wN _ f2) (by intro h;simp at h;exact hgp h)).trans f2,JL Hbx3.out hg4' hs3 hpne⟩
       have Hl:=hid hl
       have Hown4:=hid hown4
       have Hrd4:=hid hrd4
       have Hu4:=hid hu4
       clear hg4 hg4' hl hown4 hrd4 hu4
       try go_wp2_with fail
       refine hK.out _ _ HS4.out (fun hHeld=>?_)
       clear hK K
       try simp only [jA,jB,jC,Act.put,jD,jE,jF]
       refine rd 10 (fun K hK=>?_)
       simp only [jA,jB,jC]
       go_simp
       try go_wp2_with fail
       refine hK.out _ _ HS4.out (fun hHeld=>?_)
       clear hK K
       try simp only [jA,jB,jC,Act.put,jD,jE,jF]
       refine wpAnyH_done (by kernel_rfl) ?_ _
       clear hHeld
       go_wp2
       go_ret
       refine ⟨HG4.out,.inr ⟨l,r4,_,Hl.out,rfl,jS Hown4.out hG3.size,Hrd4.out,fun l2 q hl2 h=>Hu4.out l2 q hl2 ((HU.out l2 q hl2 h).trans (congrArg (·++q) (XR 5 (by decide) ZA l2 (fun i hi=>rfl)).symm.symm))⟩⟩
     ·have hwa:QY (c.toNat:Int)=1:=by
       unfold QY
       rw [if_neg (by omega),if_pos (by omega)]
      rw [hwa]
      clear hwa
      have f2:w3.cell? ⟨g,5,none⟩=some (fnV 162):=qe Hw3.out 5 rfl
      have HU:Hid (∀ l2 q,Df count l2→c :: r1=Nk 1 l2++q→r1=qL 3 l2++q):=by
       intro l2 q hl2 h
       obtain ⟨j,c',r',hj,⟨e1,e2⟩,e3⟩:=Jr (kind:=1) (l:=l2) (q:=q) (by intro h0;rw [h0] at hl2;have:=hl2.1;simp at this;omega) h.symm
       simp only [List.cons.injEq] at e3
       obtain ⟨rfl,rfl⟩:=e3
       rcases (show j=0∨j=1∨j=2 by omega) with rfl|rfl|rfl
       ·have:=xL (n:=0) e1 (by decide);omega
       ·have:=xL (n:=3) e1 (by decide);exact e2
       ·have:=xL (n:=4) e1 (by decide);omega
      go_wp2_with fail
      refine (qh _).mono ?_
      rintro e wN ⟨rfl,rfl⟩
      go_wp2_with fail
      refine wp_region_held_drew (S:=fun w'=>w'.cell? ⟨g,5,none⟩=some (fnV 162)∧w'.cell? ⟨w.heap.size,0,none⟩=some (.slice (some ⟨g,0,none⟩) 3 3)∧w'.cell? ⟨w.heap.size,1,none⟩=some (fnV 165)∧w'.cell? ⟨w.heap.size,2,none⟩=some (fnV 166)∧w'.cell? ⟨w.heap.size,3,none⟩=some (fnV 115)∧w'.cell? ⟨w.heap.size,4,none⟩=some (fnV 167)∧w'.cell? ⟨w.heap.size,5,none⟩=some (fnV 168)∧w'.cell? ⟨w.heap.size,6,none⟩=some (fnV 169)) (by kernel_rfl) ⟨f2,Hbx3.out⟩ (fun hHeld=>?_)
      refine tk 0 (.pointer (some ⟨w.heap.size,0,none⟩)) ?_
      refine tk 1 (.slice (some ⟨g,0,none⟩) 3 3) ?_
      refine tk 2 (.int .i64 1) ?_
      refine tk 3 (.pointer (some ⟨g,3,none⟩)) ?_
      refine tk 4 (.pointer (some ⟨g,5,none⟩)) ?_
      refine tk 5 (fnV 162) ?_
      refine tk 6 (txtC g) ?_
      refine tk 7 (.pointer (some ⟨p,0,none⟩)) ?_
      refine tk 8 (.int .i64 (count:Int)) ?_
      simp only [jA,jB,jC,Act.put,jD,jE,jF]
      refine rd 9 (fun K hK=>?_)
      simp only [jA,jB,jC]
      go_simp
      go_at_call 162
      refine (IY g p count s r1 wN.drew Hs.out hcount hc1 (show qy wN.drew p s r1 from hrd3)).mono ?_
      rintro e w4 ⟨hg4,⟨rfl,hno⟩|⟨l,r4,v4,hl,rfl,hown4,hrd4,hu4⟩⟩
      ·exact ⟨rfl,jg hG3 (jP hg4),.inl ⟨rfl,fun l2 q hl2 h=>hno l2 q hl2 ((HU.out l2 q hl2 h).trans (congrArg (·++q) rfl.symm))⟩⟩
      ·have hg4':=jP hg4
       have HG4:=hid (jg hG3 hg4')
       have HS4:Hid (w4.cell? ⟨g,5,none⟩=some (fnV 162)∧BoxT w4 g w.heap.size):=⟨(hg4'.cell_far ⟨g,5,none⟩ (World.block_lt_of_cell? wN _ f2) (by intro h;simp at h;exact hgp h)).trans f2,JL Hbx3.out hg4' hs3 hpne⟩
       have Hl:=hid hl
       have Hown4:=hid hown4
       have Hrd4:=hid hrd4
       have Hu4:=hid hu4
       clear hg4 hg4' hl hown4 hrd4 hu4
       try go_wp2_with fail
       refine hK.out _ _ HS4.out (fun hHeld=>?_)
       clear hK K
       try simp only [jA,jB,jC,Act.put,jD,jE,jF]
       refine rd 10 (fun K hK=>?_)
       simp only [jA,jB,jC]
       go_simp
       try go_wp2_with fail
       refine hK.out _ _ HS4.out (fun hHeld=>?_)
       clear hK K
       try simp only [jA,jB,jC,Act.put,jD,jE,jF]
       refine wpAnyH_done (by kernel_rfl) ?_ _
       clear hHeld
       go_wp2
       go_ret
       refine ⟨HG4.out,.inr ⟨l,r4,_,Hl.out,rfl,jS Hown4.out hG3.size,Hrd4.out,fun l2 q hl2 h=>Hu4.out l2 q hl2 ((HU.out l2 q hl2 h).trans (congrArg (·++q) rfl.symm))⟩⟩
     ·have hwa:QY (c.toNat:Int)=2:=by
       unfold QY
       rw [if_neg (by omega),if_neg (by omega),if_pos (by omega)]
      rw [hwa]
      clear hwa
      have f2:w3.cell? ⟨g,8,none⟩=some (fnV 164):=qe Hw3.out 8 rfl
      have HU:Hid (∀ l2 q,Df count l2→c :: r1=Nk 1 l2++q→r1=qL 4 l2++q):=by
       intro l2 q hl2 h
       obtain ⟨j,c',r',hj,⟨e1,e2⟩,e3⟩:=Jr (kind:=1) (l:=l2) (q:=q) (by intro h0;rw [h0] at hl2;have:=hl2.1;simp at this;omega) h.symm
       simp only [List.cons.injEq] at e3
       obtain ⟨rfl,rfl⟩:=e3
       rcases (show j=0∨j=1∨j=2 by omega) with rfl|rfl|rfl
       ·have:=xL (n:=0) e1 (by decide);omega
       ·have:=xL (n:=3) e1 (by decide);omega
       ·have:=xL (n:=4) e1 (by decide);exact e2
      go_wp2_with fail
      refine (qh _).mono ?_
      rintro e wN ⟨rfl,rfl⟩
      go_wp2_with fail
      refine wp_region_held_drew (S:=fun w'=>w'.cell? ⟨g,8,none⟩=some (fnV 164)∧w'.cell? ⟨w.heap.size,0,none⟩=some (.slice (some ⟨g,0,none⟩) 3 3)∧w'.cell? ⟨w.heap.size,1,none⟩=some (fnV 165)∧w'.cell? ⟨w.heap.size,2,none⟩=some (fnV 166)∧w'.cell? ⟨w.heap.size,3,none⟩=some (fnV 115)∧w'.cell? ⟨w.heap.size,4,none⟩=some (fnV 167)∧w'.cell? ⟨w.heap.size,5,none⟩=some (fnV 168)∧w'.cell? ⟨w.heap.size,6,none⟩=some (fnV 169)) (by kernel_rfl) ⟨f2,Hbx3.out⟩ (fun hHeld=>?_)
      refine tk 0 (.pointer (some ⟨w.heap.size,0,none⟩)) ?_
      refine tk 1 (.slice (some ⟨g,0,none⟩) 3 3) ?_
      refine tk 2 (.int .i64 2) ?_
      refine tk 3 (.pointer (some ⟨g,6,none⟩)) ?_
      refine tk 4 (.pointer (some ⟨g,8,none⟩)) ?_
      refine tk 5 (fnV 164) ?_
      refine tk 6 (txtC g) ?_
      refine tk 7 (.pointer (some ⟨p,0,none⟩)) ?_
      refine tk 8 (.int .i64 (count:Int)) ?_
      simp only [jA,jB,jC,Act.put,jD,jE,jF]
      refine rd 9 (fun K hK=>?_)
      simp only [jA,jB,jC]
      go_simp
      go_at_call 164
      refine (CF g p count s r1 wN.drew Hs.out hcount (show qy wN.drew p s r1 from hrd3)).mono ?_
      rintro e w4 ⟨hg4,⟨rfl,hno⟩|⟨l,r4,v4,hl,rfl,hown4,hrd4,hu4⟩⟩
      ·exact ⟨rfl,jg hG3 (jP hg4),.inl ⟨rfl,fun l2 q hl2 h=>hno l2 q hl2 ((HU.out l2 q hl2 h).trans (congrArg (·++q) (XR 4 (by decide) UA l2 (fun i hi=>by simp only [xM,UA,Rr,Kx])).symm.symm))⟩⟩
      ·have hg4':=jP hg4
       have HG4:=hid (jg hG3 hg4')
       have HS4:Hid (w4.cell? ⟨g,8,none⟩=some (fnV 164)∧BoxT w4 g w.heap.size):=⟨(hg4'.cell_far ⟨g,8,none⟩ (World.block_lt_of_cell? wN _ f2) (by intro h;simp at h;exact hgp h)).trans f2,JL Hbx3.out hg4' hs3 hpne⟩
       have Hl:=hid hl
       have Hown4:=hid hown4
       have Hrd4:=hid hrd4
       have Hu4:=hid hu4
       clear hg4 hg4' hl hown4 hrd4 hu4
       try go_wp2_with fail
       refine hK.out _ _ HS4.out (fun hHeld=>?_)
       clear hK K
       try simp only [jA,jB,jC,Act.put,jD,jE,jF]
       refine rd 10 (fun K hK=>?_)
       simp only [jA,jB,jC]
       go_simp
       try go_wp2_with fail
       refine hK.out _ _ HS4.out (fun hHeld=>?_)
       clear hK K
       try simp only [jA,jB,jC,Act.put,jD,jE,jF]
       refine wpAnyH_done (by kernel_rfl) ?_ _
       clear hHeld
       go_wp2
       go_ret
       refine ⟨HG4.out,.inr ⟨l,r4,_,Hl.out,rfl,jS Hown4.out hG3.size,Hrd4.out,fun l2 q hl2 h=>Hu4.out l2 q hl2 ((HU.out l2 q hl2 h).trans (congrArg (·++q) (XR 4 (by decide) UA l2 (fun i hi=>by simp only [xM,UA,Rr,Kx])).symm.symm))⟩⟩
     ·have hwa:QY (c.toNat:Int)=-1:=by
       unfold QY
       rw [if_neg (by omega),if_neg (by omega),if_neg (by omega)]
      rw [hwa]
      go_wp2_with fail
      refine (qU _).mono ?_
      rintro e wN ⟨rfl,rfl⟩
      go_wp2
      refine ⟨rfl,hG3,.inl ⟨rfl,fun l2 q hl2 h=>?_⟩⟩
      obtain ⟨j,c',r',hj,⟨e1,e2⟩,e3⟩:=Jr (kind:=1) (l:=l2) (q:=q) (by intro h0;rw [h0] at hl2;have:=hl2.1;simp at this;omega) h.symm
      simp only [List.cons.injEq] at e3
      obtain ⟨rfl,rfl⟩:=e3
      rcases (show j=0∨j=1∨j=2 by omega) with rfl|rfl|rfl
      ·have:=xL (n:=0) e1 (by decide);omega
      ·have:=xL (n:=3) e1 (by decide);omega
      ·have:=xL (n:=4) e1 (by decide);omega
end
section
theorem Ef (s:List UInt8) (w:World) :
  Calls Tryz.prog 71 #[strB s] w fun e w'=>e=.returned (.pointer (some ⟨w.heap.size,0,none⟩))∧qy w' w.heap.size s s∧Below w.heap.size w w':=by
 go_enter Tryz.func71,Tryz.ntmps71
 go_wp2
 go_ret
 exact ⟨rfl,⟨0,heap_alloc_new w _,Nat.zero_le _,rfl⟩,(Below.refl _ _).alloc (Nat.le_refl _) _⟩
theorem Bb (x:Int) (w:World) :
  Calls Tryz.prog 152 #[.int .i64 x] w fun e w'=>e=.returned (.agg #[.bool false,.int .i64 x,.string ⟨#[]⟩])∧Below w.heap.size w w':=by
 go_enter Tryz.func152,Tryz.ntmps152
 go_wp2
 exact bodyPost_ret (v:=.agg #[.bool false,.int .i64 x,.string ⟨#[]⟩]) (by simp [results,Tryz.results152,go_sem]) rfl ⟨rfl,(Below.refl _ _).alloc (Nat.le_refl _) _⟩
theorem BH (x:List UInt8) (w:World) :
  Calls Tryz.prog 166 #[strB x] w fun e w'=>e=.returned (.agg #[.bool false,.int .i64 0,strB x])∧Below w.heap.size w w':=by
 go_enter Tryz.func166,Tryz.ntmps166
 go_wp2
 exact bodyPost_ret (v:=.agg #[.bool false,.int .i64 0,strB x]) (by simp [results,Tryz.results166,go_sem]) rfl ⟨rfl,(Below.refl _ _).alloc (Nat.le_refl _) _⟩
def Eu (kind:Int) (s:List UInt8) (l:List CellB):Prop:=qC kind l=true∧xN kind l=s∧∀ c ∈ l,JD c
def Nr (kind:Int) (s:List UInt8) (w:World) (e:Ending) (w':World):Prop :=
 Below w.heap.size w w'∧((e=gaveUp∧JS kind s=none)∨∃ l a cap,e=.returned (.slice a l.length cap)∧JS kind s=some l∧Lies w' a l)
theorem Qx {kind:Int} {s:List UInt8} (h:∀ l2,Eu kind s l2→False):JS kind s=none:=by
 cases hu:JS kind s with
 | none=>rfl
 | some l =>
  obtain ⟨h1,h2,h3⟩:=Uu hu
  exact (h l ⟨h1,h2,h3⟩).elim
theorem xQ {kind:Int} {s:List UInt8} {l:List CellB} (h:Eu kind s l):(l.map (·.null)).length≤60∧s=VC (l.map (·.null))++Nk kind (jm l)∧∀ c ∈ l,c.null=true→c=⟨true,0,[]⟩:=by
 obtain ⟨h1,h2,h3⟩:=h
 unfold qC at h1
 simp only [Bool.and_eq_true,Bool.or_eq_true,decide_eq_true_eq,List.all_eq_true] at h1
 refine ⟨by simpa using h1.1.2,?_,fun c hc hn=>?_⟩
 ·rw [← h2,← Sv]
  unfold xN Nk
  split<;>simp_all
 ·have:=h1.2 c hc
  unfold xh at this
  rw [if_pos hn] at this
  simp at this
  obtain ⟨cn,ci,ct⟩:=c
  simp_all
theorem Eg {s:List UInt8} {l:List CellB} (h:Eu 0 s l):EI (cnt (l.map (·.null))) (jm l):=by
 obtain ⟨h1,h2,h3⟩:=h
 unfold qC at h1
 simp only [Bool.and_eq_true,Bool.or_eq_true,decide_eq_true_eq,List.all_eq_true] at h1
 refine ⟨(XQ l).symm,fun c hc=>?_⟩
 obtain ⟨hm,hn⟩:=List.mem_filter.1 hc
 have hf:=h1.2 c hm
 have hn':c.null=false:=by simpa using hn
 unfold xh at hf
 rw [hn',if_neg (by decide),if_pos rfl] at hf
 exact ⟨hn',by simpa using hf,(h3 c hm).1,(h3 c hm).2⟩
theorem YJ {s:List UInt8} {l:List CellB} (h:Eu 1 s l):Df (cnt (l.map (·.null))) (jm l):=by
 obtain ⟨h1,h2,h3⟩:=h
 unfold qC at h1
 simp only [Bool.and_eq_true,Bool.or_eq_true,decide_eq_true_eq,List.all_eq_true] at h1
 refine ⟨(XQ l).symm,fun c hc=>?_⟩
 obtain ⟨hm,hn⟩:=List.mem_filter.1 hc
 have hf:=h1.2 c hm
 have hn':c.null=false:=by simpa using hn
 unfold xh at hf
 rw [hn',if_neg (by decide),if_neg (by decide)] at hf
 simp at hf
 exact ⟨hn',hf.1,hf.2⟩
theorem Rw (b:Bool) (fl:List Bool):cnt (b :: fl)=(if b=true then 0 else 1)+cnt fl:=by
 unfold cnt
 cases b<;>simp<;>omega
theorem Eh (fl:List Bool):∀ (l:List CellB) (k:Nat) (h:k < fl.length),xb (fl.take (k+1)) l=xb (fl.take k) l++[if fl[k]=true then ⟨true,0,[]⟩ else zv l (cnt (fl.take k))]:=by
 induction fl with
 | nil=>intro l k h;simp at h
 | cons b fl ih =>
  intro l k h
  cases k with
  | zero =>
   cases b with
   | true=>simp [xb]
   | false=>cases l<;>simp [xb,zv,cnt,xA]
  | succ k =>
   have h':k < fl.length:=by simpa using h
   simp only [List.take_succ_cons,List.getElem_cons_succ]
   cases b with
   | true =>
    simp only [xb,List.cons_append]
    rw [ih l k h',Rw]
    simp
   | false =>
    cases l with
    | nil =>
     simp only [xb,List.cons_append]
     rw [ih [] k h']
     simp [zv]
    | cons d l =>
     simp only [xb,List.cons_append]
     rw [ih l k h',Rw]
     simp [zv,Nat.add_comm 1]
theorem CU (fl:List Bool) (k:Nat) (h:k < fl.length):fl[k]=false→cnt (fl.take k) < cnt fl:=by
 intro hb
 have h1:cnt fl=cnt (fl.take (k+1))+cnt (fl.drop (k+1)):=by
  unfold cnt
  rw [← List.length_append,← List.filter_append,List.take_append_drop]
 have h2:=Ut fl k h
 rw [hb] at h2
 simp at h2
 omega
theorem QI (l:List CellB) (c:CellB):qx (l++[c])=qx l++[.bool c.null,.int .i64 c.int,strB c.text]:=by simp [qx]
theorem UL (a:List Bool):∀ (v:List CellB),(xb a v).length=a.length:=by
 induction a with
 | nil=>intro v;rfl
 | cons b a ih =>
  intro v
  cases b with
  | true=>simp [xb,ih]
  | false=>cases v<;>simp [xb,ih]
theorem CZ {ok:CellB→Prop} (fl:List Bool):∀ (l:List CellB),(∀ c ∈ l,ok c)→cnt fl≤l.length→∀ c ∈ xb fl l,ok c∨c=⟨true,0,[]⟩:=by
 induction fl with
 | nil=>intro l _ _ c hc;simp [xb] at hc
 | cons b fl ih =>
  intro l hl hn c hc
  rw [Rw] at hn
  cases b with
  | true =>
   simp only [xb,List.mem_cons] at hc
   rcases hc with rfl|hc
   ·exact .inr rfl
   ·exact ih l hl (by simpa using hn) c hc
  | false =>
   cases l with
   | nil=>simp at hn
   | cons d l =>
    simp only [xb,List.mem_cons] at hc
    rcases hc with rfl|hc
    ·exact .inl (hl _ (by simp))
    ·exact ih l (fun x hx=>hl x (List.mem_cons_of_mem _ hx)) (by simp at hn;omega) c hc
theorem EP {c:CellB} (h:okI c∨c=⟨true,0,[]⟩):okC c∧JD c∧qF c:=by
 rcases h with ⟨_,h2,h3,h4⟩|rfl
 ·exact ⟨⟨h3,h4,by rw [h2];simp⟩,⟨h3,h4⟩,h3,h4,by rw [h2];simp⟩
 ·exact ⟨⟨by decide,by decide,by simp⟩,⟨by decide,by decide⟩,by decide,by decide,by simp⟩
theorem Iw {c:CellB} (h:okT c∨c=⟨true,0,[]⟩):okC c∧JD c∧qF c:=by
 rcases h with ⟨_,h2,h3⟩|rfl
 ·exact ⟨⟨by rw [h2];decide,by rw [h2];decide,by unfold maxLen;omega⟩,⟨by rw [h2];decide,by rw [h2];decide⟩,by rw [h2];decide,by rw [h2];decide,h3⟩
 ·exact ⟨⟨by decide,by decide,by simp⟩,⟨by decide,by decide⟩,by decide,by decide,by simp⟩
theorem LP {l:List CellB} (hn:l.length≤60) (h:∀ c ∈ l,okI c∨c=⟨true,0,[]⟩):qC 0 l=true:=by
 unfold qC
 simp only [Bool.and_eq_true,Bool.or_eq_true,decide_eq_true_eq,List.all_eq_true]
 refine ⟨⟨.inl trivial,hn⟩,fun c hc=>?_⟩
 rcases h c hc with ⟨h1,h2,_⟩|rfl
 ·simp [xh,h1,h2]
 ·rfl
theorem SP {l:List CellB} (hn:l.length≤60) (h:∀ c ∈ l,okT c∨c=⟨true,0,[]⟩):qC 1 l=true:=by
 unfold qC
 simp only [Bool.and_eq_true,Bool.or_eq_true,decide_eq_true_eq,List.all_eq_true]
 refine ⟨⟨.inr trivial,hn⟩,fun c hc=>?_⟩
 rcases h c hc with ⟨h1,h2,h3⟩|rfl
 ·simp [xh,h1,h2,h3]
 ·rfl
theorem Ep {w:World} {base n:Nat} {v:Value} {L:List CellB} (h:w.ownsRow base 34 3 v n (qx L)) (hn:L.length=n) (hok:∀ c ∈ L,okC c):∃ a cap,v=.slice a n cap∧Lies w a L:=by
 rcases h.2 with ⟨rfl,h0⟩|⟨g,cap,cur,rfl,_⟩
 ·exact ⟨none,0,by rw [h0],hok,fun hne=>absurd (List.eq_nil_of_length_eq_zero (by omega)) hne⟩
 ·refine ⟨_,cap,rfl,hok,fun _=>⟨g,0,rfl,(h.lt g rfl).2,fun j hj=>?_⟩⟩
  obtain ⟨h1,h2,h3⟩:=UN L j hj
  simp only [Nat.zero_add]
  exact ⟨by rw [h.cellAt (j*3) (by omega)];exact h1,by rw [h.cellAt (j*3+1) (by omega)];exact h2,by rw [h.cellAt (j*3+2) (by omega)];exact h3⟩
theorem Cu {w:World} {base:Nat} {v:Value} {l:List CellB} (h:w.ownsRow base 3 1 v l.length (Xe l)):∃ a cap,v=.slice a l.length cap∧(l≠[]→l.length≤cap∧∃ b,a=some ⟨b,0,none⟩∧b < w.heap.size∧∀ j (h:j < l.length),w.cell? ⟨b,j,none⟩=some (.int .i64 (l[j]).int)):=by
 rcases h.2 with ⟨rfl,h0⟩|⟨g,cap,cur,rfl,_,_,hcap,_⟩
 ·exact ⟨none,0,by rw [h0],fun hne=>absurd (List.eq_nil_of_length_eq_zero h0) hne⟩
 ·refine ⟨_,cap,rfl,fun _=>⟨hcap,g,rfl,(h.lt g rfl).2,fun j hj=>?_⟩⟩
  rw [h.cellAt j (by omega)]
  simp [Xe,hj]
theorem DF {w:World} {base:Nat} {v:Value} {l:List CellB} (h:w.ownsRow base 9 1 v l.length (JI l)):∃ a cap,v=.slice a l.length cap∧(l≠[]→l.length≤cap∧∃ b,a=some ⟨b,0,none⟩∧b < w.heap.size∧∀ j (h:j < l.length),w.cell? ⟨b,j,none⟩=some (strB (l[j]).text)):=by
 rcases h.2 with ⟨rfl,h0⟩|⟨g,cap,cur,rfl,_,_,hcap,_⟩
 ·exact ⟨none,0,by rw [h0],fun hne=>absurd (List.eq_nil_of_length_eq_zero h0) hne⟩
 ·refine ⟨_,cap,rfl,fun _=>⟨hcap,g,rfl,(h.lt g rfl).2,fun j hj=>?_⟩⟩
  rw [h.cellAt j (by omega)]
  simp [JI,zl,Zs,hj]
theorem Fw (g:Nat) (s:List UInt8) (w:World) (hs:s.length≤maxLen) (hg:g < w.heap.size) (hw:NumW w g) :
  Calls Tryz.prog 143 #[numC g,strB s] w (Nr 0 s w):=by
 obtain ⟨i1,hi1,hy0,hy1,hy2⟩:=info_parts Tryz.infoCell
 have Hs:=hid hs
 have Hw:=hid hw
 clear hs hw
 go_enter Tryz.func143,Tryz.ntmps143
 go_wp2_with fail
 obtain ⟨hb0,hs0,hc0⟩:=Ja w #[.slice (some ⟨g,0,none⟩) 3 3,fnV 151,fnV 152,fnV 153,fnV 154,fnV 155,fnV 156] 205
 have Hc:Hid (BoxI _ g w.heap.size):=⟨hc0 0,hc0 1,hc0 2,hc0 3,hc0 4,hc0 5,hc0 6⟩
 have Hw0:=hid (Hw.out.later hg hb0)
 have Hb0:=hid hb0
 have hs1:=Nat.lt_of_lt_of_eq (Nat.lt_succ_self w.heap.size) hs0.symm
 have hg0:=Nat.lt_of_lt_of_le hg hb0.size
 clear hc0 hb0 hs0
 generalize w.alloc _=w0 at *
 refine (Ef s w0).mono ?_
 rintro e w1 ⟨rfl,hrd1,hb1⟩
 have hB1:=Hb0.out.trans (hb1.mono Hb0.out.size)
 have HB1:=hid hB1
 have hp0:w.heap.size≤w0.heap.size:=Hb0.out.size
 have hplt:=xF hrd1
 have Hbx1:=hid (zk Hc.out hb1 hs1)
 have Hw1:=hid (Hw0.out.later hg0 hb1)
 have hg1:=Nat.lt_of_lt_of_le hg0 hb1.size
 have hs11:=Nat.lt_of_lt_of_le hs1 hb1.size
 have hpne:w.heap.size≠w0.heap.size:=by omega
 have hgp:g≠w0.heap.size:=by omega
 clear hb1 hB1
 generalize hpp:w0.heap.size=p at *
 clear hpp
 go_wp2_with fail
 refine (VH p s s _ Hs.out hrd1).mono ?_
 rintro e w2 ⟨hg2,⟨rfl,hno⟩|⟨fl,r2,v6,hfl,rfl,hown6,hrd2,hu2⟩⟩
 ·go_wp2
  exact ⟨rfl,HB1.out.grown hg2 HB1.out.size (fun k hk=>by cases hk;exact hp0),.inl ⟨rfl,Qx (fun l2 h2=>(hno _ _ (xQ h2).1 (xQ h2).2.1))⟩⟩
 ·have Hu2:=hid hu2
  have HB2:=hid (HB1.out.grown hg2 HB1.out.size (fun k hk=>by cases hk;exact hp0))
  have Hbx2:=hid (QX Hbx1.out hg2 hs11 hpne)
  have Hw2:=hid (Hw1.out.grown hg2 hg1 hgp)
  have hg22:=Nat.lt_of_lt_of_le hg1 hg2.size
  have hs2:=Nat.lt_of_lt_of_le hs11 hg2.size
  have hbx:=Hbx2.out
  obtain ⟨x0,x1,x2,x3,x4,x5,x6⟩:=hbx
  clear hu2 hg2 hrd1
  go_wp2_with fail
  refine (BE g p fl v6 w1.heap.size s r2 _ Hs.out hfl hrd2 hown6 hg22 Hw2.out hgp).mono ?_
  rintro e w3 ⟨hg3,⟨rfl,hno⟩|⟨l,r3,v7,hl,rfl,hown7,hrd3,hu3⟩⟩
  ·go_wp2
   refine ⟨rfl,HB2.out.grown hg3 HB2.out.size (fun k hk=>by cases hk;exact hp0),.inl ⟨rfl,Qx (fun l2 h2=>?_)⟩⟩
   obtain ⟨e1,e2⟩:=Hu2.out _ _ (xQ h2).1 (xQ h2).2.1
   exact hno (jm l2) [] (by rw [← e1];exact Eg h2) (by rw [List.append_nil];exact e2.symm)
  ·have HU:Hid (∀ l2,Eu 0 s l2→l2=xb fl l):=by
    intro l2 h2
    obtain ⟨e1,e2⟩:=Hu2.out _ _ (xQ h2).1 (xQ h2).2.1
    obtain ⟨e3,_⟩:=hu3 (jm l2) [] (by rw [← e1];exact Eg h2) (by rw [List.append_nil];exact e2.symm)
    rw [← e1,← e3]
    exact (Gd l2 (xQ h2).2.2).symm
   have HB3:=hid (HB2.out.grown hg3 HB2.out.size (fun k hk=>by cases hk;exact hp0))
   have Hbx3:=hid (QX Hbx2.out hg3 hs2 hpne)
   have Hw3:=hid (Hw2.out.grown hg3 hg22 hgp)
   have hg33:=Nat.lt_of_lt_of_le hg22 hg3.size
   have hs3:=Nat.lt_of_lt_of_le hs2 hg3.size
   have hown63:=zT hown6 hplt hg3
   obtain ⟨a6,c6,rfl,hsh6⟩:=ZR hown63
   obtain ⟨a7,c7,rfl,hsh7⟩:=Cu hown7
   have Hsh6:=hid hsh6
   have Hsh7:=hid hsh7
   have Hl:=hid hl
   have Hll:Hid (l.length=cnt fl):=hl.1
   have hcf:=NE fl
   have hl60:l.length≤60:=by rw [Hll.out];omega
   clear hu3 hg3 hown6 hown63 hown7 hsh6 hsh7 hrd2 hrd3 x0 x1 x2 x3 x4 x5 x6 hl
   go_wp2_with (at_make;refine wpList_make_own _ rfl (.const (.int .i64 0)) (.tmp 20) 29 rfl w3.heap.size 34 i1 (.agg #[.bool false,.int .i64 0,.string ⟨#[]⟩]) 3 Tryz.underlying29 hi1 hy0 hy1 .i64 .i64 _ fl.length rfl rfl rfl (by rw [hy2];omega) (by unfold maxLen;omega) (Nat.le_refl _) ?_;intro w4 hown4 hgr4)
   have hB4:Below w3.heap.size w3 w4:=(Below.refl _ _).grown hgr4 (Nat.le_refl _) (fun _ h=>by cases h)
   clear hgr4
   go_loopw [7,8,24] (fun v7 v8 i wr=>∃ (k:Nat) (a:Option Addr) (c:Nat),k≤fl.length∧i=.int .i64 (k:Int)∧v7=.slice a (l.length - cnt (fl.take k)) c∧(cnt (fl.take k) < l.length→l.length - cnt (fl.take k)≤c∧∃ b,a7=some ⟨b,0,none⟩∧a=some ⟨b,cnt (fl.take k),none⟩)∧wr.ownsRow w3.heap.size 34 3 v8 k (qx (xb (fl.take k) l))∧Below w3.heap.size w3 wr)
    (fun _ _ i _=>fl.length - (intOf i).toNat)
   case atStart =>
    refine ⟨0,a7,c7,Nat.zero_le _,rfl,by simp [cnt],fun h=>?_,hown4,hB4⟩
    obtain ⟨h1,b,h2,_⟩:=Hsh7.out (List.ne_nil_of_length_pos (by omega))
    exact ⟨by omega,b,h2,h2⟩
   case round =>
    clear hown4 hB4
    obtain ⟨k,a,c0,hk,rfl,rfl,hsl,hown,hB⟩:=hrel
    have Hsl:=hid hsl
    clear hsl
    by_cases hlt:k < fl.length
    ·have hki:(k:Int) < (fl.length:Int):=by omega
     obtain ⟨b6,rfl,hb6,hcell6⟩:=Hsh6.out (List.ne_nil_of_length_pos (by omega))
     have hck:=(hB.cell (p:=⟨b6,k,none⟩) hb6).trans (hcell6 k hlt)
     have HST:=hid (Eh fl l k hlt)
     have HCS:=hid (Ut fl k hlt)
     have hcl:=CU fl k hlt
     clear hcell6
     cases hb:fl[k] with
     | true =>
      rw [hb] at hck HST HCS
      clear hb hcl
      go_wp2_with (at_builtin;refine wpList_append_own _ rfl (.tmp 29) (.tmp 31) 29 rfl w3.heap.size 34 i1 (.agg #[.bool false,.int .i64 0,.string ⟨#[]⟩]) 3 32 Tryz.underlying29 hi1 hy0 hy1 hy2 rfl (by decide) _ _ _ rfl (hown.alloc _) ⟨_,0,none⟩ 1 1 [.bool true,.int .i64 0,.string ⟨#[]⟩] rfl rfl ?c1 ?c2 ?c3 ?c4 ?c5 ?_)
      case c2=>exact ⟨rfl,rfl,rfl⟩
      case c3=>unfold maxLen;omega
      case c4=>omega
      case c5=>have:=hB.size;simp;omega
      intro v3 w5 hown5 hgr5 _
      have HO5:=hid hown5
      have HB5:=hid ((hB.alloc hB.size _).grown hgr5 (by have:=hB.size;simp;omega) (fun k hk=>(hown.lt k hk).1))
      clear hown hown5 hgr5 hB hck
      go_wp2
      go_roundw
      case rel =>
       refine ⟨k+1,a,c0,by omega,by go_num,by rw [HCS.out];simp,by rw [HCS.out];simpa using Hsl.out,?_,HB5.out⟩
       rw [HST.out,QI]
       exact HO5.out
      case measure=>simp [intOf];omega
     | false =>
      have hcl2:=hcl hb
      rw [hb] at hck HST HCS
      clear hb hcl
      have hcc:cnt (fl.take k) < l.length:=by rw [Hll.out];exact hcl2
      obtain ⟨hcap,b7,ha7,rfl⟩:=Hsl.out hcc
      obtain ⟨_,b7',ha7',hb7,hcell7⟩:=Hsh7.out (List.ne_nil_of_length_pos (by omega))
      have hbb:b7'=b7:=by rw [ha7] at ha7';simpa using ha7'.symm
      subst hbb
      generalize hcg:cnt (fl.take k)=c at *
      have hv:=(hB.cell (p:=⟨b7',c,none⟩) hb7).trans (hcell7 c hcc)
      have hfn:=(hB.cell (p:=⟨w.heap.size,2,none⟩) hs3).trans Hbx3.out.2.2.1
      have hz3:=hB.size
      have HNT:Hid (zv l c=l[c]):=qN l c hcc
      generalize hmg:l.length - c=m at *
      have Hmg:=hid hmg
      have hm0:0 < m:=by omega
      have hli:(0:Int) < (m:Int):=by omega
      have hcc2:c < l.length:=hcc
      clear hmg
      have hOK:=Hl.out.2 l[c] (List.getElem_mem hcc)
      have HOK:=hid hOK
      have Ha7:=hid ha7
      have Ha7':=hid ha7'
      clear hcell7 hOK ha7 ha7'
      go_wp2_with fail
      go_region_held3 (fun w'=>w'.cell? ⟨w.heap.size,2,none⟩=some (fnV 152)∧w'.cell? ⟨b7',c,none⟩=some (.int .i64 (l[c]).int)) (first|exact ⟨je _ k1,je _ k2⟩|exact ⟨m1,m2⟩|exact ⟨k1,k2⟩|exact ⟨hfn,hv⟩)
       (first
        | (go_at_call 152;refine (Bb (l[c]).int _).mono ?_;rintro e w5 ⟨rfl,hb5⟩;have hb5':=jl hb5;have k1:=(hb5'.cell (p:=⟨w.heap.size,2,none⟩) (Nat.lt_of_lt_of_le hs3 hz3)).trans hfn;have k2:=(hb5'.cell (p:=⟨b7',c,none⟩) (Nat.lt_of_lt_of_le hb7 hz3)).trans hv)
        | (refine step_append_lies _ (by rfl) _ _ _ (by rfl) w3.heap.size 34 i1 _ 3 32 Tryz.underlying29 hi1 hy0 hy1 hy2 rfl (by omega) _ k (qx (xb (fl.take k) l)) (by rfl) ((ju hown hb5').alloc _) ⟨w5.heap.size,0,none⟩ 1 1 [.bool false,.int .i64 (l[c]).int,.string ⟨#[]⟩] (by rfl) (by rfl) (World.news_of_block (cs:=#[.bool false,.int .i64 (l[c]).int,.string ⟨#[]⟩]) (t:=34) (fr:=(0,0)) (heap_alloc_new w5 _)) (by simp [Value.oneCell']) (by omega) (by unfold maxLen;omega) (by omega) (by have:=hb5'.size;simp;omega) _ rfl ?_;intro gg cc w7 hown7 hgr7 hat7 hlt7;have m1:=zz hgr7 ((ju hown hb5').alloc _) (je _ k1) hs3;have m2:=zz hgr7 ((ju hown hb5').alloc _) (je _ k2) hb7))
      have HB7:=hid (((hB.trans (hb5'.mono hz3)).alloc (by have:=hb5'.size;omega) _).grown hgr7 (by have:=hb5'.size;simp;omega) (fun k hk=>((ju hown hb5').lt k hk).1))
      have HO7:=hid hown7
      have HCL:Hid (qx (xb (fl.take (k+1)) l)=qx (xb (fl.take k) l)++[.bool false,.int .i64 (l[c]).int,.string ⟨#[]⟩]):=by
       show _=_
       rw [HST.out,if_neg (by decide),HNT.out,QI,HOK.out.1,HOK.out.2.1]
      have Hcg:=hid hcg
      clear m1 m2 k1 k2 hfn hv hb5 hb5' hgr7 hown7 hown hB hat7 hlt7 hcg hck
      have hq1:(1:Int)≤(m:Int):=by omega
      have hq2:(1:Int)≤(c0:Int):=by omega
      have hq3:(m:Int)≤(c0:Int):=by omega
      have hq4:1≤m:=by omega
      by_cases hc01:c0=1
      ·have hm1:m=1:=by omega
       subst hc01 hm1
       go_wp2
       go_roundw
       case rel =>
        have hmo:=Hmg.out
        refine ⟨k+1,some ⟨b7',c,none⟩,0,by omega,by go_num,?_,fun h=>?_,by rw [HCL.out];exact HO7.out,HB7.out⟩
        ·rw [HCS.out,if_neg (by decide),show l.length - (c+1)=0 by omega]
        ·rw [HCS.out,if_neg (by decide)] at h
         omega
       case measure=>simp [intOf];omega
      ·go_wp2
       go_roundw
       case rel =>
        have hmo:=Hmg.out
        refine ⟨k+1,some ⟨b7',c+1,none⟩,c0 - 1,by omega,by go_num,?_,fun h=>?_,by rw [HCL.out];exact HO7.out,HB7.out⟩
        ·rw [HCS.out,if_neg (by decide),show l.length - (c+1)=m - 1 by omega]
        ·rw [HCS.out,if_neg (by decide)] at h ⊢
         exact ⟨by omega,b7',Ha7.out,rfl⟩
       case measure=>simp [intOf];omega
    ·have hke:k=fl.length:=by omega
     subst hke
     rw [List.take_length] at hown
     have HLl:=hid (UL fl l)
     have hOKc:∀ c ∈ xb fl l,okI c∨c=⟨true,0,[]⟩:=CZ fl l Hl.out.2 (by rw [← Hll.out];exact Nat.le_refl _)
     have HOKc:=hid hOKc
     obtain ⟨a8,c8,rfl,hlies⟩:=Ep hown (UL fl l) (fun c hc=>(EP (HOKc.out c hc)).1)
     have Hlies:=hid hlies
     have Hbxr:=hid (zk Hbx3.out hB hs3)
     have hbx:=Hbxr.out
     obtain ⟨x0,x1,x2,x3,x4,x5,x6⟩:=hbx
     have Hwr:=hid (Hw3.out.later hg33 hB)
     have hgr:=Nat.lt_of_lt_of_le hg33 hB.size
     have HBr:=hid (HB3.out.trans (hB.mono HB3.out.size))
     have hL60:(xb fl l).length≤60:=by rw [HLl.out];exact hfl
     have HCK:Hid (qC 0 (xb fl l)=true):=LP hL60 HOKc.out
     have HRG:Hid (∀ c ∈ xb fl l,JD c):=fun c hc=>(EP (HOKc.out c hc)).2.1
     have HSM:Hid (∀ c ∈ xb fl l,qF c):=fun c hc=>(EP (HOKc.out c hc)).2.2
     have hle:=HLl.out
     rw [← hle] at *
     clear hown hlies hOKc hle hB
     generalize xb fl l=L at *
     go_wp2_with fail
     refine (BR g a8 c8 L _ hL60 HSM.out Hlies.out hgr Hwr.out).mono ?_
     rintro e w5 ⟨rfl,hb5⟩
     have HB5:=hid (HBr.out.trans (hb5.mono HBr.out.size))
     by_cases heq:xN 0 L=s
     ·have hbq:(xN 0 L == s)=true:=by simp [heq]
      have Heq:=hid heq
      clear heq x0 x1 x2 x3 x4 x5 x6
      go_wp2_with fail
      refine (qh _).mono ?_
      rintro e wN ⟨rfl,rfl⟩
      go_wp2
      go_ret
      refine ⟨HB5.out,.inr ⟨L,a8,c8,rfl,?_,Hlies.out.later hb5⟩⟩
      rw [← Heq.out]
      exact Uo 0 L HCK.out HRG.out
     ·have hbq:(xN 0 L == s)=false:=by simpa using heq
      clear x0 x1 x2 x3 x4 x5 x6
      go_wp2_with fail
      refine (qU _).mono ?_
      rintro e wN ⟨rfl,rfl⟩
      go_wp2
      refine ⟨rfl,HB5.out,.inl ⟨rfl,Qx (fun l2 h2=>?_)⟩⟩
      have e1:=HU.out l2 h2
      rw [e1] at h2
      exact heq h2.2.1
end
section
theorem Fk (g:Nat) (s:List UInt8) (w:World) (hs:s.length≤maxLen) (hg:g < w.heap.size) (hw:TxtW w g) :
  Calls Tryz.prog 144 #[txtC g,strB s] w (Nr 1 s w):=by
 obtain ⟨i1,hi1,hy0,hy1,hy2⟩:=info_parts Tryz.infoCell
 have Hs:=hid hs
 have Hw:=hid hw
 clear hs hw
 go_enter Tryz.func144,Tryz.ntmps144
 go_wp2_with fail
 obtain ⟨hb0,hs0,hc0⟩:=Ja w #[.slice (some ⟨g,0,none⟩) 3 3,fnV 165,fnV 166,fnV 115,fnV 167,fnV 168,fnV 169] 214
 have Hc:Hid (BoxT _ g w.heap.size):=⟨hc0 0,hc0 1,hc0 2,hc0 3,hc0 4,hc0 5,hc0 6⟩
 have Hw0:=hid (Hw.out.later hg hb0)
 have Hb0:=hid hb0
 have hs1:=Nat.lt_of_lt_of_eq (Nat.lt_succ_self w.heap.size) hs0.symm
 have hg0:=Nat.lt_of_lt_of_le hg hb0.size
 clear hc0 hb0 hs0
 generalize w.alloc _=w0 at *
 refine (Ef s w0).mono ?_
 rintro e w1 ⟨rfl,hrd1,hb1⟩
 have hB1:=Hb0.out.trans (hb1.mono Hb0.out.size)
 have HB1:=hid hB1
 have hp0:w.heap.size≤w0.heap.size:=Hb0.out.size
 have hplt:=xF hrd1
 have Hbx1:=hid (xm Hc.out hb1 hs1)
 have Hw1:=hid (Hw0.out.later hg0 hb1)
 have hg1:=Nat.lt_of_lt_of_le hg0 hb1.size
 have hs11:=Nat.lt_of_lt_of_le hs1 hb1.size
 have hpne:w.heap.size≠w0.heap.size:=by omega
 have hgp:g≠w0.heap.size:=by omega
 clear hb1 hB1
 generalize hpp:w0.heap.size=p at *
 clear hpp
 go_wp2_with fail
 refine (VH p s s _ Hs.out hrd1).mono ?_
 rintro e w2 ⟨hg2,⟨rfl,hno⟩|⟨fl,r2,v6,hfl,rfl,hown6,hrd2,hu2⟩⟩
 ·go_wp2
  exact ⟨rfl,HB1.out.grown hg2 HB1.out.size (fun k hk=>by cases hk;exact hp0),.inl ⟨rfl,Qx (fun l2 h2=>(hno _ _ (xQ h2).1 (xQ h2).2.1))⟩⟩
 ·have Hu2:=hid hu2
  have HB2:=hid (HB1.out.grown hg2 HB1.out.size (fun k hk=>by cases hk;exact hp0))
  have Hbx2:=hid (JL Hbx1.out hg2 hs11 hpne)
  have Hw2:=hid (Hw1.out.grown hg2 hg1 hgp)
  have hg22:=Nat.lt_of_lt_of_le hg1 hg2.size
  have hs2:=Nat.lt_of_lt_of_le hs11 hg2.size
  have hbx:=Hbx2.out
  obtain ⟨x0,x1,x2,x3,x4,x5,x6⟩:=hbx
  clear hu2 hg2 hrd1
  go_wp2_with fail
  refine (Bl g p fl v6 w1.heap.size s r2 _ Hs.out hfl hrd2 hown6 hg22 Hw2.out hgp).mono ?_
  rintro e w3 ⟨hg3,⟨rfl,hno⟩|⟨l,r3,v7,hl,rfl,hown7,hrd3,hu3⟩⟩
  ·go_wp2
   refine ⟨rfl,HB2.out.grown hg3 HB2.out.size (fun k hk=>by cases hk;exact hp0),.inl ⟨rfl,Qx (fun l2 h2=>?_)⟩⟩
   obtain ⟨e1,e2⟩:=Hu2.out _ _ (xQ h2).1 (xQ h2).2.1
   exact hno (jm l2) [] (by rw [← e1];exact YJ h2) (by rw [List.append_nil];exact e2.symm)
  ·have HU:Hid (∀ l2,Eu 1 s l2→l2=xb fl l):=by
    intro l2 h2
    obtain ⟨e1,e2⟩:=Hu2.out _ _ (xQ h2).1 (xQ h2).2.1
    obtain ⟨e3,_⟩:=hu3 (jm l2) [] (by rw [← e1];exact YJ h2) (by rw [List.append_nil];exact e2.symm)
    rw [← e1,← e3]
    exact (Gd l2 (xQ h2).2.2).symm
   have HB3:=hid (HB2.out.grown hg3 HB2.out.size (fun k hk=>by cases hk;exact hp0))
   have Hbx3:=hid (JL Hbx2.out hg3 hs2 hpne)
   have Hw3:=hid (Hw2.out.grown hg3 hg22 hgp)
   have hg33:=Nat.lt_of_lt_of_le hg22 hg3.size
   have hs3:=Nat.lt_of_lt_of_le hs2 hg3.size
   have hown63:=zT hown6 hplt hg3
   obtain ⟨a6,c6,rfl,hsh6⟩:=ZR hown63
   obtain ⟨a7,c7,rfl,hsh7⟩:=DF hown7
   have Hsh6:=hid hsh6
   have Hsh7:=hid hsh7
   have Hl:=hid hl
   have Hll:Hid (l.length=cnt fl):=hl.1
   have hcf:=NE fl
   have hl60:l.length≤60:=by rw [Hll.out];omega
   clear hu3 hg3 hown6 hown63 hown7 hsh6 hsh7 hrd2 hrd3 x0 x1 x2 x3 x4 x5 x6 hl
   go_wp2_with (at_make;refine wpList_make_own _ rfl (.const (.int .i64 0)) (.tmp 20) 29 rfl w3.heap.size 34 i1 (.agg #[.bool false,.int .i64 0,.string ⟨#[]⟩]) 3 Tryz.underlying29 hi1 hy0 hy1 .i64 .i64 _ fl.length rfl rfl rfl (by rw [hy2];omega) (by unfold maxLen;omega) (Nat.le_refl _) ?_;intro w4 hown4 hgr4)
   have hB4:Below w3.heap.size w3 w4:=(Below.refl _ _).grown hgr4 (Nat.le_refl _) (fun _ h=>by cases h)
   clear hgr4
   go_loopw [7,8,24] (fun v7 v8 i wr=>∃ (k:Nat) (a:Option Addr) (c:Nat),k≤fl.length∧i=.int .i64 (k:Int)∧v7=.slice a (l.length - cnt (fl.take k)) c∧(cnt (fl.take k) < l.length→l.length - cnt (fl.take k)≤c∧∃ b,a7=some ⟨b,0,none⟩∧a=some ⟨b,cnt (fl.take k),none⟩)∧wr.ownsRow w3.heap.size 34 3 v8 k (qx (xb (fl.take k) l))∧Below w3.heap.size w3 wr)
    (fun _ _ i _=>fl.length - (intOf i).toNat)
   case atStart =>
    refine ⟨0,a7,c7,Nat.zero_le _,rfl,by simp [cnt],fun h=>?_,hown4,hB4⟩
    obtain ⟨h1,b,h2,_⟩:=Hsh7.out (List.ne_nil_of_length_pos (by omega))
    exact ⟨by omega,b,h2,h2⟩
   case round =>
    clear hown4 hB4
    obtain ⟨k,a,c0,hk,rfl,rfl,hsl,hown,hB⟩:=hrel
    have Hsl:=hid hsl
    clear hsl
    by_cases hlt:k < fl.length
    ·have hki:(k:Int) < (fl.length:Int):=by omega
     obtain ⟨b6,rfl,hb6,hcell6⟩:=Hsh6.out (List.ne_nil_of_length_pos (by omega))
     have hck:=(hB.cell (p:=⟨b6,k,none⟩) hb6).trans (hcell6 k hlt)
     have HST:=hid (Eh fl l k hlt)
     have HCS:=hid (Ut fl k hlt)
     have hcl:=CU fl k hlt
     clear hcell6
     cases hb:fl[k] with
     | true =>
      rw [hb] at hck HST HCS
      clear hb hcl
      go_wp2_with (at_builtin;refine wpList_append_own _ rfl (.tmp 29) (.tmp 31) 29 rfl w3.heap.size 34 i1 (.agg #[.bool false,.int .i64 0,.string ⟨#[]⟩]) 3 32 Tryz.underlying29 hi1 hy0 hy1 hy2 rfl (by decide) _ _ _ rfl (hown.alloc _) ⟨_,0,none⟩ 1 1 [.bool true,.int .i64 0,.string ⟨#[]⟩] rfl rfl ?c1 ?c2 ?c3 ?c4 ?c5 ?_)
      case c2=>exact ⟨rfl,rfl,rfl⟩
      case c3=>unfold maxLen;omega
      case c4=>omega
      case c5=>have:=hB.size;simp;omega
      intro v3 w5 hown5 hgr5 _
      have HO5:=hid hown5
      have HB5:=hid ((hB.alloc hB.size _).grown hgr5 (by have:=hB.size;simp;omega) (fun k hk=>(hown.lt k hk).1))
      clear hown hown5 hgr5 hB hck
      go_wp2
      go_roundw
      case rel =>
       refine ⟨k+1,a,c0,by omega,by go_num,by rw [HCS.out];simp,by rw [HCS.out];simpa using Hsl.out,?_,HB5.out⟩
       rw [HST.out,QI]
       exact HO5.out
      case measure=>simp [intOf];omega
     | false =>
      have hcl2:=hcl hb
      rw [hb] at hck HST HCS
      clear hb hcl
      have hcc:cnt (fl.take k) < l.length:=by rw [Hll.out];exact hcl2
      obtain ⟨hcap,b7,ha7,rfl⟩:=Hsl.out hcc
      obtain ⟨_,b7',ha7',hb7,hcell7⟩:=Hsh7.out (List.ne_nil_of_length_pos (by omega))
      have hbb:b7'=b7:=by rw [ha7] at ha7';simpa using ha7'.symm
      subst hbb
      generalize hcg:cnt (fl.take k)=c at *
      have hv:=(hB.cell (p:=⟨b7',c,none⟩) hb7).trans (hcell7 c hcc)
      have hfn:=(hB.cell (p:=⟨w.heap.size,2,none⟩) hs3).trans Hbx3.out.2.2.1
      have hz3:=hB.size
      have HNT:Hid (zv l c=l[c]):=qN l c hcc
      generalize hmg:l.length - c=m at *
      have Hmg:=hid hmg
      have hm0:0 < m:=by omega
      have hli:(0:Int) < (m:Int):=by omega
      have hcc2:c < l.length:=hcc
      clear hmg
      have hOK:=Hl.out.2 l[c] (List.getElem_mem hcc)
      have HOK:=hid hOK
      have Ha7:=hid ha7
      have Ha7':=hid ha7'
      clear hcell7 hOK ha7 ha7'
      go_wp2_with fail
      go_region_held3 (fun w'=>w'.cell? ⟨w.heap.size,2,none⟩=some (fnV 166)∧w'.cell? ⟨b7',c,none⟩=some (strB (l[c]).text)) (first|exact ⟨je _ k1,je _ k2⟩|exact ⟨m1,m2⟩|exact ⟨k1,k2⟩|exact ⟨hfn,hv⟩)
       (first
        | (go_at_call 166;refine (BH (l[c]).text _).mono ?_;rintro e w5 ⟨rfl,hb5⟩;have hb5':=jl hb5;have k1:=(hb5'.cell (p:=⟨w.heap.size,2,none⟩) (Nat.lt_of_lt_of_le hs3 hz3)).trans hfn;have k2:=(hb5'.cell (p:=⟨b7',c,none⟩) (Nat.lt_of_lt_of_le hb7 hz3)).trans hv)
        | (refine step_append_lies _ (by rfl) _ _ _ (by rfl) w3.heap.size 34 i1 _ 3 32 Tryz.underlying29 hi1 hy0 hy1 hy2 rfl (by omega) _ k (qx (xb (fl.take k) l)) (by rfl) ((ju hown hb5').alloc _) ⟨w5.heap.size,0,none⟩ 1 1 [.bool false,.int .i64 0,strB (l[c]).text] (by rfl) (by rfl) (World.news_of_block (cs:=#[.bool false,.int .i64 0,strB (l[c]).text]) (t:=34) (fr:=(0,0)) (heap_alloc_new w5 _)) (by simp [Value.oneCell']) (by omega) (by unfold maxLen;omega) (by omega) (by have:=hb5'.size;simp;omega) _ rfl ?_;intro gg cc w7 hown7 hgr7 hat7 hlt7;have m1:=zz hgr7 ((ju hown hb5').alloc _) (je _ k1) hs3;have m2:=zz hgr7 ((ju hown hb5').alloc _) (je _ k2) hb7))
      have HB7:=hid (((hB.trans (hb5'.mono hz3)).alloc (by have:=hb5'.size;omega) _).grown hgr7 (by have:=hb5'.size;simp;omega) (fun k hk=>((ju hown hb5').lt k hk).1))
      have HO7:=hid hown7
      have HCL:Hid (qx (xb (fl.take (k+1)) l)=qx (xb (fl.take k) l)++[.bool false,.int .i64 0,strB (l[c]).text]):=by
       show _=_
       rw [HST.out,if_neg (by decide),HNT.out,QI,HOK.out.1,HOK.out.2.1]
      have Hcg:=hid hcg
      clear m1 m2 k1 k2 hfn hv hb5 hb5' hgr7 hown7 hown hB hat7 hlt7 hcg hck
      have hq1:(1:Int)≤(m:Int):=by omega
      have hq2:(1:Int)≤(c0:Int):=by omega
      have hq3:(m:Int)≤(c0:Int):=by omega
      have hq4:1≤m:=by omega
      by_cases hc01:c0=1
      ·have hm1:m=1:=by omega
       subst hc01 hm1
       go_wp2
       go_roundw
       case rel =>
        have hmo:=Hmg.out
        refine ⟨k+1,some ⟨b7',c,none⟩,0,by omega,by go_num,?_,fun h=>?_,by rw [HCL.out];exact HO7.out,HB7.out⟩
        ·rw [HCS.out,if_neg (by decide),show l.length - (c+1)=0 by omega]
        ·rw [HCS.out,if_neg (by decide)] at h
         omega
       case measure=>simp [intOf];omega
      ·go_wp2
       go_roundw
       case rel =>
        have hmo:=Hmg.out
        refine ⟨k+1,some ⟨b7',c+1,none⟩,c0 - 1,by omega,by go_num,?_,fun h=>?_,by rw [HCL.out];exact HO7.out,HB7.out⟩
        ·rw [HCS.out,if_neg (by decide),show l.length - (c+1)=m - 1 by omega]
        ·rw [HCS.out,if_neg (by decide)] at h ⊢
         exact ⟨by omega,b7',Ha7.out,rfl⟩
       case measure=>simp [intOf];omega
    ·have hke:k=fl.length:=by omega
     subst hke
     rw [List.take_length] at hown
     have HLl:=hid (UL fl l)
     have hOKc:∀ c ∈ xb fl l,okT c∨c=⟨true,0,[]⟩:=CZ fl l Hl.out.2 (by rw [← Hll.out];exact Nat.le_refl _)
     have HOKc:=hid hOKc
     obtain ⟨a8,c8,rfl,hlies⟩:=Ep hown (UL fl l) (fun c hc=>(Iw (HOKc.out c hc)).1)
     have Hlies:=hid hlies
     have Hbxr:=hid (xm Hbx3.out hB hs3)
     have hbx:=Hbxr.out
     obtain ⟨x0,x1,x2,x3,x4,x5,x6⟩:=hbx
     have Hwr:=hid (Hw3.out.later hg33 hB)
     have hgr:=Nat.lt_of_lt_of_le hg33 hB.size
     have HBr:=hid (HB3.out.trans (hB.mono HB3.out.size))
     have hL60:(xb fl l).length≤60:=by rw [HLl.out];exact hfl
     have HCK:Hid (qC 1 (xb fl l)=true):=SP hL60 HOKc.out
     have HRG:Hid (∀ c ∈ xb fl l,JD c):=fun c hc=>(Iw (HOKc.out c hc)).2.1
     have HSM:Hid (∀ c ∈ xb fl l,qF c):=fun c hc=>(Iw (HOKc.out c hc)).2.2
     have hle:=HLl.out
     rw [← hle] at *
     clear hown hlies hOKc hle hB
     generalize xb fl l=L at *
     go_wp2_with fail
     refine (Hv g a8 c8 L _ hL60 HSM.out Hlies.out hgr Hwr.out).mono ?_
     rintro e w5 ⟨rfl,hb5⟩
     have HB5:=hid (HBr.out.trans (hb5.mono HBr.out.size))
     by_cases heq:xN 1 L=s
     ·have hbq:(xN 1 L == s)=true:=by simp [heq]
      have Heq:=hid heq
      clear heq x0 x1 x2 x3 x4 x5 x6
      go_wp2_with fail
      refine (qh _).mono ?_
      rintro e wN ⟨rfl,rfl⟩
      go_wp2
      go_ret
      refine ⟨HB5.out,.inr ⟨L,a8,c8,rfl,?_,Hlies.out.later hb5⟩⟩
      rw [← Heq.out]
      exact Uo 1 L HCK.out HRG.out
     ·have hbq:(xN 1 L == s)=false:=by simpa using heq
      clear x0 x1 x2 x3 x4 x5 x6
      go_wp2_with fail
      refine (qU _).mono ?_
      rintro e wN ⟨rfl,rfl⟩
      go_wp2
      refine ⟨rfl,HB5.out,.inl ⟨rfl,Qx (fun l2 h2=>?_)⟩⟩
      have e1:=HU.out l2 h2
      rw [e1] at h2
      exact heq h2.2.1
end
section
theorem MZ (sec non ext body:ByteArray) (w:World) (h:5002 < body.size) (hm:body.size≤maxLen) :
  Calls Tryz.prog 57 #[.string sec,.string non,.string ext,.string body] w fun e w' =>
   e=.returned (.tuple #[strB [],.bool false])∧w'=w:=by
 unfold maxLen at hm
 have i1:¬ (body.size:Int) < 2:=by omega
 have i2:(5002:Int) < (body.size:Int):=by omega
 go_enter Tryz.func57,Tryz.ntmps57
 go_wp2
 go_ret2
 exact ⟨rfl,rfl⟩
def GH:Option (List UInt8)→Value
 | some p=>.tuple #[strB p,.bool true]
 | none=>.tuple #[strB [],.bool false]
theorem Py {sec non ext body:List UInt8} (h2:2≤body.length) (h5:body.length≤5002) (h:Zi sec non ext body=true):xr sec non ext body=some (zC sec non (Ip body)):=by
 have:=Ro sec non ext body
 rw [h,beq_iff_eq] at this
 unfold xr
 rw [if_pos ⟨h5,h2,this⟩]
 rfl
theorem Da {sec non ext body:List UInt8} (h:Zi sec non ext body=false):xr sec non ext body=none:=by
 have:=Ro sec non ext body
 rw [h] at this
 unfold xr
 rw [if_neg]
 rintro ⟨_,_,h3⟩
 have h4:(za sec non ext (zC sec non (Ip body)) == body)=true:=by rw [beq_iff_eq];exact h3
 rw [h4] at this
 cases this
theorem Yf (sec non ext body:List UInt8) (w:World) (h1:sec.length≤1000) (h2:non.length≤1000) (h3:ext.length≤5000) (hm:body.length≤maxLen) :
  Calls Tryz.prog 57 #[strB sec,strB non,strB ext,strB body] w fun e w'=>e=.returned (GH (xr sec non ext body))∧Below w.heap.size w w':=by
 have hz:=jM body
 have hd:∀ l:List UInt8,(⟨l.toArray⟩:ByteArray).data.toList=l:=fun l=>by simp
 by_cases hlo:body.length < 2
 ·refine (Dz ⟨sec.toArray⟩ ⟨non.toArray⟩ ⟨ext.toArray⟩ ⟨body.toArray⟩ w (by rw [hz];exact hlo)).mono ?_
  rintro e w' ⟨rfl,rfl⟩
  have:xr sec non ext body=none:=by unfold xr;rw [if_neg (by omega)]
  exact ⟨by rw [this];rfl,Below.refl _ _⟩
 by_cases hhi:5002 < body.length
 ·refine (MZ ⟨sec.toArray⟩ ⟨non.toArray⟩ ⟨ext.toArray⟩ ⟨body.toArray⟩ w (by rw [hz];exact hhi) (by rw [hz];exact hm)).mono ?_
  rintro e w' ⟨rfl,rfl⟩
  have:xr sec non ext body=none:=by unfold xr;rw [if_neg (by omega)]
  exact ⟨by rw [this];rfl,Below.refl _ _⟩
 cases ho:Zi sec non ext body with
 | true =>
  refine (Er ⟨sec.toArray⟩ ⟨non.toArray⟩ ⟨ext.toArray⟩ ⟨body.toArray⟩ w (by rw [hz];omega) (by rw [hz];omega) (by rw [jM];exact h1) (by rw [jM];exact h2) (by rw [jM];exact h3) (by simp only [hd];exact ho)).mono ?_
  rintro e w' ⟨rfl,hb⟩
  refine ⟨?_,hb⟩
  rw [Py (by omega) (by omega) ho]
  simp only [hd,GH]
 | false =>
  refine (SE ⟨sec.toArray⟩ ⟨non.toArray⟩ ⟨ext.toArray⟩ ⟨body.toArray⟩ w (by rw [hz];omega) (by rw [hz];omega) (by rw [jM];exact h1) (by rw [jM];exact h2) (by rw [jM];exact h3) (by simp only [hd];exact ho)).mono ?_
  rintro e w' ⟨rfl,hb⟩
  refine ⟨?_,hb⟩
  rw [Da ho]
  rfl
end
end Go.Proofs.YthhpbhpfagoapabGreat
