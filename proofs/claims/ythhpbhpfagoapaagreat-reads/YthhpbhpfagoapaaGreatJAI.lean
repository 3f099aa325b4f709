import Derived.Test.YthhpbhpfagoapaaGreatJAA
import Derived.Test.YthhpbhpfagoapaaGreatRTk
import Derived.Test.YthhpbhpfagoapaaGreatJAD
import Derived.Test.YthhpbhpfagoapaaGreatJAN
import Derived.Test.YthhpbhpfagoapaaGreatJAB
import Derived.Lib.Strings
namespace Go.Proofs.YthhpbhpfagoapaaGreat
set_option linter.unusedVariables false
set_option linter.unusedSimpArgs false
set_option maxRecDepth 100000
set_option maxHeartbeats 16000000
open Go.RowKit
section
def cnt (fl:List Bool):Nat:=(fl.filter fun b=>!b).length
theorem Nd (fl:List Bool):cnt fl≤fl.length:=bE _ _
theorem KL (fl:List Bool) (k:Nat) (h:k < fl.length):cnt (fl.take (k+1))=cnt (fl.take k)+(if fl[k]=true then 0 else 1):=by
 rw [ax h]
 unfold cnt
 rw [cu,ab]
 cases hb:fl[k]<;>simp
def GX (kind:Int) (l:List CellB):List UInt8:=if l=[] then [] else jJ kind l 3
theorem Jn {kind:Int} {l:List CellB} {rest q:List UInt8} (hl:l≠[]) (h:GX kind l++q=rest):∃ j c r,j < 3∧(c=byB ((QD kind j:Int) % 5)∧r=qy (QD kind j) l++q)∧rest=c :: r:=by
 unfold GX at h
 rw [aj hl] at h
 obtain ⟨j,hj,he⟩:=MJ kind l
 rw [he,zK] at h
 exact ⟨j,_,_,hj,⟨rfl,rfl⟩,h.symm⟩
theorem Xc {w w':World} {g B p:Nat} (h:BoxI w g B) (hg:w.grownBy w' (some p)) (hB:B < w.heap.size) (hne:B≠p):BoxI w' g B:=by
 have k:∀ j,w'.cell? ⟨B,j,none⟩=w.cell? ⟨B,j,none⟩:=fun j=>hg.cell_far ⟨B,j,none⟩ hB (by intro h;simp at h;exact hne h)
 obtain ⟨h0,h1,h2,h3,h4,h5,h6⟩:=h
 exact ⟨(k 0).trans h0,(k 1).trans h1,(k 2).trans h2,(k 3).trans h3,(k 4).trans h4,(k 5).trans h5,(k 6).trans h6⟩
theorem NumW.grown {w w':World} {g p:Nat} (h:NumW w g) (hg:w.grownBy w' (some p)) (hl:g < w.heap.size) (hne:g≠p):NumW w' g:=(hg.block g hl (by intro h;simp at h;exact hne h)).trans h
theorem TxtW.grown {w w':World} {g p:Nat} (h:TxtW w g) (hg:w.grownBy w' (some p)) (hl:g < w.heap.size) (hne:g≠p):TxtW w' g:=(hg.block g hl (by intro h;simp at h;exact hne h)).trans h
theorem xz {c:UInt8} {n:Nat} (h:c=byB (n:Int)) (hn:n≤255):(c.toNat:Int)=(n:Int):=by
 rw [h,xK _ (by omega) (by omega)]
theorem Ze {w:World} {base:Nat} {v:Value} {fl:List Bool} (h:w.ownsRow base 4 1 v fl.length (QO fl)):∃ a cap,v=.slice a fl.length cap∧(fl≠[]→∃ b,a=some ⟨b,0,none⟩∧b < w.heap.size∧∀ j (h:j < fl.length),w.cell? ⟨b,j,none⟩=some (.bool fl[j])):=by
 rcases h.2 with ⟨rfl,h0⟩|⟨g,cap,cur,rfl,_⟩
 ·exact ⟨none,0,by rw [h0],fun hne=>absurd (ao h0) hne⟩
 ·refine ⟨_,cap,rfl,fun _=>⟨g,rfl,(h.lt g rfl).2,fun j hj=>?_⟩⟩
  rw [h.cellAt j (by omega)]
  simp [QO,hj]
theorem Lr (g p:Nat) (fl:List Bool) (v:Value) (base:Nat) (s rest:List UInt8) (w:World) (hs:s.length≤maxLen) (hfl:fl.length≤60) (hp:qz w p s rest) (hv:w.ownsRow base 4 1 v fl.length (QO fl)) (hg:g < w.heap.size) (hw:NumW w g) (hgp:g≠p) :
  Calls Tryz.prog 210 #[numC g,.pointer (some ⟨p,0,none⟩),v] w (Xp 3 Xa (EE (cnt fl)) (GX 0) p s rest w):=by
 have Hs:=hid hs
 have Hp:=hid hp
 have Hw:=hid hw
 have hplt:=xp hp
 obtain ⟨a,cap,rfl,hsh⟩:=Ze hv
 have Hsh:=hid hsh
 clear hs hp hw hv hsh
 go_enter Tryz.func210,Tryz.ntmps210
 go_wp2
 obtain ⟨hb0,hs0,hc0⟩:=Jd w #[.slice (some ⟨g,0,none⟩) 3 3,fnV 187,fnV 188,fnV 189,fnV 190,fnV 191,fnV 192] 215
 have Hc:Hid (BoxI _ g w.heap.size):=⟨hc0 0,hc0 1,hc0 2,hc0 3,hc0 4,hc0 5,hc0 6⟩
 have Hp0:=hid (qK Hp.out hb0 hplt)
 have Hw0:=hid (Hw.out.later hg hb0)
 have Hb0:=hid hb0
 have hs1:=aI (aL w.heap.size) hs0.symm
 have hplt0:=aa hplt hb0.size
 have hg0:=aa hg hb0.size
 have hpne:w.heap.size≠p:=by omega
 have Hsh0:Hid (fl≠[]→∃ b,a=some ⟨b,0,none⟩∧∀ j (h:j < fl.length),(w.alloc (.cells #[.slice (some ⟨g,0,none⟩) 3 3,fnV 187,fnV 188,fnV 189,fnV 190,fnV 191,fnV 192] 215)).cell? ⟨b,j,none⟩=some (.bool fl[j])):=by
  intro hne
  obtain ⟨b,hb,hlt,hcell⟩:=Hsh.out hne
  exact ⟨b,hb,fun j hj=>(Hb0.out.cell (p:=⟨b,j,none⟩) hlt).trans (hcell j hj)⟩
 clear hc0 hb0 hs0
 generalize w.alloc _=w0 at *
 go_loopw [7,14] (fun c i wr=>∃ k:Nat,k≤fl.length∧i=.int .i64 (k:Int)∧c=.int .i64 (cnt (fl.take k):Int)∧wr=w0) (fun _ i _=>fl.length - (intOf i).toNat)
 case atStart=>exact ⟨0,ah _,rfl,rfl,rfl⟩
 case round =>
  obtain ⟨k,hk,rfl,rfl,rfl⟩:=hrel
  have hcl:=Nd (fl.take k)
  rw [aq] at hcl
  by_cases hlt:k < fl.length
  ·obtain ⟨b,rfl,hcell⟩:=Hsh0.out (ai (by omega))
   have hck:=hcell k hlt
   have HCS:=hid (KL fl k hlt)
   clear hcell
   cases hb:fl[k] with
   | true =>
    rw [hb] at hck HCS
    clear hb
    go_wp2
    go_roundw
    case rel=>exact ⟨k+1,by omega,by go_num,by rw [HCS.out];simp,trivial⟩
    case measure=>simp [intOf];omega
   | false =>
    rw [hb] at hck HCS
    clear hb
    go_wp2
    go_roundw
    case rel=>exact ⟨k+1,by omega,by go_num,by rw [HCS.out];simp,trivial⟩
    case measure=>simp [intOf];omega
  ·have hke:k=fl.length:=by omega
   subst hke
   rw [aF] at *
   obtain ⟨W0,rfl⟩:∃ W0,W0=wr:=⟨_,rfl⟩
   generalize hcc:cnt fl=count at *
   have Hcc:=hid hcc
   clear hcc
   have hcount:count≤60:=by omega
   by_cases hc0:count=0
   ·have hci:((count:Int) == 0)=true:=by simp [hc0]
    have Hc0:=hid hc0
    clear hc0
    go_wp2
    go_ret
    refine ⟨jH (jS w _) Hb0.out,.inr ⟨[],rest,_,⟨Hc0.out.symm,(fun c h=>Jf h)⟩,rfl,World.ownsRow_nil _ _ _ _,Hp0.out,fun l2 q hl2 h=>?_⟩⟩
    have e1:l2=[]:=ao (by rw [hl2.1];exact Hc0.out)
    subst e1
    exact ⟨rfl,h.symm⟩
   ·have hci:((count:Int) == 0)=false:=by rw [aQ];omega
    have hc1:1≤count:=by omega
    clear hc0
    go_wp2_with fail
    refine (XP p s rest _ Hs.out Hp0.out).mono ?_
    rintro e w2 ⟨hg2,⟨rfl,rfl⟩|⟨c,r1,rfl,rfl,hrd2⟩⟩
    ·go_wp2
     refine ⟨rfl,ja (jH (jS w _) Hb0.out) hg2,.inl ⟨rfl,fun l2 q hl2 h=>?_⟩⟩
     obtain ⟨_,_,_,_,_,e⟩:=Jn (kind:=0) (l:=l2) (q:=q) (by intro h0;rw [h0] at hl2;have:=hl2.1;simp at this;omega) h.symm
     cases e
    ·have hG2:=ja (jH (jS w (some p)) Hb0.out) hg2
     have HG2:=hid hG2
     have hbx2:=Xc Hc.out hg2 hs1 hpne
     have Hw2:=hid (Hw0.out.grown hg2 hg0 hgp)
     have hs2:=aa hs1 hg2.size
     have hgg2:=aa hg0 hg2.size
     have hp2:=xp hrd2
     have hct:=c.toNat_lt
     clear hg2 hG2
     have hx0:=jc (Obj.cells #[.int .u8 (c.toNat:Int)] 5) hbx2.1
     have Hbx2:=hid hbx2
     clear hbx2
     go_wp2_with fail
     have hbA:Below w2.heap.size w2 (w2.alloc (Obj.cells #[.int .u8 (c.toNat:Int)] 5)):=(Below.refl _ _).alloc (ae _) _
     refine (Bc g w2.heap.size (c.toNat:Int) _ (aa hgg2 hbA.size) (Hw2.out.later hgg2 hbA) (World.cell?_alloc_mark ..)).mono ?_
     rintro e w3 ⟨rfl,hb3⟩
     have hb3':Below w2.heap.size w2 w3:=zM hb3
     have hrd3:=qK hrd2 hb3' hp2
     have hG3:=jH HG2.out hb3'
     have Hbx3:=hid (zp Hbx2.out hb3' hs2)
     have Hw3:=hid (Hw2.out.later hgg2 hb3')
     have hs3:=aa hs2 hb3'.size
     clear hb3 hb3' hbA hx0 hrd2
     rcases (show (c.toNat=0∨c.toNat=1∨c.toNat=2)∨¬ (c.toNat=0∨c.toNat=1∨c.toNat=2) from Classical.em _) with (hc|hc|hc)|hc
     ·have hwa:QV (c.toNat:Int)=0:=by
       unfold QV
       rw [aw (by omega)]
      rw [hwa]
      clear hwa
      have f2:w3.cell? ⟨g,2,none⟩=some (fnV 182):=qc Hw3.out 2 rfl
      have HU:Hid (∀ l2 q,EE count l2→c :: r1=GX 0 l2++q→r1=qy 0 l2++q):=by
       intro l2 q hl2 h
       obtain ⟨j,c',r',hj,⟨e1,e2⟩,e3⟩:=Jn (kind:=0) (l:=l2) (q:=q) (by intro h0;rw [h0] at hl2;have:=hl2.1;simp at this;omega) h.symm
       simp only [aW] at e3
       obtain ⟨rfl,rfl⟩:=e3
       rcases (show j=0∨j=1∨j=2 by omega) with rfl|rfl|rfl
       ·have:=xz (n:=0) e1 (by decide);exact e2
       ·have:=xz (n:=1) e1 (by decide);omega
       ·have:=xz (n:=2) e1 (by decide);omega
      go_wp2_with fail
      refine (qd _).mono ?_
      rintro e wN ⟨rfl,rfl⟩
      go_wp2_with fail
      refine wp_region_held_drew (S:=fun w'=>w'.cell? ⟨g,2,none⟩=some (fnV 182)∧w'.cell? ⟨w.heap.size,0,none⟩=some (.slice (some ⟨g,0,none⟩) 3 3)∧w'.cell? ⟨w.heap.size,1,none⟩=some (fnV 187)∧w'.cell? ⟨w.heap.size,2,none⟩=some (fnV 188)∧w'.cell? ⟨w.heap.size,3,none⟩=some (fnV 189)∧w'.cell? ⟨w.heap.size,4,none⟩=some (fnV 190)∧w'.cell? ⟨w.heap.size,5,none⟩=some (fnV 191)∧w'.cell? ⟨w.heap.size,6,none⟩=some (fnV 192)) (by kernel_rfl) ⟨f2,Hbx3.out⟩ (fun hHeld=>?_)
      refine tk 0 (.pointer (some ⟨w.heap.size,0,none⟩)) ?_
      refine tk 1 (.slice (some ⟨g,0,none⟩) 3 3) ?_
      refine tk 2 (.int .i64 0) ?_
      refine tk 3 (.pointer (some ⟨g,0,none⟩)) ?_
      refine tk 4 (.pointer (some ⟨g,2,none⟩)) ?_
      refine tk 5 (fnV 182) ?_
      refine tk 6 (numC g) ?_
      refine tk 7 (.pointer (some ⟨p,0,none⟩)) ?_
      refine tk 8 (.int .i64 (count:Int)) ?_
      simp only [jA,jB,jC,Act.put,jD,jE,jF]
      refine rd 9 (fun K hK=>?_)
      simp only [jA,jB,jC]
      go_simp
      go_at_call 182
      refine (Cj g p count s r1 wN.drew Hs.out hcount (show qz wN.drew p s r1 from hrd3)).mono ?_
      rintro e w4 ⟨hg4,⟨rfl,hno⟩|⟨l,r4,v4,hl,rfl,hown4,hrd4,hu4⟩⟩
      ·exact ⟨rfl,ja hG3 (jz hg4),.inl ⟨rfl,fun l2 q hl2 h=>hno l2 q hl2 ((HU.out l2 q hl2 h).trans (aT (·++q) (Xx 0 (by decide) Nh l2 (fun i hi=>rfl)).symm.symm))⟩⟩
      ·have hg4':=jz hg4
       have HG4:=hid (ja hG3 hg4')
       have HS4:Hid (w4.cell? ⟨g,2,none⟩=some (fnV 182)∧BoxI w4 g w.heap.size):=⟨(hg4'.cell_far ⟨g,2,none⟩ (aG wN _ f2) (by intro h;simp at h;exact hgp h)).trans f2,Xc Hbx3.out hg4' hs3 hpne⟩
       have Hl:=hid hl
       have Hown4:=hid hown4
       have Hrd4:=hid hrd4
       have Hu4:=hid hu4
       clear hg4 hg4' hl hown4 hrd4 hu4
       try go_wp2_with fail
       refine hK.out _ _ HS4.out (fun hHeld=>?_)
       clear hK K
       try simp only [jA,jB,jC,Act.put,jD,jE,jF]
       refine rd 10 (fun K hK=>?_)
       simp only [jA,jB,jC]
       go_simp
       try go_wp2_with fail
       refine hK.out _ _ HS4.out (fun hHeld=>?_)
       clear hK K
       try simp only [jA,jB,jC,Act.put,jD,jE,jF]
       refine wpAnyH_done (by kernel_rfl) ?_ _
       clear hHeld
       go_wp2
       go_ret
       refine ⟨HG4.out,.inr ⟨l,r4,_,Hl.out,rfl,jw Hown4.out hG3.size,Hrd4.out,fun l2 q hl2 h=>Hu4.out l2 q hl2 ((HU.out l2 q hl2 h).trans (aT (·++q) (Xx 0 (by decide) Nh l2 (fun i hi=>rfl)).symm.symm))⟩⟩
     ·have hwa:QV (c.toNat:Int)=1:=by
       unfold QV
       rw [aj (by omega),aw (by omega)]
      rw [hwa]
      clear hwa
      have f2:w3.cell? ⟨g,5,none⟩=some (fnV 184):=qc Hw3.out 5 rfl
      have HU:Hid (∀ l2 q,EE count l2→c :: r1=GX 0 l2++q→r1=qy 1 l2++q):=by
       intro l2 q hl2 h
       obtain ⟨j,c',r',hj,⟨e1,e2⟩,e3⟩:=Jn (kind:=0) (l:=l2) (q:=q) (by intro h0;rw [h0] at hl2;have:=hl2.1;simp at this;omega) h.symm
       simp only [aW] at e3
       obtain ⟨rfl,rfl⟩:=e3
       rcases (show j=0∨j=1∨j=2 by omega) with rfl|rfl|rfl
       ·have:=xz (n:=0) e1 (by decide);omega
       ·have:=xz (n:=1) e1 (by decide);exact e2
       ·have:=xz (n:=2) e1 (by decide);omega
      go_wp2_with fail
      refine (qd _).mono ?_
      rintro e wN ⟨rfl,rfl⟩
      go_wp2_with fail
      refine wp_region_held_drew (S:=fun w'=>w'.cell? ⟨g,5,none⟩=some (fnV 184)∧w'.cell? ⟨w.heap.size,0,none⟩=some (.slice (some ⟨g,0,none⟩) 3 3)∧w'.cell? ⟨w.heap.size,1,none⟩=some (fnV 187)∧w'.cell? ⟨w.heap.size,2,none⟩=some (fnV 188)∧w'.cell? ⟨w.heap.size,3,none⟩=some (fnV 189)∧w'.cell? ⟨w.heap.size,4,none⟩=some (fnV 190)∧w'.cell? ⟨w.heap.size,5,none⟩=some (fnV 191)∧w'.cell? ⟨w.heap.size,6,none⟩=some (fnV 192)) (by kernel_rfl) ⟨f2,Hbx3.out⟩ (fun hHeld=>?_)
      refine tk 0 (.pointer (some ⟨w.heap.size,0,none⟩)) ?_
      refine tk 1 (.slice (some ⟨g,0,none⟩) 3 3) ?_
      refine tk 2 (.int .i64 1) ?_
      refine tk 3 (.pointer (some ⟨g,3,none⟩)) ?_
      refine tk 4 (.pointer (some ⟨g,5,none⟩)) ?_
      refine tk 5 (fnV 184) ?_
      refine tk 6 (numC g) ?_
      refine tk 7 (.pointer (some ⟨p,0,none⟩)) ?_
      refine tk 8 (.int .i64 (count:Int)) ?_
      simp only [jA,jB,jC,Act.put,jD,jE,jF]
      refine rd 9 (fun K hK=>?_)
      simp only [jA,jB,jC]
      go_simp
      go_at_call 184
      refine (Da g p count s r1 wN.drew Hs.out hcount (show qz wN.drew p s r1 from hrd3)).mono ?_
      rintro e w4 ⟨hg4,⟨rfl,hno⟩|⟨l,r4,v4,hl,rfl,hown4,hrd4,hu4⟩⟩
      ·exact ⟨rfl,ja hG3 (jz hg4),.inl ⟨rfl,fun l2 q hl2 h=>hno l2 q hl2 ((HU.out l2 q hl2 h).trans (aT (·++q) (Xx 1 (by decide) Nl l2 (fun i hi=>rfl)).symm.symm))⟩⟩
      ·have hg4':=jz hg4
       have HG4:=hid (ja hG3 hg4')
       have HS4:Hid (w4.cell? ⟨g,5,none⟩=some (fnV 184)∧BoxI w4 g w.heap.size):=⟨(hg4'.cell_far ⟨g,5,none⟩ (aG wN _ f2) (by intro h;simp at h;exact hgp h)).trans f2,Xc Hbx3.out hg4' hs3 hpne⟩
       have Hl:=hid hl
       have Hown4:=hid hown4
       have Hrd4:=hid hrd4
       have Hu4:=hid hu4
       clear hg4 hg4' hl hown4 hrd4 hu4
       try go_wp2_with fail
       refine hK.out _ _ HS4.out (fun hHeld=>?_)
       clear hK K
       try simp only [jA,jB,jC,Act.put,jD,jE,jF]
       refine rd 10 (fun K hK=>?_)
       simp only [jA,jB,jC]
       go_simp
       try go_wp2_with fail
       refine hK.out _ _ HS4.out (fun hHeld=>?_)
       clear hK K
       try simp only [jA,jB,jC,Act.put,jD,jE,jF]
       refine wpAnyH_done (by kernel_rfl) ?_ _
       clear hHeld
       go_wp2
       go_ret
       refine ⟨HG4.out,.inr ⟨l,r4,_,Hl.out,rfl,jw Hown4.out hG3.size,Hrd4.out,fun l2 q hl2 h=>Hu4.out l2 q hl2 ((HU.out l2 q hl2 h).trans (aT (·++q) (Xx 1 (by decide) Nl l2 (fun i hi=>rfl)).symm.symm))⟩⟩
     ·have hwa:QV (c.toNat:Int)=2:=by
       unfold QV
       rw [aj (by omega),aj (by omega),aw (by omega)]
      rw [hwa]
      clear hwa
      have f2:w3.cell? ⟨g,8,none⟩=some (fnV 186):=qc Hw3.out 8 rfl
      have HU:Hid (∀ l2 q,EE count l2→c :: r1=GX 0 l2++q→r1=qy 2 l2++q):=by
       intro l2 q hl2 h
       obtain ⟨j,c',r',hj,⟨e1,e2⟩,e3⟩:=Jn (kind:=0) (l:=l2) (q:=q) (by intro h0;rw [h0] at hl2;have:=hl2.1;simp at this;omega) h.symm
       simp only [aW] at e3
       obtain ⟨rfl,rfl⟩:=e3
       rcases (show j=0∨j=1∨j=2 by omega) with rfl|rfl|rfl
       ·have:=xz (n:=0) e1 (by decide);omega
       ·have:=xz (n:=1) e1 (by decide);omega
       ·have:=xz (n:=2) e1 (by decide);exact e2
      go_wp2_with fail
      refine (qd _).mono ?_
      rintro e wN ⟨rfl,rfl⟩
      go_wp2_with fail
      refine wp_region_held_drew (S:=fun w'=>w'.cell? ⟨g,8,none⟩=some (fnV 186)∧w'.cell? ⟨w.heap.size,0,none⟩=some (.slice (some ⟨g,0,none⟩) 3 3)∧w'.cell? ⟨w.heap.size,1,none⟩=some (fnV 187)∧w'.cell? ⟨w.heap.size,2,none⟩=some (fnV 188)∧w'.cell? ⟨w.heap.size,3,none⟩=some (fnV 189)∧w'.cell? ⟨w.heap.size,4,none⟩=some (fnV 190)∧w'.cell? ⟨w.heap.size,5,none⟩=some (fnV 191)∧w'.cell? ⟨w.heap.size,6,none⟩=some (fnV 192)) (by kernel_rfl) ⟨f2,Hbx3.out⟩ (fun hHeld=>?_)
      refine tk 0 (.pointer (some ⟨w.heap.size,0,none⟩)) ?_
      refine tk 1 (.slice (some ⟨g,0,none⟩) 3 3) ?_
      refine tk 2 (.int .i64 2) ?_
      refine tk 3 (.pointer (some ⟨g,6,none⟩)) ?_
      refine tk 4 (.pointer (some ⟨g,8,none⟩)) ?_
      refine tk 5 (fnV 186) ?_
      refine tk 6 (numC g) ?_
      refine tk 7 (.pointer (some ⟨p,0,none⟩)) ?_
      refine tk 8 (.int .i64 (count:Int)) ?_
      simp only [jA,jB,jC,Act.put,jD,jE,jF]
      refine rd 9 (fun K hK=>?_)
      simp only [jA,jB,jC]
      go_simp
      go_at_call 186
      refine (CO g p count s r1 wN.drew Hs.out hcount (show qz wN.drew p s r1 from hrd3)).mono ?_
      rintro e w4 ⟨hg4,⟨rfl,hno⟩|⟨l,r4,v4,hl,rfl,hown4,hrd4,hu4⟩⟩
      ·exact ⟨rfl,ja hG3 (jz hg4),.inl ⟨rfl,fun l2 q hl2 h=>hno l2 q hl2 ((HU.out l2 q hl2 h).trans (aT (·++q) (show js 2 l2 l2.length=qy 2 l2 by simp [qy]).symm))⟩⟩
      ·have hg4':=jz hg4
       have HG4:=hid (ja hG3 hg4')
       have HS4:Hid (w4.cell? ⟨g,8,none⟩=some (fnV 186)∧BoxI w4 g w.heap.size):=⟨(hg4'.cell_far ⟨g,8,none⟩ (aG wN _ f2) (by intro h;simp at h;exact hgp h)).trans f2,Xc Hbx3.out hg4' hs3 hpne⟩
       have Hl:=hid hl
       have Hown4:=hid hown4
       have Hrd4:=hid hrd4
       have Hu4:=hid hu4
       clear hg4 hg4' hl hown4 hrd4 hu4
       try go_wp2_with fail
       refine hK.out _ _ HS4.out (fun hHeld=>?_)
       clear hK K
       try simp only [jA,jB,jC,Act.put,jD,jE,jF]
       refine rd 10 (fun K hK=>?_)
       simp only [jA,jB,jC]
       go_simp
       try go_wp2_with fail
       refine hK.out _ _ HS4.out (fun hHeld=>?_)
       clear hK K
       try simp only [jA,jB,jC,Act.put,jD,jE,jF]
       refine wpAnyH_done (by kernel_rfl) ?_ _
       clear hHeld
       go_wp2
       go_ret
       refine ⟨HG4.out,.inr ⟨l,r4,_,Hl.out,rfl,jw Hown4.out hG3.size,Hrd4.out,fun l2 q hl2 h=>Hu4.out l2 q hl2 ((HU.out l2 q hl2 h).trans (aT (·++q) (show js 2 l2 l2.length=qy 2 l2 by simp [qy]).symm))⟩⟩
     ·have hwa:QV (c.toNat:Int)=-1:=by
       unfold QV
       rw [aj (by omega),aj (by omega),aj (by omega)]
      rw [hwa]
      go_wp2_with fail
      refine (qU _).mono ?_
      rintro e wN ⟨rfl,rfl⟩
      go_wp2
      refine ⟨rfl,hG3,.inl ⟨rfl,fun l2 q hl2 h=>?_⟩⟩
      obtain ⟨j,c',r',hj,⟨e1,e2⟩,e3⟩:=Jn (kind:=0) (l:=l2) (q:=q) (by intro h0;rw [h0] at hl2;have:=hl2.1;simp at this;omega) h.symm
      simp only [aW] at e3
      obtain ⟨rfl,rfl⟩:=e3
      rcases (show j=0∨j=1∨j=2 by omega) with rfl|rfl|rfl
      ·have:=xz (n:=0) e1 (by decide);omega
      ·have:=xz (n:=1) e1 (by decide);omega
      ·have:=xz (n:=2) e1 (by decide);omega
end
section
theorem Lj (g p:Nat) (fl:List Bool) (v:Value) (base:Nat) (s rest:List UInt8) (w:World) (hs:s.length≤maxLen) (hfl:fl.length≤60) (hp:qz w p s rest) (hv:w.ownsRow base 4 1 v fl.length (QO fl)) (hg:g < w.heap.size) (hw:TxtW w g) (hgp:g≠p) :
  Calls Tryz.prog 211 #[txtC g,.pointer (some ⟨p,0,none⟩),v] w (Xp 9 JI (IZ (cnt fl)) (GX 1) p s rest w):=by
 have Hs:=hid hs
 have Hp:=hid hp
 have Hw:=hid hw
 have hplt:=xp hp
 obtain ⟨a,cap,rfl,hsh⟩:=Ze hv
 have Hsh:=hid hsh
 clear hs hp hw hv hsh
 go_enter Tryz.func211,Tryz.ntmps211
 go_wp2
 obtain ⟨hb0,hs0,hc0⟩:=Jd w #[.slice (some ⟨g,0,none⟩) 3 3,fnV 202,fnV 203,fnV 204,fnV 205,fnV 206,fnV 207] 225
 have Hc:Hid (BoxT _ g w.heap.size):=⟨hc0 0,hc0 1,hc0 2,hc0 3,hc0 4,hc0 5,hc0 6⟩
 have Hp0:=hid (qK Hp.out hb0 hplt)
 have Hw0:=hid (Hw.out.later hg hb0)
 have Hb0:=hid hb0
 have hs1:=aI (aL w.heap.size) hs0.symm
 have hplt0:=aa hplt hb0.size
 have hg0:=aa hg hb0.size
 have hpne:w.heap.size≠p:=by omega
 have Hsh0:Hid (fl≠[]→∃ b,a=some ⟨b,0,none⟩∧∀ j (h:j < fl.length),(w.alloc (.cells #[.slice (some ⟨g,0,none⟩) 3 3,fnV 202,fnV 203,fnV 204,fnV 205,fnV 206,fnV 207] 225)).cell? ⟨b,j,none⟩=some (.bool fl[j])):=by
  intro hne
  obtain ⟨b,hb,hlt,hcell⟩:=Hsh.out hne
  exact ⟨b,hb,fun j hj=>(Hb0.out.cell (p:=⟨b,j,none⟩) hlt).trans (hcell j hj)⟩
 clear hc0 hb0 hs0
 generalize w.alloc _=w0 at *
 go_loopw [7,14] (fun c i wr=>∃ k:Nat,k≤fl.length∧i=.int .i64 (k:Int)∧c=.int .i64 (cnt (fl.take k):Int)∧wr=w0) (fun _ i _=>fl.length - (intOf i).toNat)
 case atStart=>exact ⟨0,ah _,rfl,rfl,rfl⟩
 case round =>
  obtain ⟨k,hk,rfl,rfl,rfl⟩:=hrel
  have hcl:=Nd (fl.take k)
  rw [aq] at hcl
  by_cases hlt:k < fl.length
  ·obtain ⟨b,rfl,hcell⟩:=Hsh0.out (ai (by omega))
   have hck:=hcell k hlt
   have HCS:=hid (KL fl k hlt)
   clear hcell
   cases hb:fl[k] with
   | true =>
    rw [hb] at hck HCS
    clear hb
    go_wp2
    go_roundw
    case rel=>exact ⟨k+1,by omega,by go_num,by rw [HCS.out];simp,trivial⟩
    case measure=>simp [intOf];omega
   | false =>
    rw [hb] at hck HCS
    clear hb
    go_wp2
    go_roundw
    case rel=>exact ⟨k+1,by omega,by go_num,by rw [HCS.out];simp,trivial⟩
    case measure=>simp [intOf];omega
  ·have hke:k=fl.length:=by omega
   subst hke
   rw [aF] at *
   obtain ⟨W0,rfl⟩:∃ W0,W0=wr:=⟨_,rfl⟩
   generalize hcc:cnt fl=count at *
   have Hcc:=hid hcc
   clear hcc
   have hcount:count≤60:=by omega
   by_cases hc0:count=0
   ·have hci:((count:Int) == 0)=true:=by simp [hc0]
    have Hc0:=hid hc0
    clear hc0
    go_wp2
    go_ret
    refine ⟨jH (jS w _) Hb0.out,.inr ⟨[],rest,_,⟨Hc0.out.symm,(fun c h=>Jf h)⟩,rfl,World.ownsRow_nil _ _ _ _,Hp0.out,fun l2 q hl2 h=>?_⟩⟩
    have e1:l2=[]:=ao (by rw [hl2.1];exact Hc0.out)
    subst e1
    exact ⟨rfl,h.symm⟩
   ·have hci:((count:Int) == 0)=false:=by rw [aQ];omega
    have hc1:1≤count:=by omega
    clear hc0
    go_wp2_with fail
    refine (XP p s rest _ Hs.out Hp0.out).mono ?_
    rintro e w2 ⟨hg2,⟨rfl,rfl⟩|⟨c,r1,rfl,rfl,hrd2⟩⟩
    ·go_wp2
     refine ⟨rfl,ja (jH (jS w _) Hb0.out) hg2,.inl ⟨rfl,fun l2 q hl2 h=>?_⟩⟩
     obtain ⟨_,_,_,_,_,e⟩:=Jn (kind:=1) (l:=l2) (q:=q) (by intro h0;rw [h0] at hl2;have:=hl2.1;simp at this;omega) h.symm
     cases e
    ·have hG2:=ja (jH (jS w (some p)) Hb0.out) hg2
     have HG2:=hid hG2
     have hbx2:=JM Hc.out hg2 hs1 hpne
     have Hw2:=hid (Hw0.out.grown hg2 hg0 hgp)
     have hs2:=aa hs1 hg2.size
     have hgg2:=aa hg0 hg2.size
     have hp2:=xp hrd2
     have hct:=c.toNat_lt
     clear hg2 hG2
     have hx0:=jc (Obj.cells #[.int .u8 (c.toNat:Int)] 5) hbx2.1
     have Hbx2:=hid hbx2
     clear hbx2
     go_wp2_with fail
     have hbA:Below w2.heap.size w2 (w2.alloc (Obj.cells #[.int .u8 (c.toNat:Int)] 5)):=(Below.refl _ _).alloc (ae _) _
     refine (LW g w2.heap.size (c.toNat:Int) _ (aa hgg2 hbA.size) (Hw2.out.later hgg2 hbA) (World.cell?_alloc_mark ..)).mono ?_
     rintro e w3 ⟨rfl,hb3⟩
     have hb3':Below w2.heap.size w2 w3:=zM hb3
     have hrd3:=qK hrd2 hb3' hp2
     have hG3:=jH HG2.out hb3'
     have Hbx3:=hid (xe Hbx2.out hb3' hs2)
     have Hw3:=hid (Hw2.out.later hgg2 hb3')
     have hs3:=aa hs2 hb3'.size
     clear hb3 hb3' hbA hx0 hrd2
     rcases (show (c.toNat=0∨c.toNat=3∨c.toNat=4)∨¬ (c.toNat=0∨c.toNat=3∨c.toNat=4) from Classical.em _) with (hc|hc|hc)|hc
     ·have hwa:Xb (c.toNat:Int)=0:=by
       unfold Xb
       rw [aw (by omega)]
      rw [hwa]
      clear hwa
      have f2:w3.cell? ⟨g,2,none⟩=some (fnV 197):=qc Hw3.out 2 rfl
      have HU:Hid (∀ l2 q,IZ count l2→c :: r1=GX 1 l2++q→r1=qy 5 l2++q):=by
       intro l2 q hl2 h
       obtain ⟨j,c',r',hj,⟨e1,e2⟩,e3⟩:=Jn (kind:=1) (l:=l2) (q:=q) (by intro h0;rw [h0] at hl2;have:=hl2.1;simp at this;omega) h.symm
       simp only [aW] at e3
       obtain ⟨rfl,rfl⟩:=e3
       rcases (show j=0∨j=1∨j=2 by omega) with rfl|rfl|rfl
       ·have:=xz (n:=0) e1 (by decide);exact e2
       ·have:=xz (n:=3) e1 (by decide);omega
       ·have:=xz (n:=4) e1 (by decide);omega
      go_wp2_with fail
      refine (qd _).mono ?_
      rintro e wN ⟨rfl,rfl⟩
      go_wp2_with fail
      refine wp_region_held_drew (S:=fun w'=>w'.cell? ⟨g,2,none⟩=some (fnV 197)∧w'.cell? ⟨w.heap.size,0,none⟩=some (.slice (some ⟨g,0,none⟩) 3 3)∧w'.cell? ⟨w.heap.size,1,none⟩=some (fnV 202)∧w'.cell? ⟨w.heap.size,2,none⟩=some (fnV 203)∧w'.cell? ⟨w.heap.size,3,none⟩=some (fnV 204)∧w'.cell? ⟨w.heap.size,4,none⟩=some (fnV 205)∧w'.cell? ⟨w.heap.size,5,none⟩=some (fnV 206)∧w'.cell? ⟨w.heap.size,6,none⟩=some (fnV 207)) (by kernel_rfl) ⟨f2,Hbx3.out⟩ (fun hHeld=>?_)
      refine tk 0 (.pointer (some ⟨w.heap.size,0,none⟩)) ?_
      refine tk 1 (.slice (some ⟨g,0,none⟩) 3 3) ?_
      refine tk 2 (.int .i64 0) ?_
      refine tk 3 (.pointer (some ⟨g,0,none⟩)) ?_
      refine tk 4 (.pointer (some ⟨g,2,none⟩)) ?_
      refine tk 5 (fnV 197) ?_
      refine tk 6 (txtC g) ?_
      refine tk 7 (.pointer (some ⟨p,0,none⟩)) ?_
      refine tk 8 (.int .i64 (count:Int)) ?_
      simp only [jA,jB,jC,Act.put,jD,jE,jF]
      refine rd 9 (fun K hK=>?_)
      simp only [jA,jB,jC]
      go_simp
      go_at_call 197
      refine (Yx g p count s r1 wN.drew Hs.out hcount (show qz wN.drew p s r1 from hrd3)).mono ?_
      rintro e w4 ⟨hg4,⟨rfl,hno⟩|⟨l,r4,v4,hl,rfl,hown4,hrd4,hu4⟩⟩
      ·exact ⟨rfl,ja hG3 (jz hg4),.inl ⟨rfl,fun l2 q hl2 h=>hno l2 q hl2 ((HU.out l2 q hl2 h).trans (aT (·++q) (Xx 5 (by decide) Zm l2 (fun i hi=>rfl)).symm.symm))⟩⟩
      ·have hg4':=jz hg4
       have HG4:=hid (ja hG3 hg4')
       have HS4:Hid (w4.cell? ⟨g,2,none⟩=some (fnV 197)∧BoxT w4 g w.heap.size):=⟨(hg4'.cell_far ⟨g,2,none⟩ (aG wN _ f2) (by intro h;simp at h;exact hgp h)).trans f2,JM Hbx3.out hg4' hs3 hpne⟩
       have Hl:=hid hl
       have Hown4:=hid hown4
       have Hrd4:=hid hrd4
       have Hu4:=hid hu4
       clear hg4 hg4' hl hown4 hrd4 hu4
       try go_wp2_with fail
       refine hK.out _ _ HS4.out (fun hHeld=>?_)
       clear hK K
       try simp only [jA,jB,jC,Act.put,jD,jE,jF]
       refine rd 10 (fun K hK=>?_)
       simp only [jA,jB,jC]
       go_simp
       try go_wp2_with fail
       refine hK.out _ _ HS4.out (fun hHeld=>?_)
       clear hK K
       try simp only [jA,jB,jC,Act.put,jD,jE,jF]
       refine wpAnyH_done (by kernel_rfl) ?_ _
       clear hHeld
       go_wp2
       go_ret
       refine ⟨HG4.out,.inr ⟨l,r4,_,Hl.out,rfl,jw Hown4.out hG3.size,Hrd4.out,fun l2 q hl2 h=>Hu4.out l2 q hl2 ((HU.out l2 q hl2 h).trans (aT (·++q) (Xx 5 (by decide) Zm l2 (fun i hi=>rfl)).symm.symm))⟩⟩
     ·have hwa:Xb (c.toNat:Int)=1:=by
       unfold Xb
       rw [aj (by omega),aw (by omega)]
      rw [hwa]
      clear hwa
      have f2:w3.cell? ⟨g,5,none⟩=some (fnV 199):=qc Hw3.out 5 rfl
      have HU:Hid (∀ l2 q,IZ count l2→c :: r1=GX 1 l2++q→r1=qy 3 l2++q):=by
       intro l2 q hl2 h
       obtain ⟨j,c',r',hj,⟨e1,e2⟩,e3⟩:=Jn (kind:=1) (l:=l2) (q:=q) (by intro h0;rw [h0] at hl2;have:=hl2.1;simp at this;omega) h.symm
       simp only [aW] at e3
       obtain ⟨rfl,rfl⟩:=e3
       rcases (show j=0∨j=1∨j=2 by omega) with rfl|rfl|rfl
       ·have:=xz (n:=0) e1 (by decide);omega
       ·have:=xz (n:=3) e1 (by decide);exact e2
       ·have:=xz (n:=4) e1 (by decide);omega
      go_wp2_with fail
      refine (qd _).mono ?_
      rintro e wN ⟨rfl,rfl⟩
      go_wp2_with fail
      refine wp_region_held_drew (S:=fun w'=>w'.cell? ⟨g,5,none⟩=some (fnV 199)∧w'.cell? ⟨w.heap.size,0,none⟩=some (.slice (some ⟨g,0,none⟩) 3 3)∧w'.cell? ⟨w.heap.size,1,none⟩=some (fnV 202)∧w'.cell? ⟨w.heap.size,2,none⟩=some (fnV 203)∧w'.cell? ⟨w.heap.size,3,none⟩=some (fnV 204)∧w'.cell? ⟨w.heap.size,4,none⟩=some (fnV 205)∧w'.cell? ⟨w.heap.size,5,none⟩=some (fnV 206)∧w'.cell? ⟨w.heap.size,6,none⟩=some (fnV 207)) (by kernel_rfl) ⟨f2,Hbx3.out⟩ (fun hHeld=>?_)
      refine tk 0 (.pointer (some ⟨w.heap.size,0,none⟩)) ?_
      refine tk 1 (.slice (some ⟨g,0,none⟩) 3 3) ?_
      refine tk 2 (.int .i64 1) ?_
      refine tk 3 (.pointer (some ⟨g,3,none⟩)) ?_
      refine tk 4 (.pointer (some ⟨g,5,none⟩)) ?_
      refine tk 5 (fnV 199) ?_
      refine tk 6 (txtC g) ?_
      refine tk 7 (.pointer (some ⟨p,0,none⟩)) ?_
      refine tk 8 (.int .i64 (count:Int)) ?_
      simp only [jA,jB,jC,Act.put,jD,jE,jF]
      refine rd 9 (fun K hK=>?_)
      simp only [jA,jB,jC]
      go_simp
      go_at_call 199
      refine (EY g p count s r1 wN.drew Hs.out hcount hc1 (show qz wN.drew p s r1 from hrd3)).mono ?_
      rintro e w4 ⟨hg4,⟨rfl,hno⟩|⟨l,r4,v4,hl,rfl,hown4,hrd4,hu4⟩⟩
      ·exact ⟨rfl,ja hG3 (jz hg4),.inl ⟨rfl,fun l2 q hl2 h=>hno l2 q hl2 ((HU.out l2 q hl2 h).trans (aT (·++q) rfl.symm))⟩⟩
      ·have hg4':=jz hg4
       have HG4:=hid (ja hG3 hg4')
       have HS4:Hid (w4.cell? ⟨g,5,none⟩=some (fnV 199)∧BoxT w4 g w.heap.size):=⟨(hg4'.cell_far ⟨g,5,none⟩ (aG wN _ f2) (by intro h;simp at h;exact hgp h)).trans f2,JM Hbx3.out hg4' hs3 hpne⟩
       have Hl:=hid hl
       have Hown4:=hid hown4
       have Hrd4:=hid hrd4
       have Hu4:=hid hu4
       clear hg4 hg4' hl hown4 hrd4 hu4
       try go_wp2_with fail
       refine hK.out _ _ HS4.out (fun hHeld=>?_)
       clear hK K
       try simp only [jA,jB,jC,Act.put,jD,jE,jF]
       refine rd 10 (fun K hK=>?_)
       simp only [jA,jB,jC]
       go_simp
       try go_wp2_with fail
       refine hK.out _ _ HS4.out (fun hHeld=>?_)
       clear hK K
       try simp only [jA,jB,jC,Act.put,jD,jE,jF]
       refine wpAnyH_done (by kernel_rfl) ?_ _
       clear hHeld
       go_wp2
       go_ret
       refine ⟨HG4.out,.inr ⟨l,r4,_,Hl.out,rfl,jw Hown4.out hG3.size,Hrd4.out,fun l2 q hl2 h=>Hu4.out l2 q hl2 ((HU.out l2 q hl2 h).trans (aT (·++q) rfl.symm))⟩⟩
     ·have hwa:Xb (c.toNat:Int)=2:=by
       unfold Xb
       rw [aj (by omega),aj (by omega),aw (by omega)]
      rw [hwa]
      clear hwa
      have f2:w3.cell? ⟨g,8,none⟩=some (fnV 201):=qc Hw3.out 8 rfl
      have HU:Hid (∀ l2 q,IZ count l2→c :: r1=GX 1 l2++q→r1=qy 4 l2++q):=by
       intro l2 q hl2 h
       obtain ⟨j,c',r',hj,⟨e1,e2⟩,e3⟩:=Jn (kind:=1) (l:=l2) (q:=q) (by intro h0;rw [h0] at hl2;have:=hl2.1;simp at this;omega) h.symm
       simp only [aW] at e3
       obtain ⟨rfl,rfl⟩:=e3
       rcases (show j=0∨j=1∨j=2 by omega) with rfl|rfl|rfl
       ·have:=xz (n:=0) e1 (by decide);omega
       ·have:=xz (n:=3) e1 (by decide);omega
       ·have:=xz (n:=4) e1 (by decide);exact e2
      go_wp2_with fail
      refine (qd _).mono ?_
      rintro e wN ⟨rfl,rfl⟩
      go_wp2_with fail
      refine wp_region_held_drew (S:=fun w'=>w'.cell? ⟨g,8,none⟩=some (fnV 201)∧w'.cell? ⟨w.heap.size,0,none⟩=some (.slice (some ⟨g,0,none⟩) 3 3)∧w'.cell? ⟨w.heap.size,1,none⟩=some (fnV 202)∧w'.cell? ⟨w.heap.size,2,none⟩=some (fnV 203)∧w'.cell? ⟨w.heap.size,3,none⟩=some (fnV 204)∧w'.cell? ⟨w.heap.size,4,none⟩=some (fnV 205)∧w'.cell? ⟨w.heap.size,5,none⟩=some (fnV 206)∧w'.cell? ⟨w.heap.size,6,none⟩=some (fnV 207)) (by kernel_rfl) ⟨f2,Hbx3.out⟩ (fun hHeld=>?_)
      refine tk 0 (.pointer (some ⟨w.heap.size,0,none⟩)) ?_
      refine tk 1 (.slice (some ⟨g,0,none⟩) 3 3) ?_
      refine tk 2 (.int .i64 2) ?_
      refine tk 3 (.pointer (some ⟨g,6,none⟩)) ?_
      refine tk 4 (.pointer (some ⟨g,8,none⟩)) ?_
      refine tk 5 (fnV 201) ?_
      refine tk 6 (txtC g) ?_
      refine tk 7 (.pointer (some ⟨p,0,none⟩)) ?_
      refine tk 8 (.int .i64 (count:Int)) ?_
      simp only [jA,jB,jC,Act.put,jD,jE,jF]
      refine rd 9 (fun K hK=>?_)
      simp only [jA,jB,jC]
      go_simp
      go_at_call 201
      refine (DC g p count s r1 wN.drew Hs.out hcount (show qz wN.drew p s r1 from hrd3)).mono ?_
      rintro e w4 ⟨hg4,⟨rfl,hno⟩|⟨l,r4,v4,hl,rfl,hown4,hrd4,hu4⟩⟩
      ·exact ⟨rfl,ja hG3 (jz hg4),.inl ⟨rfl,fun l2 q hl2 h=>hno l2 q hl2 ((HU.out l2 q hl2 h).trans (aT (·++q) (Xx 4 (by decide) Ug l2 (fun i hi=>by simp only [qN,Ug,Rx,ZS])).symm.symm))⟩⟩
      ·have hg4':=jz hg4
       have HG4:=hid (ja hG3 hg4')
       have HS4:Hid (w4.cell? ⟨g,8,none⟩=some (fnV 201)∧BoxT w4 g w.heap.size):=⟨(hg4'.cell_far ⟨g,8,none⟩ (aG wN _ f2) (by intro h;simp at h;exact hgp h)).trans f2,JM Hbx3.out hg4' hs3 hpne⟩
       have Hl:=hid hl
       have Hown4:=hid hown4
       have Hrd4:=hid hrd4
       have Hu4:=hid hu4
       clear hg4 hg4' hl hown4 hrd4 hu4
       try go_wp2_with fail
       refine hK.out _ _ HS4.out (fun hHeld=>?_)
       clear hK K
       try simp only [jA,jB,jC,Act.put,jD,jE,jF]
       refine rd 10 (fun K hK=>?_)
       simp only [jA,jB,jC]
       go_simp
       try go_wp2_with fail
       refine hK.out _ _ HS4.out (fun hHeld=>?_)
       clear hK K
       try simp only [jA,jB,jC,Act.put,jD,jE,jF]
       refine wpAnyH_done (by kernel_rfl) ?_ _
       clear hHeld
       go_wp2
       go_ret
       refine ⟨HG4.out,.inr ⟨l,r4,_,Hl.out,rfl,jw Hown4.out hG3.size,Hrd4.out,fun l2 q hl2 h=>Hu4.out l2 q hl2 ((HU.out l2 q hl2 h).trans (aT (·++q) (Xx 4 (by decide) Ug l2 (fun i hi=>by simp only [qN,Ug,Rx,ZS])).symm.symm))⟩⟩
     ·have hwa:Xb (c.toNat:Int)=-1:=by
       unfold Xb
       rw [aj (by omega),aj (by omega),aj (by omega)]
      rw [hwa]
      go_wp2_with fail
      refine (qU _).mono ?_
      rintro e wN ⟨rfl,rfl⟩
      go_wp2
      refine ⟨rfl,hG3,.inl ⟨rfl,fun l2 q hl2 h=>?_⟩⟩
      obtain ⟨j,c',r',hj,⟨e1,e2⟩,e3⟩:=Jn (kind:=1) (l:=l2) (q:=q) (by intro h0;rw [h0] at hl2;have:=hl2.1;simp at this;omega) h.symm
      simp only [aW] at e3
      obtain ⟨rfl,rfl⟩:=e3
      rcases (show j=0∨j=1∨j=2 by omega) with rfl|rfl|rfl
      ·have:=xz (n:=0) e1 (by decide);omega
      ·have:=xz (n:=3) e1 (by decide);omega
      ·have:=xz (n:=4) e1 (by decide);omega
end
section
def Ep (w:World) (v:Value):Option (List CellB)→Prop
 | none=>∃ a cap,v=.slice a 0 cap
 | some l=>∃ a cap,v=.slice a l.length cap∧Lies w a l
end
section
def UQ (body:List UInt8):List UInt8:=body.take (body.length - 2)
def SS (body:List UInt8):List UInt8:=body.drop (body.length - 2)
def Zv (sec non ext body:List UInt8):Bool:=SS body == RO sec non ext (UQ body)
theorem IV (sec non ext c:List UInt8):XU sec non ext (zw sec non c)=c++RO sec non ext c:=by
 unfold XU
 rw [ET]
theorem Kf (sec non ext body:List UInt8):(XU sec non ext (zw sec non (UQ body)) == body)=Zv sec non ext body:=by
 rw [IV]
 have h:body=UQ body++SS body:=(aD _ _).symm
 unfold Zv
 rw [Bool.eq_iff_iff]
 simp only [cI]
 constructor
 ·intro e
  have:=e.trans h
  exact (cE this).symm
 ·intro e
  rw [← e];exact h.symm
theorem Az (sec non ext body:ByteArray) (w:World) (h:body.size < 2) :
  Calls Tryz.prog 180 #[.string sec,.string non,.string ext,.string body] w fun e w' =>
   e=.returned (.tuple #[strB [],.bool false])∧w'=w:=by
 go_enter Tryz.func180,Tryz.ntmps180
 go_wp2
 go_ret2
 exact ⟨rfl,rfl⟩
theorem Ar (b:ByteArray):b.toList=b.data.toList:=ByteArray.toList_eq b
theorem NK (b:ByteArray):b.data.toList.length=b.size:=by simp
theorem Mu (body:ByteArray):(body.extract 0 (body.size - 2)).data.toList=UQ body.data.toList:=by
 simp [UQ]
theorem IW (body:ByteArray) (hb:body.size≤5002):(body.extract 0 (body.size - 2)).size≤5000:=by
 simp;omega
theorem TZ (sec non ext:List UInt8) (body:ByteArray) (h:2≤body.size) :
  (!(body.extract ((body.size:Int) - 2).toNat body.size).toList == RO sec non ext (List.take (body.size - 2) body.data.toList))=!Zv sec non ext body.data.toList:=by
 have e1:((body.size:Int) - 2).toNat=body.size - 2:=by omega
 have e2:(body.extract (body.size - 2) body.size).toList=SS body.data.toList:=by
  unfold SS
  rw [NK,Lib.extract_toList,aC (by rw [an,NK];omega)]
 rw [e1,e2]
 rfl
theorem CT (sec non ext body:ByteArray) (w:World) (h:2≤body.size) (hb:body.size≤5002) (h1:sec.size≤1000) (h2:non.size≤1000) (h3:ext.size≤5000)
  (ho:Zv sec.data.toList non.data.toList ext.data.toList body.data.toList=true) :
  Calls Tryz.prog 180 #[.string sec,.string non,.string ext,.string body] w fun e w' =>
   e=.returned (.tuple #[strB (zw sec.data.toList non.data.toList (UQ body.data.toList)),.bool true])∧Below w.heap.size w w':=by
 have hm:(1000:Nat)≤maxLen:=by decide
 have i1:(2:Int)≤(body.size:Int):=by omega
 have i2:(body.size:Int) - 2≤(body.size:Int):=by omega
 have i3:(0:Int)≤(body.size:Int) - 2:=by omega
 have hcmp:=TZ sec.data.toList non.data.toList ext.data.toList body h
 rw [ho] at hcmp
 clear ho
 go_enter Tryz.func180,Tryz.ntmps180
 go_wp2_with fail
 go_region_with (go_at_call 239;refine (MO sec non ext _ _ (ar h1 hm) (ar h2 hm) h3 ?_).mono ?_;(simp;unfold maxLen;omega);rintro e w1 ⟨rfl,hb1⟩)
 all_goals
  go_wp2_with fail
  refine (Sc sec non _ _ (ar h1 hm) (ar h2 hm) (IW body hb)).mono ?_
  rintro e w2 ⟨rfl,hb2⟩
  rw [Mu]
  go_wp2
  go_ret2
  exact ⟨rfl,(ji hb1).trans (hb2.mono hb1.size)⟩
theorem PV (sec non ext body:ByteArray) (w:World) (h:2≤body.size) (hb:body.size≤5002) (h1:sec.size≤1000) (h2:non.size≤1000) (h3:ext.size≤5000)
  (ho:Zv sec.data.toList non.data.toList ext.data.toList body.data.toList=false) :
  Calls Tryz.prog 180 #[.string sec,.string non,.string ext,.string body] w fun e w' =>
   e=.returned (.tuple #[strB [],.bool false])∧Below w.heap.size w w':=by
 have hm:(1000:Nat)≤maxLen:=by decide
 have i1:(2:Int)≤(body.size:Int):=by omega
 have i2:(body.size:Int) - 2≤(body.size:Int):=by omega
 have i3:(0:Int)≤(body.size:Int) - 2:=by omega
 have hcmp:=TZ sec.data.toList non.data.toList ext.data.toList body h
 rw [ho] at hcmp
 clear ho
 go_enter Tryz.func180,Tryz.ntmps180
 go_wp2_with fail
 go_region_with (go_at_call 239;refine (MO sec non ext _ _ (ar h1 hm) (ar h2 hm) h3 ?_).mono ?_;(simp;unfold maxLen;omega);rintro e w1 ⟨rfl,hb1⟩)
 all_goals
  go_wp2
  go_ret2
  exact ⟨rfl,ji hb1⟩
theorem RK (sec non ext body:ByteArray) (w:World) (h:body.size < 2) :
  Calls Tryz.prog 120 #[.string sec,.string non,.string ext,.string body] w fun e w' =>
   e=.returned (.tuple #[strB [],.bool false])∧w'=w:=by
 go_enter Tryz.func120,Tryz.ntmps120
 go_wp2
 go_ret2
 exact ⟨rfl,rfl⟩
theorem Sf (body:List UInt8):(UQ body).length=body.length - 2:=by simp [UQ]
theorem IH (sec non ext body:ByteArray) (w:World) (h:2≤body.size) (hb:body.size≤5002) (h1:sec.size≤1000) (h2:non.size≤1000) (h3:ext.size≤5000) :
  Calls Tryz.prog 120 #[.string sec,.string non,.string ext,.string body] w fun e w' =>
   e=.returned (.tuple #[strB (zw sec.data.toList non.data.toList (UQ body.data.toList)),.bool (Zv sec.data.toList non.data.toList ext.data.toList body.data.toList)])∧Below w.heap.size w w':=by
 have i1:(2:Int)≤(body.size:Int):=by omega
 have i2:(body.size:Int) - 2≤(body.size:Int):=by omega
 have i3:(0:Int)≤(body.size:Int) - 2:=by omega
 have HO:=hid (Kf sec.data.toList non.data.toList ext.data.toList body.data.toList)
 have hl:(zw sec.data.toList non.data.toList (UQ body.data.toList)).length≤5000:=by rw [zP,Sf,NK];omega
 go_enter Tryz.func120,Tryz.ntmps120
 go_wp2_with fail
 refine (Gs sec non _ _ h1 h2 (IW body hb)).mono ?_
 rintro e w1 ⟨rfl,hb1⟩
 rw [Mu]
 generalize hp:zw sec.data.toList non.data.toList (UQ body.data.toList)=plain at *
 have HP:=hid hp
 clear hp
 go_wp2_with fail
 refine (Ik sec non ext ⟨plain.toArray⟩ _ h1 h2 h3 (by rw [jR];exact hl)).mono ?_
 rintro e w2 ⟨rfl,hb2⟩
 have e0:(⟨plain.toArray⟩:ByteArray).data.toList=plain:=by simp
 rw [e0]
 clear e0
 generalize hq:XU sec.data.toList non.data.toList ext.data.toList plain=bd at *
 have HQ:=hid hq
 clear hq
 go_wp2
 go_ret2
 refine ⟨?_,hb1.trans (hb2.mono hb1.size)⟩
 show Ending.returned (.tuple #[strB plain,.bool (bd == body.toList)])=_
 rw [HP.out,← HO.out,Ar]
end
end Go.Proofs.YthhpbhpfagoapaaGreat
