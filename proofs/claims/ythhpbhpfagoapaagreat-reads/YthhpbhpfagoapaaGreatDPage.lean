import Derived.Test.YthhpbhpfagoapaaGreatJAA
import Derived.Test.YthhpbhpfagoapaaGreatDShortI
import Derived.Test.YthhpbhpfagoapaaGreatDShortT
namespace Go.Proofs.YthhpbhpfagoapaaGreat
set_option linter.unusedVariables false
set_option linter.unusedSimpArgs false
set_option maxRecDepth 100000
set_option maxHeartbeats 16000000
open Go.RowKit
theorem Tryz.infoInt:(Tryz.prog.info? 3).map (fun i=>(i.zero,i.size,i.bytes))=some (some (.int .i64 0),1,8):=by kernel_rfl
theorem Bz (c:CellB) (w:World) :
  Calls Tryz.prog 187 #[cellV c] w fun e w'=>e=.returned (.int .i64 c.int)∧Below w.heap.size w w':=by
 go_enter Tryz.func187,Tryz.ntmps187
 go_wp2
 go_ret
 exact ⟨rfl,(Below.refl _ _).alloc (ae _) _⟩
theorem Bu (c:CellB) (w:World) :
  Calls Tryz.prog 202 #[cellV c] w fun e w'=>e=.returned (strB c.text)∧Below w.heap.size w w':=by
 go_enter Tryz.func202,Tryz.ntmps202
 go_wp2
 go_ret
 exact ⟨rfl,(Below.refl _ _).alloc (ae _) _⟩
def Xa (l:List CellB):List Value:=l.map fun c=>.int .i64 c.int
def JI (l:List CellB):List Value:=zJ (XV l)
theorem Zq (l:List CellB):(je l).length≤l.length:=bE _ _
theorem JW (l:List CellB) (k:Nat) (h:k < l.length):je (l.take (k+1))=je (l.take k)++(if (l[k]).null=true then [] else [l[k]]):=by
 rw [ax h]
 unfold je
 rw [cu]
 congr 1
 cases hn:(l[k]).null<;>simp [hn]
theorem Rw {w:World} {base n:Nat} {v:Value} {xs:List Value} (h:w.ownsRow base 3 1 v n xs) (w':World) :
  Sem.run Tryz.prog (Builtin.len_ #[82] 3 #[v]) w'=.ok (.int .i64 (n:Int)) w':=by
 rcases h.2 with ⟨rfl,rfl⟩|⟨g,cap,cur,rfl,_⟩
 ·exact run_len_slice (P:=Tryz.prog) w' 82 3 _ _ _ (by rw [Tryz.underlying82];rfl)
 ·exact run_len_slice (P:=Tryz.prog) w' 82 3 _ _ _ (by rw [Tryz.underlying82];rfl)
theorem CW {w:World} {base n:Nat} {v:Value} {xs:List Value} (h:w.ownsRow base 9 1 v n xs) (w':World) :
  Sem.run Tryz.prog (Builtin.len_ #[71] 3 #[v]) w'=.ok (.int .i64 (n:Int)) w':=El h w'
theorem Ad {w:World} {base n:Nat} {v:Value} {D:List CellB} (h:w.ownsRow base 3 1 v n (Xa D)) (hD:D≠[]):∃ b cap,v=.slice (some ⟨b,0,none⟩) D.length cap∧IntsLie w b D:=by
 have hl:D.length=n:=by simpa [Xa] using h.1
 rcases h.2 with ⟨rfl,rfl⟩|⟨g,cap,cur,rfl,_⟩
 ·exact absurd (ao hl) hD
 ·refine ⟨g,cap,by rw [hl],(h.lt g rfl).2,fun j hj=>?_⟩
  rw [h.cellAt j (by omega)]
  simp [Xa,hj]
theorem Cf {w:World} {base n:Nat} {v:Value} {D:List CellB} (h:w.ownsRow base 9 1 v n (JI D)) (hD:D≠[]):∃ b cap,v=.slice (some ⟨b,0,none⟩) D.length cap∧TextsLie w b D:=Gf h hD
theorem BP (g:Nat) (a:Option Addr) (cap:Nat) (l:List CellB) (w:World) (hn:l.length≤60) (hsm:∀ c ∈ l,qr c) (hl:Lies w a l) (hg:g < w.heap.size) (hw:NumW w g) :
  Calls Tryz.prog 126 #[numC g,.slice a l.length cap] w fun e w'=>e=.returned (strB (xq 0 l))∧Below w.heap.size w w':=by
 obtain ⟨i0,hi,hz0,hz1,hz2⟩:=info_parts Tryz.infoInt
 have Hsm:=hid hsm
 have Hl:=hid hl
 have Hw:=hid hw
 have hni:(l.length:Int)≤60:=by omega
 clear hsm hl hw
 go_enter Tryz.func126,Tryz.ntmps126
 go_wp2
 obtain ⟨hb0,hs0,hc0⟩:=Jd w #[.slice (some ⟨g,0,none⟩) 3 3,fnV 187,fnV 188,fnV 189,fnV 190,fnV 191,fnV 192] 215
 have Hc:Hid (BoxI _ g w.heap.size):=⟨hc0 0,hc0 1,hc0 2,hc0 3,hc0 4,hc0 5,hc0 6⟩
 have Hl0:=hid (Hl.out.later hb0)
 have Hw0:=hid (Hw.out.later hg hb0)
 have Hb0:=hid hb0
 have hs1:=aI (aL w.heap.size) hs0.symm
 have hg0:=aa hg hb0.size
 clear hc0 hb0 hs0
 generalize w.alloc _=w0 at *
 go_loopw [5,10] (fun v i wr=>∃ k:Nat,k≤l.length∧i=.int .i64 (k:Int)∧wr.ownsRow w0.heap.size 3 1 v (je (l.take k)).length (Xa (je (l.take k)))∧Below w0.heap.size w0 wr)
  (fun _ i _=>l.length - (intOf i).toNat)
 case atStart=>exact ⟨0,ah _,rfl,World.ownsRow_nil _ _ _ _,Below.refl _ _⟩
 case round =>
  obtain ⟨k,hkl,rfl,hown,hB⟩:=hrel
  have hvl:=Zq (l.take k)
  rw [aq] at hvl
  by_cases hlt:k < l.length
  ·obtain ⟨b,off,rfl,hbw,hcell⟩:=(Hl0.out.later hB).at_ (ai (by omega))
   obtain ⟨g1,g2,g3⟩:=hcell k hlt
   clear hcell
   have hcf:=(hB.cell (p:=⟨w.heap.size,1,none⟩) hs1).trans Hc.out.2.1
   have hwr:w.heap.size < wr.heap.size:=aa hs1 hB.size
   cases hnl:(l[k]).null with
   | true =>
    have HV:Hid (je (l.take (k+1))=je (l.take k)):=by
     show je (l.take (k+1))=_
     rw [JW l k hlt,hnl];simp
    rw [hnl] at g1
    clear hnl
    have HOw:=hid (hown.alloc (Obj.cells #[.bool true,.int .i64 (l[k]).int,strB (l[k]).text] 58))
    have HB1:=hid (hB.alloc hB.size (Obj.cells #[.bool true,.int .i64 (l[k]).int,strB (l[k]).text] 58))
    clear hown hB
    go_wp2
    go_roundw
    case rel=>exact ⟨k+1,by omega,by go_num,by rw [HV.out];exact HOw.out,HB1.out⟩
    case measure=>simp [intOf];omega
   | false =>
    have HV:Hid (je (l.take (k+1))=je (l.take k)++[l[k]]):=by
     show je (l.take (k+1))=_
     rw [JW l k hlt,hnl];simp
    rw [hnl] at g1
    clear hnl
    generalize je (l.take k)=V at *
    have hown1:=hown.alloc (Obj.cells #[.bool false,.int .i64 (l[k]).int,strB (l[k]).text] 58)
    have hB1:=hB.alloc hB.size (Obj.cells #[.bool false,.int .i64 (l[k]).int,strB (l[k]).text] 58)
    have hcf1:=jc (Obj.cells #[.bool false,.int .i64 (l[k]).int,strB (l[k]).text] 58) hcf
    clear hown hB
    go_wp2_with fail
    refine (Bz ⟨false,(l[k]).int,(l[k]).text⟩ _).mono ?_
    rintro e w2 ⟨rfl,hb2⟩
    have hown2:=jL hown1 hb2
    have hB2:=hB1.trans (hb2.mono hB1.size)
    clear hown1 hb2 hB1 g1 g2 g3 hcf hcf1
    go_wp2_with (at_builtin;refine wpList_append_own _ rfl (.tmp 17) (.tmp 22) 82 rfl w0.heap.size 3 i0 (.int .i64 0) 1 8 Tryz.underlying82 hi hz0 hz1 hz2 rfl (by decide) _ _ _ rfl (hown2.alloc _) ⟨_,0,none⟩ 1 1 [.int .i64 (l[k]).int] rfl rfl ?c1 ?c2 ?c3 ?c4 ?c5 ?_)
    case c1=>exact qq w2 #[.int .i64 (l[k]).int] 3
    case c2=>intro u hu;simp at hu;subst hu;rfl
    case c3=>unfold maxLen;omega
    case c4=>omega
    case c5=>have:=hB2.size;simp;omega
    intro v3 w3 hown3 hgr3 _
    have HO3:=hid hown3
    have HB3:=hid ((hB2.alloc hB2.size _).grown hgr3 (by have:=hB2.size;simp;omega) (fun k hk=>(hown2.lt k hk).1))
    clear hown2 hown3 hgr3 hB2
    go_wp2
    go_roundw
    case rel=>exact ⟨k+1,by omega,by go_num,by rw [HV.out,show (V++[l[k]]).length=V.length+1 by simp,show Xa (V++[l[k]])=Xa V++[.int .i64 (l[k]).int] by simp [Xa]];exact HO3.out,HB3.out⟩
    case measure=>simp [intOf];omega
  ·have hke:k=l.length:=by omega
   subst hke
   rw [aF] at hown hvl
   have hln:=Rw hown
   have Hlr:=hid (Hl0.out.later hB)
   by_cases hv0:je l=[]
   ·have HP:Hid (xq 0 l=zC l):=by
     show xq 0 l=_
     rw [xq,aw hv0]
    have hv1:(je l).length=0:=by rw [hv0];rfl
    rw [hv1] at hln
    have hln2:=hln wr
    clear hln hv0 hv1 hown
    go_wp2_with fail
    refine (UX a cap l _ hn Hlr.out).mono ?_
    rintro e w2 ⟨rfl,hb2⟩
    go_wp2
    go_ret
    have hz:=Hb0.out.size
    have hBB:=Hb0.out.trans (hB.mono hz)
    exact ⟨qC HP.out.symm,hBB.trans (hb2.mono hBB.size)⟩
   ·have HP:Hid (zC l++jJ 0 (je l) 3=xq 0 l):=by
     show _=xq 0 l
     rw [xq,aj hv0]
    have hln2:=hln wr
    have hvp:(((je l).length:Int) == 0)=false:=by
     have:=b9.2 hv0
     simp;omega
    have HSm:Hid (Small (je l)):=⟨fun c hc=>Hsm.out c (bJ.1 hc).1,by omega,hv0⟩
    obtain ⟨bv,cv,rfl,hvl2⟩:=Ad hown hv0
    have Hvl:=hid hvl2
    have hbx:=zp Hc.out hB hs1
    have Hbx:=hid hbx
    have hwr:w.heap.size < wr.heap.size:=aa hs1 hB.size
    have hgr:g < wr.heap.size:=aa hg0 hB.size
    have Hwr:=hid (Hw0.out.later hg0 hB)
    have hh:=XC l hn
    have hbt:=XX 0 (je l) HSm.out.small HSm.out.few 3
    have HU:Hid (∀ w',Lies w' a l→Calls Tryz.prog 193 #[.slice a l.length cap] w' fun e w2=>e=.returned (strB (zC l))∧Below w'.heap.size w' w2):=fun w' h=>UX a cap l w' hn h
    have HE:Hid (∀ w',IntsLie w' bv (je l)→g < w'.heap.size→NumW w' g→Calls Tryz.prog 195 #[numC g,.slice (some ⟨bv,0,none⟩) (je l).length cv] w' fun e w2=>e=.returned (strB (jJ 0 (je l) 3))∧Below w'.heap.size w' w2):=fun w' h h1 h2=>LQ g bv cv (je l) w' HSm.out h h1 h2
    clear hln hv0 hown hvl2 HSm
    generalize zC l=H at *
    generalize jJ 0 (je l) 3=S3 at *
    generalize (je l)=V at *
    obtain ⟨x0,x1,x2,x3,x4,x5,x6⟩:=hbx
    go_wp2_with fail
    go_region_held3 (fun w'=>w'.cell? ⟨w.heap.size,0,none⟩=some (.slice (some ⟨g,0,none⟩) 3 3)∧w'.cell? ⟨w.heap.size,1,none⟩=some (fnV 187)∧w'.cell? ⟨w.heap.size,2,none⟩=some (fnV 188)∧w'.cell? ⟨w.heap.size,3,none⟩=some (fnV 189)∧w'.cell? ⟨w.heap.size,4,none⟩=some (fnV 190)∧w'.cell? ⟨w.heap.size,5,none⟩=some (fnV 191)∧w'.cell? ⟨w.heap.size,6,none⟩=some (fnV 192))
     (first|exact NP _ X4|exact X6|exact X4|exact X3|exact Hbx.out)
     (first
      | (go_at_call 193;refine (HU.out _ (Hlr.out.later (Qi _))).mono ?_;rintro e w3 ⟨rfl,hb3⟩;have hb3':=ji hb3;have X3:=zp Hbx.out hb3' hwr)
      | (go_at_call 195;refine (HE.out _ (Hvl.out.later hb3') (aa hgr hb3'.size) (Hwr.out.later hgr hb3')).mono ?_;rintro e w4 ⟨rfl,hb4⟩;have X4:=zp X3 hb4 (aa hwr hb3'.size))
      | (go_at_call 194;refine (Xy [H,S3] #[strB H,strB S3] 2 _ _ ?_ rfl rfl ?_ ?_).mono ?_;(first|rfl|simp);decide;(simp;omega);rintro e w6 ⟨rfl,hb6⟩;have X6:=zp X4 hb6 (aa hwr (ar hb3'.size hb4.size))))
    have hz:=Hb0.out.size
    have hBB:=Hb0.out.trans (hB.mono hz)
    have hB3:=hBB.trans (hb3'.mono hBB.size)
    have hB4:=hB3.trans (hb4.mono hB3.size)
    have HB6:=hid (hB4.trans (hb6.mono hB4.size))
    clear X3 X4 X6 x0 x1 x2 x3 x4 x5 x6 hb3 hb3' hb4 hb6 hB hz hBB hB3 hB4
    go_wp2
    go_ret
    exact ⟨qC HP.out,HB6.out⟩
theorem BI (g:Nat) (a:Option Addr) (cap:Nat) (l:List CellB) (w:World) (hn:l.length≤60) (hsm:∀ c ∈ l,qr c) (hl:Lies w a l) (hg:g < w.heap.size) (hw:TxtW w g) :
  Calls Tryz.prog 128 #[txtC g,.slice a l.length cap] w fun e w'=>e=.returned (strB (xq 1 l))∧Below w.heap.size w w':=by
 obtain ⟨i0,hi,hz0,hz1,hz2⟩:=info_parts Tryz.infoStr
 have Hsm:=hid hsm
 have Hl:=hid hl
 have Hw:=hid hw
 have hni:(l.length:Int)≤60:=by omega
 clear hsm hl hw
 go_enter Tryz.func128,Tryz.ntmps128
 go_wp2
 obtain ⟨hb0,hs0,hc0⟩:=Jd w #[.slice (some ⟨g,0,none⟩) 3 3,fnV 202,fnV 203,fnV 204,fnV 205,fnV 206,fnV 207] 225
 have Hc:Hid (BoxT _ g w.heap.size):=⟨hc0 0,hc0 1,hc0 2,hc0 3,hc0 4,hc0 5,hc0 6⟩
 have Hl0:=hid (Hl.out.later hb0)
 have Hw0:=hid (Hw.out.later hg hb0)
 have Hb0:=hid hb0
 have hs1:=aI (aL w.heap.size) hs0.symm
 have hg0:=aa hg hb0.size
 clear hc0 hb0 hs0
 generalize w.alloc _=w0 at *
 go_loopw [5,10] (fun v i wr=>∃ k:Nat,k≤l.length∧i=.int .i64 (k:Int)∧wr.ownsRow w0.heap.size 9 1 v (je (l.take k)).length (JI (je (l.take k)))∧Below w0.heap.size w0 wr)
  (fun _ i _=>l.length - (intOf i).toNat)
 case atStart=>exact ⟨0,ah _,rfl,World.ownsRow_nil _ _ _ _,Below.refl _ _⟩
 case round =>
  obtain ⟨k,hkl,rfl,hown,hB⟩:=hrel
  have hvl:=Zq (l.take k)
  rw [aq] at hvl
  by_cases hlt:k < l.length
  ·obtain ⟨b,off,rfl,hbw,hcell⟩:=(Hl0.out.later hB).at_ (ai (by omega))
   obtain ⟨g1,g2,g3⟩:=hcell k hlt
   clear hcell
   have hcf:=(hB.cell (p:=⟨w.heap.size,1,none⟩) hs1).trans Hc.out.2.1
   have hwr:w.heap.size < wr.heap.size:=aa hs1 hB.size
   cases hnl:(l[k]).null with
   | true =>
    have HV:Hid (je (l.take (k+1))=je (l.take k)):=by
     show je (l.take (k+1))=_
     rw [JW l k hlt,hnl];simp
    rw [hnl] at g1
    clear hnl
    have HOw:=hid (hown.alloc (Obj.cells #[.bool true,.int .i64 (l[k]).int,strB (l[k]).text] 58))
    have HB1:=hid (hB.alloc hB.size (Obj.cells #[.bool true,.int .i64 (l[k]).int,strB (l[k]).text] 58))
    clear hown hB
    go_wp2
    go_roundw
    case rel=>exact ⟨k+1,by omega,by go_num,by rw [HV.out];exact HOw.out,HB1.out⟩
    case measure=>simp [intOf];omega
   | false =>
    have HV:Hid (je (l.take (k+1))=je (l.take k)++[l[k]]):=by
     show je (l.take (k+1))=_
     rw [JW l k hlt,hnl];simp
    rw [hnl] at g1
    clear hnl
    generalize je (l.take k)=V at *
    have hown1:=hown.alloc (Obj.cells #[.bool false,.int .i64 (l[k]).int,strB (l[k]).text] 58)
    have hB1:=hB.alloc hB.size (Obj.cells #[.bool false,.int .i64 (l[k]).int,strB (l[k]).text] 58)
    have hcf1:=jc (Obj.cells #[.bool false,.int .i64 (l[k]).int,strB (l[k]).text] 58) hcf
    clear hown hB
    go_wp2_with fail
    refine (Bu ⟨false,(l[k]).int,(l[k]).text⟩ _).mono ?_
    rintro e w2 ⟨rfl,hb2⟩
    have hown2:=jL hown1 hb2
    have hB2:=hB1.trans (hb2.mono hB1.size)
    clear hown1 hb2 hB1 g1 g2 g3 hcf hcf1
    go_wp2_with (at_builtin;refine wpList_append_own _ rfl (.tmp 17) (.tmp 22) 71 rfl w0.heap.size 9 i0 (.string ⟨#[]⟩) 1 16 Tryz.underlying71 hi hz0 hz1 hz2 rfl (by decide) _ _ _ rfl (hown2.alloc _) ⟨_,0,none⟩ 1 1 [strB (l[k]).text] rfl rfl ?c1 ?c2 ?c3 ?c4 ?c5 ?_)
    case c1=>exact qq w2 #[strB (l[k]).text] 9
    case c2=>intro u hu;simp at hu;subst hu;rfl
    case c3=>unfold maxLen;omega
    case c4=>omega
    case c5=>have:=hB2.size;simp;omega
    intro v3 w3 hown3 hgr3 _
    have HO3:=hid hown3
    have HB3:=hid ((hB2.alloc hB2.size _).grown hgr3 (by have:=hB2.size;simp;omega) (fun k hk=>(hown2.lt k hk).1))
    clear hown2 hown3 hgr3 hB2
    go_wp2
    go_roundw
    case rel=>exact ⟨k+1,by omega,by go_num,by rw [HV.out,show (V++[l[k]]).length=V.length+1 by simp,show JI (V++[l[k]])=JI V++[strB (l[k]).text] by simp [JI,zJ,XV]];exact HO3.out,HB3.out⟩
    case measure=>simp [intOf];omega
  ·have hke:k=l.length:=by omega
   subst hke
   rw [aF] at hown hvl
   have hln:=CW hown
   have Hlr:=hid (Hl0.out.later hB)
   by_cases hv0:je l=[]
   ·have HP:Hid (xq 1 l=zC l):=by
     show xq 1 l=_
     rw [xq,aw hv0]
    have hv1:(je l).length=0:=by rw [hv0];rfl
    rw [hv1] at hln
    have hln2:=hln wr
    clear hln hv0 hv1 hown
    go_wp2_with fail
    refine (UX a cap l _ hn Hlr.out).mono ?_
    rintro e w2 ⟨rfl,hb2⟩
    go_wp2
    go_ret
    have hz:=Hb0.out.size
    have hBB:=Hb0.out.trans (hB.mono hz)
    exact ⟨qC HP.out.symm,hBB.trans (hb2.mono hBB.size)⟩
   ·have HP:Hid (zC l++jJ 1 (je l) 3=xq 1 l):=by
     show _=xq 1 l
     rw [xq,aj hv0]
    have hln2:=hln wr
    have hvp:(((je l).length:Int) == 0)=false:=by
     have:=b9.2 hv0
     simp;omega
    have HSm:Hid (Small (je l)):=⟨fun c hc=>Hsm.out c (bJ.1 hc).1,by omega,hv0⟩
    obtain ⟨bv,cv,rfl,hvl2⟩:=Cf hown hv0
    have Hvl:=hid hvl2
    have hbx:=xe Hc.out hB hs1
    have Hbx:=hid hbx
    have hwr:w.heap.size < wr.heap.size:=aa hs1 hB.size
    have hgr:g < wr.heap.size:=aa hg0 hB.size
    have Hwr:=hid (Hw0.out.later hg0 hB)
    have hh:=XC l hn
    have hbt:=XX 1 (je l) HSm.out.small HSm.out.few 3
    have HU:Hid (∀ w',Lies w' a l→Calls Tryz.prog 193 #[.slice a l.length cap] w' fun e w2=>e=.returned (strB (zC l))∧Below w'.heap.size w' w2):=fun w' h=>UX a cap l w' hn h
    have HE:Hid (∀ w',TextsLie w' bv (je l)→g < w'.heap.size→TxtW w' g→Calls Tryz.prog 208 #[txtC g,.slice (some ⟨bv,0,none⟩) (je l).length cv] w' fun e w2=>e=.returned (strB (jJ 1 (je l) 3))∧Below w'.heap.size w' w2):=fun w' h h1 h2=>Bx g bv cv (je l) w' HSm.out h h1 h2
    clear hln hv0 hown hvl2 HSm
    generalize zC l=H at *
    generalize jJ 1 (je l) 3=S3 at *
    generalize (je l)=V at *
    obtain ⟨x0,x1,x2,x3,x4,x5,x6⟩:=hbx
    go_wp2_with fail
    go_region_held3 (fun w'=>w'.cell? ⟨w.heap.size,0,none⟩=some (.slice (some ⟨g,0,none⟩) 3 3)∧w'.cell? ⟨w.heap.size,1,none⟩=some (fnV 202)∧w'.cell? ⟨w.heap.size,2,none⟩=some (fnV 203)∧w'.cell? ⟨w.heap.size,3,none⟩=some (fnV 204)∧w'.cell? ⟨w.heap.size,4,none⟩=some (fnV 205)∧w'.cell? ⟨w.heap.size,5,none⟩=some (fnV 206)∧w'.cell? ⟨w.heap.size,6,none⟩=some (fnV 207))
     (first|exact UL _ X4|exact X6|exact X4|exact X3|exact Hbx.out)
     (first
      | (go_at_call 193;refine (HU.out _ (Hlr.out.later (Qi _))).mono ?_;rintro e w3 ⟨rfl,hb3⟩;have hb3':=ji hb3;have X3:=xe Hbx.out hb3' hwr)
      | (go_at_call 208;refine (HE.out _ (Hvl.out.later hb3') (aa hgr hb3'.size) (Hwr.out.later hgr hb3')).mono ?_;rintro e w4 ⟨rfl,hb4⟩;have X4:=xe X3 hb4 (aa hwr hb3'.size))
      | (go_at_call 194;refine (Xy [H,S3] #[strB H,strB S3] 2 _ _ ?_ rfl rfl ?_ ?_).mono ?_;(first|rfl|simp);decide;(simp;omega);rintro e w6 ⟨rfl,hb6⟩;have X6:=xe X4 hb6 (aa hwr (ar hb3'.size hb4.size))))
    have hz:=Hb0.out.size
    have hBB:=Hb0.out.trans (hB.mono hz)
    have hB3:=hBB.trans (hb3'.mono hBB.size)
    have hB4:=hB3.trans (hb4.mono hB3.size)
    have HB6:=hid (hB4.trans (hb6.mono hB4.size))
    clear X3 X4 X6 x0 x1 x2 x3 x4 x5 x6 hb3 hb3' hb4 hb6 hB hz hBB hB3 hB4
    go_wp2
    go_ret
    exact ⟨qC HP.out,HB6.out⟩
end Go.Proofs.YthhpbhpfagoapaaGreat
