import Derived.Test.YthhpbhpfagoapabGreatDShortI
import Derived.Test.YthhpbhpfagoapabGreatDShortT
import Derived.Test.YthhpbhpfagoapabGreatRTk
import Derived.Test.YthhpbhpfagoapabGreatJAN
import Derived.Test.YthhpbhpfagoapabGreatJAR
namespace Go.Proofs.YthhpbhpfagoapabGreat
set_option linter.unusedVariables false
set_option linter.unusedSimpArgs false
set_option maxRecDepth 100000
set_option maxHeartbeats 16000000
open Go.RowKit
section
theorem Tryz.infoInt:(Tryz.prog.info? 3).map (fun i=>(i.zero,i.size,i.bytes))=some (some (.int .i64 0),1,8):=by kernel_rfl
theorem Fq (c:CellB) (w:World) :
  Calls Tryz.prog 151 #[cellV c] w fun e w'=>e=.returned (.int .i64 c.int)∧Below w.heap.size w w':=by
 go_enter Tryz.func151,Tryz.ntmps151
 go_wp2
 go_ret
 exact ⟨rfl,(Below.refl _ _).alloc (Nat.le_refl _) _⟩
theorem Fr (c:CellB) (w:World) :
  Calls Tryz.prog 165 #[cellV c] w fun e w'=>e=.returned (strB c.text)∧Below w.heap.size w w':=by
 go_enter Tryz.func165,Tryz.ntmps165
 go_wp2
 go_ret
 exact ⟨rfl,(Below.refl _ _).alloc (Nat.le_refl _) _⟩
def Xe (l:List CellB):List Value:=l.map fun c=>.int .i64 c.int
def JI (l:List CellB):List Value:=zl (Zs l)
theorem Zz (l:List CellB):(jm l).length≤l.length:=List.length_filter_le _ _
theorem JV (l:List CellB) (k:Nat) (h:k < l.length):jm (l.take (k+1))=jm (l.take k)++(if (l[k]).null=true then [] else [l[k]]):=by
 rw [List.take_succ_eq_append_getElem h]
 unfold jm
 rw [List.filter_append]
 congr 1
 cases hn:(l[k]).null<;>simp [hn]
theorem Yk {w:World} {base n:Nat} {v:Value} {xs:List Value} (h:w.ownsRow base 3 1 v n xs) (w':World) :
  Sem.run Tryz.prog (Builtin.len_ #[22] 3 #[v]) w'=.ok (.int .i64 (n:Int)) w':=by
 rcases h.2 with ⟨rfl,rfl⟩|⟨g,cap,cur,rfl,_⟩
 ·exact run_len_slice (P:=Tryz.prog) w' 22 3 _ _ _ (by rw [Tryz.underlying22];rfl)
 ·exact run_len_slice (P:=Tryz.prog) w' 22 3 _ _ _ (by rw [Tryz.underlying22];rfl)
theorem Ty {w:World} {base n:Nat} {v:Value} {xs:List Value} (h:w.ownsRow base 9 1 v n xs) (w':World) :
  Sem.run Tryz.prog (Builtin.len_ #[163] 3 #[v]) w'=.ok (.int .i64 (n:Int)) w':=EL h w'
theorem DK {w:World} {base n:Nat} {v:Value} {D:List CellB} (h:w.ownsRow base 3 1 v n (Xe D)) (hD:D≠[]):∃ b cap,v=.slice (some ⟨b,0,none⟩) D.length cap∧IntsLie w b D:=by
 have hl:D.length=n:=by simpa [Xe] using h.1
 rcases h.2 with ⟨rfl,rfl⟩|⟨g,cap,cur,rfl,_⟩
 ·exact absurd (List.eq_nil_of_length_eq_zero hl) hD
 ·refine ⟨g,cap,by rw [hl],(h.lt g rfl).2,fun j hj=>?_⟩
  rw [h.cellAt j (by omega)]
  simp [Xe,hj]
theorem TO {w:World} {base n:Nat} {v:Value} {D:List CellB} (h:w.ownsRow base 9 1 v n (JI D)) (hD:D≠[]):∃ b cap,v=.slice (some ⟨b,0,none⟩) D.length cap∧TextsLie w b D:=Gs h hD
theorem BR (g:Nat) (a:Option Addr) (cap:Nat) (l:List CellB) (w:World) (hn:l.length≤60) (hsm:∀ c ∈ l,qF c) (hl:Lies w a l) (hg:g < w.heap.size) (hw:NumW w g) :
  Calls Tryz.prog 135 #[numC g,.slice a l.length cap] w fun e w'=>e=.returned (strB (xN 0 l))∧Below w.heap.size w w':=by
 obtain ⟨i0,hi,hz0,hz1,hz2⟩:=info_parts Tryz.infoInt
 have Hsm:=hid hsm
 have Hl:=hid hl
 have Hw:=hid hw
 have hni:(l.length:Int)≤60:=by omega
 clear hsm hl hw
 go_enter Tryz.func135,Tryz.ntmps135
 go_wp2
 obtain ⟨hb0,hs0,hc0⟩:=Ja w #[.slice (some ⟨g,0,none⟩) 3 3,fnV 151,fnV 152,fnV 153,fnV 154,fnV 155,fnV 156] 205
 have Hc:Hid (BoxI _ g w.heap.size):=⟨hc0 0,hc0 1,hc0 2,hc0 3,hc0 4,hc0 5,hc0 6⟩
 have Hl0:=hid (Hl.out.later hb0)
 have Hw0:=hid (Hw.out.later hg hb0)
 have Hb0:=hid hb0
 have hs1:=Nat.lt_of_lt_of_eq (Nat.lt_succ_self w.heap.size) hs0.symm
 have hg0:=Nat.lt_of_lt_of_le hg hb0.size
 clear hc0 hb0 hs0
 generalize w.alloc _=w0 at *
 go_loopw [5,10] (fun v i wr=>∃ k:Nat,k≤l.length∧i=.int .i64 (k:Int)∧wr.ownsRow w0.heap.size 3 1 v (jm (l.take k)).length (Xe (jm (l.take k)))∧Below w0.heap.size w0 wr)
  (fun _ i _=>l.length - (intOf i).toNat)
 case atStart=>exact ⟨0,Nat.zero_le _,rfl,World.ownsRow_nil _ _ _ _,Below.refl _ _⟩
 case round =>
  obtain ⟨k,hkl,rfl,hown,hB⟩:=hrel
  have hvl:=Zz (l.take k)
  rw [List.length_take] at hvl
  by_cases hlt:k < l.length
  ·obtain ⟨b,off,rfl,hbw,hcell⟩:=(Hl0.out.later hB).at_ (List.ne_nil_of_length_pos (by omega))
   obtain ⟨g1,g2,g3⟩:=hcell k hlt
   clear hcell
   have hcf:=(hB.cell (p:=⟨w.heap.size,1,none⟩) hs1).trans Hc.out.2.1
   have hwr:w.heap.size < wr.heap.size:=Nat.lt_of_lt_of_le hs1 hB.size
   cases hnl:(l[k]).null with
   | true =>
    have HV:Hid (jm (l.take (k+1))=jm (l.take k)):=by
     show jm (l.take (k+1))=_
     rw [JV l k hlt,hnl];simp
    rw [hnl] at g1
    clear hnl
    have HOw:=hid (hown.alloc (Obj.cells #[.bool true,.int .i64 (l[k]).int,strB (l[k]).text] 34))
    have HB1:=hid (hB.alloc hB.size (Obj.cells #[.bool true,.int .i64 (l[k]).int,strB (l[k]).text] 34))
    clear hown hB
    go_wp2
    go_roundw
    case rel=>exact ⟨k+1,by omega,by go_num,by rw [HV.out];exact HOw.out,HB1.out⟩
    case measure=>simp [intOf];omega
   | false =>
    have HV:Hid (jm (l.take (k+1))=jm (l.take k)++[l[k]]):=by
     show jm (l.take (k+1))=_
     rw [JV l k hlt,hnl];simp
    rw [hnl] at g1
    clear hnl
    generalize jm (l.take k)=V at *
    have hown1:=hown.alloc (Obj.cells #[.bool false,.int .i64 (l[k]).int,strB (l[k]).text] 34)
    have hB1:=hB.alloc hB.size (Obj.cells #[.bool false,.int .i64 (l[k]).int,strB (l[k]).text] 34)
    have hcf1:=je (Obj.cells #[.bool false,.int .i64 (l[k]).int,strB (l[k]).text] 34) hcf
    clear hown hB
    go_wp2_with fail
    refine (Fq ⟨false,(l[k]).int,(l[k]).text⟩ _).mono ?_
    rintro e w2 ⟨rfl,hb2⟩
    have hown2:=ju hown1 hb2
    have hB2:=hB1.trans (hb2.mono hB1.size)
    clear hown1 hb2 hB1 g1 g2 g3 hcf hcf1
    go_wp2_with (at_builtin;refine wpList_append_own _ rfl (.tmp 17) (.tmp 22) 22 rfl w0.heap.size 3 i0 (.int .i64 0) 1 8 Tryz.underlying22 hi hz0 hz1 hz2 rfl (by decide) _ _ _ rfl (hown2.alloc _) ⟨_,0,none⟩ 1 1 [.int .i64 (l[k]).int] rfl rfl ?c1 ?c2 ?c3 ?c4 ?c5 ?_)
    case c1=>exact qE w2 #[.int .i64 (l[k]).int] 3
    case c2=>intro u hu;simp at hu;subst hu;rfl
    case c3=>unfold maxLen;omega
    case c4=>omega
    case c5=>have:=hB2.size;simp;omega
    intro v3 w3 hown3 hgr3 _
    have HO3:=hid hown3
    have HB3:=hid ((hB2.alloc hB2.size _).grown hgr3 (by have:=hB2.size;simp;omega) (fun k hk=>(hown2.lt k hk).1))
    clear hown2 hown3 hgr3 hB2
    go_wp2
    go_roundw
    case rel=>exact ⟨k+1,by omega,by go_num,by rw [HV.out,show (V++[l[k]]).length=V.length+1 by simp,show Xe (V++[l[k]])=Xe V++[.int .i64 (l[k]).int] by simp [Xe]];exact HO3.out,HB3.out⟩
    case measure=>simp [intOf];omega
  ·have hke:k=l.length:=by omega
   subst hke
   rw [List.take_length] at hown hvl
   have hln:=Yk hown
   have Hlr:=hid (Hl0.out.later hB)
   by_cases hv0:jm l=[]
   ·have HP:Hid (xN 0 l=zZ l):=by
     show xN 0 l=_
     rw [xN,if_pos hv0]
    have hv1:(jm l).length=0:=by rw [hv0];rfl
    rw [hv1] at hln
    have hln2:=hln wr
    clear hln hv0 hv1 hown
    go_wp2_with fail
    refine (Vz a cap l _ hn Hlr.out).mono ?_
    rintro e w2 ⟨rfl,hb2⟩
    go_wp2
    go_ret
    have hz:=Hb0.out.size
    have hBB:=Hb0.out.trans (hB.mono hz)
    exact ⟨xj HP.out.symm,hBB.trans (hb2.mono hBB.size)⟩
   ·have HP:Hid (zZ l++jQ 0 (jm l) 3=xN 0 l):=by
     show _=xN 0 l
     rw [xN,if_neg hv0]
    have hln2:=hln wr
    have hvp:(((jm l).length:Int) == 0)=false:=by
     have:=List.length_pos_iff.2 hv0
     simp;omega
    have HSm:Hid (Small (jm l)):=⟨fun c hc=>Hsm.out c (List.mem_filter.1 hc).1,by omega,hv0⟩
    obtain ⟨bv,cv,rfl,hvl2⟩:=DK hown hv0
    have Hvl:=hid hvl2
    have hbx:=zk Hc.out hB hs1
    have Hbx:=hid hbx
    have hwr:w.heap.size < wr.heap.size:=Nat.lt_of_lt_of_le hs1 hB.size
    have hgr:g < wr.heap.size:=Nat.lt_of_lt_of_le hg0 hB.size
    have Hwr:=hid (Hw0.out.later hg0 hB)
    have hh:=UM l hn
    have hbt:=KD 0 (jm l) HSm.out.small HSm.out.few 3
    have HU:Hid (∀ w',Lies w' a l→Calls Tryz.prog 157 #[.slice a l.length cap] w' fun e w2=>e=.returned (strB (zZ l))∧Below w'.heap.size w' w2):=fun w' h=>Vz a cap l w' hn h
    have HE:Hid (∀ w',IntsLie w' bv (jm l)→g < w'.heap.size→NumW w' g→Calls Tryz.prog 158 #[numC g,.slice (some ⟨bv,0,none⟩) (jm l).length cv] w' fun e w2=>e=.returned (strB (jQ 0 (jm l) 3))∧Below w'.heap.size w' w2):=fun w' h h1 h2=>Fp g bv cv (jm l) w' HSm.out h h1 h2
    clear hln hv0 hown hvl2 HSm
    generalize zZ l=H at *
    generalize jQ 0 (jm l) 3=S3 at *
    generalize (jm l)=V at *
    obtain ⟨x0,x1,x2,x3,x4,x5,x6⟩:=hbx
    go_wp2_with fail
    go_region_held3 (fun w'=>w'.cell? ⟨w.heap.size,0,none⟩=some (.slice (some ⟨g,0,none⟩) 3 3)∧w'.cell? ⟨w.heap.size,1,none⟩=some (fnV 151)∧w'.cell? ⟨w.heap.size,2,none⟩=some (fnV 152)∧w'.cell? ⟨w.heap.size,3,none⟩=some (fnV 153)∧w'.cell? ⟨w.heap.size,4,none⟩=some (fnV 154)∧w'.cell? ⟨w.heap.size,5,none⟩=some (fnV 155)∧w'.cell? ⟨w.heap.size,6,none⟩=some (fnV 156))
     (first|exact Ym _ X4|exact X6|exact X4|exact X3|exact Hbx.out)
     (first
      | (go_at_call 157;refine (HU.out _ (Hlr.out.later (Qd _))).mono ?_;rintro e w3 ⟨rfl,hb3⟩;have hb3':=jl hb3;have X3:=zk Hbx.out hb3' hwr)
      | (go_at_call 158;refine (HE.out _ (Hvl.out.later hb3') (Nat.lt_of_lt_of_le hgr hb3'.size) (Hwr.out.later hgr hb3')).mono ?_;rintro e w4 ⟨rfl,hb4⟩;have X4:=zk X3 hb4 (Nat.lt_of_lt_of_le hwr hb3'.size))
      | (go_at_call 93;refine (Xk [H,S3] #[strB H,strB S3] 2 _ _ ?_ rfl rfl ?_ ?_).mono ?_;(first|rfl|simp);decide;(simp;omega);rintro e w6 ⟨rfl,hb6⟩;have X6:=zk X4 hb6 (Nat.lt_of_lt_of_le hwr (Nat.le_trans hb3'.size hb4.size))))
    have hz:=Hb0.out.size
    have hBB:=Hb0.out.trans (hB.mono hz)
    have hB3:=hBB.trans (hb3'.mono hBB.size)
    have hB4:=hB3.trans (hb4.mono hB3.size)
    have HB6:=hid (hB4.trans (hb6.mono hB4.size))
    clear X3 X4 X6 x0 x1 x2 x3 x4 x5 x6 hb3 hb3' hb4 hb6 hB hz hBB hB3 hB4
    go_wp2
    go_ret
    exact ⟨xj HP.out,HB6.out⟩
theorem Hv (g:Nat) (a:Option Addr) (cap:Nat) (l:List CellB) (w:World) (hn:l.length≤60) (hsm:∀ c ∈ l,qF c) (hl:Lies w a l) (hg:g < w.heap.size) (hw:TxtW w g) :
  Calls Tryz.prog 137 #[txtC g,.slice a l.length cap] w fun e w'=>e=.returned (strB (xN 1 l))∧Below w.heap.size w w':=by
 obtain ⟨i0,hi,hz0,hz1,hz2⟩:=info_parts Tryz.infoStr
 have Hsm:=hid hsm
 have Hl:=hid hl
 have Hw:=hid hw
 have hni:(l.length:Int)≤60:=by omega
 clear hsm hl hw
 go_enter Tryz.func137,Tryz.ntmps137
 go_wp2
 obtain ⟨hb0,hs0,hc0⟩:=Ja w #[.slice (some ⟨g,0,none⟩) 3 3,fnV 165,fnV 166,fnV 115,fnV 167,fnV 168,fnV 169] 214
 have Hc:Hid (BoxT _ g w.heap.size):=⟨hc0 0,hc0 1,hc0 2,hc0 3,hc0 4,hc0 5,hc0 6⟩
 have Hl0:=hid (Hl.out.later hb0)
 have Hw0:=hid (Hw.out.later hg hb0)
 have Hb0:=hid hb0
 have hs1:=Nat.lt_of_lt_of_eq (Nat.lt_succ_self w.heap.size) hs0.symm
 have hg0:=Nat.lt_of_lt_of_le hg hb0.size
 clear hc0 hb0 hs0
 generalize w.alloc _=w0 at *
 go_loopw [5,10] (fun v i wr=>∃ k:Nat,k≤l.length∧i=.int .i64 (k:Int)∧wr.ownsRow w0.heap.size 9 1 v (jm (l.take k)).length (JI (jm (l.take k)))∧Below w0.heap.size w0 wr)
  (fun _ i _=>l.length - (intOf i).toNat)
 case atStart=>exact ⟨0,Nat.zero_le _,rfl,World.ownsRow_nil _ _ _ _,Below.refl _ _⟩
 case round =>
  obtain ⟨k,hkl,rfl,hown,hB⟩:=hrel
  have hvl:=Zz (l.take k)
  rw [List.length_take] at hvl
  by_cases hlt:k < l.length
  ·obtain ⟨b,off,rfl,hbw,hcell⟩:=(Hl0.out.later hB).at_ (List.ne_nil_of_length_pos (by omega))
   obtain ⟨g1,g2,g3⟩:=hcell k hlt
   clear hcell
   have hcf:=(hB.cell (p:=⟨w.heap.size,1,none⟩) hs1).trans Hc.out.2.1
   have hwr:w.heap.size < wr.heap.size:=Nat.lt_of_lt_of_le hs1 hB.size
   cases hnl:(l[k]).null with
   | true =>
    have HV:Hid (jm (l.take (k+1))=jm (l.take k)):=by
     show jm (l.take (k+1))=_
     rw [JV l k hlt,hnl];simp
    rw [hnl] at g1
    clear hnl
    have HOw:=hid (hown.alloc (Obj.cells #[.bool true,.int .i64 (l[k]).int,strB (l[k]).text] 34))
    have HB1:=hid (hB.alloc hB.size (Obj.cells #[.bool true,.int .i64 (l[k]).int,strB (l[k]).text] 34))
    clear hown hB
    go_wp2
    go_roundw
    case rel=>exact ⟨k+1,by omega,by go_num,by rw [HV.out];exact HOw.out,HB1.out⟩
    case measure=>simp [intOf];omega
   | false =>
    have HV:Hid (jm (l.take (k+1))=jm (l.take k)++[l[k]]):=by
     show jm (l.take (k+1))=_
     rw [JV l k hlt,hnl];simp
    rw [hnl] at g1
    clear hnl
    generalize jm (l.take k)=V at *
    have hown1:=hown.alloc (Obj.cells #[.bool false,.int .i64 (l[k]).int,strB (l[k]).text] 34)
    have hB1:=hB.alloc hB.size (Obj.cells #[.bool false,.int .i64 (l[k]).int,strB (l[k]).text] 34)
    have hcf1:=je (Obj.cells #[.bool false,.int .i64 (l[k]).int,strB (l[k]).text] 34) hcf
    clear hown hB
    go_wp2_with fail
    refine (Fr ⟨false,(l[k]).int,(l[k]).text⟩ _).mono ?_
    rintro e w2 ⟨rfl,hb2⟩
    have hown2:=ju hown1 hb2
    have hB2:=hB1.trans (hb2.mono hB1.size)
    clear hown1 hb2 hB1 g1 g2 g3 hcf hcf1
    go_wp2_with (at_builtin;refine wpList_append_own _ rfl (.tmp 17) (.tmp 22) 163 rfl w0.heap.size 9 i0 (.string ⟨#[]⟩) 1 16 Tryz.underlying163 hi hz0 hz1 hz2 rfl (by decide) _ _ _ rfl (hown2.alloc _) ⟨_,0,none⟩ 1 1 [strB (l[k]).text] rfl rfl ?c1 ?c2 ?c3 ?c4 ?c5 ?_)
    case c1=>exact qE w2 #[strB (l[k]).text] 9
    case c2=>intro u hu;simp at hu;subst hu;rfl
    case c3=>unfold maxLen;omega
    case c4=>omega
    case c5=>have:=hB2.size;simp;omega
    intro v3 w3 hown3 hgr3 _
    have HO3:=hid hown3
    have HB3:=hid ((hB2.alloc hB2.size _).grown hgr3 (by have:=hB2.size;simp;omega) (fun k hk=>(hown2.lt k hk).1))
    clear hown2 hown3 hgr3 hB2
    go_wp2
    go_roundw
    case rel=>exact ⟨k+1,by omega,by go_num,by rw [HV.out,show (V++[l[k]]).length=V.length+1 by simp,show JI (V++[l[k]])=JI V++[strB (l[k]).text] by simp [JI,zl,Zs]];exact HO3.out,HB3.out⟩
    case measure=>simp [intOf];omega
  ·have hke:k=l.length:=by omega
   subst hke
   rw [List.take_length] at hown hvl
   have hln:=Ty hown
   have Hlr:=hid (Hl0.out.later hB)
   by_cases hv0:jm l=[]
   ·have HP:Hid (xN 1 l=zZ l):=by
     show xN 1 l=_
     rw [xN,if_pos hv0]
    have hv1:(jm l).length=0:=by rw [hv0];rfl
    rw [hv1] at hln
    have hln2:=hln wr
    clear hln hv0 hv1 hown
    go_wp2_with fail
    refine (Vz a cap l _ hn Hlr.out).mono ?_
    rintro e w2 ⟨rfl,hb2⟩
    go_wp2
    go_ret
    have hz:=Hb0.out.size
    have hBB:=Hb0.out.trans (hB.mono hz)
    exact ⟨xj HP.out.symm,hBB.trans (hb2.mono hBB.size)⟩
   ·have HP:Hid (zZ l++jQ 1 (jm l) 3=xN 1 l):=by
     show _=xN 1 l
     rw [xN,if_neg hv0]
    have hln2:=hln wr
    have hvp:(((jm l).length:Int) == 0)=false:=by
     have:=List.length_pos_iff.2 hv0
     simp;omega
    have HSm:Hid (Small (jm l)):=⟨fun c hc=>Hsm.out c (List.mem_filter.1 hc).1,by omega,hv0⟩
    obtain ⟨bv,cv,rfl,hvl2⟩:=TO hown hv0
    have Hvl:=hid hvl2
    have hbx:=xm Hc.out hB hs1
    have Hbx:=hid hbx
    have hwr:w.heap.size < wr.heap.size:=Nat.lt_of_lt_of_le hs1 hB.size
    have hgr:g < wr.heap.size:=Nat.lt_of_lt_of_le hg0 hB.size
    have Hwr:=hid (Hw0.out.later hg0 hB)
    have hh:=UM l hn
    have hbt:=KD 1 (jm l) HSm.out.small HSm.out.few 3
    have HU:Hid (∀ w',Lies w' a l→Calls Tryz.prog 157 #[.slice a l.length cap] w' fun e w2=>e=.returned (strB (zZ l))∧Below w'.heap.size w' w2):=fun w' h=>Vz a cap l w' hn h
    have HE:Hid (∀ w',TextsLie w' bv (jm l)→g < w'.heap.size→TxtW w' g→Calls Tryz.prog 170 #[txtC g,.slice (some ⟨bv,0,none⟩) (jm l).length cv] w' fun e w2=>e=.returned (strB (jQ 1 (jm l) 3))∧Below w'.heap.size w' w2):=fun w' h h1 h2=>Fx g bv cv (jm l) w' HSm.out h h1 h2
    clear hln hv0 hown hvl2 HSm
    generalize zZ l=H at *
    generalize jQ 1 (jm l) 3=S3 at *
    generalize (jm l)=V at *
    obtain ⟨x0,x1,x2,x3,x4,x5,x6⟩:=hbx
    go_wp2_with fail
    go_region_held3 (fun w'=>w'.cell? ⟨w.heap.size,0,none⟩=some (.slice (some ⟨g,0,none⟩) 3 3)∧w'.cell? ⟨w.heap.size,1,none⟩=some (fnV 165)∧w'.cell? ⟨w.heap.size,2,none⟩=some (fnV 166)∧w'.cell? ⟨w.heap.size,3,none⟩=some (fnV 115)∧w'.cell? ⟨w.heap.size,4,none⟩=some (fnV 167)∧w'.cell? ⟨w.heap.size,5,none⟩=some (fnV 168)∧w'.cell? ⟨w.heap.size,6,none⟩=some (fnV 169))
     (first|exact Vh _ X4|exact X6|exact X4|exact X3|exact Hbx.out)
     (first
      | (go_at_call 157;refine (HU.out _ (Hlr.out.later (Qd _))).mono ?_;rintro e w3 ⟨rfl,hb3⟩;have hb3':=jl hb3;have X3:=xm Hbx.out hb3' hwr)
      | (go_at_call 170;refine (HE.out _ (Hvl.out.later hb3') (Nat.lt_of_lt_of_le hgr hb3'.size) (Hwr.out.later hgr hb3')).mono ?_;rintro e w4 ⟨rfl,hb4⟩;have X4:=xm X3 hb4 (Nat.lt_of_lt_of_le hwr hb3'.size))
      | (go_at_call 93;refine (Xk [H,S3] #[strB H,strB S3] 2 _ _ ?_ rfl rfl ?_ ?_).mono ?_;(first|rfl|simp);decide;(simp;omega);rintro e w6 ⟨rfl,hb6⟩;have X6:=xm X4 hb6 (Nat.lt_of_lt_of_le hwr (Nat.le_trans hb3'.size hb4.size))))
    have hz:=Hb0.out.size
    have hBB:=Hb0.out.trans (hB.mono hz)
    have hB3:=hBB.trans (hb3'.mono hBB.size)
    have hB4:=hB3.trans (hb4.mono hB3.size)
    have HB6:=hid (hB4.trans (hb6.mono hB4.size))
    clear X3 X4 X6 x0 x1 x2 x3 x4 x5 x6 hb3 hb3' hb4 hb6 hB hz hBB hB3 hB4
    go_wp2
    go_ret
    exact ⟨xj HP.out,HB6.out⟩
theorem TP (kind:Int) (a:Option Addr) (cap:Nat) (l:List CellB) (w:World) (hk:kind=0∨kind=1) (hn:l.length≤60) (hsm:∀ c ∈ l,qF c) (hl:Lies w a l) :
  Calls Tryz.prog 122 #[.int .i64 kind,.slice a l.length cap] w fun e w'=>e=.returned (strB (xN kind l))∧Below w.heap.size w w':=by
 have Hsm:=hid hsm
 have Hl:=hid hl
 clear hsm hl
 rcases hk with rfl|rfl
 ·go_enter Tryz.func122,Tryz.ntmps122
  go_wp2_with fail
  refine (GV w).mono ?_
  rintro e w1 ⟨g,rfl,hg,hw,hb1⟩
  have Hw:=hid hw
  clear hw
  go_wp2_with fail
  refine (BR g a cap l _ hn Hsm.out (Hl.out.later hb1) hg Hw.out).mono ?_
  rintro e w2 ⟨rfl,hb2⟩
  go_wp2
  go_ret
  exact ⟨rfl,hb1.trans (hb2.mono hb1.size)⟩
 ·go_enter Tryz.func122,Tryz.ntmps122
  go_wp2_with fail
  refine (Ec w).mono ?_
  rintro e w1 ⟨g,rfl,hg,hw,hb1⟩
  have Hw:=hid hw
  clear hw
  go_wp2_with fail
  refine (Hv g a cap l _ hn Hsm.out (Hl.out.later hb1) hg Hw.out).mono ?_
  rintro e w2 ⟨rfl,hb2⟩
  go_wp2
  go_ret
  exact ⟨rfl,hb1.trans (hb2.mono hb1.size)⟩
end
section
def qy (w:World) (p:Nat) (s rest:List UInt8):Prop :=
 ∃ at_:Nat,w.heap[p]?=some (.cells #[strB s,.int .i64 (at_:Int)] 175 (0,0))∧at_≤s.length∧rest=s.drop at_
abbrev gaveUp:Ending:=.panicked [{ v:=.iface 9 (.string ⟨#[119,105,114,101,58,32,103,97,118,101,32,117,112]⟩),recovered:=false }]
theorem qh (w:World):Calls Tryz.prog 69 #[.bool true] w fun e w'=>e=.returned (.tuple #[])∧w'=w:=by
 go_enter Tryz.func69,Tryz.ntmps69
 go_wp2
 go_end0
 exact ⟨rfl,rfl⟩
theorem qU (w:World):Calls Tryz.prog 69 #[.bool false] w fun e w'=>e=gaveUp∧w'=w:=by
 go_enter Tryz.func69,Tryz.ntmps69
 go_wp2
 exact ⟨rfl,rfl,rfl⟩
theorem VY {w:World} {p:Nat} {x y:Value} {t:TypeId} (h:w.heap[p]?=some (.cells #[x,y] t (0,0))) :
  (w.cell? ⟨p,0,none⟩=some x∧w.cell? ⟨p,1,none⟩=some y)∧(∀ j,w.frozen? ⟨p,j,none⟩=false):=by
 refine ⟨⟨?_,?_⟩,fun j=>frozen_of_row w p j _ t h⟩
 ·rw [cell_of_row w p 0 _ t (0,0) h];rfl
 ·rw [cell_of_row w p 1 _ t (0,0) h];rfl
theorem FX {w:World} {p:Nat} {x y v:Value} {t:TypeId} (h:w.heap[p]?=some (.cells #[x,y] t (0,0))):(w.setCell ⟨p,1,none⟩ v).heap[p]?=some (.cells #[x,v] t (0,0))∧w.grownBy (w.setCell ⟨p,1,none⟩ v) (some p):=by
 refine ⟨?_,⟨rfl,rfl,rfl,by simp,fun k _ hk=>heap_setCell_other w ⟨p,1,none⟩ k v (fun e=>hk (by simp [e]))⟩⟩
 rw [heap_setCell_same w p 1 _ t v h]
 rfl
theorem Zg (p:Nat) (s rest:List UInt8) (w:World) (hs:s.length≤maxLen) (hp:qy w p s rest) :
  Calls Tryz.prog 103 #[.pointer (some ⟨p,0,none⟩)] w fun e w'=>w.grownBy w' (some p) ∧
   ((rest=[]∧e=gaveUp)∨∃ c r,rest=c :: r∧e=.returned (.int .u8 (c.toNat:Int))∧qy w' p s r):=by
 obtain ⟨at_,hrow,hat,rfl⟩:=hp
 obtain ⟨⟨c0,c1⟩,cf⟩:=VY hrow
 have f1:=cf 1
 have Hrow:=hid hrow
 unfold maxLen at hs
 clear hrow cf
 have hz:=jM s
 by_cases hlt:at_ < s.length
 ·have hi:(at_:Int) < (s.length:Int):=by omega
  go_enter Tryz.func103,Tryz.ntmps103
  go_wp2_with fail
  go_region_held3 (fun w'=>w'.cell? ⟨p,0,none⟩=some (strB s)∧w'.cell? ⟨p,1,none⟩=some (.int .i64 (at_:Int))) (exact ⟨c0,c1⟩)
   (first|(go_at_call 69;refine (qh _).mono ?_;rintro e w' ⟨rfl,rfl⟩))
  go_wp2_with fail
  obtain ⟨h1,h2⟩:=FX (v:=.int .i64 ((at_:Int)+1)) Hrow.out
  have h3:=h1
  obtain ⟨⟨d0,d1⟩,_⟩:=VY h3
  clear h3 c0 c1 f1
  generalize w.setCell _ _=w1 at *
  have H1:=hid h1
  have H2:=hid h2
  clear h1 h2
  have hb:at_ < (⟨s.toArray⟩:ByteArray).size:=by rw [jM];exact hlt
  have hsub:IntKind.i64.wrap ((at_:Int)+1 - 1)=(at_:Int):=by rw [IntKind.wrap_i64];omega
  have e0:w1.drew.cell? ⟨p,0,none⟩=some (strB s):=d0
  have e1:w1.drew.cell? ⟨p,1,none⟩=some (.int .i64 ((at_:Int)+1)):=d1
  go_quiet (fail)
  go_wp2
  go_ret
  refine ⟨?_,.inr ⟨s[at_],s.drop (at_+1),List.drop_eq_getElem_cons hlt,?_,at_+1,H1.out,hlt,rfl⟩⟩
  ·exact ⟨H2.out.os,H2.out.tape,H2.out.output,H2.out.size,H2.out.block⟩
  ·exact xd (by rw [VI s at_ hlt])
 ·have hi:decide ((at_:Int) < (s.length:Int))=false:=by simp;omega
  go_enter Tryz.func103,Tryz.ntmps103
  go_wp2_with fail
  have HD:Hid (s.drop at_=[]):=List.drop_of_length_le (by omega)
  refine wp_region_held_drew (S:=fun w'=>w'.cell? ⟨p,0,none⟩=some (strB s)∧w'.cell? ⟨p,1,none⟩=some (.int .i64 (at_:Int))) (by kernel_rfl) ?_ (fun hHeld=>?_)
  ·exact ⟨c0,c1⟩
  refine tk 0 (.pointer (some ⟨p,0,none⟩)) ?_
  refine tk 1 (.pointer (some ⟨p,0,none⟩)) ?_
  refine tk 2 (.pointer (some ⟨p,1,none⟩)) ?_
  refine tk 3 (.int .i64 (at_:Int)) ?_
  refine tk 4 (.pointer (some ⟨p,0,none⟩)) ?_
  refine tk 5 (.pointer (some ⟨p,0,none⟩)) ?_
  refine tk 6 (.pointer (some ⟨p,0,none⟩)) ?_
  refine tk 7 (strB s) ?_
  refine tk 8 (.int .i64 (s.length:Int)) ?_
  refine tk 9 (.bool false) ?_
  simp only [jA,jB,jC,Act.put,jD,jE,jF]
  refine rd 10 (fun K hK=>?_)
  simp only [jA,jB,jC]
  go_simp
  go_at_call 69
  refine (qU _).mono ?_
  rintro e w' ⟨rfl,rfl⟩
  exact ⟨rfl,⟨rfl,rfl,rfl,Nat.le_refl _,fun _ _ _=>rfl⟩,.inl ⟨HD.out,rfl⟩⟩
end
section
theorem St (a:Int) (h0:0≤a) (h1:a≤255):bits .andNot .u8 a 128=a % 128:=by
 obtain ⟨k,rfl⟩:=Int.eq_ofNat_of_zero_le h0
 have key:∀ k:Fin 256,bits .andNot .u8 ((k.val:Nat):Int) 128=((k.val:Nat):Int) % 128:=by decide
 exact key ⟨k,by omega⟩
theorem IA (m:Nat) (r:List UInt8) (c:UInt8) (rest:List UInt8) (h:c :: rest=uB m++r) :
  (128≤c.toNat∧127 < m∧m % 128+128=c.toNat∧rest=uB (m / 128)++r)∨(c.toNat < 128∧m=c.toNat∧rest=r):=by
 by_cases hm:m≤127
 ·rw [zt hm] at h
  simp only [List.cons_append,List.nil_append,List.cons.injEq] at h
  obtain ⟨rfl,rfl⟩:=h
  right
  rw [JR m (by omega)]
  exact ⟨by omega,rfl,rfl⟩
 ·rw [ZU (by omega)] at h
  simp only [List.cons_append,List.cons.injEq] at h
  obtain ⟨rfl,rfl⟩:=h
  left
  have:=JR (m % 128+128) (by omega)
  have e:((m % 128+128:Nat):Int)=(m:Int) % 128+128:=by omega
  rw [e] at this
  rw [this]
  exact ⟨by omega,by omega,rfl,rfl⟩
theorem FZ (m:Nat) (r:List UInt8):uB m++r≠[]:=by
 intro h
 have h1:=Fu m
 have h2:=congrArg List.length h
 rw [List.length_append,List.length_nil] at h2
 omega
def Vq (rest0:List UInt8) (j acc:Nat) (rest:List UInt8):Prop :=
 acc < 128 ^ j∧∀ m r,rest0=uB m++r ↔ ∃ m',m=acc+128 ^ j*m'∧(0 < j→0 < m')∧rest=uB m'++r
theorem EM (rest:List UInt8):Vq rest 0 0 rest:=by
 refine ⟨by simp,fun m r=>⟨fun h=>⟨m,by simp,fun h=>by omega,h⟩,?_⟩⟩
 rintro ⟨m',h1,_,h2⟩
 have:m=m':=by simpa using h1
 subst this
 exact h2
theorem IU {rest0 rest:List UInt8} {j acc:Nat} {c:UInt8} (h:Vq rest0 j acc (c :: rest)) (hc:128≤c.toNat):Vq rest0 (j+1) (acc+128 ^ j*(c.toNat % 128)) rest:=by
 obtain ⟨h1,h2⟩:=h
 have hlt:=c.toNat_lt
 refine ⟨?_,fun m r=>?_⟩
 ·have:128 ^ j*(c.toNat % 128)≤128 ^ j*127:=Nat.mul_le_mul_left _ (by omega)
  rw [Nat.pow_succ]
  omega
 ·rw [h2 m r]
  constructor
  ·rintro ⟨m',rfl,h3,h4⟩
   rcases IA m' r c rest h4 with ⟨_,k1,k2,k3⟩|⟨k1,_,_⟩
   ·refine ⟨m' / 128,?_,fun _=>by omega,k3⟩
    have e:c.toNat % 128=m' % 128:=by omega
    rw [e,Nat.pow_succ,Nat.mul_assoc,Nat.add_assoc,← Nat.mul_add]
    congr 2
    omega
   ·omega
  ·rintro ⟨m',rfl,h3,h4⟩
   have h3:=h3 (by omega)
   refine ⟨c.toNat % 128+128*m',?_,fun _=>by omega,?_⟩
   ·rw [Nat.pow_succ,Nat.mul_assoc,Nat.add_assoc,← Nat.mul_add]
   ·rw [ZU (by omega),h4]
    have e1:(c.toNat % 128+128*m') / 128=m':=by omega
    have e2:(((c.toNat % 128+128*m':Nat):Int) % 128+128)=(c.toNat:Int):=by omega
    rw [e1,e2,AS]
    rfl
theorem GJ {rest0 rest:List UInt8} {j acc:Nat} {c:UInt8} (h:Vq rest0 j acc (c :: rest)) (hc:c.toNat < 128) (m:Nat) (r:List UInt8) :
  rest0=uB m++r ↔ (m=acc+128 ^ j*c.toNat∧(0 < j→0 < c.toNat)∧r=rest):=by
 rw [h.2 m r]
 constructor
 ·rintro ⟨m',rfl,h3,h4⟩
  rcases IA m' r c rest h4 with ⟨k1,_,_,_⟩|⟨_,k2,k3⟩
  ·omega
  ·subst k2
   exact ⟨rfl,h3,k3.symm⟩
 ·rintro ⟨rfl,h3,rfl⟩
  refine ⟨c.toNat,rfl,h3,?_⟩
  rw [zt (by omega),AS]
  rfl
theorem Ca {rest0:List UInt8} {j acc:Nat} (h:Vq rest0 j acc []) (m:Nat) (r:List UInt8):rest0≠uB m++r:=by
 intro h0
 obtain ⟨m',_,_,h4⟩:=(h.2 m r).1 h0
 exact FZ m' r h4.symm
theorem Aq:128 ^ 9=9223372036854775808:=by decide
theorem MC {rest0 rest:List UInt8} {acc:Nat} {c:UInt8} (h:Vq rest0 9 acc (c :: rest)) (hc:2≤c.toNat) (m:Nat) (r:List UInt8) (hm:m < 18446744073709551616):rest0≠uB m++r:=by
 intro h0
 obtain ⟨m',rfl,_,h4⟩:=(h.2 m r).1 h0
 rw [Aq] at hm
 rcases IA m' r c rest h4 with ⟨_,k1,_,_⟩|⟨_,k2,_⟩<;>omega
theorem Lf (acc c j:Nat) (hacc:acc < 128 ^ j) (hx:128 ^ j*(c % 128) < 18446744073709551616) (ha:acc < 18446744073709551616) :
  bits .or .u64 (acc:Int) (IntKind.u64.wrap ((c:Int) % 128*2 ^ (7*j)))=((acc+128 ^ j*(c % 128):Nat):Int):=by
 have hp:128 ^ j=2 ^ (7*j):=by rw [show 128=2 ^ 7 from rfl,← Nat.pow_mul]
 have hw:IntKind.u64.wrap ((c:Int) % 128*2 ^ (7*j))=((2 ^ (7*j)*(c % 128):Nat):Int):=by
  rw [IntKind.wrap_u64]
  have e:((c:Int) % 128*2 ^ (7*j))=((2 ^ (7*j)*(c % 128):Nat):Int):=by
   rw [Int.mul_comm];simp
  rw [e]
  rw [hp] at hx
  generalize 2 ^ (7*j)*(c % 128)=q at *
  omega
 rw [hw,u64_or_nat _ _ ha (by rw [← hp];exact hx),hp]
 rw [hp] at hacc
 rw [Nat.or_comm,← Nat.two_pow_add_eq_or_of_lt hacc]
 congr 1
 omega
theorem Tu (j:Nat) (h:j≤8):128 ^ j≤72057594037927936:=by
 have:=Nat.pow_le_pow_right (n:=128) (by decide) h
 exact Nat.le_trans this (by decide)
theorem RY (p:Nat) (s rest:List UInt8) (w:World) (hs:s.length≤maxLen) (hp:qy w p s rest) :
  Calls Tryz.prog 171 #[.pointer (some ⟨p,0,none⟩)] w fun e w'=>w.grownBy w' (some p) ∧
   ((e=gaveUp∧∀ m r,m < 18446744073709551616→rest≠uB m++r)∨∃ n r,n < 18446744073709551616∧rest=uB n++r∧e=.returned (.int .u64 (n:Int))∧qy w' p s r):=by
 have Hs:=hid hs
 have Hp:=hid hp
 clear hs hp
 go_enter Tryz.func171,Tryz.ntmps171
 go_wp2
 go_loopw [3,4] (fun n sh wr=>∃ (j acc:Nat) (r1:List UInt8),j≤9∧n=.int .u64 (acc:Int)∧sh=.int .i64 ((7*j:Nat):Int)∧Vq rest j acc r1∧qy wr p s r1∧w.grownBy wr (some p)) (fun _ sh _=>100 - (intOf sh).toNat)
 case atStart=>exact ⟨0,0,rest,by omega,rfl,rfl,EM rest,Hp.out,⟨rfl,rfl,rfl,Nat.le_refl _,fun _ _ _=>rfl⟩⟩
 case round =>
  obtain ⟨j,acc,r1,hj,rfl,rfl,hinv,hrd,hg⟩:=hrel
  have Hinv:=hid hinv
  have Hg:=hid hg
  have hacc:acc < 128 ^ 9:=Nat.lt_of_lt_of_le hinv.1 (Nat.pow_le_pow_right (by decide) hj)
  rw [Aq] at hacc
  clear hinv hg
  go_wp2_with fail
  refine (Zg p s r1 _ Hs.out hrd).mono ?_
  rintro e w2 ⟨hg2,⟨rfl,rfl⟩|⟨c,r,rfl,rfl,hrd2⟩⟩
  ·go_wp2
   exact ⟨rfl,jg Hg.out hg2,.inl ⟨rfl,fun m r _=>Ca Hinv.out m r⟩⟩
  ·have HG2:=hid (jg Hg.out hg2)
   have Hrd2:=hid hrd2
   have hct:=c.toNat_lt
   have ha:=St (c.toNat:Int) (by omega) (by omega)
   clear hrd hrd2 hg2
   by_cases hj9:j < 9
   ·have hj63:((7*j:Nat):Int) < 63:=by omega
    have hp8:=Tu j (by omega)
    have hx:128 ^ j*(c.toNat % 128)≤72057594037927936*127:=Nat.mul_le_mul hp8 (by omega)
    have ho:=Lf acc c.toNat j Hinv.out.1 (by omega) (by omega)
    by_cases hc:c.toNat < 128
    ·have hci:(c.toNat:Int) < 128:=by omega
     have hm:c.toNat % 128=c.toNat:=by omega
     have HL:=hid (GJ Hinv.out hc)
     rw [hm] at ho hx
     have Hx:Hid (acc+128 ^ j*c.toNat < 18446744073709551616):=by show _ < _;omega
     clear hx hm
     by_cases hz:0 < c.toNat
     ·have hzi:(0:Int) < (c.toNat:Int):=by omega
      generalize hq:128 ^ j*c.toNat=q at *
      clear hq
      go_wp2_with fail
      refine (qh _).mono ?_
      rintro e w3 ⟨rfl,rfl⟩
      go_wp2_with fail
      refine (qh _).mono ?_
      rintro e w3 ⟨rfl,rfl⟩
      go_wp2
      go_ret
      exact ⟨HG2.out,.inr ⟨acc+q,r,Hx.out,(HL.out (acc+q) r).2 ⟨rfl,fun _=>hz,rfl⟩,rfl,Hrd2.out⟩⟩
     ·have hzi:decide ((0:Int) < (c.toNat:Int))=false:=by simp;omega
      by_cases hj0:j=0
      ·have hji:(7*(j:Int) == 0)=true:=by simp;omega
       have Hj0:=hid hj0
       clear hj0
       generalize hq:128 ^ j*c.toNat=q at *
       clear hq
       go_wp2_with fail
       refine (qh _).mono ?_
       rintro e w3 ⟨rfl,rfl⟩
       go_wp2_with fail
       refine (qh _).mono ?_
       rintro e w3 ⟨rfl,rfl⟩
       go_wp2
       go_ret
       exact ⟨HG2.out,.inr ⟨acc+q,r,Hx.out,(HL.out (acc+q) r).2 ⟨rfl,fun h=>by have:=Hj0.out;omega,rfl⟩,rfl,Hrd2.out⟩⟩
      ·have hji:(7*(j:Int) == 0)=false:=by simp;omega
       go_wp2_with fail
       refine (qh _).mono ?_
       rintro e w3 ⟨rfl,rfl⟩
       go_wp2_with fail
       refine (qU _).mono ?_
       rintro e w3 ⟨rfl,rfl⟩
       go_wp2
       exact ⟨rfl,HG2.out,.inl ⟨rfl,fun m r _ h=>absurd (((HL.out m r).1 h).2.1 (by omega)) hz⟩⟩
    ·have hci:decide ((c.toNat:Int) < 128)=false:=by simp;omega
     have Hx:=hid hx
     clear hx
     go_wp2_with fail
     refine (qh _).mono ?_
     rintro e w3 ⟨rfl,rfl⟩
     go_wp2_with fail
     go_roundw
     case rel=>exact ⟨j+1,acc+128 ^ j*(c.toNat % 128),r,by omega,rfl,by go_num,IU Hinv.out (by omega),Hrd2.out,HG2.out⟩
     case measure=>simp [intOf];omega
   ·have hj93:decide (7*(j:Int) < 63)=false:=by simp;omega
    have hje:j=9:=by omega
    have hpj:128 ^ j=9223372036854775808:=by rw [hje]
    by_cases hc1:c.toNat≤1
    ·have hc1i:(c.toNat:Int)≤1:=by omega
     have hci:(c.toNat:Int) < 128:=by omega
     have hm:c.toNat % 128=c.toNat:=by omega
     have hc:c.toNat < 128:=by omega
     have ho:=Lf acc c.toNat j Hinv.out.1 (by rw [hpj];omega) (by omega)
     have HL:=hid (GJ Hinv.out hc)
     rw [hm] at ho
     have Hx:Hid (acc+128 ^ j*c.toNat < 18446744073709551616):=by show _ < _;rw [hpj];omega
     have hj1:0 < j:=by omega
     clear hm hpj hje
     by_cases hz:0 < c.toNat
     ·have hzi:(0:Int) < (c.toNat:Int):=by omega
      generalize hq:128 ^ j*c.toNat=q at *
      clear hq
      go_wp2_with fail
      refine (qh _).mono ?_
      rintro e w3 ⟨rfl,rfl⟩
      go_wp2_with fail
      refine (qh _).mono ?_
      rintro e w3 ⟨rfl,rfl⟩
      go_wp2
      go_ret
      exact ⟨HG2.out,.inr ⟨acc+q,r,Hx.out,(HL.out (acc+q) r).2 ⟨rfl,fun _=>hz,rfl⟩,rfl,Hrd2.out⟩⟩
     ·have hzi:decide ((0:Int) < (c.toNat:Int))=false:=by simp;omega
      have hji:(7*(j:Int) == 0)=false:=by simp;omega
      go_wp2_with fail
      refine (qh _).mono ?_
      rintro e w3 ⟨rfl,rfl⟩
      go_wp2_with fail
      refine (qU _).mono ?_
      rintro e w3 ⟨rfl,rfl⟩
      go_wp2
      exact ⟨rfl,HG2.out,.inl ⟨rfl,fun m r _ h=>absurd (((HL.out m r).1 h).2.1 (by omega)) hz⟩⟩
    ·have hci:decide ((c.toNat:Int)≤1)=false:=by simp;omega
     clear hpj
     have Hje:=hid hje
     clear hje
     go_wp2_with fail
     refine (qU _).mono ?_
     rintro e w3 ⟨rfl,rfl⟩
     go_wp2
     exact ⟨rfl,HG2.out,.inl ⟨rfl,fun m r hm=>MC (by rw [← Hje.out];exact Hinv.out) (by omega) m r hm⟩⟩
end
section
def GQ {α:Type} (dom:α→Prop) (enc:α→List UInt8) (val:α→Value) (p:Nat) (s rest:List UInt8) (w:World) (e:Ending) (w':World):Prop :=
 w.grownBy w' (some p)∧((e=gaveUp∧∀ a q,dom a→rest≠enc a++q)∨∃ a r,dom a∧e=.returned (val a)∧qy w' p s r∧∀ b q,dom b→rest=enc b++q→b=a∧q=r)
theorem Rb {n m:Nat} {r q:List UInt8} (hn:n < 18446744073709551616) (hm:m < 18446744073709551616) (h:uB n++r=uB m++q):n=m∧r=q:=by
 have h1:=Ti n r hn
 have h2:=Ti m q hm
 rw [h,h2] at h1
 simp only [Prod.mk.injEq,Option.some.injEq] at h1
 exact ⟨h1.1.symm,h1.2.symm⟩
theorem jU (w:World) (q:Option Nat):w.grownBy w q:=⟨rfl,rfl,rfl,Nat.le_refl _,fun _ _ _=>rfl⟩
theorem Kz (p:Nat) (s rest:List UInt8) (most:Nat) (w:World) (hs:s.length≤maxLen) (hm:most≤1000000) (hp:qy w p s rest) :
  Calls Tryz.prog 139 #[.pointer (some ⟨p,0,none⟩),.int .i64 (most:Int)] w (GQ (fun n:Nat=>n≤most) uB (fun n=>.int .i64 (n:Int)) p s rest w):=by
 have Hs:=hid hs
 have Hp:=hid hp
 clear hs hp
 have hw1:IntKind.u64.wrap (most:Int)=(most:Int):=VN (by omega) (by omega)
 go_enter Tryz.func139,Tryz.ntmps139
 go_wp2_with fail
 refine (RY p s rest _ Hs.out Hp.out).mono ?_
 rintro e w1 ⟨hg,⟨rfl,hno⟩|⟨n,r,hn,hr,rfl,hrd⟩⟩
 ·go_wp2
  exact ⟨rfl,hg,.inl ⟨rfl,fun a q ha=>hno a q (by omega)⟩⟩
 ·have Hr:=hid hr
  have Hrd:=hid hrd
  clear hr hrd
  by_cases hle:n≤most
  ·have hi:(n:Int)≤(most:Int):=by omega
   have hw2:IntKind.i64.wrap (n:Int)=(n:Int):=UJ (by omega) (by omega)
   go_wp2_with fail
   refine (qh _).mono ?_
   rintro e w2 ⟨rfl,rfl⟩
   go_wp2
   go_ret
   exact ⟨hg,.inr ⟨n,r,hle,rfl,Hrd.out,fun b q hb hbq=>by
    have:=Rb hn (by omega) (Hr.out.symm.trans hbq)
    exact ⟨this.1.symm,this.2.symm⟩⟩⟩
  ·have hi:decide ((n:Int)≤(most:Int))=false:=by simp;omega
   go_wp2_with fail
   refine (qU _).mono ?_
   rintro e w2 ⟨rfl,rfl⟩
   go_wp2
   exact ⟨rfl,hg,.inl ⟨rfl,fun a q ha haq=>by
    have:=(Rb hn (by omega) (Hr.out.symm.trans haq)).1
    omega⟩⟩
def inI (z:Int):Prop:=-9223372036854775808≤z∧z≤9223372036854775807
theorem LI (n:Nat) (h:n < 18446744073709551616):inI (zOf n):=by
 unfold zOf inI
 split<;>omega
theorem DA (p:Nat) (s rest:List UInt8) (w:World) (hs:s.length≤maxLen) (hp:qy w p s rest) :
  Calls Tryz.prog 178 #[.pointer (some ⟨p,0,none⟩)] w (GQ inI zB (fun z=>.int .i64 z) p s rest w):=by
 have Hs:=hid hs
 have Hp:=hid hp
 clear hs hp
 go_enter Tryz.func178,Tryz.ntmps178
 go_wp2_with fail
 refine (RY p s rest _ Hs.out Hp.out).mono ?_
 rintro e w1 ⟨hg,⟨rfl,hno⟩|⟨n,r,hn,hr,rfl,hrd⟩⟩
 ·go_wp2
  exact ⟨rfl,hg,.inl ⟨rfl,fun a q ha=>hno (zN a) q (Tn a ha.1 ha.2)⟩⟩
 ·have Hr:=hid hr
  have Hrd:=hid hrd
  clear hr hrd
  have HU:Hid (∀ (b:Int) (q:List UInt8),inI b→rest=zB b++q→b=zOf n∧q=r):=by
   intro b q hb hbq
   have:=Rb hn (Tn b hb.1 hb.2) (Hr.out.symm.trans hbq)
   exact ⟨by rw [this.1,MB],this.2.symm⟩
  by_cases hev:n % 2=0
  ·have HZ:Hid (zOf n=(n:Int) / 2):=by simp [Hid,zOf,hev]
   have hb:((n:Int) % 2 == 0)=true:=by simp;omega
   have hw2:IntKind.i64.wrap ((n:Int) / 2)=(n:Int) / 2:=UJ (by omega) (by omega)
   clear hev
   go_wp2
   go_ret
   exact ⟨hg,.inr ⟨zOf n,r,LI n hn,xd HZ.out.symm,Hrd.out,HU.out⟩⟩
  ·have HZ:Hid (zOf n=-((n:Int) / 2) - 1):=by simp [Hid,zOf,hev]
   have hb:((n:Int) % 2 == 0)=false:=by simp;omega
   have hx:=Te ((n:Int) / 2) (by omega) (by omega)
   have hw2:IntKind.i64.wrap (18446744073709551615 - (n:Int) / 2)=-((n:Int) / 2) - 1:=by rw [IntKind.wrap_i64];omega
   clear hev
   go_wp2
   go_ret
   exact ⟨hg,.inr ⟨zOf n,r,LI n hn,xd (by rw [HZ.out];unfold wrap64;omega),Hrd.out,HU.out⟩⟩
theorem KO (s:List UInt8) (a b:Nat):(⟨s.toArray⟩:ByteArray).extract a b=⟨((s.drop a).take (b - a)).toArray⟩:=by
 rw [ByteArray.extract_mk]
 first|done|simp
theorem AW (ps:List (List UInt8)) (C:Array Value) (n:Nat) (w:World) (G:Nat) (h:w.heap[G]?=some (.cells C 9 (0,0))) (hC:C=(zl ps).toArray) (hl:ps.length=n) (hn:n≤1000) (hs:ps.flatten.length≤1000000) :
  Calls Tryz.prog 93 #[.slice (some ⟨G,0,none⟩) n n] w fun e w'=>e=.returned (strB ps.flatten)∧Below w.heap.size w w':=by
 subst hl
 refine Kt ps G ps.length w hn hs ?_ ?_
 ·rcases Nat.lt_or_ge G w.heap.size with h2|h2
  ·exact h2
  ·rw [Array.getElem?_eq_none h2] at h;cases h
 ·intro j hj
  rw [cell_of_row w G j C _ (0,0) h,hC]
  simp [zl,hj]
theorem qJ {w w':World} {p:Nat} {s r:List UInt8} {q:Nat} (h:qy w p s r) (hb:Below q w w') (hp:p < q):qy w' p s r:=by
 obtain ⟨at_,h1,h2,h3⟩:=h
 exact ⟨at_,(hb.block p hp).trans h1,h2,h3⟩
theorem xF {w:World} {p:Nat} {s r:List UInt8} (h:qy w p s r):p < w.heap.size:=by
 obtain ⟨at_,h1,_⟩:=h
 rcases Nat.lt_or_ge p w.heap.size with h2|h2
 ·exact h2
 ·rw [Array.getElem?_eq_none h2] at h1;cases h1
theorem jG {a b c:World} {q:Option Nat} (h:a.grownBy b q) (hb:Below b.heap.size b c):a.grownBy c q :=
 ⟨hb.os.trans h.os,hb.tape.trans h.tape,hb.output.trans h.output,Nat.le_trans h.size hb.size,fun i hi hne=>(hb.block i (Nat.lt_of_lt_of_le hi h.size)).trans (h.block i hi hne)⟩
theorem Js (p:Nat) (s rest:List UInt8) (n:Nat) (w:World) (hs:s.length≤maxLen) (hn:n≤100000) (hp:qy w p s rest) :
  Calls Tryz.prog 102 #[.pointer (some ⟨p,0,none⟩),.int .i64 (n:Int)] w fun e w'=>w.grownBy w' (some p) ∧
   ((rest.length < n∧e=gaveUp)∨(n≤rest.length∧e=.returned (strB (rest.take n))∧qy w' p s (rest.drop n))):=by
 obtain ⟨at_,hrow,hat,rfl⟩:=hp
 obtain ⟨⟨c0,c1⟩,cf⟩:=VY hrow
 have f1:=cf 1
 have Hrow:=hid hrow
 unfold maxLen at hs
 clear hrow cf
 have hz:=jM s
 have hdl:(s.drop at_).length=s.length - at_:=List.length_drop
 have hw0:IntKind.i64.wrap ((s.length:Int) - (at_:Int))=(s.length:Int) - (at_:Int):=UJ (by omega) (by omega)
 by_cases hlt:n≤s.length - at_
 ·have hi:(n:Int)≤(s.length:Int) - (at_:Int):=by omega
  go_enter Tryz.func102,Tryz.ntmps102
  go_wp2_with fail
  go_region_held3 (fun w'=>w'.cell? ⟨p,0,none⟩=some (strB s)∧w'.cell? ⟨p,1,none⟩=some (.int .i64 (at_:Int))) (exact ⟨c0,c1⟩)
   (first|(go_at_call 69;refine (qh _).mono ?_;rintro e w' ⟨rfl,rfl⟩))
  go_wp2_with fail
  obtain ⟨h1,h2⟩:=FX (v:=.int .i64 ((at_:Int)+(n:Int))) Hrow.out
  have hplt:p < w.heap.size:=World.block_lt_of_cell? w _ c0
  have h3:=h1
  obtain ⟨⟨d0,d1⟩,_⟩:=VY h3
  have hsz:(w.setCell ⟨p,1,none⟩ (.int .i64 ((at_:Int)+(n:Int)))).heap.size=w.heap.size:=by simp
  have hplt1:p < (w.setCell ⟨p,1,none⟩ (.int .i64 ((at_:Int)+(n:Int)))).heap.size:=by rw [hsz];exact hplt
  clear h3 c0 c1 f1 hsz
  generalize w.setCell _ _=w1 at *
  have HRD:Hid (qy w1 p s ((s.drop at_).drop n)):=⟨at_+n,by simpa using h1,by omega,by rw [List.drop_drop]⟩
  have H2:=hid h2
  clear h1 h2
  have hq:(at_:Int)+(n:Int)=((at_+n:Nat):Int):=by omega
  rw [hq] at d1
  have hmid:=KO s at_ (at_+n)
  rw [Nat.add_sub_cancel_left] at hmid
  have hq1:at_+n≤s.length:=by omega
  have hq2:((at_+n:Nat):Int) - (n:Int)=(at_:Int):=by omega
  have hq3:at_≤at_+n:=by omega
  clear hq
  generalize at_+n=q at *
  have hsub:IntKind.i64.wrap ((q:Int) - (n:Int))=(at_:Int):=by rw [IntKind.wrap_i64];omega
  clear hq2
  have hk0:(0:Int)≤(at_:Int):=by omega
  have hk1:(at_:Int)≤(q:Int):=by omega
  have hk2:(q:Int)≤(s.length:Int):=by omega
  have Hll:Hid (((s.drop at_).take n).length≤100000):=by show _≤_;rw [List.length_take];omega
  generalize hT:(s.drop at_).take n=T at *
  have HT:=hid hT
  clear hT
  go_region_held3 (fun w'=>w'.cell? ⟨p,0,none⟩=some (strB s)∧w'.cell? ⟨p,1,none⟩=some (.int .i64 (q:Int))) (first|exact ⟨je _ d0,je _ d1⟩|exact ⟨k0,k1⟩|exact ⟨d0,d1⟩)
   (first|(go_at_call 93;refine (AW [T] #[strB T] 1 _ _ ?_ rfl rfl ?_ ?_).mono ?_;exact heap_alloc_new w1 _;decide;(have:=Hll.out;simp;omega);rintro e w5 ⟨rfl,hb5⟩;have hb5':Below w1.heap.size w1 w5:=xG (jl (jl hb5));have k0:=(hb5'.cell (p:=⟨p,0,none⟩) hplt1).trans d0;have k1:=(hb5'.cell (p:=⟨p,1,none⟩) hplt1).trans d1))
  have HF:=hid (qJ HRD.out hb5' hplt1)
  have HG:=hid (jG H2.out hb5')
  clear k0 k1 d0 d1 hb5 hb5'
  go_wp2
  go_ret
  exact ⟨HG.out,.inr ⟨by omega,xj HT.out.symm,HF.out⟩⟩
 ·have hi:decide ((n:Int)≤(s.length:Int) - (at_:Int))=false:=by simp;omega
  go_enter Tryz.func102,Tryz.ntmps102
  go_wp2_with fail
  refine wp_region_held_drew (S:=fun w'=>w'.cell? ⟨p,0,none⟩=some (strB s)∧w'.cell? ⟨p,1,none⟩=some (.int .i64 (at_:Int))) (by kernel_rfl) ?_ (fun hHeld=>?_)
  ·exact ⟨c0,c1⟩
  refine tk 0 (.int .i64 (n:Int)) ?_
  refine tk 1 (.pointer (some ⟨p,0,none⟩)) ?_
  refine tk 2 (.pointer (some ⟨p,0,none⟩)) ?_
  refine tk 3 (.pointer (some ⟨p,0,none⟩)) ?_
  refine tk 4 (strB s) ?_
  refine tk 5 (.int .i64 (s.length:Int)) ?_
  refine tk 6 (.pointer (some ⟨p,0,none⟩)) ?_
  refine tk 7 (.pointer (some ⟨p,0,none⟩)) ?_
  refine tk 8 (.pointer (some ⟨p,1,none⟩)) ?_
  refine tk 9 (.int .i64 (at_:Int)) ?_
  refine tk 10 (.int .i64 ((s.length:Int) - (at_:Int))) ?_
  refine tk 11 (.bool false) ?_
  simp only [jA,jB,jC,Act.put,jD,jE,jF]
  refine rd 12 (fun K hK=>?_)
  simp only [jA,jB,jC]
  go_simp
  go_at_call 69
  refine (qU _).mono ?_
  rintro e w' ⟨rfl,rfl⟩
  exact ⟨rfl,⟨rfl,rfl,rfl,Nat.le_refl _,fun _ _ _=>rfl⟩,.inl ⟨by omega,rfl⟩⟩
theorem YX (p:Nat) (s rest:List UInt8) (most:Nat) (w:World) (hs:s.length≤maxLen) (hm:most≤12) (hp:qy w p s rest) :
  Calls Tryz.prog 172 #[.pointer (some ⟨p,0,none⟩),.int .i64 (most:Int)] w (GQ (fun t:List UInt8=>t.length≤most) xB strB p s rest w):=by
 have Hs:=hid hs
 have Hp:=hid hp
 clear hs hp
 go_enter Tryz.func172,Tryz.ntmps172
 go_wp2_with fail
 refine (Kz p s rest most _ Hs.out (by omega) Hp.out).mono ?_
 rintro e w1 ⟨hg,⟨rfl,hno⟩|⟨n,r,hn,rfl,hrd,hu⟩⟩
 ·go_wp2
  exact ⟨rfl,hg,.inl ⟨rfl,fun a q ha h=>hno a.length (a++q) ha (by rw [h,xB,List.append_assoc])⟩⟩
 ·have Hu:=hid hu
  clear hu
  go_wp2_with fail
  refine (Js p s r n _ Hs.out (by omega) hrd).mono ?_
  rintro e w2 ⟨hg2,⟨hlen,rfl⟩|⟨hlen,rfl,hrd2⟩⟩
  ·go_wp2
   refine ⟨rfl,jg hg hg2,.inl ⟨rfl,fun a q ha h=>?_⟩⟩
   obtain ⟨h1,h2⟩:=Hu.out a.length (a++q) ha (by rw [h,xB,List.append_assoc])
   rw [← h2,List.length_append] at hlen
   omega
  ·go_wp2
   go_ret
   refine ⟨jg hg hg2,.inr ⟨r.take n,r.drop n,by show (r.take n).length≤most;rw [List.length_take];omega,rfl,hrd2,fun b q hb h=>?_⟩⟩
   obtain ⟨h1,h2⟩:=Hu.out b.length (b++q) hb (by rw [h,xB,List.append_assoc])
   subst h1 h2
   simp
theorem Ih (p:Nat) (s rest:List UInt8) (w:World) (hs:s.length≤maxLen) (hp:qy w p s rest) :
  Calls Tryz.prog 167 #[.pointer (some ⟨p,0,none⟩)] w (GQ (fun t:List UInt8=>t.length≤12) xB strB p s rest w):=by
 have Hs:=hid hs
 have Hp:=hid hp
 clear hs hp
 go_enter Tryz.func167,Tryz.ntmps167
 go_wp2_with fail
 refine (YX p s rest 12 _ Hs.out (by omega) Hp.out).mono ?_
 rintro e w1 ⟨hg,⟨rfl,hno⟩|⟨t,r,hn,rfl,hrd,hu⟩⟩
 ·go_wp2
  exact ⟨rfl,hg,.inl ⟨rfl,hno⟩⟩
 ·have Hu:=hid hu
  clear hu
  go_wp2
  go_ret
  exact ⟨hg,.inr ⟨t,r,hn,rfl,hrd,Hu.out⟩⟩
theorem Bu (a v:Int) (ha:inI a) (hv:inI v):wrap64 (a+wrap64 (v - a))=v:=by
 obtain ⟨h1,h2⟩:=ha
 obtain ⟨h3,h4⟩:=hv
 unfold wrap64
 omega
theorem Ny (n:Int):inI (wrap64 n):=JU n
theorem KY (p:Nat) (s rest:List UInt8) (a:Int) (w:World) (hs:s.length≤maxLen) (ha:inI a) (hp:qy w p s rest) :
  Calls Tryz.prog 156 #[.pointer (some ⟨p,0,none⟩),.int .i64 a] w (GQ inI (fun v=>zB (wrap64 (v - a))) (fun v=>.int .i64 v) p s rest w):=by
 have Hs:=hid hs
 have Hp:=hid hp
 have Ha:=hid ha
 clear hs hp ha
 go_enter Tryz.func156,Tryz.ntmps156
 go_wp2_with fail
 refine (DA p s rest _ Hs.out Hp.out).mono ?_
 rintro e w1 ⟨hg,⟨rfl,hno⟩|⟨z,r,hz,rfl,hrd,hu⟩⟩
 ·go_wp2
  exact ⟨rfl,hg,.inl ⟨rfl,fun v q hv h=>hno _ q (Ny _) h⟩⟩
 ·have Hu:=hid hu
  clear hu
  go_wp2
  go_ret
  refine ⟨hg,.inr ⟨wrap64 (a+z),r,Ny _,rfl,hrd,fun v q hv h=>?_⟩⟩
  obtain ⟨h1,h2⟩:=Hu.out _ q (Ny _) h
  exact ⟨by rw [← h1,Bu a v Ha.out hv],h2⟩
end
end Go.Proofs.YthhpbhpfagoapabGreat
