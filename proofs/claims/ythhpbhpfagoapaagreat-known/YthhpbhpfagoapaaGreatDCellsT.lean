import Derived.Test.YthhpbhpfagoapaaGreatDCells
namespace Go.Proofs.YthhpbhpfagoapaaGreat
set_option linter.unusedVariables false
set_option linter.unusedSimpArgs false
set_option maxRecDepth 100000
set_option maxHeartbeats 16000000
open Go.RowKit
theorem cellsT (g:Nat) (s:List UInt8) (w:World) (hs:s.length≤maxLen) (hg:g < w.heap.size) (hw:TxtW w g) :
  Calls Tryz.prog 131 #[txtC g,strB s] w (Unpaged 1 s w):=by
 obtain ⟨i1,hi1,hy0,hy1,hy2⟩:=info_parts Tryz.infoCell
 have Hs:=hid hs
 have Hw:=hid hw
 clear hs hw
 go_enter Tryz.func131,Tryz.ntmps131
 go_wp2_with fail
 obtain ⟨hb0,hs0,hc0⟩:=boxed w #[.slice (some ⟨g,0,none⟩) 3 3,fnV 202,fnV 203,fnV 204,fnV 205,fnV 206,fnV 207] 225
 have Hc:Hid (BoxT _ g w.heap.size):=⟨hc0 0,hc0 1,hc0 2,hc0 3,hc0 4,hc0 5,hc0 6⟩
 have Hw0:=hid (Hw.out.later hg hb0)
 have Hb0:=hid hb0
 have hs1:=Nat.lt_of_lt_of_eq (Nat.lt_succ_self w.heap.size) hs0.symm
 have hg0:=Nat.lt_of_lt_of_le hg hb0.size
 clear hc0 hb0 hs0
 generalize w.alloc _=w0 at *
 refine (newReader s w0).mono ?_
 rintro e w1 ⟨rfl,hrd1,hb1⟩
 have hB1:=Hb0.out.trans (hb1.mono Hb0.out.size)
 have HB1:=hid hB1
 have hp0:w.heap.size≤w0.heap.size:=Hb0.out.size
 have hplt:=rd_lt hrd1
 have Hbx1:=hid (boxT_later Hc.out hb1 hs1)
 have Hw1:=hid (Hw0.out.later hg0 hb1)
 have hg1:=Nat.lt_of_lt_of_le hg0 hb1.size
 have hs11:=Nat.lt_of_lt_of_le hs1 hb1.size
 have hpne:w.heap.size≠w0.heap.size:=by omega
 have hgp:g≠w0.heap.size:=by omega
 clear hb1 hB1
 generalize hpp:w0.heap.size=p at *
 clear hpp
 go_wp2_with fail
 refine (readRuns_any p s s _ Hs.out hrd1).mono ?_
 rintro e w2 ⟨hg2,⟨rfl,hno⟩|⟨fl,r2,v6,hfl,rfl,hown6,hrd2,hu2⟩⟩
 ·go_wp2
  exact ⟨rfl,HB1.out.grown hg2 HB1.out.size (fun k hk=>by cases hk;exact hp0),.inl ⟨rfl,unpage_none (fun l2 h2=>(hno _ _ (page_parts h2).1 (page_parts h2).2.1))⟩⟩
 ·have Hu2:=hid hu2
  have HB2:=hid (HB1.out.grown hg2 HB1.out.size (fun k hk=>by cases hk;exact hp0))
  have Hbx2:=hid (boxT_grown Hbx1.out hg2 hs11 hpne)
  have Hw2:=hid (Hw1.out.grown hg2 hg1 hgp)
  have hg22:=Nat.lt_of_lt_of_le hg1 hg2.size
  have hs2:=Nat.lt_of_lt_of_le hs11 hg2.size
  have hbx:=Hbx2.out
  obtain ⟨x0,x1,x2,x3,x4,x5,x6⟩:=hbx
  clear hu2 hg2 hrd1
  go_wp2_with fail
  refine (valuesT g p fl v6 w1.heap.size s r2 _ Hs.out hfl hrd2 hown6 hg22 Hw2.out hgp).mono ?_
  rintro e w3 ⟨hg3,⟨rfl,hno⟩|⟨l,r3,v7,hl,rfl,hown7,hrd3,hu3⟩⟩
  ·go_wp2
   refine ⟨rfl,HB2.out.grown hg3 HB2.out.size (fun k hk=>by cases hk;exact hp0),.inl ⟨rfl,unpage_none (fun l2 h2=>?_)⟩⟩
   obtain ⟨e1,e2⟩:=Hu2.out _ _ (page_parts h2).1 (page_parts h2).2.1
   exact hno (valuesB l2) [] (by rw [← e1];exact page_domT h2) (by rw [List.append_nil];exact e2.symm)
  ·have HU:Hid (∀ l2,Paged 1 s l2→l2=fillB fl l):=by
    intro l2 h2
    obtain ⟨e1,e2⟩:=Hu2.out _ _ (page_parts h2).1 (page_parts h2).2.1
    obtain ⟨e3,_⟩:=hu3 (valuesB l2) [] (by rw [← e1];exact page_domT h2) (by rw [List.append_nil];exact e2.symm)
    rw [← e1,← e3]
    exact (fill_back l2 (page_parts h2).2.2).symm
   have HB3:=hid (HB2.out.grown hg3 HB2.out.size (fun k hk=>by cases hk;exact hp0))
   have Hbx3:=hid (boxT_grown Hbx2.out hg3 hs2 hpne)
   have Hw3:=hid (Hw2.out.grown hg3 hg22 hgp)
   have hg33:=Nat.lt_of_lt_of_le hg22 hg3.size
   have hs3:=Nat.lt_of_lt_of_le hs2 hg3.size
   have hown63:=keep_row hown6 hplt hg3
   obtain ⟨a6,c6,rfl,hsh6⟩:=bools_shape hown63
   obtain ⟨a7,c7,rfl,hsh7⟩:=strsT_shape hown7
   have Hsh6:=hid hsh6
   have Hsh7:=hid hsh7
   have Hl:=hid hl
   have Hll:Hid (l.length=cnt fl):=hl.1
   have hcf:=flag_le fl
   have hl60:l.length≤60:=by rw [Hll.out];omega
   clear hu3 hg3 hown6 hown63 hown7 hsh6 hsh7 hrd2 hrd3 x0 x1 x2 x3 x4 x5 x6 hl
   go_wp2_with (at_make;refine wpList_make_own _ rfl (.const (.int .i64 0)) (.tmp 20) 59 rfl w3.heap.size 58 i1 (.agg #[.bool false,.int .i64 0,.string ⟨#[]⟩]) 3 Tryz.underlying59 hi1 hy0 hy1 .i64 .i64 _ fl.length rfl rfl rfl (by rw [hy2];omega) (by unfold maxLen;omega) (Nat.le_refl _) ?_;intro w4 hown4 hgr4)
   have hB4:Below w3.heap.size w3 w4:=(Below.refl _ _).grown hgr4 (Nat.le_refl _) (fun _ h=>by cases h)
   clear hgr4
   go_loopw [7,8,24] (fun v7 v8 i wr=>∃ (k:Nat) (a:Option Addr) (c:Nat),k≤fl.length∧i=.int .i64 (k:Int)∧v7=.slice a (l.length - cnt (fl.take k)) c∧(cnt (fl.take k) < l.length→l.length - cnt (fl.take k)≤c∧∃ b,a7=some ⟨b,0,none⟩∧a=some ⟨b,cnt (fl.take k),none⟩)∧wr.ownsRow w3.heap.size 58 3 v8 k (cellsC (fillB (fl.take k) l))∧Below w3.heap.size w3 wr)
    (fun _ _ i _=>fl.length - (intOf i).toNat)
   case atStart =>
    refine ⟨0,a7,c7,Nat.zero_le _,rfl,by simp [cnt],fun h=>?_,hown4,hB4⟩
    obtain ⟨h1,b,h2,_⟩:=Hsh7.out (List.ne_nil_of_length_pos (by omega))
    exact ⟨by omega,b,h2,h2⟩
   case round =>
    clear hown4 hB4
    obtain ⟨k,a,c0,hk,rfl,rfl,hsl,hown,hB⟩:=hrel
    have Hsl:=hid hsl
    clear hsl
    by_cases hlt:k < fl.length
    ·have hki:(k:Int) < (fl.length:Int):=by omega
     obtain ⟨b6,rfl,hb6,hcell6⟩:=Hsh6.out (List.ne_nil_of_length_pos (by omega))
     have hck:=(hB.cell (p:=⟨b6,k,none⟩) hb6).trans (hcell6 k hlt)
     have HST:=hid (fill_step fl l k hlt)
     have HCS:=hid (cnt_step fl k hlt)
     have hcl:=flag_lt fl k hlt
     clear hcell6
     cases hb:fl[k] with
     | true =>
      rw [hb] at hck HST HCS
      clear hb hcl
      go_wp2_with (at_builtin;refine wpList_append_own _ rfl (.tmp 29) (.tmp 31) 59 rfl w3.heap.size 58 i1 (.agg #[.bool false,.int .i64 0,.string ⟨#[]⟩]) 3 32 Tryz.underlying59 hi1 hy0 hy1 hy2 rfl (by decide) _ _ _ rfl (hown.alloc _) ⟨_,0,none⟩ 1 1 [.bool true,.int .i64 0,.string ⟨#[]⟩] rfl rfl ?c1 ?c2 ?c3 ?c4 ?c5 ?_)
      case c2=>exact ⟨rfl,rfl,rfl⟩
      case c3=>unfold maxLen;omega
      case c4=>omega
      case c5=>have:=hB.size;simp;omega
      intro v3 w5 hown5 hgr5 _
      have HO5:=hid hown5
      have HB5:=hid ((hB.alloc hB.size _).grown hgr5 (by have:=hB.size;simp;omega) (fun k hk=>(hown.lt k hk).1))
      clear hown hown5 hgr5 hB hck
      go_wp2
      go_roundw
      case rel =>
       refine ⟨k+1,a,c0,by omega,by go_num,by rw [HCS.out];simp,by rw [HCS.out];simpa using Hsl.out,?_,HB5.out⟩
       rw [HST.out,cellsC_append1]
       exact HO5.out
      case measure=>simp [intOf];omega
     | false =>
      have hcl2:=hcl hb
      rw [hb] at hck HST HCS
      clear hb hcl
      have hcc:cnt (fl.take k) < l.length:=by rw [Hll.out];exact hcl2
      obtain ⟨hcap,b7,ha7,rfl⟩:=Hsl.out hcc
      obtain ⟨_,b7',ha7',hb7,hcell7⟩:=Hsh7.out (List.ne_nil_of_length_pos (by omega))
      have hbb:b7'=b7:=by rw [ha7] at ha7';simpa using ha7'.symm
      subst hbb
      generalize hcg:cnt (fl.take k)=c at *
      have hv:=(hB.cell (p:=⟨b7',c,none⟩) hb7).trans (hcell7 c hcc)
      have hfn:=(hB.cell (p:=⟨w.heap.size,2,none⟩) hs3).trans Hbx3.out.2.2.1
      have hz3:=hB.size
      have HNT:Hid (nthB l c=l[c]):=nthB_at l c hcc
      generalize hmg:l.length - c=m at *
      have Hmg:=hid hmg
      have hm0:0 < m:=by omega
      have hli:(0:Int) < (m:Int):=by omega
      have hcc2:c < l.length:=hcc
      clear hmg
      have hOK:=Hl.out.2 l[c] (List.getElem_mem hcc)
      have HOK:=hid hOK
      have Ha7:=hid ha7
      have Ha7':=hid ha7'
      clear hcell7 hOK ha7 ha7'
      go_wp2_with fail
      go_region_held3 (fun w'=>w'.cell? ⟨w.heap.size,2,none⟩=some (fnV 203)∧w'.cell? ⟨b7',c,none⟩=some (strB (l[c]).text)) (first|exact ⟨cell_alloc_keep _ k1,cell_alloc_keep _ k2⟩|exact ⟨m1,m2⟩|exact ⟨k1,k2⟩|exact ⟨hfn,hv⟩)
       (first
        | (go_at_call 203;refine (txtCell (l[c]).text _).mono ?_;rintro e w5 ⟨rfl,hb5⟩;have hb5':=below_undrew hb5;have k1:=(hb5'.cell (p:=⟨w.heap.size,2,none⟩) (Nat.lt_of_lt_of_le hs3 hz3)).trans hfn;have k2:=(hb5'.cell (p:=⟨b7',c,none⟩) (Nat.lt_of_lt_of_le hb7 hz3)).trans hv)
        | (refine step_append_lies _ (by rfl) _ _ _ (by rfl) w3.heap.size 58 i1 _ 3 32 Tryz.underlying59 hi1 hy0 hy1 hy2 rfl (by omega) _ k (cellsC (fillB (fl.take k) l)) (by rfl) ((own_after hown hb5').alloc _) ⟨w5.heap.size,0,none⟩ 1 1 [.bool false,.int .i64 0,strB (l[c]).text] (by rfl) (by rfl) (World.news_of_block (cs:=#[.bool false,.int .i64 0,strB (l[c]).text]) (t:=58) (fr:=(0,0)) (heap_alloc_new w5 _)) (by simp [Value.oneCell']) (by omega) (by unfold maxLen;omega) (by omega) (by have:=hb5'.size;simp;omega) _ rfl ?_;intro gg cc w7 hown7 hgr7 hat7 hlt7;have m1:=cell_grown_keep hgr7 ((own_after hown hb5').alloc _) (cell_alloc_keep _ k1) hs3;have m2:=cell_grown_keep hgr7 ((own_after hown hb5').alloc _) (cell_alloc_keep _ k2) hb7))
      have HB7:=hid (((hB.trans (hb5'.mono hz3)).alloc (by have:=hb5'.size;omega) _).grown hgr7 (by have:=hb5'.size;simp;omega) (fun k hk=>((own_after hown hb5').lt k hk).1))
      have HO7:=hid hown7
      have HCL:Hid (cellsC (fillB (fl.take (k+1)) l)=cellsC (fillB (fl.take k) l)++[.bool false,.int .i64 0,strB (l[c]).text]):=by
       show _=_
       rw [HST.out,if_neg (by decide),HNT.out,cellsC_append1,HOK.out.1,HOK.out.2.1]
      have Hcg:=hid hcg
      clear m1 m2 k1 k2 hfn hv hb5 hb5' hgr7 hown7 hown hB hat7 hlt7 hcg hck
      have hq1:(1:Int)≤(m:Int):=by omega
      have hq2:(1:Int)≤(c0:Int):=by omega
      have hq3:(m:Int)≤(c0:Int):=by omega
      have hq4:1≤m:=by omega
      by_cases hc01:c0=1
      ·have hm1:m=1:=by omega
       subst hc01 hm1
       go_wp2
       go_roundw
       case rel =>
        have hmo:=Hmg.out
        refine ⟨k+1,some ⟨b7',c,none⟩,0,by omega,by go_num,?_,fun h=>?_,by rw [HCL.out];exact HO7.out,HB7.out⟩
        ·rw [HCS.out,if_neg (by decide),show l.length - (c+1)=0 by omega]
        ·rw [HCS.out,if_neg (by decide)] at h
         omega
       case measure=>simp [intOf];omega
      ·go_wp2
       go_roundw
       case rel =>
        have hmo:=Hmg.out
        refine ⟨k+1,some ⟨b7',c+1,none⟩,c0 - 1,by omega,by go_num,?_,fun h=>?_,by rw [HCL.out];exact HO7.out,HB7.out⟩
        ·rw [HCS.out,if_neg (by decide),show l.length - (c+1)=m - 1 by omega]
        ·rw [HCS.out,if_neg (by decide)] at h ⊢
         exact ⟨by omega,b7',Ha7.out,rfl⟩
       case measure=>simp [intOf];omega
    ·have hke:k=fl.length:=by omega
     subst hke
     rw [List.take_length] at hown
     have HLl:=hid (fillB_len fl l)
     have hOKc:∀ c ∈ fillB fl l,okT c∨c=⟨true,0,[]⟩:=fill_ok fl l Hl.out.2 (by rw [← Hll.out];exact Nat.le_refl _)
     have HOKc:=hid hOKc
     obtain ⟨a8,c8,rfl,hlies⟩:=own_liesC hown (fillB_len fl l) (fun c hc=>(ok_anyT (HOKc.out c hc)).1)
     have Hlies:=hid hlies
     have Hbxr:=hid (boxT_later Hbx3.out hB hs3)
     have hbx:=Hbxr.out
     obtain ⟨x0,x1,x2,x3,x4,x5,x6⟩:=hbx
     have Hwr:=hid (Hw3.out.later hg33 hB)
     have hgr:=Nat.lt_of_lt_of_le hg33 hB.size
     have HBr:=hid (HB3.out.trans (hB.mono HB3.out.size))
     have hL60:(fillB fl l).length≤60:=by rw [HLl.out];exact hfl
     have HCK:Hid (cellsOkB 1 (fillB fl l)=true):=cellsOkT hL60 HOKc.out
     have HRG:Hid (∀ c ∈ fillB fl l,rangeC c):=fun c hc=>(ok_anyT (HOKc.out c hc)).2.1
     have HSM:Hid (∀ c ∈ fillB fl l,smallC c):=fun c hc=>(ok_anyT (HOKc.out c hc)).2.2
     have hle:=HLl.out
     rw [← hle] at *
     clear hown hlies hOKc hle hB
     generalize fillB fl l=L at *
     go_wp2_with fail
     refine (pageT g a8 c8 L _ hL60 HSM.out Hlies.out hgr Hwr.out).mono ?_
     rintro e w5 ⟨rfl,hb5⟩
     have HB5:=hid (HBr.out.trans (hb5.mono HBr.out.size))
     by_cases heq:pageB 1 L=s
     ·have hbq:(pageB 1 L == s)=true:=by simp [heq]
      have Heq:=hid heq
      clear heq x0 x1 x2 x3 x4 x5 x6
      go_wp2_with fail
      refine (need_yes _).mono ?_
      rintro e wN ⟨rfl,rfl⟩
      go_wp2
      go_ret
      refine ⟨HB5.out,.inr ⟨L,a8,c8,rfl,?_,Hlies.out.later hb5⟩⟩
      rw [← Heq.out]
      exact unpage_page 1 L HCK.out HRG.out
     ·have hbq:(pageB 1 L == s)=false:=by simpa using heq
      clear x0 x1 x2 x3 x4 x5 x6
      go_wp2_with fail
      refine (need_no _).mono ?_
      rintro e wN ⟨rfl,rfl⟩
      go_wp2
      refine ⟨rfl,HB5.out,.inl ⟨rfl,unpage_none (fun l2 h2=>?_)⟩⟩
      have e1:=HU.out l2 h2
      rw [e1] at h2
      exact heq h2.2.1
end Go.Proofs.YthhpbhpfagoapaaGreat
