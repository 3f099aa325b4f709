import Derived.Test.YthhpbhpfagoapaaGreatJAA
import Derived.Test.YthhpbhpfagoapaaGreatLFound
import Derived.Test.YthhpbhpfagoapaaGreatJAJ
import Derived.Test.YthhpbhpfagoapaaGreatJBG
import Derived.Test.YthhpbhpfagoapaaGreatYLay
import Derived.Test.YthhpbhpfagoapaaGreatJBO
import Derived.Test.YthhpbhpfagoapaaGreatRTk
import Derived.Test.YthhpbhpfagoapaaGreatJBQ
import Derived.Test.YthhpbhpfagoapaaGreatJAZ
namespace Go.Proofs.YthhpbhpfagoapaaGreat
set_option linter.unusedVariables false
set_option linter.unusedSimpArgs false
set_option maxRecDepth 100000
set_option maxHeartbeats 16000000
open Go.RowKit
section
theorem Er (file pre:List UInt8) (ra:Option Addr) (rcap:Nat) (r:List KeyB) (trust:Bool) (w:World) (hfl:file.length≤maxLen) (hpl:pre.length≤maxLen) (hrm:r.length≤maxLen) (hl:LiesK w ra r) :
  Calls Tryz.prog 38 #[strB file,strB pre,.slice ra r.length rcap,.bool trust] w (ReadSX file pre r trust w):=by
 have HL:=hid hl
 clear hl
 go_enter Tryz.func38,Tryz.ntmps38
 by_cases hp:20 < pre.length
 ·have hpi:(20:Int) < (pre.length:Int):=by omega
  have HSF:Hid (qO file pre r trust=(7,none)):=by show _=_;unfold qO;rw [aw hp]
  go_wp2
  go_ret2
  exact ⟨Below.refl _ _,.inl ⟨7,HSF.out,by decide,rfl⟩⟩
 ·have hpi:¬ (20:Int) < (pre.length:Int):=by omega
  have hp20:pre.length≤20:=by omega
  have HP:=hid hp
  clear hp
  go_wp2_with fail
  clear hpi
  refine (EW ra rcap r w hrm HL.out).mono ?_
  rintro e w1 ⟨rfl,hb1⟩
  have HB1:=hid hb1
  clear hb1
  cases hr:xY r with
  | false =>
   have HSF:Hid (qO file pre r trust=(1,none)):=by show _=_;unfold qO;rw [aj HP.out,aw hr]
   go_wp2
   go_ret2
   exact ⟨HB1.out,.inl ⟨1,HSF.out,by decide,rfl⟩⟩
  | true =>
   have HR:=hid hr
   clear hr
   go_wp2_with fail
   refine (Ie file w1 hfl).mono ?_
   rintro e w2 ⟨hb2,hx⟩
   have HB2:=hid (HB1.out.trans (hb2.mono HB1.out.size))
   clear hb2 HB1
   obtain ⟨hbx,_,_,hox⟩:=qm w2 file0 169
   have HX:=hid hox
   have HBX:=hid (HB2.out.trans (hbx.mono HB2.out.size))
   have hw2:=HB2.out.size
   clear hbx hox
   rcases hx with ⟨hn,C,⟨hc1,hc2⟩,rfl⟩|⟨f,hf,rfl⟩
   ·rw [IG] at hn
    have HSF:Hid (qO file pre r trust=(9,none)):=by show _=_;unfold qO;rw [aj HP.out,aj (by rw [HR.out];decide),hn]
    have hc3:(Tryz.prog.info? 169).map (·.size)=some C.size:=by rw [hc1];kernel_rfl
    clear hn
    go_wp2_with (refine wpList_store_row rfl 169 (.tmp 11) (.tmp 36) rfl w2.heap.size C rfl rfl 169 file0 HX.out hc3 hc1.symm hc2 ?_)
    have HBE:=hid (HBX.out.trans (jg (QN (w2.alloc (.cells file0 169)) w2.heap.size C) hw2 HBX.out.size))
    generalize hwe:(w2.alloc _).setRow _ _=we at *
    clear hwe
    go_wp2
    go_ret2
    exact ⟨HBE.out,.inl ⟨9,HSF.out,by decide,rfl⟩⟩
   ·rw [IG] at hf
    have HF:=hid hf
    obtain ⟨hl1,hl2,hl3,hl4,hl5⟩:=Ye hf
    clear hf
    go_upto_region 9 with (refine wpList_store_row rfl 169 (.tmp 11) (.tmp 36) rfl w2.heap.size (fileC f) rfl rfl 169 file0 HX.out (by kernel_rfl) rfl (by simp [Value.oneCell']) ?_)
    have HB3:=hid (HBX.out.trans (jg (QN (w2.alloc (.cells file0 169)) w2.heap.size (fileC f)) hw2 HBX.out.size))
    have HF3:=hid (setRow_heap (w2.alloc (.cells file0 169)) w2.heap.size _ (fileC f) 169 (0,0) HX.out)
    generalize hw3:(w2.alloc _).setRow _ _=w3 at *
    clear hw3 HX HBX HB2
    generalize hfb:w2.heap.size=fb at *
    clear hfb
    obtain ⟨c0,c1,c2,c3,c4,c5⟩:=JU HF3.out
    go_cut [13] (fun bv wd=>bv=.bool (jy r (f.foot:Int))∧Below w.heap.size w wd∧wd.heap[fb]?=some (.cells (fileC f) 169 (0,0)))
    case first =>
     go_wp2_with fail
     refine (ZD ra rcap r (f.foot:Int) w3 hrm (HL.out.later HB3.out)).mono ?_
     rintro e w4 ⟨rfl,hb4⟩
     have HB4:=hid (HB3.out.trans (hb4.mono HB3.out.size))
     have HF4:=hid (jb hb4 HF3.out)
     clear hb4 HB3 HF3 c0 c1 c2 c3 c4 c5
     cases hs:jy r (f.foot:Int) with
     | false =>
      rw [(Xn HR.out).2 hs]
      go_wp2
      go_meet
      case rel=>exact ⟨by rw [hs],HB4.out,HF4.out⟩
     | true =>
      obtain ⟨b,l,hbl⟩:∃ b l,jl r (f.foot:Int)=b :: l:=by
       have h8:=Qq HR.out hs
       match hq:jl r (f.foot:Int) with
       | []=>rw [hq] at h8;cases h8
       | b :: l=>exact ⟨b,l,rfl⟩
      rw [hbl]
      go_wp2
      go_meet
      case rel=>exact ⟨by rw [hs],HB4.out,HF4.out⟩
    case rest =>
     obtain ⟨hbv,hB5,hF5⟩:=hcut
     subst hbv
     have HB5:=hid hB5
     have HF5:=hid hF5
     clear hB5 hF5 HB3 HF3 c0 c1 c2 c3 c4 c5
     obtain ⟨th,hth⟩:∃ th,jy r (f.foot:Int)=th:=⟨_,rfl⟩
     have HTH:=hid hth
     rw [hth]
     clear hth
     obtain ⟨hbo,_,_,hoo⟩:=qm wc #[nilV,nilV] 106
     have hfbw:fb < wc.heap.size:=(ag.1 HF5.out).1
     have HA0:Hid (RAt (wc.alloc (.cells #[nilV,nilV] 106)) w fb wc.heap.size f nilV nilV F0 0 V0 []):=⟨HB5.out.trans (hbo.mono HB5.out.size),hw2,hfbw,jb hbo HF5.out,hoo,⟨World.ownsRow_nil _ _ _ _,fun j hj=>absurd hj (by omega),fun j hj=>absurd hj (by omega),fun i j _ hj=>absurd hj (by omega)⟩,World.ownsRow_nil _ _ _ _⟩
     clear hbo hoo HB5 HF5
     go_upto_region 11 with fail
     generalize hWQ:wc.alloc _=WQ at *
     clear hWQ
     generalize hob:wc.heap.size=ob at *
     clear hob
     obtain ⟨c0,c1,c2,c3,c4,c5⟩:=JU HA0.out.file
     go_upto_if 51 with fail
     clear c1 c2 c3 c4 c5
     go_cut [15,51] (fun ftv _ wd=>∃ ft sv Z,ftv=strB ft∧RAt wd w fb ob f nilV sv F0 0 V0 Z∧Vh pre r f=Z∧Z.length≤1∧(f.told=true→ft=f.footer)∧ft.length≤65535∧qO file pre r trust=Ry f pre r trust ft)
     case first =>
      cases ht:f.told with
      | true =>
       refine wp_cond_false rfl ?_
       go_wp2
       go_meet
       case rel=>exact ⟨f.footer,nilV,[],rfl,HA0.out,DN ht,by simp,fun _=>rfl,by omega,Ay HP.out HR.out HF.out ht⟩
      | false =>
       refine wp_cond_true rfl ?_
       have HT:=hid ht
       clear c0 ht
       cases th with
       | false =>
        have HSF:=hid (CE (trust:=trust) HP.out HR.out HF.out HT.out HTH.out)
        go_wp2
        go_ret2
        exact ⟨HA0.out.below,.inl ⟨8,HSF.out,by decide,rfl⟩⟩
       | true =>
        have hsec:(jl r (f.foot:Int)).length=8:=Qq HR.out HTH.out
        have hbl:=XH pre 70 0 0 0 hp20
        obtain ⟨sec,hsc⟩:∃ sec,sec=jl r (f.foot:Int):=⟨_,rfl⟩
        obtain ⟨bd,hbd⟩:∃ bd,bd=qo pre 70 0 0 0:=⟨_,rfl⟩
        rw [← hbd] at hbl
        obtain ⟨oo,hoo⟩:∃ oo,oo=(qw (jl r (f.foot:Int)) f.nonce (qo pre 70 0 0 0) f.body).isSome:=⟨_,rfl⟩
        have HOO:=hid hoo
        have HBD:Hid (∀ w',Calls Tryz.prog 86 #[strB pre,strB [70],.int .i64 0,.int .i64 0,.int .i64 0] w' fun e w2=>e=.returned (strB bd)∧Below w'.heap.size w' w2):=fun w'=>by
         rw [hbd]
         exact Ge pre 70 0 0 0 w' hp20 (by decide) (by decide) (by decide)
        have HOP:Hid (∀ w',LiesK w' ra r→Calls Tryz.prog 89 #[.slice ra r.length rcap,.int .i64 (f.foot:Int),strB bd,.agg #[strB f.nonce,strB f.body]] w' fun e w2=>Below w'.heap.size w' w2∧∃ p,e=.returned (.tuple #[.agg #[strB sec,strB f.nonce,strB bd,strB f.body],strB p,.bool oo])∧∀ q,qw (jl r (f.foot:Int)) f.nonce (qo pre 70 0 0 0) f.body=some q→p=q):=fun w' h=>by
         have h2:=Uw ra rcap r (f.foot:Int) (qo pre 70 0 0 0) f.nonce f.body w' h hrm (by omega) (by omega) (by rw [← hbd];omega) (by unfold maxLen;omega)
         rw [hoo,hsc,hbd]
         exact h2
        have HZN:Hid (Vh pre r f=[⟨sec,f.nonce,bd,f.body⟩]):=by
         show _=_
         rw [hsc,hbd]
         exact Ci HT.out
        clear hsc hbd hoo hsec
        go_upto_region 15 with fail
        go_cut [16,17,18] (fun bv pv ov wd=>∃ Bs p oo',bv=.pointer (some ⟨Bs,0,none⟩)∧pv=strB p∧ov=.bool oo'∧oo'=(qw (jl r (f.foot:Int)) f.nonce (qo pre 70 0 0 0) f.body).isSome∧(∀ q,qw (jl r (f.foot:Int)) f.nonce (qo pre 70 0 0 0) f.body=some q→p=q)∧RAt wd w fb ob f nilV nilV F0 0 V0 []∧ob+1≤Bs∧wd.heap[Bs]?=some (.cells #[strB sec,strB f.nonce,strB bd,strB f.body] 40 (0,0))∧(nilV.ownBlock=none∨nilV.ownBlock≠some Bs))
        case first =>
         have hS:=HA0.out.filec
         refine wp_region_held_drew (S:=fun w'=>w'.cell? ⟨fb,1,none⟩=some (.int .i64 (f.foot:Int))∧w'.cell? ⟨fb,4,none⟩=some (strB f.nonce)∧w'.cell? ⟨fb,5,none⟩=some (strB f.body)) (by kernel_rfl) hS (fun hHeld=>?_)
         clear hS
         refine tk 0 (.slice ra r.length rcap) ?_
         refine tk 1 (.pointer (some ⟨fb,1,none⟩)) ?_
         refine tk 2 (.int .i64 (f.foot:Int)) ?_
         refine tk 3 (strB pre) ?_
         refine tk 5 (.pointer (some ⟨fb,4,none⟩)) ?_
         refine tk 6 (.agg #[strB f.nonce,strB f.body]) ?_
         simp only [jA,jB,jC,Act.put,jD,jE,jF]
         refine wpAnyH_ready (rs:=[4,12]) (by kernel_rfl) (by simp) ?_
         refine AllReadyH.cons (o:=_) rfl (fun K hK=>?_) (AllReadyH.cons (o:=_) rfl (fun K hK=>?_) AllReadyH.nil)
         ·simp only [jA,jB,jC]
          go_simp
          go_at_call 86
          refine (HBD.out _).mono ?_
          rintro e y1 ⟨rfl,hb1⟩
          replace hb1:=ji hb1
          have HA1:Hid (RAt y1 w fb ob f nilV nilV F0 0 V0 []):=HA0.out.later hb1
          have hS:=HA1.out.filec
          clear hb1
          try go_wp2_with fail
          refine hK.out _ _ hS (fun hHeld=>?_)
          clear hK K hS
          try simp only [jA,jB,jC,Act.put,jD,jE,jF]
          refine wpAnyH_ready (rs:=[7,12]) (by kernel_rfl) (by simp) ?_
          refine AllReadyH.cons (o:=_) rfl (fun K hK=>?_) (AllReadyH.cons (o:=_) rfl (fun K hK=>?_) AllReadyH.nil)
          ·simp only [jA,jB,jC]
           go_simp
           go_at_call 89
           refine (HOP.out _ (HL.out.later HA1.out.below)).mono ?_
           rintro e y2 ⟨hb2,p,rfl,hpq⟩
           have HPQ:=hid hpq
           have HA2:Hid (RAt y2 w fb ob f nilV nilV F0 0 V0 []):=HA1.out.later hb2
           have hS:=HA2.out.filec
           clear hb2 hpq
           try go_wp2_with fail
           refine hK.out _ _ hS (fun hHeld=>?_)
           clear hK K hS
           try simp only [jA,jB,jC,Act.put,jD,jE,jF]
           refine tk 8 (.tuple #[.agg #[strB sec,strB f.nonce,strB bd,strB f.body],strB p,.bool oo]) ?_
           refine tk 9 (.agg #[strB sec,strB f.nonce,strB bd,strB f.body]) ?_
           refine tk 10 (strB p) ?_
           refine tk 11 (.bool oo) ?_
           simp only [jA,jB,jC,Act.put,jD,jE,jF]
           refine rd 12 (fun K hK=>?_)
           simp only [jA,jB,jC]
           go_simp
           try go_wp2_with fail
           have HAa:Hid (RAt (y2.alloc (.cells seal0 40)) w fb ob f nilV nilV F0 0 V0 []):=(HA2.out.alloc (.cells seal0 40))
           have HSa:Hid ((y2.alloc (.cells seal0 40)).heap[y2.heap.size]?=some (.cells seal0 40 (0,0))):=(qm y2 seal0 40).2.2.2
           have hBz:=HA2.out.size
           have HZB:=hid (zT HA2.out.seals (ae y2.heap.size))
           have hS:=HAa.out.filec
           refine hK.out _ _ hS (fun hHeld=>?_)
           clear hK K hS
           try simp only [jA,jB,jC,Act.put,jD,jE,jF]
           generalize hya:(y2.alloc (.cells seal0 40))=ya at *
           clear hya
           generalize hBs:y2.heap.size=Bs at *
           clear hBs
           refine rd 13 (fun K hK=>?_)
           simp only [jA,jB,jC]
           rw [aw (by simp [Region.wanted])]
           refine wp_store_row 40 (.tmp 16) (.tmp 63) rfl Bs #[strB sec,strB f.nonce,strB bd,strB f.body] rfl rfl 40 seal0 HSa.out (by kernel_rfl) rfl (by simp [Value.oneCell']) ?_
           have HA3:Hid (RAt (ya.setRow Bs #[strB sec,strB f.nonce,strB bd,strB f.body]) w fb ob f nilV nilV F0 0 V0 []):=HAa.out.rowB Bs #[strB sec,strB f.nonce,strB bd,strB f.body] (by omega) HSa.out HZB.out
           have HS3:=hid (setRow_heap ya Bs _ #[strB sec,strB f.nonce,strB bd,strB f.body] 40 (0,0) HSa.out)
           have hS:=HA3.out.filec
           refine hK.out _ _ hS (fun hHeld=>?_)
           clear hK K hS
           try simp only [jA,jB,jC,Act.put,jD,jE,jF]
           refine tk 14 (strB p) ?_
           refine tk 15 (.bool oo) ?_
           simp only [jA,jB,jC,Act.put,jD,jE,jF]
           refine wpAnyH_done (by kernel_rfl) ?_ _
           clear hHeld
           generalize hy3:ya.setRow _ _=y3 at *
           clear hy3
           go_wp2
           go_meet
           case rel=>exact ⟨Bs,p,oo,rfl,rfl,rfl,HOO.out,HPQ.out,HA3.out,by omega,HS3.out,HZB.out⟩
          ·simp only [jA,jB,jC]
           go_simp
           try go_wp2_with fail
           have HAa:Hid (RAt (y1.alloc (.cells seal0 40)) w fb ob f nilV nilV F0 0 V0 []):=(HA1.out.alloc (.cells seal0 40))
           have HSa:Hid ((y1.alloc (.cells seal0 40)).heap[y1.heap.size]?=some (.cells seal0 40 (0,0))):=(qm y1 seal0 40).2.2.2
           have hBz:=HA1.out.size
           have HZB:=hid (zT HA1.out.seals (ae y1.heap.size))
           have hS:=HAa.out.filec
           refine hK.out _ _ hS (fun hHeld=>?_)
           clear hK K hS
           try simp only [jA,jB,jC,Act.put,jD,jE,jF]
           generalize hya:(y1.alloc (.cells seal0 40))=ya at *
           clear hya
           generalize hBs:y1.heap.size=Bs at *
           clear hBs
           refine rd 7 (fun K hK=>?_)
           simp only [jA,jB,jC]
           go_simp
           go_at_call 89
           refine (HOP.out _ (HL.out.later HAa.out.below)).mono ?_
           rintro e y2 ⟨hb2,p,rfl,hpq⟩
           have HPQ:=hid hpq
           have HA2:Hid (RAt y2 w fb ob f nilV nilV F0 0 V0 []):=HAa.out.later hb2
           have HS2:=hid (jb hb2 HSa.out)
           have hS:=HA2.out.filec
           clear hb2 hpq
           try go_wp2_with fail
           refine hK.out _ _ hS (fun hHeld=>?_)
           clear hK K hS
           try simp only [jA,jB,jC,Act.put,jD,jE,jF]
           refine tk 8 (.tuple #[.agg #[strB sec,strB f.nonce,strB bd,strB f.body],strB p,.bool oo]) ?_
           refine tk 9 (.agg #[strB sec,strB f.nonce,strB bd,strB f.body]) ?_
           refine tk 10 (strB p) ?_
           refine tk 11 (.bool oo) ?_
           simp only [jA,jB,jC,Act.put,jD,jE,jF]
           refine rd 13 (fun K hK=>?_)
           simp only [jA,jB,jC]
           rw [aw (by simp [Region.wanted])]
           refine wp_store_row 40 (.tmp 16) (.tmp 63) rfl Bs #[strB sec,strB f.nonce,strB bd,strB f.body] rfl rfl 40 seal0 HS2.out (by kernel_rfl) rfl (by simp [Value.oneCell']) ?_
           have HA3:Hid (RAt (y2.setRow Bs #[strB sec,strB f.nonce,strB bd,strB f.body]) w fb ob f nilV nilV F0 0 V0 []):=HA2.out.rowB Bs #[strB sec,strB f.nonce,strB bd,strB f.body] (by omega) HS2.out HZB.out
           have HS3:=hid (setRow_heap y2 Bs _ #[strB sec,strB f.nonce,strB bd,strB f.body] 40 (0,0) HS2.out)
           have hS:=HA3.out.filec
           refine hK.out _ _ hS (fun hHeld=>?_)
           clear hK K hS
           try simp only [jA,jB,jC,Act.put,jD,jE,jF]
           refine tk 14 (strB p) ?_
           refine tk 15 (.bool oo) ?_
           simp only [jA,jB,jC,Act.put,jD,jE,jF]
           refine wpAnyH_done (by kernel_rfl) ?_ _
           clear hHeld
           generalize hy3:y2.setRow _ _=y3 at *
           clear hy3
           go_wp2
           go_meet
           case rel=>exact ⟨Bs,p,oo,rfl,rfl,rfl,HOO.out,HPQ.out,HA3.out,by omega,HS3.out,HZB.out⟩
         ·simp only [jA,jB,jC]
          go_simp
          try go_wp2_with fail
          have HAa:Hid (RAt (WQ.alloc (.cells seal0 40)).drew w fb ob f nilV nilV F0 0 V0 []):=(HA0.out.alloc (.cells seal0 40)).drew
          have HSa:Hid ((WQ.alloc (.cells seal0 40)).drew.heap[WQ.heap.size]?=some (.cells seal0 40 (0,0))):=(qm WQ seal0 40).2.2.2
          have hBz:=HA0.out.size
          have HZB:=hid (zT HA0.out.seals (ae WQ.heap.size))
          have hS:=HAa.out.filec
          refine hK.out _ _ hS (fun hHeld=>?_)
          clear hK K hS
          try simp only [jA,jB,jC,Act.put,jD,jE,jF]
          generalize hya:(WQ.alloc (.cells seal0 40)).drew=ya at *
          clear hya
          generalize hBs:WQ.heap.size=Bs at *
          clear hBs
          refine rd 4 (fun K hK=>?_)
          simp only [jA,jB,jC]
          go_simp
          go_at_call 86
          refine (HBD.out _).mono ?_
          rintro e y1 ⟨rfl,hb1⟩
          have HA1:Hid (RAt y1 w fb ob f nilV nilV F0 0 V0 []):=HAa.out.later hb1
          have HS1:=hid (jb hb1 HSa.out)
          have hS:=HA1.out.filec
          clear hb1
          try go_wp2_with fail
          refine hK.out _ _ hS (fun hHeld=>?_)
          clear hK K hS
          try simp only [jA,jB,jC,Act.put,jD,jE,jF]
          refine rd 7 (fun K hK=>?_)
          simp only [jA,jB,jC]
          go_simp
          go_at_call 89
          refine (HOP.out _ (HL.out.later HA1.out.below)).mono ?_
          rintro e y2 ⟨hb2,p,rfl,hpq⟩
          have HPQ:=hid hpq
          have HA2:Hid (RAt y2 w fb ob f nilV nilV F0 0 V0 []):=HA1.out.later hb2
          have HS2:=hid (jb hb2 HS1.out)
          have hS:=HA2.out.filec
          clear hb2 hpq
          try go_wp2_with fail
          refine hK.out _ _ hS (fun hHeld=>?_)
          clear hK K hS
          try simp only [jA,jB,jC,Act.put,jD,jE,jF]
          refine tk 8 (.tuple #[.agg #[strB sec,strB f.nonce,strB bd,strB f.body],strB p,.bool oo]) ?_
          refine tk 9 (.agg #[strB sec,strB f.nonce,strB bd,strB f.body]) ?_
          refine tk 10 (strB p) ?_
          refine tk 11 (.bool oo) ?_
          simp only [jA,jB,jC,Act.put,jD,jE,jF]
          refine rd 13 (fun K hK=>?_)
          simp only [jA,jB,jC]
          rw [aw (by simp [Region.wanted])]
          refine wp_store_row 40 (.tmp 16) (.tmp 63) rfl Bs #[strB sec,strB f.nonce,strB bd,strB f.body] rfl rfl 40 seal0 HS2.out (by kernel_rfl) rfl (by simp [Value.oneCell']) ?_
          have HA3:Hid (RAt (y2.setRow Bs #[strB sec,strB f.nonce,strB bd,strB f.body]) w fb ob f nilV nilV F0 0 V0 []):=HA2.out.rowB Bs #[strB sec,strB f.nonce,strB bd,strB f.body] (by omega) HS2.out HZB.out
          have HS3:=hid (setRow_heap y2 Bs _ #[strB sec,strB f.nonce,strB bd,strB f.body] 40 (0,0) HS2.out)
          have hS:=HA3.out.filec
          refine hK.out _ _ hS (fun hHeld=>?_)
          clear hK K hS
          try simp only [jA,jB,jC,Act.put,jD,jE,jF]
          refine tk 14 (strB p) ?_
          refine tk 15 (.bool oo) ?_
          simp only [jA,jB,jC,Act.put,jD,jE,jF]
          refine wpAnyH_done (by kernel_rfl) ?_ _
          clear hHeld
          generalize hy3:y2.setRow _ _=y3 at *
          clear hy3
          go_wp2
          go_meet
          case rel=>exact ⟨Bs,p,oo,rfl,rfl,rfl,HOO.out,HPQ.out,HA3.out,by omega,HS3.out,HZB.out⟩
        case rest =>
         obtain ⟨Bs,p,oo',hbv,hpv,hov,hoo',hpq,hA,hBsl,hrow,hzb⟩:=hcut
         subst hbv hpv hov
         have HA:=hid hA
         have HBs:=hid hrow
         have HZB:=hid hzb
         have HPQ:=hid hpq
         have HO2:=hid hoo'
         clear hA hrow hzb hpq hoo' HA0 HOP HBD HOO
         cases oo' with
         | false =>
          have hno:qw (jl r (f.foot:Int)) f.nonce (qo pre 70 0 0 0) f.body=none:=by
           cases hq:qw (jl r (f.foot:Int)) f.nonce (qo pre 70 0 0 0) f.body with
           | none=>rfl
           | some q=>have h9:=HO2.out;rw [hq] at h9;cases h9
          have HSF9:Hid (qO file pre r trust=(4,none)):=IU HP.out HR.out HF.out HT.out HTH.out hno
          clear hno
          go_wp2
          go_ret2
          exact ⟨HA.out.below,.inl ⟨4,HSF9.out,by decide,rfl⟩⟩
         | true =>
          have hop:qw (jl r (f.foot:Int)) f.nonce (qo pre 70 0 0 0) f.body=some p:=by
           cases hq:qw (jl r (f.foot:Int)) f.nonce (qo pre 70 0 0 0) f.body with
           | none=>have h9:=HO2.out;rw [hq] at h9;cases h9
           | some q=>rw [HPQ.out q hq]
          have HSF9:=hid (Mg (trust:=trust) HP.out HR.out HF.out HT.out HTH.out hop)
          have hpl6:=MY hop
          clear hop
          obtain ⟨i1,hi1,hy0,hy1,hy2⟩:=info_parts Tryz.infoSealed
          go_upto_region 19 with fail
          have dd:=(xZ HA.out.out).2
          refine wp_region_held_drew (S:=fun w'=>w'.heap[Bs]?=some (.cells #[strB sec,strB f.nonce,strB bd,strB f.body] 40 (0,0))) (by kernel_rfl) HBs.out (fun hHeld=>?_)
          refine tk 0 (.pointer (some ⟨ob,0,none⟩)) ?_
          refine tk 1 (.pointer (some ⟨ob,0,none⟩)) ?_
          refine tk 2 (.pointer (some ⟨ob,0,none⟩)) ?_
          refine tk 3 (.pointer (some ⟨ob,1,none⟩)) ?_
          simp only [jA,jB,jC,Act.put,jD,jE,jF]
          refine wpAnyH_take (i:=5) (oi:=_) (v:=.agg #[strB sec,strB f.nonce,strB bd,strB f.body]) rfl (by kernel_rfl) (by kernel_rfl) (by kernel_rfl) (fun _ _ _ h=>h) (Or.inl ⟨by rfl,fun w hSw=>?_⟩) (by assumption) ?_
          ·have hrl:=run_loadVar_row (P:=Tryz.prog) w Bs 40 40 #[strB sec,strB f.nonce,strB bd,strB f.body] (0,0) _ hSw Tryz.underlying40 rfl (by kernel_rfl)
           unfold execOp
           simp [bj,aO,Act.eval,Instr.loadAt,Instr.sureAddr,bQ,bP,bu,hrl]
          simp only [jA,jB,jC,Act.put,jD,jE,jF]
          refine wpAnyH_ready (rs:=[4,6]) (by kernel_rfl) (by simp) ?_
          refine AllReadyH.cons (o:=_) rfl (fun K hK=>?_) (AllReadyH.cons (o:=_) rfl (fun K hK=>?_) AllReadyH.nil)
          ·simp only [jA,jB,jC]
           go_simp
           try go_wp2_with fail
           refine hK.out _ _ HBs.out (fun hHeld=>?_)
           clear hK K
           try simp only [jA,jB,jC,Act.put,jD,jE,jF]
           refine rd 6 (fun K hK=>?_)
           simp only [jA,jB,jC]
           go_simp
           try go_wp2_with fail
           have HbW:Hid ((wc.alloc (.cells #[strB sec,strB f.nonce,strB bd,strB f.body] 40)).drew.heap[Bs]?=some (.cells #[strB sec,strB f.nonce,strB bd,strB f.body] 40 (0,0))):=JK _ HBs.out
           have HAW:Hid (RAt (wc.alloc (.cells #[strB sec,strB f.nonce,strB bd,strB f.body] 40)).drew w fb ob f nilV nilV F0 0 V0 []):=(HA.out.alloc (.cells #[strB sec,strB f.nonce,strB bd,strB f.body] 40)).drew
           have HNW:Hid (∀ j u,([strB sec,strB f.nonce,strB bd,strB f.body]:List Value)[j]?=some u→(wc.alloc (.cells #[strB sec,strB f.nonce,strB bd,strB f.body] 40)).drew.cell? ((⟨wc.heap.size,0,none⟩:Addr).add j)=some u):=xl wc #[strB sec,strB f.nonce,strB bd,strB f.body] 40 (by simp)
           have dW:=(xZ HAW.out.out).2
           refine hK.out _ _ HbW.out (fun hHeld=>?_)
           clear hK K dd
           try simp only [jA,jB,jC,Act.put,jD,jE,jF]
           generalize hwcX:(wc.alloc (.cells #[strB sec,strB f.nonce,strB bd,strB f.body] 40)).drew=WY at *
           clear hwcX
           generalize hnb:wc.heap.size=nb at HNW ⊢
           clear hnb HA HBs
           refine rd 7 (fun K hK=>?_)
           simp only [jA,jB,jC]
           rw [aw (by simp [Region.wanted])]
           refine wp_append_own _ (.tmp 73) (.tmp 75) 28 rfl (ob+1) 40 i1 _ 4 64 Tryz.underlying28 hi1 hy0 hy1 hy2 rfl (by decide) nilV 0 [] rfl HAW.out.seals ⟨nb,0,none⟩ 1 1 [strB sec,strB f.nonce,strB bd,strB f.body] rfl rfl HNW.out ?_ (by unfold maxLen;omega) (by omega) HAW.out.size ?_
           ·intro u hu
            simp at hu
            rcases hu with rfl|rfl|rfl|rfl<;>rfl
           intro v6 w6 hown6 hgr6 _
           have HBn:Hid (w6.heap[Bs]?=some (.cells #[strB sec,strB f.nonce,strB bd,strB f.body] 40 (0,0))):=by
            show _=_
            rw [hgr6.block Bs (ag.1 HbW.out).1 (by
             intro e
             rcases HZB.out with h|h
             ·rw [h] at e;cases e
             ·exact h e.symm)]
            exact HbW.out
           obtain ⟨va,vc,hv6⟩:=jr hown6
           subst hv6
           have HO6:=hid (xk hgr6 HAW.out.seals HAW.out.out (by omega))
           have HA7:=hid (HAW.out.sealUp (Z':=[⟨sec,f.nonce,bd,f.body⟩]) hgr6 hown6)
           clear hown6 hgr6 HNW HAW HbW dW
           refine hK.out _ _ HBn.out (fun hHeld=>?_)
           clear hK K
           try simp only [jA,jB,jC,Act.put,jD,jE,jF]
           refine tk 8 (.pointer (some ⟨ob,0,none⟩)) ?_
           refine tk 9 (.pointer (some ⟨ob,1,none⟩)) ?_
           simp only [jA,jB,jC,Act.put,jD,jE,jF]
           refine rd 10 (fun K hK=>?_)
           simp only [jA,jB,jC]
           have cc:=(xZ HO6.out).2
           have fz:=frozen_of_row w6 ob 1 _ _ HO6.out
           go_simp
           try go_wp2_with fail
           have HBt:=qp (Jc w6 ob 1 (.slice va (0+1) vc)) HBn.out (by omega)
           refine hK.out _ _ HBt (fun hHeld=>?_)
           clear hK K cc fz
           refine wpAnyH_done (by kernel_rfl) ?_ _
           clear hHeld HBt HO6 HBn
           generalize hw7:w6.setCell _ _=w7 at *
           clear hw7
           go_wp2
           go_meet
           case rel=>exact ⟨p,_,_,rfl,HA7.out,HZN.out,by simp,(fun h=>by rw [HT.out] at h;cases h),hpl6,HSF9.out⟩
          ·simp only [jA,jB,jC]
           go_simp
           try go_wp2_with fail
           have HbW:Hid ((wc.alloc (.cells #[strB sec,strB f.nonce,strB bd,strB f.body] 40)).drew.heap[Bs]?=some (.cells #[strB sec,strB f.nonce,strB bd,strB f.body] 40 (0,0))):=JK _ HBs.out
           have HAW:Hid (RAt (wc.alloc (.cells #[strB sec,strB f.nonce,strB bd,strB f.body] 40)).drew w fb ob f nilV nilV F0 0 V0 []):=(HA.out.alloc (.cells #[strB sec,strB f.nonce,strB bd,strB f.body] 40)).drew
           have HNW:Hid (∀ j u,([strB sec,strB f.nonce,strB bd,strB f.body]:List Value)[j]?=some u→(wc.alloc (.cells #[strB sec,strB f.nonce,strB bd,strB f.body] 40)).drew.cell? ((⟨wc.heap.size,0,none⟩:Addr).add j)=some u):=xl wc #[strB sec,strB f.nonce,strB bd,strB f.body] 40 (by simp)
           have dW:=(xZ HAW.out.out).2
           refine hK.out _ _ HbW.out (fun hHeld=>?_)
           clear hK K dd
           try simp only [jA,jB,jC,Act.put,jD,jE,jF]
           generalize hwcX:(wc.alloc (.cells #[strB sec,strB f.nonce,strB bd,strB f.body] 40)).drew=WY at *
           clear hwcX
           generalize hnb:wc.heap.size=nb at HNW ⊢
           clear hnb HA HBs
           refine rd 4 (fun K hK=>?_)
           simp only [jA,jB,jC]
           go_simp
           try go_wp2_with fail
           refine hK.out _ _ HbW.out (fun hHeld=>?_)
           clear hK K
           try simp only [jA,jB,jC,Act.put,jD,jE,jF]
           refine rd 7 (fun K hK=>?_)
           simp only [jA,jB,jC]
           rw [aw (by simp [Region.wanted])]
           refine wp_append_own _ (.tmp 73) (.tmp 75) 28 rfl (ob+1) 40 i1 _ 4 64 Tryz.underlying28 hi1 hy0 hy1 hy2 rfl (by decide) nilV 0 [] rfl HAW.out.seals ⟨nb,0,none⟩ 1 1 [strB sec,strB f.nonce,strB bd,strB f.body] rfl rfl HNW.out ?_ (by unfold maxLen;omega) (by omega) HAW.out.size ?_
           ·intro u hu
            simp at hu
            rcases hu with rfl|rfl|rfl|rfl<;>rfl
           intro v6 w6 hown6 hgr6 _
           have HBn:Hid (w6.heap[Bs]?=some (.cells #[strB sec,strB f.nonce,strB bd,strB f.body] 40 (0,0))):=by
            show _=_
            rw [hgr6.block Bs (ag.1 HbW.out).1 (by
             intro e
             rcases HZB.out with h|h
             ·rw [h] at e;cases e
             ·exact h e.symm)]
            exact HbW.out
           obtain ⟨va,vc,hv6⟩:=jr hown6
           subst hv6
           have HO6:=hid (xk hgr6 HAW.out.seals HAW.out.out (by omega))
           have HA7:=hid (HAW.out.sealUp (Z':=[⟨sec,f.nonce,bd,f.body⟩]) hgr6 hown6)
           clear hown6 hgr6 HNW HAW HbW dW
           refine hK.out _ _ HBn.out (fun hHeld=>?_)
           clear hK K
           try simp only [jA,jB,jC,Act.put,jD,jE,jF]
           refine tk 8 (.pointer (some ⟨ob,0,none⟩)) ?_
           refine tk 9 (.pointer (some ⟨ob,1,none⟩)) ?_
           simp only [jA,jB,jC,Act.put,jD,jE,jF]
           refine rd 10 (fun K hK=>?_)
           simp only [jA,jB,jC]
           have cc:=(xZ HO6.out).2
           have fz:=frozen_of_row w6 ob 1 _ _ HO6.out
           go_simp
           try go_wp2_with fail
           have HBt:=qp (Jc w6 ob 1 (.slice va (0+1) vc)) HBn.out (by omega)
           refine hK.out _ _ HBt (fun hHeld=>?_)
           clear hK K cc fz
           refine wpAnyH_done (by kernel_rfl) ?_ _
           clear hHeld HBt HO6 HBn
           generalize hw7:w6.setCell _ _=w7 at *
           clear hw7
           go_wp2
           go_meet
           case rel=>exact ⟨p,_,_,rfl,HA7.out,HZN.out,by simp,(fun h=>by rw [HT.out] at h;cases h),hpl6,HSF9.out⟩
     case rest =>
      obtain ⟨ft,sv,Z,hfv,hA,hz0,hn1,hfo,hft,hsf⟩:=hcut
      have HZ0:=hid hz0
      have HFO:=hid hfo
      clear hz0 hfo
      subst hfv
      obtain ⟨za,zc,hze⟩:=jr hA.seals
      subst hze
      have HA:=hid hA
      have HSF:=hid hsf
      clear hA hsf HA0 c0
      go_wp2_with (refine wpList_load_row rfl 169 (.tmp 11) rfl fb rfl 169 (fileC f) (0,0) _ HA.out.file Tryz.underlying169 rfl (by kernel_rfl) ?_)
      refine (AZ f ft wc (by omega) hl1 (by unfold maxLen;omega)).mono ?_
      rintro e w6 ⟨hb6,hx⟩
      have HA6:=hid (HA.out.later hb6)
      clear hb6
      rcases hx with ⟨hn,v,rfl⟩|⟨S,T,hS,rfl,hTo⟩
      ·rw [Mw] at hn
       have HSE:Hid (qO file pre r trust=(9,none)):=by show _=_;rw [HSF.out];unfold Ry;rw [hn]
       clear hn
       go_wp2
       go_ret2
       exact ⟨HA6.out.below,.inl ⟨9,HSE.out,by decide,rfl⟩⟩
      ·rw [Mw] at hS
       have HOK:=hid (UP hS)
       have hft2:=VK HF.out HOK.out
       have HSG:Hid (qO file pre r trust=if (f.told && !trust)=true then (if jy r (f.foot:Int)=false then (8,none) else if qw (jl r (f.foot:Int)) f.nonce (qo pre 83 0 0 0++ft) f.body=some [] then (0,some S) else (4,none)) else (0,some S)):=by
        show _=_
        rw [HSF.out]
        unfold Ry
        rw [hS]
       have HA0:Hid (RTAt T wc.heap.size S w6 w fb ob f nilV (.slice za Z.length zc) F0 0 V0 Z):=⟨HA6.out,hTo⟩
       clear hS HSF HA HA6 hTo
       generalize hOB:wc.heap.size=tb at *
       clear hOB
       obtain ⟨c0,_⟩:=JU HA0.out.file
       go_upto_region 23 with fail
       go_cut [92] (fun bv wd=>bv=.bool (f.told && !trust)∧w6=wd)
       case first =>
        cases ht:f.told with
        | true =>
         rw [ht] at c0
         cases trust with
         | true =>
          go_wp2
          go_meet
          case rel=>exact ⟨by rw [ht];rfl,rfl⟩
         | false =>
          go_wp2
          go_meet
          case rel=>exact ⟨by rw [ht];rfl,rfl⟩
        | false =>
         rw [ht] at c0
         go_wp2
         go_meet
         case rel=>exact ⟨by rw [ht];rfl,rfl⟩
       case rest =>
        obtain ⟨hbv,hww⟩:=hcut
        subst hbv hww
        clear c0
        go_upto_if 92 with fail
        go_cut [92] (fun _ wd=>∃ sv Z,RTAt T tb S wd w fb ob f nilV sv F0 0 V0 Z∧GM pre r f trust=Z∧Z.length≤2∧qO file pre r trust=(0,some S))
        case first =>
         cases hb:(f.told && !trust) with
         | false =>
          have HSE:Hid (qO file pre r trust=(0,some S)):=by show _=_;rw [HSG.out,aj (by rw [hb];decide)]
          refine wp_cond_false (by first|rfl|(rw [hb];rfl)) ?_
          go_wp2
          go_meet
          case rel=>exact ⟨_,Z,HA0.out,(Dl hb).trans HZ0.out,by omega,HSE.out⟩
         | true =>
          refine wp_cond_true (by first|rfl|(rw [hb];rfl)) ?_
          rw [aw hb] at HSG
          have HS1:Hid (GM pre r f trust=Z++[⟨jl r (f.foot:Int),f.nonce,qo pre 83 0 0 0++ft,f.body⟩]):=by
           show _=_
           have ht:f.told=true:=by
            cases h:f.told with
            | true=>rfl
            | false=>rw [h] at hb;cases hb
           rw [DY hb,HZ0.out,HFO.out ht]
          clear hb
          cases th with
          | false =>
           rw [aw HTH.out] at HSG
           go_wp2
           go_ret2
           exact ⟨HA0.out.below,.inl ⟨8,HSG.out,by decide,rfl⟩⟩
          | true =>
           rw [aj (by rw [HTH.out];decide)] at HSG
           have hsec:(jl r (f.foot:Int)).length=8:=Qq HR.out HTH.out
           have hbl:=XH pre 83 0 0 0 hp20
           obtain ⟨sec,hsc⟩:∃ sec,sec=jl r (f.foot:Int):=⟨_,rfl⟩
           obtain ⟨bd,hbd⟩:∃ bd,bd=qo pre 83 0 0 0:=⟨_,rfl⟩
           rw [← hbd] at hbl
           obtain ⟨oo,hoo⟩:∃ oo,oo=(qw (jl r (f.foot:Int)) f.nonce (qo pre 83 0 0 0++ft) f.body).isSome:=⟨_,rfl⟩
           have HOO:=hid hoo
           have HBD:Hid (∀ w',Calls Tryz.prog 86 #[strB pre,strB [83],.int .i64 0,.int .i64 0,.int .i64 0] w' fun e w2=>e=.returned (strB bd)∧Below w'.heap.size w' w2):=fun w'=>by
            rw [hbd]
            exact Ge pre 83 0 0 0 w' hp20 (by decide) (by decide) (by decide)
           have HOP:Hid (∀ w',LiesK w' ra r→Calls Tryz.prog 89 #[.slice ra r.length rcap,.int .i64 (f.foot:Int),strB (bd++ft),.agg #[strB f.nonce,strB f.body]] w' fun e w2=>Below w'.heap.size w' w2∧∃ p,e=.returned (.tuple #[.agg #[strB sec,strB f.nonce,strB (bd++ft),strB f.body],strB p,.bool oo])∧∀ q,qw (jl r (f.foot:Int)) f.nonce (qo pre 83 0 0 0++ft) f.body=some q→p=q):=fun w' h=>by
            have h2:=Uw ra rcap r (f.foot:Int) (qo pre 83 0 0 0++ft) f.nonce f.body w' h hrm (by omega) (by omega) (by rw [← hbd];rw [ab];omega) (by unfold maxLen;omega)
            rw [hoo,hsc,hbd]
            exact h2
           have HZN:Hid (GM pre r f trust=Z++[⟨sec,f.nonce,bd++ft,f.body⟩]):=by
            show _=_
            rw [hsc,hbd]
            exact HS1.out
           clear hsc hbd hoo hsec
           have q1:¬ (9223372036854775807 < bd.length+ft.length):=by omega
           go_upto_region 26 with fail
           go_cut [20,21,22] (fun bv pv ov wd=>∃ Bs p oo',bv=.pointer (some ⟨Bs,0,none⟩)∧pv=strB p∧ov=.bool oo'∧oo'=(qw (jl r (f.foot:Int)) f.nonce (qo pre 83 0 0 0++ft) f.body).isSome∧(∀ q,qw (jl r (f.foot:Int)) f.nonce (qo pre 83 0 0 0++ft) f.body=some q→p=q)∧RTAt T tb S wd w fb ob f nilV (.slice za Z.length zc) F0 0 V0 Z∧ob+1≤Bs∧wd.heap[Bs]?=some (.cells #[strB sec,strB f.nonce,strB (bd++ft),strB f.body] 40 (0,0))∧((Value.slice za Z.length zc).ownBlock=none∨(Value.slice za Z.length zc).ownBlock≠some Bs))
           case first =>
            have hS:=HA0.out.filec
            refine wp_region_held_drew (S:=fun w'=>w'.cell? ⟨fb,1,none⟩=some (.int .i64 (f.foot:Int))∧w'.cell? ⟨fb,4,none⟩=some (strB f.nonce)∧w'.cell? ⟨fb,5,none⟩=some (strB f.body)) (by kernel_rfl) hS (fun hHeld=>?_)
            clear hS
            refine tk 0 (.slice ra r.length rcap) ?_
            refine tk 1 (.pointer (some ⟨fb,1,none⟩)) ?_
            refine tk 2 (.int .i64 (f.foot:Int)) ?_
            refine tk 3 (strB pre) ?_
            refine tk 7 (.pointer (some ⟨fb,4,none⟩)) ?_
            refine tk 8 (.agg #[strB f.nonce,strB f.body]) ?_
            refine tk 5 (strB ft) ?_
            simp only [jA,jB,jC,Act.put,jD,jE,jF]
            refine wpAnyH_ready (rs:=[4,14]) (by kernel_rfl) (by simp) ?_
            refine AllReadyH.cons (o:=_) rfl (fun K hK=>?_) (AllReadyH.cons (o:=_) rfl (fun K hK=>?_) AllReadyH.nil)
            ·simp only [jA,jB,jC]
             go_simp
             go_at_call 86
             refine (HBD.out _).mono ?_
             rintro e y1 ⟨rfl,hb1⟩
             replace hb1:=ji hb1
             have HA1:Hid (RTAt T tb S y1 w fb ob f nilV (.slice za Z.length zc) F0 0 V0 Z):=HA0.out.later hb1
             have hS:=HA1.out.filec
             clear hb1
             try go_wp2_with fail
             refine hK.out _ _ hS (fun hHeld=>?_)
             clear hK K hS
             try simp only [jA,jB,jC,Act.put,jD,jE,jF]
             refine tk 6 (Value.string ({ data:=bd.toArray }++{ data:=ft.toArray })) ?_
             simp only [jA,jB,jC,Act.put,jD,jE,jF]
             refine wpAnyH_ready (rs:=[9,14]) (by kernel_rfl) (by simp) ?_
             refine AllReadyH.cons (o:=_) rfl (fun K hK=>?_) (AllReadyH.cons (o:=_) rfl (fun K hK=>?_) AllReadyH.nil)
             ·simp only [jA,jB,jC]
              go_simp
              go_at_call 89
              rw [xo]
              refine (HOP.out _ (HL.out.later HA1.out.below)).mono ?_
              rintro e y2 ⟨hb2,p,rfl,hpq⟩
              have HPQ:=hid hpq
              have HA2:Hid (RTAt T tb S y2 w fb ob f nilV (.slice za Z.length zc) F0 0 V0 Z):=HA1.out.later hb2
              have hS:=HA2.out.filec
              clear hb2 hpq
              try go_wp2_with fail
              refine hK.out _ _ hS (fun hHeld=>?_)
              clear hK K hS
              try simp only [jA,jB,jC,Act.put,jD,jE,jF]
              refine tk 10 (.tuple #[.agg #[strB sec,strB f.nonce,strB (bd++ft),strB f.body],strB p,.bool oo]) ?_
              refine tk 11 (.agg #[strB sec,strB f.nonce,strB (bd++ft),strB f.body]) ?_
              refine tk 12 (strB p) ?_
              refine tk 13 (.bool oo) ?_
              simp only [jA,jB,jC,Act.put,jD,jE,jF]
              refine rd 14 (fun K hK=>?_)
              simp only [jA,jB,jC]
              go_simp
              try go_wp2_with fail
              have HAa:Hid (RTAt T tb S (y2.alloc (.cells seal0 40)) w fb ob f nilV (.slice za Z.length zc) F0 0 V0 Z):=(HA2.out.alloc (.cells seal0 40))
              have HSa:Hid ((y2.alloc (.cells seal0 40)).heap[y2.heap.size]?=some (.cells seal0 40 (0,0))):=(qm y2 seal0 40).2.2.2
              have hBz:=HA2.out.size
              have HZB:=hid (zT HA2.out.seals (ae y2.heap.size))
              have hS:=HAa.out.filec
              refine hK.out _ _ hS (fun hHeld=>?_)
              clear hK K hS
              try simp only [jA,jB,jC,Act.put,jD,jE,jF]
              generalize hya:(y2.alloc (.cells seal0 40))=ya at *
              clear hya
              generalize hBs:y2.heap.size=Bs at *
              clear hBs
              refine rd 15 (fun K hK=>?_)
              simp only [jA,jB,jC]
              rw [aw (by simp [Region.wanted])]
              refine wp_store_row 40 (.tmp 20) (.tmp 106) rfl Bs #[strB sec,strB f.nonce,strB (bd++ft),strB f.body] rfl rfl 40 seal0 HSa.out (by kernel_rfl) rfl (by simp [Value.oneCell']) ?_
              have HA3:Hid (RTAt T tb S (ya.setRow Bs #[strB sec,strB f.nonce,strB (bd++ft),strB f.body]) w fb ob f nilV (.slice za Z.length zc) F0 0 V0 Z):=HAa.out.rowB Bs #[strB sec,strB f.nonce,strB (bd++ft),strB f.body] (by omega) HSa.out HZB.out
              have HS3:=hid (setRow_heap ya Bs _ #[strB sec,strB f.nonce,strB (bd++ft),strB f.body] 40 (0,0) HSa.out)
              have hS:=HA3.out.filec
              refine hK.out _ _ hS (fun hHeld=>?_)
              clear hK K hS
              try simp only [jA,jB,jC,Act.put,jD,jE,jF]
              refine tk 16 (strB p) ?_
              refine tk 17 (.bool oo) ?_
              simp only [jA,jB,jC,Act.put,jD,jE,jF]
              refine wpAnyH_done (by kernel_rfl) ?_ _
              clear hHeld
              generalize hy3:ya.setRow _ _=y3 at *
              clear hy3
              go_wp2
              go_meet
              case rel=>exact ⟨Bs,p,oo,rfl,rfl,rfl,HOO.out,HPQ.out,HA3.out,by omega,HS3.out,HZB.out⟩
             ·simp only [jA,jB,jC]
              go_simp
              try go_wp2_with fail
              have HAa:Hid (RTAt T tb S (y1.alloc (.cells seal0 40)) w fb ob f nilV (.slice za Z.length zc) F0 0 V0 Z):=(HA1.out.alloc (.cells seal0 40))
              have HSa:Hid ((y1.alloc (.cells seal0 40)).heap[y1.heap.size]?=some (.cells seal0 40 (0,0))):=(qm y1 seal0 40).2.2.2
              have hBz:=HA1.out.size
              have HZB:=hid (zT HA1.out.seals (ae y1.heap.size))
              have hS:=HAa.out.filec
              refine hK.out _ _ hS (fun hHeld=>?_)
              clear hK K hS
              try simp only [jA,jB,jC,Act.put,jD,jE,jF]
              generalize hya:(y1.alloc (.cells seal0 40))=ya at *
              clear hya
              generalize hBs:y1.heap.size=Bs at *
              clear hBs
              refine rd 9 (fun K hK=>?_)
              simp only [jA,jB,jC]
              go_simp
              go_at_call 89
              rw [xo]
              refine (HOP.out _ (HL.out.later HAa.out.below)).mono ?_
              rintro e y2 ⟨hb2,p,rfl,hpq⟩
              have HPQ:=hid hpq
              have HA2:Hid (RTAt T tb S y2 w fb ob f nilV (.slice za Z.length zc) F0 0 V0 Z):=HAa.out.later hb2
              have HS2:=hid (jb hb2 HSa.out)
              have hS:=HA2.out.filec
              clear hb2 hpq
              try go_wp2_with fail
              refine hK.out _ _ hS (fun hHeld=>?_)
              clear hK K hS
              try simp only [jA,jB,jC,Act.put,jD,jE,jF]
              refine tk 10 (.tuple #[.agg #[strB sec,strB f.nonce,strB (bd++ft),strB f.body],strB p,.bool oo]) ?_
              refine tk 11 (.agg #[strB sec,strB f.nonce,strB (bd++ft),strB f.body]) ?_
              refine tk 12 (strB p) ?_
              refine tk 13 (.bool oo) ?_
              simp only [jA,jB,jC,Act.put,jD,jE,jF]
              refine rd 15 (fun K hK=>?_)
              simp only [jA,jB,jC]
              rw [aw (by simp [Region.wanted])]
              refine wp_store_row 40 (.tmp 20) (.tmp 106) rfl Bs #[strB sec,strB f.nonce,strB (bd++ft),strB f.body] rfl rfl 40 seal0 HS2.out (by kernel_rfl) rfl (by simp [Value.oneCell']) ?_
              have HA3:Hid (RTAt T tb S (y2.setRow Bs #[strB sec,strB f.nonce,strB (bd++ft),strB f.body]) w fb ob f nilV (.slice za Z.length zc) F0 0 V0 Z):=HA2.out.rowB Bs #[strB sec,strB f.nonce,strB (bd++ft),strB f.body] (by omega) HS2.out HZB.out
              have HS3:=hid (setRow_heap y2 Bs _ #[strB sec,strB f.nonce,strB (bd++ft),strB f.body] 40 (0,0) HS2.out)
              have hS:=HA3.out.filec
              refine hK.out _ _ hS (fun hHeld=>?_)
              clear hK K hS
              try simp only [jA,jB,jC,Act.put,jD,jE,jF]
              refine tk 16 (strB p) ?_
              refine tk 17 (.bool oo) ?_
              simp only [jA,jB,jC,Act.put,jD,jE,jF]
              refine wpAnyH_done (by kernel_rfl) ?_ _
              clear hHeld
              generalize hy3:y2.setRow _ _=y3 at *
              clear hy3
              go_wp2
              go_meet
              case rel=>exact ⟨Bs,p,oo,rfl,rfl,rfl,HOO.out,HPQ.out,HA3.out,by omega,HS3.out,HZB.out⟩
            ·simp only [jA,jB,jC]
             go_simp
             try go_wp2_with fail
             have HAa:Hid (RTAt T tb S (w6.alloc (.cells seal0 40)).drew w fb ob f nilV (.slice za Z.length zc) F0 0 V0 Z):=(HA0.out.alloc (.cells seal0 40)).drew
             have HSa:Hid ((w6.alloc (.cells seal0 40)).drew.heap[w6.heap.size]?=some (.cells seal0 40 (0,0))):=(qm w6 seal0 40).2.2.2
             have hBz:=HA0.out.size
             have HZB:=hid (zT HA0.out.seals (ae w6.heap.size))
             have hS:=HAa.out.filec
             refine hK.out _ _ hS (fun hHeld=>?_)
             clear hK K hS
             try simp only [jA,jB,jC,Act.put,jD,jE,jF]
             generalize hya:(w6.alloc (.cells seal0 40)).drew=ya at *
             clear hya
             generalize hBs:w6.heap.size=Bs at *
             clear hBs
             refine rd 4 (fun K hK=>?_)
             simp only [jA,jB,jC]
             go_simp
             go_at_call 86
             refine (HBD.out _).mono ?_
             rintro e y1 ⟨rfl,hb1⟩
             have HA1:Hid (RTAt T tb S y1 w fb ob f nilV (.slice za Z.length zc) F0 0 V0 Z):=HAa.out.later hb1
             have HS1:=hid (jb hb1 HSa.out)
             have hS:=HA1.out.filec
             clear hb1
             try go_wp2_with fail
             refine hK.out _ _ hS (fun hHeld=>?_)
             clear hK K hS
             try simp only [jA,jB,jC,Act.put,jD,jE,jF]
             refine tk 6 (Value.string ({ data:=bd.toArray }++{ data:=ft.toArray })) ?_
             simp only [jA,jB,jC,Act.put,jD,jE,jF]
             refine rd 9 (fun K hK=>?_)
             simp only [jA,jB,jC]
             go_simp
             go_at_call 89
             rw [xo]
             refine (HOP.out _ (HL.out.later HA1.out.below)).mono ?_
             rintro e y2 ⟨hb2,p,rfl,hpq⟩
             have HPQ:=hid hpq
             have HA2:Hid (RTAt T tb S y2 w fb ob f nilV (.slice za Z.length zc) F0 0 V0 Z):=HA1.out.later hb2
             have HS2:=hid (jb hb2 HS1.out)
             have hS:=HA2.out.filec
             clear hb2 hpq
             try go_wp2_with fail
             refine hK.out _ _ hS (fun hHeld=>?_)
             clear hK K hS
             try simp only [jA,jB,jC,Act.put,jD,jE,jF]
             refine tk 10 (.tuple #[.agg #[strB sec,strB f.nonce,strB (bd++ft),strB f.body],strB p,.bool oo]) ?_
             refine tk 11 (.agg #[strB sec,strB f.nonce,strB (bd++ft),strB f.body]) ?_
             refine tk 12 (strB p) ?_
             refine tk 13 (.bool oo) ?_
             simp only [jA,jB,jC,Act.put,jD,jE,jF]
             refine rd 15 (fun K hK=>?_)
             simp only [jA,jB,jC]
             rw [aw (by simp [Region.wanted])]
             refine wp_store_row 40 (.tmp 20) (.tmp 106) rfl Bs #[strB sec,strB f.nonce,strB (bd++ft),strB f.body] rfl rfl 40 seal0 HS2.out (by kernel_rfl) rfl (by simp [Value.oneCell']) ?_
             have HA3:Hid (RTAt T tb S (y2.setRow Bs #[strB sec,strB f.nonce,strB (bd++ft),strB f.body]) w fb ob f nilV (.slice za Z.length zc) F0 0 V0 Z):=HA2.out.rowB Bs #[strB sec,strB f.nonce,strB (bd++ft),strB f.body] (by omega) HS2.out HZB.out
             have HS3:=hid (setRow_heap y2 Bs _ #[strB sec,strB f.nonce,strB (bd++ft),strB f.body] 40 (0,0) HS2.out)
             have hS:=HA3.out.filec
             refine hK.out _ _ hS (fun hHeld=>?_)
             clear hK K hS
             try simp only [jA,jB,jC,Act.put,jD,jE,jF]
             refine tk 16 (strB p) ?_
             refine tk 17 (.bool oo) ?_
             simp only [jA,jB,jC,Act.put,jD,jE,jF]
             refine wpAnyH_done (by kernel_rfl) ?_ _
             clear hHeld
             generalize hy3:y2.setRow _ _=y3 at *
             clear hy3
             go_wp2
             go_meet
             case rel=>exact ⟨Bs,p,oo,rfl,rfl,rfl,HOO.out,HPQ.out,HA3.out,by omega,HS3.out,HZB.out⟩
           case rest =>
            obtain ⟨Bs,p,oo',hbv,hpv,hov,hoo',hpq,hA,hBsl,hrow,hzb⟩:=hcut
            subst hbv hpv hov
            have HA:=hid hA
            have HBs:=hid hrow
            have HZB:=hid hzb
            have HPQ:=hid hpq
            have HO2:=hid hoo'
            clear hA hrow hzb hpq hoo' HA0 HOP HBD HOO
            cases oo' with
            | false =>
             have hno:qw (jl r (f.foot:Int)) f.nonce (qo pre 83 0 0 0++ft) f.body=none:=by
              cases hq:qw (jl r (f.foot:Int)) f.nonce (qo pre 83 0 0 0++ft) f.body with
              | none=>rfl
              | some q=>have h9:=HO2.out;rw [hq] at h9;cases h9
             have HSF9:Hid (qO file pre r trust=(4,none)):=by show _=_;rw [HSG.out,aj (by rw [hno];simp)]
             clear hno
             go_wp2
             go_ret2
             exact ⟨HA.out.below,.inl ⟨4,HSF9.out,by decide,rfl⟩⟩
            | true =>
             have hop:qw (jl r (f.foot:Int)) f.nonce (qo pre 83 0 0 0++ft) f.body=some p:=by
              cases hq:qw (jl r (f.foot:Int)) f.nonce (qo pre 83 0 0 0++ft) f.body with
              | none=>have h9:=HO2.out;rw [hq] at h9;cases h9
              | some q=>rw [HPQ.out q hq]
             cases p with
             | cons b l =>
              rw [aj (by rw [hop];simp)] at HSG
              clear hop
              go_wp2
              go_ret2
              exact ⟨HA.out.below,.inl ⟨4,HSG.out,by decide,rfl⟩⟩
             | nil =>
              rw [aw hop] at HSG
              clear hop
              obtain ⟨i1,hi1,hy0,hy1,hy2⟩:=info_parts Tryz.infoSealed
              have HTO:=hid HA.out.told
              have HAr:=hid HA.out.toRAt
              clear HA
              have HA:=HAr
              clear HAr
              go_upto_region 29 with fail
              have dd:=(xZ HA.out.out).2
              refine wp_region_held_drew (S:=fun w'=>w'.heap[Bs]?=some (.cells #[strB sec,strB f.nonce,strB (bd++ft),strB f.body] 40 (0,0))) (by kernel_rfl) HBs.out (fun hHeld=>?_)
              refine tk 0 (.pointer (some ⟨ob,0,none⟩)) ?_
              refine tk 1 (.pointer (some ⟨ob,0,none⟩)) ?_
              refine tk 2 (.pointer (some ⟨ob,0,none⟩)) ?_
              refine tk 3 (.pointer (some ⟨ob,1,none⟩)) ?_
              simp only [jA,jB,jC,Act.put,jD,jE,jF]
              refine wpAnyH_take (i:=5) (oi:=_) (v:=.agg #[strB sec,strB f.nonce,strB (bd++ft),strB f.body]) rfl (by kernel_rfl) (by kernel_rfl) (by kernel_rfl) (fun _ _ _ h=>h) (Or.inl ⟨by rfl,fun w hSw=>?_⟩) (by assumption) ?_
              ·have hrl:=run_loadVar_row (P:=Tryz.prog) w Bs 40 40 #[strB sec,strB f.nonce,strB (bd++ft),strB f.body] (0,0) _ hSw Tryz.underlying40 rfl (by kernel_rfl)
               unfold execOp
               simp [bj,aO,Act.eval,Instr.loadAt,Instr.sureAddr,bQ,bP,bu,hrl]
              simp only [jA,jB,jC,Act.put,jD,jE,jF]
              refine wpAnyH_ready (rs:=[4,6]) (by kernel_rfl) (by simp) ?_
              refine AllReadyH.cons (o:=_) rfl (fun K hK=>?_) (AllReadyH.cons (o:=_) rfl (fun K hK=>?_) AllReadyH.nil)
              ·simp only [jA,jB,jC]
               go_simp
               try go_wp2_with fail
               refine hK.out _ _ HBs.out (fun hHeld=>?_)
               clear hK K
               try simp only [jA,jB,jC,Act.put,jD,jE,jF]
               refine rd 6 (fun K hK=>?_)
               simp only [jA,jB,jC]
               go_simp
               try go_wp2_with fail
               have HbW:Hid ((wc.alloc (.cells #[strB sec,strB f.nonce,strB (bd++ft),strB f.body] 40)).drew.heap[Bs]?=some (.cells #[strB sec,strB f.nonce,strB (bd++ft),strB f.body] 40 (0,0))):=JK _ HBs.out
               have HAW:Hid (RAt (wc.alloc (.cells #[strB sec,strB f.nonce,strB (bd++ft),strB f.body] 40)).drew w fb ob f nilV (.slice za Z.length zc) F0 0 V0 Z):=(HA.out.alloc (.cells #[strB sec,strB f.nonce,strB (bd++ft),strB f.body] 40)).drew
               have HTW:Hid (ToldAt (wc.alloc (.cells #[strB sec,strB f.nonce,strB (bd++ft),strB f.body] 40)).drew T tb S):=(HTO.out.later ((Below.refl wc.heap.size wc).alloc (ae _) (.cells #[strB sec,strB f.nonce,strB (bd++ft),strB f.body] 40))).later (qe (Below.refl _ _))
               have HNW:Hid (∀ j u,([strB sec,strB f.nonce,strB (bd++ft),strB f.body]:List Value)[j]?=some u→(wc.alloc (.cells #[strB sec,strB f.nonce,strB (bd++ft),strB f.body] 40)).drew.cell? ((⟨wc.heap.size,0,none⟩:Addr).add j)=some u):=xl wc #[strB sec,strB f.nonce,strB (bd++ft),strB f.body] 40 (by simp)
               have dW:=(xZ HAW.out.out).2
               refine hK.out _ _ HbW.out (fun hHeld=>?_)
               clear hK K dd
               try simp only [jA,jB,jC,Act.put,jD,jE,jF]
               generalize hwcX:(wc.alloc (.cells #[strB sec,strB f.nonce,strB (bd++ft),strB f.body] 40)).drew=WY at *
               clear hwcX
               generalize hnb:wc.heap.size=nb at HNW ⊢
               clear hnb HA HBs HTO
               refine rd 7 (fun K hK=>?_)
               simp only [jA,jB,jC]
               rw [aw (by simp [Region.wanted])]
               refine wp_append_own _ (.tmp 119) (.tmp 121) 28 rfl (ob+1) 40 i1 _ 4 64 Tryz.underlying28 hi1 hy0 hy1 hy2 rfl (by decide) (.slice za Z.length zc) Z.length (zg Z) rfl HAW.out.seals ⟨nb,0,none⟩ 1 1 [strB sec,strB f.nonce,strB (bd++ft),strB f.body] rfl rfl HNW.out ?_ (by unfold maxLen;omega) (by omega) HAW.out.size ?_
               ·intro u hu
                simp at hu
                rcases hu with rfl|rfl|rfl|rfl<;>rfl
               intro v6 w6 hown6 hgr6 _
               have HBn:Hid (w6.heap[Bs]?=some (.cells #[strB sec,strB f.nonce,strB (bd++ft),strB f.body] 40 (0,0))):=by
                show _=_
                rw [hgr6.block Bs (ag.1 HbW.out).1 (by
                 intro e
                 rcases HZB.out with h|h
                 ·rw [h] at e;cases e
                 ·exact h e.symm)]
                exact HbW.out
               obtain ⟨va,vc,hv6⟩:=jr hown6
               subst hv6
               have HO6:=hid (xk hgr6 HAW.out.seals HAW.out.out (by omega))
               have HA7:=hid (HAW.out.sealUp (Z':=Z++[⟨sec,f.nonce,bd++ft,f.body⟩]) hgr6 (by rw [KO,ab];exact hown6))
               have HT6:=hid ((HTW.out.aside hgr6 HAW.out.seals (by decide) (by decide) (by decide) (by decide) (by decide)).box (Jc w6 ob 1 (.slice va (Z.length+1) vc)) HO6.out)
               clear hown6 hgr6 HNW HAW HbW dW HTW
               refine hK.out _ _ HBn.out (fun hHeld=>?_)
               clear hK K
               try simp only [jA,jB,jC,Act.put,jD,jE,jF]
               refine tk 8 (.pointer (some ⟨ob,0,none⟩)) ?_
               refine tk 9 (.pointer (some ⟨ob,1,none⟩)) ?_
               simp only [jA,jB,jC,Act.put,jD,jE,jF]
               refine rd 10 (fun K hK=>?_)
               simp only [jA,jB,jC]
               have cc:=(xZ HO6.out).2
               have fz:=frozen_of_row w6 ob 1 _ _ HO6.out
               go_simp
               try go_wp2_with fail
               have HBt:=qp (Jc w6 ob 1 (.slice va (Z.length+1) vc)) HBn.out (by omega)
               refine hK.out _ _ HBt (fun hHeld=>?_)
               clear hK K cc fz
               refine wpAnyH_done (by kernel_rfl) ?_ _
               clear hHeld HBt HO6 HBn
               generalize hw7:w6.setCell _ _=w7 at *
               clear hw7
               go_wp2
               go_meet
               case rel=>exact ⟨_,_,⟨HA7.out,HT6.out⟩,HZN.out,by rw [ab];simp;omega,HSG.out⟩
              ·simp only [jA,jB,jC]
               go_simp
               try go_wp2_with fail
               have HbW:Hid ((wc.alloc (.cells #[strB sec,strB f.nonce,strB (bd++ft),strB f.body] 40)).drew.heap[Bs]?=some (.cells #[strB sec,strB f.nonce,strB (bd++ft),strB f.body] 40 (0,0))):=JK _ HBs.out
               have HAW:Hid (RAt (wc.alloc (.cells #[strB sec,strB f.nonce,strB (bd++ft),strB f.body] 40)).drew w fb ob f nilV (.slice za Z.length zc) F0 0 V0 Z):=(HA.out.alloc (.cells #[strB sec,strB f.nonce,strB (bd++ft),strB f.body] 40)).drew
               have HTW:Hid (ToldAt (wc.alloc (.cells #[strB sec,strB f.nonce,strB (bd++ft),strB f.body] 40)).drew T tb S):=(HTO.out.later ((Below.refl wc.heap.size wc).alloc (ae _) (.cells #[strB sec,strB f.nonce,strB (bd++ft),strB f.body] 40))).later (qe (Below.refl _ _))
               have HNW:Hid (∀ j u,([strB sec,strB f.nonce,strB (bd++ft),strB f.body]:List Value)[j]?=some u→(wc.alloc (.cells #[strB sec,strB f.nonce,strB (bd++ft),strB f.body] 40)).drew.cell? ((⟨wc.heap.size,0,none⟩:Addr).add j)=some u):=xl wc #[strB sec,strB f.nonce,strB (bd++ft),strB f.body] 40 (by simp)
               have dW:=(xZ HAW.out.out).2
               refine hK.out _ _ HbW.out (fun hHeld=>?_)
               clear hK K dd
               try simp only [jA,jB,jC,Act.put,jD,jE,jF]
               generalize hwcX:(wc.alloc (.cells #[strB sec,strB f.nonce,strB (bd++ft),strB f.body] 40)).drew=WY at *
               clear hwcX
               generalize hnb:wc.heap.size=nb at HNW ⊢
               clear hnb HA HBs HTO
               refine rd 4 (fun K hK=>?_)
               simp only [jA,jB,jC]
               go_simp
               try go_wp2_with fail
               refine hK.out _ _ HbW.out (fun hHeld=>?_)
               clear hK K
               try simp only [jA,jB,jC,Act.put,jD,jE,jF]
               refine rd 7 (fun K hK=>?_)
               simp only [jA,jB,jC]
               rw [aw (by simp [Region.wanted])]
               refine wp_append_own _ (.tmp 119) (.tmp 121) 28 rfl (ob+1) 40 i1 _ 4 64 Tryz.underlying28 hi1 hy0 hy1 hy2 rfl (by decide) (.slice za Z.length zc) Z.length (zg Z) rfl HAW.out.seals ⟨nb,0,none⟩ 1 1 [strB sec,strB f.nonce,strB (bd++ft),strB f.body] rfl rfl HNW.out ?_ (by unfold maxLen;omega) (by omega) HAW.out.size ?_
               ·intro u hu
                simp at hu
                rcases hu with rfl|rfl|rfl|rfl<;>rfl
               intro v6 w6 hown6 hgr6 _
               have HBn:Hid (w6.heap[Bs]?=some (.cells #[strB sec,strB f.nonce,strB (bd++ft),strB f.body] 40 (0,0))):=by
                show _=_
                rw [hgr6.block Bs (ag.1 HbW.out).1 (by
                 intro e
                 rcases HZB.out with h|h
                 ·rw [h] at e;cases e
                 ·exact h e.symm)]
                exact HbW.out
               obtain ⟨va,vc,hv6⟩:=jr hown6
               subst hv6
               have HO6:=hid (xk hgr6 HAW.out.seals HAW.out.out (by omega))
               have HA7:=hid (HAW.out.sealUp (Z':=Z++[⟨sec,f.nonce,bd++ft,f.body⟩]) hgr6 (by rw [KO,ab];exact hown6))
               have HT6:=hid ((HTW.out.aside hgr6 HAW.out.seals (by decide) (by decide) (by decide) (by decide) (by decide)).box (Jc w6 ob 1 (.slice va (Z.length+1) vc)) HO6.out)
               clear hown6 hgr6 HNW HAW HbW dW HTW
               refine hK.out _ _ HBn.out (fun hHeld=>?_)
               clear hK K
               try simp only [jA,jB,jC,Act.put,jD,jE,jF]
               refine tk 8 (.pointer (some ⟨ob,0,none⟩)) ?_
               refine tk 9 (.pointer (some ⟨ob,1,none⟩)) ?_
               simp only [jA,jB,jC,Act.put,jD,jE,jF]
               refine rd 10 (fun K hK=>?_)
               simp only [jA,jB,jC]
               have cc:=(xZ HO6.out).2
               have fz:=frozen_of_row w6 ob 1 _ _ HO6.out
               go_simp
               try go_wp2_with fail
               have HBt:=qp (Jc w6 ob 1 (.slice va (Z.length+1) vc)) HBn.out (by omega)
               refine hK.out _ _ HBt (fun hHeld=>?_)
               clear hK K cc fz
               refine wpAnyH_done (by kernel_rfl) ?_ _
               clear hHeld HBt HO6 HBn
               generalize hw7:w6.setCell _ _=w7 at *
               clear hw7
               go_wp2
               go_meet
               case rel=>exact ⟨_,_,⟨HA7.out,HT6.out⟩,HZN.out,by rw [ab];simp;omega,HSG.out⟩
        case rest =>
         obtain ⟨sv,Z,hA,hz1,hn2,hsf⟩:=hcut
         have HSF:=hid hsf
         have HZ1:Hid (ZJ pre r f S trust 0=Z):=by
          show _=_
          unfold ZJ
          rw [hz1]
          simp
         clear hz1
         have hh:=HOK.out.heads
         simp only [jZ,au,az] at hh
         have hC6:S.cols.length≤6:=by omega
         have HCOL:=hid (fun k hk w' (hT:ToldAt w' T tb S) (hl:LiesK w' ra r)=>RT S f.foot f.parts ft T tb k pre ra rcap r w' HOK.out hT hk hp20 HR.out hrm hl)
         have HSHORT:=hid (GG file pre r trust S HSF.out).2
         have HAb:=hid (hA.toRAt.begin (xh pre r S) V0)
         have HTO:=hid hA.told
         clear hA hsf hh HSG HA0
         generalize hFE:xh pre r S=F at *
         have HFE:=hid hFE
         clear hFE
         go_wp2
         go_loopw [23] (fun i wr=>∃ (k:Nat) (fv sv:Value) (Vs:Nat→Value) (Z:List SealB),k≤S.cols.length∧i=.int .i64 (k:Int)∧RAt wr w fb ob f fv sv F k Vs Z∧ZJ pre r f S trust k=Z∧Z.length≤2+21960*k∧ToldAt wr T tb S) (fun i _=>S.cols.length - (intOf i).toNat)
         case atStart=>exact ⟨0,nilV,_,V0,Z,ah _,rfl,HAb.out,HZ1.out,by omega,HTO.out⟩
         case round =>
          clear hn2 HAb HTO
          obtain ⟨k,fv,sv,Vs,Z,hkC,rfl,hA,hzt,hn,hTo⟩:=hrel
          have HZT:=hid hzt
          clear hzt
          obtain ⟨fa,fc,rfl⟩:=jr hA.found.row
          obtain ⟨za,zc,rfl⟩:=jr hA.seals
          have HA:=hid hA
          have HTO:=hid hTo
          obtain ⟨cv,sv',pv,ev,h1,h2,_⟩:=hTo
          obtain ⟨ca,cc,rfl⟩:=jr h2
          have d5:=(xA h1).2.2.2.2.2.1
          clear hA h1 h2
          by_cases hlt:k < S.cols.length
          ·have hki:(k:Int) < (S.cols.length:Int):=by omega
           go_wp2_with fail
           clear d5
           refine (HCOL.out k hlt wr HTO.out (HL.out.later HA.out.below)).mono ?_
           rintro e w5 ⟨hb5,u,zv,rfl,hu,hus,hz,hm⟩
           have hone:=AM (Iw pre r S k)
           generalize hZk:Iw pre r S k=Zk at *
           have HZK:=hid hZk
           clear hZk
           obtain ⟨ua,uc,rfl⟩:=jr hu
           obtain ⟨ya,yc,rfl⟩:=jr hz
           have HVB:Hid (∀ j,j < k→∀ a,(Vs j).ownBlock=some a→a < wr.heap.size):=fun j hj a ha=>((HA.out.found.cells j hj).lt a ha).2
           have hB0:=HA.out.size
           have HA5:=hid (HA.out.later hb5)
           have HT5:=hid (HTO.out.later hb5)
           have HU5:=hid hu
           have HZ5:=hid hz
           have HUS:=hid hus
           have HONE:=hid hone
           have hB05:=hb5.size
           clear hb5 hu hz hus hone HA HTO
           generalize hBB:wr.heap.size=B0 at *
           clear hBB
           have HX:=hid (qm w5 found0 91).2.2.2
           have hbl:=TI w5 found0 #[strB (F k).name,.int .i64 (F k).kind,.int .i64 (F k).key,.int .i64 (F k).state,.slice ua (F k).cells.length uc] 91
           have HA:=hid (HA5.out.later hbl)
           have HTO:=hid (HT5.out.later hbl)
           have HU:=hid (jx HU5.out hbl)
           have HZ:=hid (jx HZ5.out hbl)
           have HBs:=hid (setRow_heap (w5.alloc (.cells found0 91)) w5.heap.size _ #[strB (F k).name,.int .i64 (F k).kind,.int .i64 (F k).key,.int .i64 (F k).state,.slice ua (F k).cells.length uc] 91 (0,0) HX.out)
           have HZB:=hid (zT HA5.out.found.row (ae _))
           have hBs:=HA5.out.size
           clear hbl
           go_upto_region 34 with (refine wpList_store_row rfl 91 (.tmp 24) (.tmp 140) rfl w5.heap.size #[strB (F k).name,.int .i64 (F k).kind,.int .i64 (F k).key,.int .i64 (F k).state,.slice ua (F k).cells.length uc] rfl rfl 91 found0 HX.out (by kernel_rfl) rfl (by simp [Value.oneCell']) ?_)
           clear HX HA5 HT5 HU5 HZ5
           generalize hw6:(w5.alloc _).setRow _ _=w6 at *
           clear hw6
           generalize hBss:w5.heap.size=Bs at *
           clear hBss
           obtain ⟨i1,hi1,hy0,hy1,hy2⟩:=info_parts Tryz.infoFound
           have dd:=(xZ HA.out.out).1
           refine wp_region_held_drew (S:=fun w'=>w'.heap[Bs]?=some (.cells #[strB (F k).name,.int .i64 (F k).kind,.int .i64 (F k).key,.int .i64 (F k).state,.slice ua (F k).cells.length uc] 91 (0,0))) (by kernel_rfl) HBs.out (fun hHeld=>?_)
           refine tk 0 (.pointer (some ⟨ob,0,none⟩)) ?_
           refine tk 1 (.pointer (some ⟨ob,0,none⟩)) ?_
           refine tk 2 (.pointer (some ⟨ob,0,none⟩)) ?_
           refine tk 3 (.pointer (some ⟨ob,0,none⟩)) ?_
           simp only [jA,jB,jC,Act.put,jD,jE,jF]
           refine wpAnyH_take (i:=5) (oi:=_) (v:=.agg #[strB (F k).name,.int .i64 (F k).kind,.int .i64 (F k).key,.int .i64 (F k).state,.slice ua (F k).cells.length uc]) rfl (by kernel_rfl) (by kernel_rfl) (by kernel_rfl) (fun _ _ _ h=>h) (Or.inl ⟨by rfl,fun w hSw=>?_⟩) (by assumption) ?_
           ·have hrl:=run_loadVar_row (P:=Tryz.prog) w Bs 91 91 #[strB (F k).name,.int .i64 (F k).kind,.int .i64 (F k).key,.int .i64 (F k).state,.slice ua (F k).cells.length uc] (0,0) _ hSw Tryz.underlying91 rfl (by kernel_rfl)
            unfold execOp
            simp [bj,aO,Act.eval,Instr.loadAt,Instr.sureAddr,bQ,bP,bu,hrl]
           simp only [jA,jB,jC,Act.put,jD,jE,jF]
           refine wpAnyH_ready (rs:=[4,6]) (by kernel_rfl) (by simp) ?_
           refine AllReadyH.cons (o:=_) rfl (fun K hK=>?_) (AllReadyH.cons (o:=_) rfl (fun K hK=>?_) AllReadyH.nil)
           ·simp only [jA,jB,jC]
            go_simp
            try go_wp2_with fail
            refine hK.out _ _ HBs.out (fun hHeld=>?_)
            clear hK K
            try simp only [jA,jB,jC,Act.put,jD,jE,jF]
            refine rd 6 (fun K hK=>?_)
            simp only [jA,jB,jC]
            go_simp
            try go_wp2_with fail
            have HbW:Hid ((w6.alloc (.cells #[strB (F k).name,.int .i64 (F k).kind,.int .i64 (F k).key,.int .i64 (F k).state,.slice ua (F k).cells.length uc] 91)).drew.heap[Bs]?=some (.cells #[strB (F k).name,.int .i64 (F k).kind,.int .i64 (F k).key,.int .i64 (F k).state,.slice ua (F k).cells.length uc] 91 (0,0))):=JK _ HBs.out
            have HAW:Hid (RAt (w6.alloc (.cells #[strB (F k).name,.int .i64 (F k).kind,.int .i64 (F k).key,.int .i64 (F k).state,.slice ua (F k).cells.length uc] 91)).drew w fb ob f (.slice fa k fc) (.slice za Z.length zc) F k Vs Z):=(HA.out.alloc (.cells #[strB (F k).name,.int .i64 (F k).kind,.int .i64 (F k).key,.int .i64 (F k).state,.slice ua (F k).cells.length uc] 91)).drew
            have HTW:Hid (ToldAt (w6.alloc (.cells #[strB (F k).name,.int .i64 (F k).kind,.int .i64 (F k).key,.int .i64 (F k).state,.slice ua (F k).cells.length uc] 91)).drew T tb S):=(HTO.out.later ((Below.refl w6.heap.size w6).alloc (ae _) (.cells #[strB (F k).name,.int .i64 (F k).kind,.int .i64 (F k).key,.int .i64 (F k).state,.slice ua (F k).cells.length uc] 91))).later (qe (Below.refl _ _))
            have HUW:Hid ((w6.alloc (.cells #[strB (F k).name,.int .i64 (F k).kind,.int .i64 (F k).key,.int .i64 (F k).state,.slice ua (F k).cells.length uc] 91)).drew.ownsRow B0 58 3 (.slice ua (F k).cells.length uc) (F k).cells.length (jO (F k).cells)):=HU.out.alloc _
            have HZW:Hid ((w6.alloc (.cells #[strB (F k).name,.int .i64 (F k).kind,.int .i64 (F k).key,.int .i64 (F k).state,.slice ua (F k).cells.length uc] 91)).drew.ownsRow B0 40 4 (.slice ya Zk.length yc) Zk.length (zg Zk)):=HZ.out.alloc _
            have HNW:Hid (∀ j u,([strB (F k).name,.int .i64 (F k).kind,.int .i64 (F k).key,.int .i64 (F k).state,.slice ua (F k).cells.length uc]:List Value)[j]?=some u→(w6.alloc (.cells #[strB (F k).name,.int .i64 (F k).kind,.int .i64 (F k).key,.int .i64 (F k).state,.slice ua (F k).cells.length uc] 91)).drew.cell? ((⟨w6.heap.size,0,none⟩:Addr).add j)=some u):=xl w6 #[strB (F k).name,.int .i64 (F k).kind,.int .i64 (F k).key,.int .i64 (F k).state,.slice ua (F k).cells.length uc] 91 (by simp)
            have dW:=(xZ HAW.out.out).1
            refine hK.out _ _ HbW.out (fun hHeld=>?_)
            clear hK K dd
            try simp only [jA,jB,jC,Act.put,jD,jE,jF]
            generalize hw6X:(w6.alloc (.cells #[strB (F k).name,.int .i64 (F k).kind,.int .i64 (F k).key,.int .i64 (F k).state,.slice ua (F k).cells.length uc] 91)).drew=WY at *
            clear hw6X
            generalize hnb:w6.heap.size=nb at HNW ⊢
            clear hnb HA HBs HTO
            refine rd 7 (fun K hK=>?_)
            simp only [jA,jB,jC]
            rw [aw (by simp [Region.wanted])]
            refine wp_append_own _ (.tmp 146) (.tmp 148) 32 rfl (ob+1) 91 i1 _ 5 64 Tryz.underlying32 hi1 hy0 hy1 hy2 rfl (by decide) (.slice fa k fc) k (JX F Vs k) rfl HAW.out.found.row ⟨nb,0,none⟩ 1 1 [strB (F k).name,.int .i64 (F k).kind,.int .i64 (F k).key,.int .i64 (F k).state,.slice ua (F k).cells.length uc] rfl rfl HNW.out ?_ (by unfold maxLen;omega) (by omega) HAW.out.size ?_
            ·intro u hu
             simp at hu
             rcases hu with rfl|rfl|rfl|rfl|rfl<;>rfl
            intro v6 w6 hown6 hgr6 _
            have HBn:Hid (w6.heap[Bs]?=some (.cells #[strB (F k).name,.int .i64 (F k).kind,.int .i64 (F k).key,.int .i64 (F k).state,.slice ua (F k).cells.length uc] 91 (0,0))):=by
             show _=_
             rw [hgr6.block Bs (ag.1 HbW.out).1 (by
              intro e
              rcases HZB.out with h|h
              ·rw [h] at e;cases e
              ·exact h e.symm)]
             exact HbW.out
            obtain ⟨va,vc,hv6⟩:=jr hown6
            subst hv6
            have HO6:=hid (xk hgr6 HAW.out.found.row HAW.out.out (by omega))
            have HA7:=hid (HAW.out.foundUp (B:=B0) HVB.out HUW.out hB0 HUS.out hgr6 hown6)
            have HT6:=hid ((HTW.out.aside hgr6 HAW.out.found.row (by decide) (by decide) (by decide) (by decide) (by decide)).box (Jc w6 ob 0 (.slice va (k+1) vc)) HO6.out)
            have HZ7:=hid ((HZW.out.kept hgr6 (qj HZW.out HAW.out.found.row (by decide))).kept (Jc w6 ob 0 (.slice va (k+1) vc)) (Jq (HZW.out.kept hgr6 (qj HZW.out HAW.out.found.row (by decide))) (by omega)))
            clear hown6 hgr6 HNW HAW HbW dW HTW
            refine hK.out _ _ HBn.out (fun hHeld=>?_)
            clear hK K
            try simp only [jA,jB,jC,Act.put,jD,jE,jF]
            refine tk 8 (.pointer (some ⟨ob,0,none⟩)) ?_
            refine tk 9 (.pointer (some ⟨ob,0,none⟩)) ?_
            simp only [jA,jB,jC,Act.put,jD,jE,jF]
            refine rd 10 (fun K hK=>?_)
            simp only [jA,jB,jC]
            have cc:=(xZ HO6.out).1
            have fz:=frozen_of_row w6 ob 0 _ _ HO6.out
            go_simp
            try go_wp2_with fail
            have HBt:=qp (Jc w6 ob 0 (.slice va (k+1) vc)) HBn.out (by omega)
            refine hK.out _ _ HBt (fun hHeld=>?_)
            clear hK K cc fz
            refine wpAnyH_done (by kernel_rfl) ?_ _
            clear hHeld HBt HO6 HBn
            generalize hw7:w6.setCell _ _=w7 at *
            clear hw7
            clear HUW HZW
            have dd:=(xZ HA7.out.out).2
            have fz:=frozen_of_row w7 ob 1 _ _ HA7.out.out
            have hcap:=(Ng HA7.out.seals).1
            obtain ⟨i2,hi2,hx0,hx1,hx2⟩:=info_parts Tryz.infoSealed
            by_cases hm0:Zk.length=0
            ·obtain rfl:Zk=[]:=ao hm0
             go_wp2_with (at_builtin;refine xS rfl (.tmp 156) (.tmp 157) 28 rfl 40 i2 Tryz.underlying28 hi2 za Z.length zc rfl hcap ya yc rfl ?_)
             have HA8:=hid (HA7.out.sealUp (Gk w7 _) HA7.out.seals)
             have HT8:=hid (HT6.out.box (Jc w7 ob 1 (.slice za Z.length zc)) HA7.out.out)
             have HZE:Hid (ZJ pre r f S trust (k+1)=Z):=by
              show _=_
              rw [Ka,HZT.out,HZK.out,aB]
             clear HA7 HT6 HZ7 dd fz
             generalize hw8:w7.setCell _ _=w8 at *
             clear hw8
             go_wp2
             go_roundw
             case rel=>exact ⟨k+1,_,_,_,Z,by omega,by go_num,HA8.out,HZE.out,by omega,HT8.out⟩
             case measure=>simp [intOf];omega
            ·have hm1:0 < Zk.length:=by omega
             obtain ⟨yg,hyg⟩:∃ yg,ya=some ⟨yg,0,none⟩:=by
              rcases HZ7.out.2 with ⟨h0,h1⟩|⟨g,cap,cur,hv,_⟩
              ·omega
              ·injection hv with hv1 _ _
               exact ⟨g,hv1⟩
             subst hyg
             have hz7:=HA7.out.size
             have HCL:Hid (∀ j u,(zg Zk)[j]?=some u→w7.cell? ((⟨yg,0,none⟩:Addr).add j)=some u):=HZ7.out.cells (g:=yg) rfl
             have hzl:=HZ7.out.1
             clear hm0
             go_wp2_with (at_builtin;refine wpList_append_lies _ rfl (.tmp 156) (.tmp 157) 28 rfl (ob+1) 40 i2 _ 4 64 Tryz.underlying28 hi2 hx0 hx1 hx2 rfl (by omega) (.slice za Z.length zc) Z.length (zg Z) rfl HA7.out.seals ⟨yg,0,none⟩ Zk.length yc (zg Zk) rfl hzl HCL.out HONE.out hm1 (by unfold maxLen;omega) (by omega) (by omega) _ rfl ?_;intro gg gc w9 hown9 hgr9 hat9 hlt9;have hO9:=xk hgr9 HA7.out.seals HA7.out.out (by omega);have c9:=(xZ hO9).2;have f9:=frozen_of_row w9 ob 1 _ _ hO9)
             have HA8:=hid (HA7.out.sealUp (Z':=Z++Zk) hgr9 (by rw [GV,ab];exact hown9))
             have HZE:Hid (ZJ pre r f S trust (k+1)=Z++Zk):=by
              show _=_
              rw [Ka,HZT.out,HZK.out]
             have HT8:=hid ((HT6.out.aside hgr9 HA7.out.seals (by decide) (by decide) (by decide) (by decide) (by decide)).box (Jc w9 ob 1 (.slice (some ⟨gg,0,none⟩) (Z.length+Zk.length) gc)) hO9)
             clear HA7 HT6 HZ7 dd fz hown9 hgr9 hat9 hlt9 hO9 c9 f9 HCL hzl
             generalize hw8:w9.setCell _ _=w8 at *
             clear hw8
             go_wp2
             go_roundw
             case rel=>exact ⟨k+1,_,_,_,Z++Zk,by omega,by go_num,HA8.out,HZE.out,by rw [ab];omega,HT8.out⟩
             case measure=>simp [intOf];omega
           ·simp only [jA,jB,jC]
            go_simp
            try go_wp2_with fail
            have HbW:Hid ((w6.alloc (.cells #[strB (F k).name,.int .i64 (F k).kind,.int .i64 (F k).key,.int .i64 (F k).state,.slice ua (F k).cells.length uc] 91)).drew.heap[Bs]?=some (.cells #[strB (F k).name,.int .i64 (F k).kind,.int .i64 (F k).key,.int .i64 (F k).state,.slice ua (F k).cells.length uc] 91 (0,0))):=JK _ HBs.out
            have HAW:Hid (RAt (w6.alloc (.cells #[strB (F k).name,.int .i64 (F k).kind,.int .i64 (F k).key,.int .i64 (F k).state,.slice ua (F k).cells.length uc] 91)).drew w fb ob f (.slice fa k fc) (.slice za Z.length zc) F k Vs Z):=(HA.out.alloc (.cells #[strB (F k).name,.int .i64 (F k).kind,.int .i64 (F k).key,.int .i64 (F k).state,.slice ua (F k).cells.length uc] 91)).drew
            have HTW:Hid (ToldAt (w6.alloc (.cells #[strB (F k).name,.int .i64 (F k).kind,.int .i64 (F k).key,.int .i64 (F k).state,.slice ua (F k).cells.length uc] 91)).drew T tb S):=(HTO.out.later ((Below.refl w6.heap.size w6).alloc (ae _) (.cells #[strB (F k).name,.int .i64 (F k).kind,.int .i64 (F k).key,.int .i64 (F k).state,.slice ua (F k).cells.length uc] 91))).later (qe (Below.refl _ _))
            have HUW:Hid ((w6.alloc (.cells #[strB (F k).name,.int .i64 (F k).kind,.int .i64 (F k).key,.int .i64 (F k).state,.slice ua (F k).cells.length uc] 91)).drew.ownsRow B0 58 3 (.slice ua (F k).cells.length uc) (F k).cells.length (jO (F k).cells)):=HU.out.alloc _
            have HZW:Hid ((w6.alloc (.cells #[strB (F k).name,.int .i64 (F k).kind,.int .i64 (F k).key,.int .i64 (F k).state,.slice ua (F k).cells.length uc] 91)).drew.ownsRow B0 40 4 (.slice ya Zk.length yc) Zk.length (zg Zk)):=HZ.out.alloc _
            have HNW:Hid (∀ j u,([strB (F k).name,.int .i64 (F k).kind,.int .i64 (F k).key,.int .i64 (F k).state,.slice ua (F k).cells.length uc]:List Value)[j]?=some u→(w6.alloc (.cells #[strB (F k).name,.int .i64 (F k).kind,.int .i64 (F k).key,.int .i64 (F k).state,.slice ua (F k).cells.length uc] 91)).drew.cell? ((⟨w6.heap.size,0,none⟩:Addr).add j)=some u):=xl w6 #[strB (F k).name,.int .i64 (F k).kind,.int .i64 (F k).key,.int .i64 (F k).state,.slice ua (F k).cells.length uc] 91 (by simp)
            have dW:=(xZ HAW.out.out).1
            refine hK.out _ _ HbW.out (fun hHeld=>?_)
            clear hK K dd
            try simp only [jA,jB,jC,Act.put,jD,jE,jF]
            generalize hw6X:(w6.alloc (.cells #[strB (F k).name,.int .i64 (F k).kind,.int .i64 (F k).key,.int .i64 (F k).state,.slice ua (F k).cells.length uc] 91)).drew=WY at *
            clear hw6X
            generalize hnb:w6.heap.size=nb at HNW ⊢
            clear hnb HA HBs HTO
            refine rd 4 (fun K hK=>?_)
            simp only [jA,jB,jC]
            go_simp
            try go_wp2_with fail
            refine hK.out _ _ HbW.out (fun hHeld=>?_)
            clear hK K
            try simp only [jA,jB,jC,Act.put,jD,jE,jF]
            refine rd 7 (fun K hK=>?_)
            simp only [jA,jB,jC]
            rw [aw (by simp [Region.wanted])]
            refine wp_append_own _ (.tmp 146) (.tmp 148) 32 rfl (ob+1) 91 i1 _ 5 64 Tryz.underlying32 hi1 hy0 hy1 hy2 rfl (by decide) (.slice fa k fc) k (JX F Vs k) rfl HAW.out.found.row ⟨nb,0,none⟩ 1 1 [strB (F k).name,.int .i64 (F k).kind,.int .i64 (F k).key,.int .i64 (F k).state,.slice ua (F k).cells.length uc] rfl rfl HNW.out ?_ (by unfold maxLen;omega) (by omega) HAW.out.size ?_
            ·intro u hu
             simp at hu
             rcases hu with rfl|rfl|rfl|rfl|rfl<;>rfl
            intro v6 w6 hown6 hgr6 _
            have HBn:Hid (w6.heap[Bs]?=some (.cells #[strB (F k).name,.int .i64 (F k).kind,.int .i64 (F k).key,.int .i64 (F k).state,.slice ua (F k).cells.length uc] 91 (0,0))):=by
             show _=_
             rw [hgr6.block Bs (ag.1 HbW.out).1 (by
              intro e
              rcases HZB.out with h|h
              ·rw [h] at e;cases e
              ·exact h e.symm)]
             exact HbW.out
            obtain ⟨va,vc,hv6⟩:=jr hown6
            subst hv6
            have HO6:=hid (xk hgr6 HAW.out.found.row HAW.out.out (by omega))
            have HA7:=hid (HAW.out.foundUp (B:=B0) HVB.out HUW.out hB0 HUS.out hgr6 hown6)
            have HT6:=hid ((HTW.out.aside hgr6 HAW.out.found.row (by decide) (by decide) (by decide) (by decide) (by decide)).box (Jc w6 ob 0 (.slice va (k+1) vc)) HO6.out)
            have HZ7:=hid ((HZW.out.kept hgr6 (qj HZW.out HAW.out.found.row (by decide))).kept (Jc w6 ob 0 (.slice va (k+1) vc)) (Jq (HZW.out.kept hgr6 (qj HZW.out HAW.out.found.row (by decide))) (by omega)))
            clear hown6 hgr6 HNW HAW HbW dW HTW
            refine hK.out _ _ HBn.out (fun hHeld=>?_)
            clear hK K
            try simp only [jA,jB,jC,Act.put,jD,jE,jF]
            refine tk 8 (.pointer (some ⟨ob,0,none⟩)) ?_
            refine tk 9 (.pointer (some ⟨ob,0,none⟩)) ?_
            simp only [jA,jB,jC,Act.put,jD,jE,jF]
            refine rd 10 (fun K hK=>?_)
            simp only [jA,jB,jC]
            have cc:=(xZ HO6.out).1
            have fz:=frozen_of_row w6 ob 0 _ _ HO6.out
            go_simp
            try go_wp2_with fail
            have HBt:=qp (Jc w6 ob 0 (.slice va (k+1) vc)) HBn.out (by omega)
            refine hK.out _ _ HBt (fun hHeld=>?_)
            clear hK K cc fz
            refine wpAnyH_done (by kernel_rfl) ?_ _
            clear hHeld HBt HO6 HBn
            generalize hw7:w6.setCell _ _=w7 at *
            clear hw7
            clear HUW HZW
            have dd:=(xZ HA7.out.out).2
            have fz:=frozen_of_row w7 ob 1 _ _ HA7.out.out
            have hcap:=(Ng HA7.out.seals).1
            obtain ⟨i2,hi2,hx0,hx1,hx2⟩:=info_parts Tryz.infoSealed
            by_cases hm0:Zk.length=0
            ·obtain rfl:Zk=[]:=ao hm0
             go_wp2_with (at_builtin;refine xS rfl (.tmp 156) (.tmp 157) 28 rfl 40 i2 Tryz.underlying28 hi2 za Z.length zc rfl hcap ya yc rfl ?_)
             have HA8:=hid (HA7.out.sealUp (Gk w7 _) HA7.out.seals)
             have HT8:=hid (HT6.out.box (Jc w7 ob 1 (.slice za Z.length zc)) HA7.out.out)
             have HZE:Hid (ZJ pre r f S trust (k+1)=Z):=by
              show _=_
              rw [Ka,HZT.out,HZK.out,aB]
             clear HA7 HT6 HZ7 dd fz
             generalize hw8:w7.setCell _ _=w8 at *
             clear hw8
             go_wp2
             go_roundw
             case rel=>exact ⟨k+1,_,_,_,Z,by omega,by go_num,HA8.out,HZE.out,by omega,HT8.out⟩
             case measure=>simp [intOf];omega
            ·have hm1:0 < Zk.length:=by omega
             obtain ⟨yg,hyg⟩:∃ yg,ya=some ⟨yg,0,none⟩:=by
              rcases HZ7.out.2 with ⟨h0,h1⟩|⟨g,cap,cur,hv,_⟩
              ·omega
              ·injection hv with hv1 _ _
               exact ⟨g,hv1⟩
             subst hyg
             have hz7:=HA7.out.size
             have HCL:Hid (∀ j u,(zg Zk)[j]?=some u→w7.cell? ((⟨yg,0,none⟩:Addr).add j)=some u):=HZ7.out.cells (g:=yg) rfl
             have hzl:=HZ7.out.1
             clear hm0
             go_wp2_with (at_builtin;refine wpList_append_lies _ rfl (.tmp 156) (.tmp 157) 28 rfl (ob+1) 40 i2 _ 4 64 Tryz.underlying28 hi2 hx0 hx1 hx2 rfl (by omega) (.slice za Z.length zc) Z.length (zg Z) rfl HA7.out.seals ⟨yg,0,none⟩ Zk.length yc (zg Zk) rfl hzl HCL.out HONE.out hm1 (by unfold maxLen;omega) (by omega) (by omega) _ rfl ?_;intro gg gc w9 hown9 hgr9 hat9 hlt9;have hO9:=xk hgr9 HA7.out.seals HA7.out.out (by omega);have c9:=(xZ hO9).2;have f9:=frozen_of_row w9 ob 1 _ _ hO9)
             have HA8:=hid (HA7.out.sealUp (Z':=Z++Zk) hgr9 (by rw [GV,ab];exact hown9))
             have HZE:Hid (ZJ pre r f S trust (k+1)=Z++Zk):=by
              show _=_
              rw [Ka,HZT.out,HZK.out]
             have HT8:=hid ((HT6.out.aside hgr9 HA7.out.seals (by decide) (by decide) (by decide) (by decide) (by decide)).box (Jc w9 ob 1 (.slice (some ⟨gg,0,none⟩) (Z.length+Zk.length) gc)) hO9)
             clear HA7 HT6 HZ7 dd fz hown9 hgr9 hat9 hlt9 hO9 c9 f9 HCL hzl
             generalize hw8:w9.setCell _ _=w8 at *
             clear hw8
             go_wp2
             go_roundw
             case rel=>exact ⟨k+1,_,_,_,Z++Zk,by omega,by go_num,HA8.out,HZE.out,by rw [ab];omega,HT8.out⟩
             case measure=>simp [intOf];omega
          ·have hke:k=S.cols.length:=by omega
           have hki:¬ (k:Int) < (S.cols.length:Int):=by omega
           subst hke
           obtain ⟨la,lc,hv,hlies⟩:=HA.out.found.lies HSHORT.out
           injection hv with hv1 hv2 hv3
           subst hv1 hv3
           clear hv2
           have HLF:=hid hlies
           have HCE:=hid (xZ HA.out.out).1
           clear hlies
           go_wp2
           go_ret2
           exact ⟨HA.out.below,.inr ⟨S,f,ob,_,_,_,HSF.out,HF.out,rfl,HCE.out,by rw [HFE.out];exact HLF.out,(xZ HA.out.out).2,by rw [HZT.out];exact jw HA.out.seals (by have h8:=HA.out.lo;have h9:=HA.out.lt;omega),by rw [HZT.out];omega⟩⟩
theorem EU:Xm:=fun file pre ra rcap r trust w h1 h2 h3 h4=>(Er file pre ra rcap r trust w h1 h2 h3 h4).mono fun _ _ h=>h.does
end
end Go.Proofs.YthhpbhpfagoapaaGreat
