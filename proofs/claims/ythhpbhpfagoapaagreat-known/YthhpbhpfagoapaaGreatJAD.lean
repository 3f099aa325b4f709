import Derived.Test.YthhpbhpfagoapaaGreatRTk
import Derived.Test.YthhpbhpfagoapaaGreatDReadRows
import Derived.Test.YthhpbhpfagoapaaGreatJAV
import Derived.Test.YthhpbhpfagoapaaGreatJAS
import Derived.Test.YthhpbhpfagoapaaGreatJAP
namespace Go.Proofs.YthhpbhpfagoapaaGreat
set_option linter.unusedVariables false
set_option linter.unusedSimpArgs false
set_option maxRecDepth 100000
set_option maxHeartbeats 16000000
section
open Go.RowKit
theorem boxT_grown {w w':World} {g B p:Nat} (h:BoxT w g B) (hg:w.grownBy w' (some p)) (hB:B < w.heap.size) (hne:B≠p):BoxT w' g B:=by
 have k:∀ j,w'.cell? ⟨B,j,none⟩=w.cell? ⟨B,j,none⟩:=fun j=>hg.cell_far ⟨B,j,none⟩ hB (by intro h;simp at h;exact hne h)
 obtain ⟨h0,h1,h2,h3,h4,h5,h6⟩:=h
 exact ⟨(k 0).trans h0,(k 1).trans h1,(k 2).trans h2,(k 3).trans h3,(k 4).trans h4,(k 5).trans h5,(k 6).trans h6⟩
theorem prev_last (l:List CellB) (i:Nat) (h:i≤l.length):prevB l i=lastOr cellD (l.take i):=by
 cases i with
 | zero=>rfl
 | succ i =>
  rw [List.take_succ_eq_append_getElem (by omega),lastOr_snoc]
  unfold prevB
  rw [if_neg (by omega)]
  exact nthB_at l i (by omega)
theorem steps_enc (n:Nat) (st:CellB→CellB→List UInt8) (l:List CellB) (h:∀ i,i < l.length→stepB n l i=st (prevB l i) (nthB l i)):∀ k,k≤l.length→stepsTo n l k=encG st cellD (l.take k):=by
 intro k
 induction k with
 | zero=>intro _;rfl
 | succ k ih =>
  intro hk
  rw [stepsTo,ih (by omega),List.take_succ_eq_append_getElem (by omega),encG_append,h k (by omega),prev_last l k (by omega),nthB_at l k (by omega)]
  simp [encG]
theorem way_enc (n:Nat) (hn:n≠3) (st:CellB→CellB→List UInt8) (l:List CellB) (h:∀ i,i < l.length→stepB n l i=st (prevB l i) (nthB l i)):wayB n l=encG st cellD l:=by
 have:=steps_enc n st l h l.length (Nat.le_refl _)
 rw [List.take_length] at this
 simp [wayB,hn,this]
def domT (count:Nat) (l:List CellB):Prop:=l.length=count∧∀ c ∈ l,okT c
theorem way3_enc (l:List CellB):wayB 3 l=uB (diffB l).length++(encG eachStT cellD (diffB l)++stepsTo 3 l l.length):=by
 have h5:wayB 5 (diffB l)=encG eachStT cellD (diffB l):=way_enc 5 (by decide) eachStT (diffB l) (fun i hi=>rfl)
 have h6:stepsTo 5 (diffB l) (diffB l).length=encG eachStT cellD (diffB l):=by rw [← h5];simp [wayB]
 simp only [wayB,if_true,words_steps,h6,List.append_assoc]
def LeftP (count:Nat) (rest:List UInt8) (X:List CellB) (r0:List UInt8) (acc:List CellB) (r:List UInt8):Prop :=
 ∀ l2 q,domT count l2→rest=wayB 3 l2++q→diffB l2=X∧r0=stepsTo 3 l2 l2.length++q∧l2.take acc.length=acc∧r0=stepsTo 3 l2 acc.length++r
theorem leftP_next {count:Nat} {rest r0 r:List UInt8} {X acc:List CellB} (h:LeftP count rest X r0 acc r) (hlt:acc.length < count) (l2:List CellB) (q:List UInt8) (hd:domT count l2) (hr:rest=wayB 3 l2++q) :
  ∃ (j:Nat) (m:List UInt8),∃ hj:j < X.length,r=uB j++m∧l2.take (acc.length+1)=acc++[⟨false,0,(X[j]).text⟩]∧r0=stepsTo 3 l2 (acc.length+1)++m:=by
 obtain ⟨h1,h2,h3,h4⟩:=h l2 q hd hr
 have hk:acc.length < l2.length:=by rw [hd.1];exact hlt
 generalize hkk:acc.length=k at *
 subst h1
 obtain ⟨c,hc,hct⟩:=diffB_has l2 k hk
 obtain ⟨hj,hjt⟩:=firstB_at (diffB l2) (l2[k]).text ⟨c,hc,hct⟩
 obtain ⟨m0,hm0⟩:=stepsTo_pre 3 l2 (k+1) (l2.length - (k+1))
 rw [show k+1+(l2.length - (k+1))=l2.length by omega] at hm0
 have hs:stepsTo 3 l2 (k+1)=stepsTo 3 l2 k++uB (firstB (diffB l2) (l2[k]).text):=by
  rw [stepsTo];simp only [stepB,nthB_at l2 k hk]
 refine ⟨firstB (diffB l2) (l2[k]).text,m0++q,hj,?_,?_,?_⟩
 ·have e1:stepsTo 3 l2 k++r=stepsTo 3 l2 k++(uB (firstB (diffB l2) (l2[k]).text)++(m0++q)):=by
   rw [← h4,h2,hm0,hs];simp only [List.append_assoc]
  exact List.append_cancel_left e1
 ·rw [List.take_succ_eq_append_getElem hk,h3,hjt]
  congr 2
  obtain ⟨o1,o2,_⟩:=hd.2 l2[k] (List.getElem_mem hk)
  generalize l2[k]=c at *
  obtain ⟨cn,ci,ct⟩:=c
  simp only at o1 o2
  subst o1 o2
  rfl
 ·rw [h2,hm0,List.append_assoc]
theorem readPlacesT (g p count:Nat) (s rest:List UInt8) (w:World) (hs:s.length≤maxLen) (hc:count≤60) (hc1:1≤count) (hp:RdAt w p s rest) :
  Calls Tryz.prog 199 #[txtC g,.pointer (some ⟨p,0,none⟩),.int .i64 (count:Int)] w (ReadsRow 9 strsT (domT count) (wayB 3) p s rest w):=by
 obtain ⟨i0,hi,hz0,hz1,hz2⟩:=info_parts Tryz.infoStr
 have Hs:=hid hs
 have Hp:=hid hp
 have hplt:=rd_lt hp
 clear hs hp
 go_enter Tryz.func199,Tryz.ntmps199
 go_wp2_with fail
 obtain ⟨hb0,hs0,hc0⟩:=boxed w #[.slice (some ⟨g,0,none⟩) 3 3,fnV 202,fnV 203,fnV 204,fnV 205,fnV 206,fnV 207] 225
 have Hc:Hid (BoxT _ g w.heap.size):=⟨hc0 0,hc0 1,hc0 2,hc0 3,hc0 4,hc0 5,hc0 6⟩
 have Hp0:=hid (rd_below Hp.out hb0 hplt)
 have Hb0:=hid hb0
 have hs1:=Nat.lt_of_lt_of_eq (Nat.lt_succ_self w.heap.size) hs0.symm
 have hplt0:=Nat.lt_of_lt_of_le hplt hb0.size
 have hpne:w.heap.size≠p:=by omega
 clear hc0 hb0 hs0
 generalize w.alloc _=w0 at *
 refine wp_region_held_drew (S:=fun w'=>w'.cell? ⟨w.heap.size,0,none⟩=some (.slice (some ⟨g,0,none⟩) 3 3)∧w'.cell? ⟨w.heap.size,1,none⟩=some (fnV 202)∧w'.cell? ⟨w.heap.size,2,none⟩=some (fnV 203)∧w'.cell? ⟨w.heap.size,3,none⟩=some (fnV 204)∧w'.cell? ⟨w.heap.size,4,none⟩=some (fnV 205)∧w'.cell? ⟨w.heap.size,5,none⟩=some (fnV 206)∧w'.cell? ⟨w.heap.size,6,none⟩=some (fnV 207)) (by kernel_rfl) Hc.out (fun hHeld=>?_)
 refine tk 0 (txtC g) ?_
 refine tk 1 (.pointer (some ⟨p,0,none⟩)) ?_
 refine tk 2 (.pointer (some ⟨p,0,none⟩)) ?_
 refine tk 3 (.int .i64 (count:Int)) ?_
 simp only [jA,jB,jC,Act.put,jD,jE,jF]
 refine rd 4 (fun K hK=>?_)
 simp only [jA,jB,jC]
 go_simp
 go_at_call 242
 refine (countR_any p s rest count w0.drew Hs.out (by omega) (show RdAt w0.drew p s rest from Hp0.out)).mono ?_
 rintro e w1 ⟨hg1,⟨rfl,hno⟩|⟨n,r1,hn,rfl,hrd1,hu1⟩⟩
 ·refine ⟨rfl,grown_trans (grown_below (grown_refl w _) Hb0.out) (grown_undrew hg1),.inl ⟨rfl,fun l2 q hl2 h=>?_⟩⟩
  rw [way3_enc,List.append_assoc] at h
  exact hno _ _ (by show _≤count;rw [← hl2.1];exact diffTo_len l2 l2.length) h
 ·have Hg1:=hid (grown_undrew hg1)
  have Hu1:=hid hu1
  have hn1:n≤count:=hn
  have Hbx1:=hid (boxT_grown Hc.out Hg1.out hs1 hpne)
  clear hg1 hu1
  try go_wp2_with fail
  refine hK.out _ _ Hbx1.out (fun hHeld=>?_)
  clear hK K
  try simp only [jA,jB,jC,Act.put,jD,jE,jF]
  refine rd 5 (fun K hK=>?_)
  simp only [jA,jB,jC]
  go_simp
  go_at_call 197
  refine (readEachT g p n s r1 w1 Hs.out (by omega) hrd1).mono ?_
  rintro e w2 ⟨hg2,⟨rfl,hno⟩|⟨X,r0,vX,hX,rfl,hownX,hrd2,hu2⟩⟩
  ·refine ⟨rfl,grown_trans (grown_below (grown_refl w _) Hb0.out) (grown_trans Hg1.out hg2),.inl ⟨rfl,fun l2 q hl2 h=>?_⟩⟩
   rw [way3_enc,List.append_assoc,List.append_assoc] at h
   obtain ⟨e1,e2⟩:=Hu1.out _ _ (by show _≤count;rw [← hl2.1];exact diffTo_len l2 l2.length) h
   exact hno (diffB l2) _ ⟨e1,fun c hc=>hl2.2 c (diffTo_mem l2 l2.length (Nat.le_refl _) c hc)⟩ e2.symm
  ·have HG2:=hid (grown_trans Hg1.out hg2)
   have Hbx2:=hid (boxT_grown Hc.out HG2.out hs1 hpne)
   have Hu2:=hid hu2
   have HX:=hid hX
   have hXl:X.length=n:=hX.1
   have Hrd2:=hid hrd2
   have hp1:=rd_lt hrd1
   have HL0:Hid (LeftP count rest X r0 [] r0):=by
    intro l2 q hl2 h
    rw [way3_enc,List.append_assoc,List.append_assoc] at h
    obtain ⟨e1,e2⟩:=Hu1.out _ _ (by show _≤count;rw [← hl2.1];exact diffTo_len l2 l2.length) h
    obtain ⟨e3,e4⟩:=Hu2.out (diffB l2) _ ⟨e1,fun c hc=>hl2.2 c (diffTo_mem l2 l2.length (Nat.le_refl _) c hc)⟩ e2.symm
    exact ⟨e3,e4.symm,rfl,rfl⟩
   clear hg2 hu2 hX hrd2
   try go_wp2_with fail
   refine hK.out _ _ Hbx2.out (fun hHeld=>?_)
   clear hK K
   try simp only [jA,jB,jC,Act.put,jD,jE,jF]
   refine rd 6 (fun K hK=>?_)
   simp only [jA,jB,jC]
   go_simp
   try go_wp2_with fail
   refine hK.out _ _ Hbx2.out (fun hHeld=>?_)
   clear hK K
   try simp only [jA,jB,jC,Act.put,jD,jE,jF]
   refine wpAnyH_done (by kernel_rfl) ?_ _
   clear hHeld
   by_cases hX0:X=[]
   ·have hXz:X.length=0:=by rw [hX0];rfl
    have HX0:=hid hX0
    rw [hXz] at hownX
    have hln:=own_len hownX w2
    clear hX0 hXz hXl
    go_wp2_with fail
    refine (need_no _).mono ?_
    rintro e w3 ⟨rfl,rfl⟩
    go_wp2
    refine ⟨rfl,grown_trans (grown_below (grown_refl w _) Hb0.out) HG2.out,.inl ⟨rfl,fun l2 q hl2 h=>?_⟩⟩
    obtain ⟨e1,_⟩:=HL0.out l2 q hl2 h
    obtain ⟨c,hc2,_⟩:=diffB_has l2 0 (by rw [hl2.1];omega)
    rw [e1,HX0.out] at hc2
    cases hc2
   ·have hXp:=List.length_pos_iff.2 hX0
    have hXi:(0:Int) < (X.length:Int):=by omega
    have hX60:X.length≤60:=by omega
    have hbX:∀ b cap,vX=.slice (some ⟨b,0,none⟩) X.length cap→w1.heap.size≤b:=by
     intro b cap hv
     exact (hownX.lt b (by rw [hv];rfl)).1
    obtain ⟨bX,capX,rfl,hlie⟩:=own_texts hownX hX0
    have hbX1:=hbX bX capX rfl
    have Hlie:=hid hlie
    have hbX2:=hlie.lt
    have hbXp:bX≠p:=by omega
    have hp2:=rd_lt Hrd2.out
    have hsubX:IntKind.i64.wrap ((X.length:Int) - 1)=((X.length - 1:Nat):Int):=by rw [IntKind.wrap_i64];omega
    clear hownX hbX hlie hX0 hXl
    go_wp2_with fail
    refine (need_yes _).mono ?_
    rintro e w3 ⟨rfl,rfl⟩
    go_wp2_with fail
    obtain ⟨W3,rfl⟩:∃ W3,W3=w3:=⟨_,rfl⟩
    go_loopw [8,20] (fun v i wr=>∃ (acc:List CellB) (r:List UInt8),acc.length≤count∧i=.int .i64 (acc.length:Int)∧(∀ c ∈ acc,okT c)∧wr.ownsRow W3.heap.size 9 1 v acc.length (strsT acc)∧RdAt wr p s r∧W3.grownBy wr (some p)∧LeftP count rest X r0 acc r)
     (fun _ i _=>count - (intOf i).toNat)
    case atStart=>exact ⟨[],r0,Nat.zero_le _,rfl,(fun c h=>nomatch_mem h),World.ownsRow_nil _ _ _ _,Hrd2.out,grown_refl _ _,HL0.out⟩
    case round =>
     obtain ⟨acc,r,hac,rfl,hok,hown,hrd,hg,hleft⟩:=hrel
     have Hok:=hid hok
     have Hleft:=hid hleft
     have Hg:=hid hg
     clear hok hleft
     by_cases hlt:acc.length < count
     ·have hi1:(acc.length:Int) < (count:Int):=by omega
      go_wp2_with fail
      refine (countR_eq p s r _ (X.length - 1) _ (by omega) Hs.out (by omega) hrd).mono ?_
      rintro e w4 ⟨hg4,⟨rfl,hno⟩|⟨j,r4,hj,rfl,hrd4,hu4⟩⟩
      ·go_wp2
       refine ⟨rfl,grown_trans (grown_below (grown_refl w _) Hb0.out) (grown_trans HG2.out (grown_trans Hg.out hg4)),.inl ⟨rfl,fun l2 q hl2 h=>?_⟩⟩
       obtain ⟨jj,m,hjj,k1,_⟩:=leftP_next Hleft.out hlt l2 q hl2 h
       exact hno jj m (by show _≤_;omega) k1
      ·have hj1:j≤X.length - 1:=hj
       have hjX:j < X.length:=by omega
       have hji:(j:Int) < (X.length:Int):=by omega
       have Hu4:=hid hu4
       have hown4:=keep_row hown hp2 hg4
       have hG4:=grown_trans Hg.out hg4
       have hcell:=(hG4.cell_far ⟨bX,j,none⟩ hbX2 (by intro h;simp at h;exact hbXp h)).trans (Hlie.out.cell j hjX)
       have hoX:=HX.out.2 X[j] (List.getElem_mem hjX)
       have HoX:=hid hoX
       clear hown hrd hu4 hg4 hg hoX
       generalize hx:(X[j]).text=x at *
       have Hx:=hid hx
       clear hx
       go_wp2_with (at_builtin;refine wpList_append_own _ rfl (.tmp 22) (.tmp 31) 71 rfl W3.heap.size 9 i0 (.string ⟨#[]⟩) 1 16 Tryz.underlying71 hi hz0 hz1 hz2 rfl (by decide) _ _ _ rfl (hown4.alloc _) ⟨_,0,none⟩ 1 1 [strB x] rfl rfl ?c1 ?c2 ?c3 ?c4 ?c5 ?_)
       case c1=>exact cell_laid w4 #[strB x] 9
       case c2=>intro u hu;simp at hu;subst hu;rfl
       case c3=>unfold maxLen;omega
       case c4=>omega
       case c5=>have:=hG4.size;simp;omega
       intro v5 w5 hown5 hgr5 _
       have HR:=hid (rd_append hrd4 hp2 hG4 hown4 hgr5)
       have HO5:=hid hown5
       clear hown4 hown5 hgr5 hG4 hrd4 hcell
       go_wp2
       go_roundw
       case rel =>
        refine ⟨acc++[⟨false,0,x⟩],r4,by simp;omega,by simp,?_,?_,HR.out.1,HR.out.2,?_⟩
        ·intro c hc
         rcases List.mem_append.1 hc with h|h
         ·exact Hok.out c h
         ·simp only [List.mem_cons,List.not_mem_nil,or_false] at h
          subst h
          exact ⟨rfl,rfl,by rw [← Hx.out];exact HoX.out.2.2⟩
        ·rw [show (acc++[(⟨false,0,x⟩:CellB)]).length=acc.length+1 by simp,show strsT (acc++[⟨false,0,x⟩])=strsT acc++[strB x] by simp [strsT,strs,texts]]
         exact HO5.out
        ·intro l2 q hl2 h
         obtain ⟨jj,m,hjj,k1,k2,k3⟩:=leftP_next Hleft.out hlt l2 q hl2 h
         obtain ⟨e1,e2⟩:=Hu4.out jj m (by show _≤_;omega) k1
         subst e1 e2
         obtain ⟨f1,f2,_⟩:=Hleft.out l2 q hl2 h
         rw [show (acc++[(⟨false,0,x⟩:CellB)]).length=acc.length+1 by simp]
         exact ⟨f1,f2,by rw [k2,Hx.out],k3⟩
       case measure=>simp [intOf];omega
     ·have hke:acc.length=count:=by omega
      have Hke:=hid hke
      have Hown:=hid hown
      have Hrd:=hid hrd
      have hi1:decide ((acc.length:Int) < (count:Int))=false:=by simp;omega
      clear hg hown hrd hke
      go_wp2
      go_ret
      refine ⟨grown_trans (grown_below (grown_refl w _) Hb0.out) (grown_trans HG2.out Hg.out),.inr ⟨acc,r,_,⟨Hke.out,Hok.out⟩,rfl,ownsRow_base Hown.out (Nat.le_trans Hb0.out.size HG2.out.size),Hrd.out,fun l2 q hl2 h=>?_⟩⟩
      obtain ⟨e1,e2,e3,e4⟩:=Hleft.out l2 q hl2 h
      rw [Hke.out,← hl2.1,List.take_length] at e3
      subst e3
      refine ⟨rfl,?_⟩
      exact List.append_cancel_left (e2.symm.trans e4)
end
section
open Go.RowKit
def nullC (b:Bool):CellB:=⟨b,0,[]⟩
def headF (fl:List Bool):List UInt8:=uB fl.length++restRuns false (fl.map nullC)
theorem runsC_null (l:List CellB):∀ (b:Bool) (n:Nat),runsC b n l=runsC b n ((l.map (·.null)).map nullC):=by
 induction l with
 | nil=>intro b n;rfl
 | cons c l ih =>
  intro b n
  simp only [List.map_cons,runsC,nullC]
  rw [ih,ih]
theorem headF_eq (l:List CellB):headB l=headF (l.map (·.null)):=by
 unfold headB headF restRuns
 rw [List.length_map]
 congr 1
 cases l with
 | nil=>rfl
 | cons c l =>
  rw [if_neg (by simp),if_neg (by simp),runsC_null]
theorem rowB_null_lt (nb:Bool) (fl:List Bool) (j:Nat) (h:j < rowB nb (fl.map nullC)):∃ hj:j < fl.length,fl[j]=nb:=by
 obtain ⟨h1,h2⟩:=rowB_lt nb (fl.map nullC) j h
 rw [List.length_map] at h1
 exact ⟨h1,by simpa [nullC] using h2⟩
theorem rowB_null_end (nb:Bool) (fl:List Bool) (h:rowB nb (fl.map nullC) < fl.length):fl[rowB nb (fl.map nullC)]=!nb:=by
 have:=rowB_end nb (fl.map nullC) (by simpa using h)
 simpa [nullC] using this
def LeftF (rest:List UInt8) (count:Nat) (acc:List Bool) (nb:Bool) (r:List UInt8):Prop :=
 ∀ fl q,fl.length≤60→rest=headF fl++q→fl.length=count∧fl.take acc.length=acc∧r=restRuns nb ((fl.drop acc.length).map nullC)++q∧((acc=[]∧nb=false)∨∀ h:acc.length < fl.length,fl[acc.length]=nb)
theorem leftF_next {rest r:List UInt8} {count:Nat} {acc:List Bool} {nb:Bool} (h:LeftF rest count acc nb r) (hlt:acc.length < count) (fl:List Bool) (q:List UInt8) (hl:fl.length≤60) (hr:rest=headF fl++q) :
  ∃ (rr:Nat) (m:List UInt8),rr≤count - acc.length∧r=uB rr++m∧(rr=0→acc=[]∧nb=false)∧fl.length=count∧fl.take (acc.length+rr)=acc++List.replicate rr nb∧m=restRuns (!nb) ((fl.drop (acc.length+rr)).map nullC)++q∧((∀ h:acc.length+rr < fl.length,fl[acc.length+rr]=!nb)):=by
 obtain ⟨h1,h2,h3,h4⟩:=h fl q hl hr
 have hk:acc.length < fl.length:=by omega
 generalize hkk:acc.length=k at *
 have hle:=rowB_le nb ((fl.drop k).map nullC)
 rw [List.length_map,List.length_drop] at hle
 have hlt2:=rowB_null_lt nb (fl.drop k)
 have hend:=rowB_null_end nb (fl.drop k)
 have hst:=restRuns_step nb ((fl.drop k).map nullC) (by simp;omega)
 generalize hrr:rowB nb ((fl.drop k).map nullC)=rr at *
 rw [← List.map_drop,List.drop_drop] at hst
 refine ⟨rr,restRuns (!nb) ((fl.drop (k+rr)).map nullC)++q,by omega,by rw [h3,hst,List.append_assoc],?_,h1,?_,rfl,?_⟩
 ·intro h0
  rcases h4 with h5|h5
  ·exact h5
  ·exfalso
   have e1:=hend (by rw [List.length_drop];omega)
   rw [List.getElem_drop] at e1
   simp only [h0,Nat.add_zero] at e1
   rw [h5 hk] at e1
   cases nb<;>simp at e1
 ·rw [List.take_add,h2]
  congr 1
  apply List.ext_getElem
  ·rw [List.length_take,List.length_drop,List.length_replicate];omega
  ·intro j hj1 hj2
   rw [List.length_replicate] at hj2
   obtain ⟨_,e1⟩:=hlt2 j hj2
   rw [List.getElem_take,List.getElem_replicate]
   exact e1
 ·intro h5
  have e1:=hend (by rw [List.length_drop];omega)
  rw [List.getElem_drop] at e1
  exact e1
def bools (fl:List Bool):List Value:=fl.map .bool
theorem bools_len {w:World} {base n:Nat} {v:Value} {xs:List Value} (h:w.ownsRow base 4 1 v n xs) (w':World) :
  Sem.run Tryz.prog (Builtin.len_ #[282] 3 #[v]) w'=.ok (.int .i64 (n:Int)) w':=by
 rcases h.2 with ⟨rfl,rfl⟩|⟨g,cap,cur,rfl,_⟩
 ·exact run_len_slice (P:=Tryz.prog) w' 282 3 _ _ _ (by rw [Tryz.underlying282];rfl)
 ·exact run_len_slice (P:=Tryz.prog) w' 282 3 _ _ _ (by rw [Tryz.underlying282];rfl)
def ReadsFlags (p:Nat) (s rest:List UInt8) (w:World) (e:Ending) (w':World):Prop :=
 w.grownBy w' (some p)∧((e=gaveUp∧∀ fl q,fl.length≤60→rest≠headF fl++q)∨∃ fl r v,fl.length≤60∧e=.returned v∧w'.ownsRow w.heap.size 4 1 v fl.length (bools fl)∧RdAt w' p s r∧∀ fl2 q,fl2.length≤60→rest=headF fl2++q→fl2=fl∧q=r)
theorem readRuns_any (p:Nat) (s rest:List UInt8) (w:World) (hs:s.length≤maxLen) (hp:RdAt w p s rest) :
  Calls Tryz.prog 209 #[.pointer (some ⟨p,0,none⟩)] w (ReadsFlags p s rest w):=by
 obtain ⟨i0,hi,hz0,hz1,hz2⟩:=info_parts Tryz.infoBool
 have Hs:=hid hs
 have Hp:=hid hp
 have hplt:=rd_lt hp
 clear hs hp
 go_enter Tryz.func209,Tryz.ntmps209
 go_wp2_with fail
 refine (countR_eq p s rest _ 60 _ rfl Hs.out (by omega) Hp.out).mono ?_
 rintro e w1 ⟨hg1,⟨rfl,hno⟩|⟨count,r1,hn,rfl,hrd1,hu1⟩⟩
 ·go_wp2
  refine ⟨rfl,hg1,.inl ⟨rfl,fun fl q hl h=>?_⟩⟩
  rw [headF,List.append_assoc] at h
  exact hno _ _ hl h
 ·have Hu1:=hid hu1
  have hcount:count≤60:=hn
  have Hg1:=hid hg1
  have hp1:=rd_lt hrd1
  clear hu1 hg1 hn
  have HL0:Hid (LeftF rest count [] false r1):=by
   intro fl q hl h
   rw [headF,List.append_assoc] at h
   obtain ⟨e1,e2⟩:=Hu1.out _ _ hl h
   exact ⟨e1,rfl,e2.symm,.inl ⟨rfl,rfl⟩⟩
  go_wp2_with (at_make;refine wpList_make_own _ rfl (.const (.int .i64 0)) (.tmp 10) 282 rfl w1.heap.size 4 i0 (.bool false) 1 Tryz.underlying282 hi hz0 hz1 .i64 .i64 _ count rfl rfl rfl (by rw [hz2];omega) (by unfold maxLen;omega) (Nat.le_refl _) ?_;intro w3 hown3 hgr3)
  have hB3:Below w1.heap.size w1 w3:=(Below.refl _ _).grown hgr3 (Nat.le_refl _) (fun _ h=>by cases h)
  have hrd3:=rd_below hrd1 hB3 hp1
  have hg13:=grown_below (grown_refl w1 (some p)) hB3
  clear hgr3 hB3 hrd1
  go_loopg [4,5] (2*count+1) (fun gk v b wr=>∃ (acc:List Bool) (nb:Bool) (r:List UInt8),b=.bool nb∧2*(count - acc.length)+(if nb=true then 0 else 1)≤gk∧acc.length≤count∧wr.ownsRow w1.heap.size 4 1 v acc.length (bools acc)∧RdAt wr p s r∧w1.grownBy wr (some p)∧LeftF rest count acc nb r)
  case atStart=>exact ⟨[],false,r1,rfl,by simp,Nat.zero_le _,hown3,hrd3,hg13,HL0.out⟩
  case round =>
   clear hown3 hrd3 hg13
   obtain ⟨acc,nb,r,rfl,hgk,hac,hown,hrd,hg,hleft⟩:=hrel
   have Hgk:=hid hgk
   have Hleft:=hid hleft
   have Hg:=hid hg
   have hln:=bools_len hown
   clear hleft hgk
   by_cases hlt:acc.length < count
   ·have hi1:(acc.length:Int) < (count:Int):=by omega
    have hln1:=hln wr
    go_wp2_with fail
    refine (countR_eq p s r _ (count - acc.length) _ (by omega) Hs.out (by omega) hrd).mono ?_
    rintro e w2 ⟨hg2,⟨rfl,hno⟩|⟨n,r2,hn,rfl,hrd2,hu2⟩⟩
    ·go_wp2
     refine ⟨rfl,grown_trans Hg1.out (grown_trans Hg.out hg2),.inl ⟨rfl,fun fl q hl h=>?_⟩⟩
     obtain ⟨rr,m,k1,k2,_⟩:=leftF_next Hleft.out hlt fl q hl h
     exact hno rr m k1 k2
    ·have hn1:n≤count - acc.length:=hn
     have Hu2:=hid hu2
     have hown2:=keep_row hown hp1 hg2
     have hG2:=grown_trans Hg.out hg2
     have hln2:=hln w2
     clear hown hrd hu2 hg2 hg hln1 hn
     by_cases hn0:0 < n
     ·have hn0i:(0:Int) < (n:Int):=by omega
      cases nb with
      | true =>
       go_upto_region 8 with go_in
       go_wp2_with fail
       refine (need_yes _).mono ?_
       rintro e wN ⟨rfl,rfl⟩
       go_wp2_with fail
       refine (repeatB true wN.heap.size 1 n _ (by omega) (World.cell?_alloc_mark ..)).mono ?_
       rintro e w4 ⟨g4,rfl,hb4,hB4⟩
       have hB4':Below wN.heap.size wN w4:=below_alloc hB4
       have hown4:=own_after hown2 hB4'
       have hrd4:=rd_below hrd2 hB4' (rd_lt hrd2)
       have hG4:=grown_below hG2 hB4'
       have HN4:=hid (World.news_of_block hb4)
       clear hB4 hB4' hown2 hrd2 hG2 hb4 hln2
       go_wp2_with (at_builtin;refine wpList_append_own _ rfl (.tmp 37) (.tmp 41) 282 rfl w1.heap.size 4 i0 (.bool false) 1 1 Tryz.underlying282 hi hz0 hz1 hz2 rfl (by decide) _ _ _ rfl hown4 ⟨g4,0,none⟩ n n (List.replicate n (.bool true)) rfl ?c0 ?c1 ?c2 ?c3 ?c4 ?c5 ?_)
       case c0=>simp
       case c1=>intro j u hj;exact HN4.out j u (by simpa using hj)
       case c2=>intro u hu;rw [List.mem_replicate] at hu;rw [hu.2];rfl
       case c3=>unfold maxLen;omega
       case c4=>omega
       case c5=>have:=hG4.size;omega
       intro v5 w5 hown5 hgr5 _
       have HR:=hid (rd_append' hrd4 hp1 hG4 hown4 hgr5)
       have HO5:=hid hown5
       have HX:Hid (bools (acc++List.replicate n true)=bools acc++List.replicate n (.bool true)):=by simp [Hid,bools]
       have HLN:Hid ((acc++List.replicate n true).length=acc.length+n):=by simp [Hid]
       clear hown4 hown5 hgr5 hG4 hrd4 HN4
       go_wp2
       go_roundg (2*(count - (acc.length+n))+(if (!true)=true then 0 else 1))
       case measure=>have h:=Hgk.out;simp only [Bool.not_true,Bool.not_false,Bool.false_eq_true,if_true,if_false,reduceIte] at h ⊢;omega
       case rel =>
        refine ⟨acc++List.replicate n true,!true,r2,rfl,?_,?_,?_,HR.out.1,HR.out.2,?_⟩
        ·rw [HLN.out];exact Nat.le_refl _
        ·rw [HLN.out];omega
        ·rw [HX.out,HLN.out];exact HO5.out
        ·intro fl q hl h
         obtain ⟨rr,m,k1,k2,k3,k4,k5,k6,k7⟩:=leftF_next Hleft.out hlt fl q hl h
         obtain ⟨e1,e2⟩:=Hu2.out rr m k1 k2
         subst e1 e2
         rw [HLN.out]
         exact ⟨k4,k5,k6,.inr k7⟩
      | false =>
       by_cases hl0:acc.length=0
       ·have hli:((acc.length:Int) == 0)=true:=by simp [hl0]
        have Hl0:=hid hl0
        clear hl0
        go_upto_region 8 with go_in
        go_wp2_with fail
        refine (need_yes _).mono ?_
        rintro e wN ⟨rfl,rfl⟩
        go_wp2_with fail
        refine (repeatB false wN.heap.size 1 n _ (by omega) (World.cell?_alloc_mark ..)).mono ?_
        rintro e w4 ⟨g4,rfl,hb4,hB4⟩
        have hB4':Below wN.heap.size wN w4:=below_alloc hB4
        have hown4:=own_after hown2 hB4'
        have hrd4:=rd_below hrd2 hB4' (rd_lt hrd2)
        have hG4:=grown_below hG2 hB4'
        have HN4:=hid (World.news_of_block hb4)
        clear hB4 hB4' hown2 hrd2 hG2 hb4 hln2
        go_wp2_with (at_builtin;refine wpList_append_own _ rfl (.tmp 37) (.tmp 41) 282 rfl w1.heap.size 4 i0 (.bool false) 1 1 Tryz.underlying282 hi hz0 hz1 hz2 rfl (by decide) _ _ _ rfl hown4 ⟨g4,0,none⟩ n n (List.replicate n (.bool false)) rfl ?c0 ?c1 ?c2 ?c3 ?c4 ?c5 ?_)
        case c0=>simp
        case c1=>intro j u hj;exact HN4.out j u (by simpa using hj)
        case c2=>intro u hu;rw [List.mem_replicate] at hu;rw [hu.2];rfl
        case c3=>unfold maxLen;omega
        case c4=>omega
        case c5=>have:=hG4.size;omega
        intro v5 w5 hown5 hgr5 _
        have HR:=hid (rd_append' hrd4 hp1 hG4 hown4 hgr5)
        have HO5:=hid hown5
        have HX:Hid (bools (acc++List.replicate n false)=bools acc++List.replicate n (.bool false)):=by simp [Hid,bools]
        have HLN:Hid ((acc++List.replicate n false).length=acc.length+n):=by simp [Hid]
        clear hown4 hown5 hgr5 hG4 hrd4 HN4
        go_wp2
        go_roundg (2*(count - (acc.length+n))+(if (!false)=true then 0 else 1))
        case measure=>have h:=Hgk.out;simp only [Bool.not_true,Bool.not_false,Bool.false_eq_true,if_true,if_false,reduceIte] at h ⊢;omega
        case rel =>
         refine ⟨acc++List.replicate n false,!false,r2,rfl,?_,?_,?_,HR.out.1,HR.out.2,?_⟩
         ·rw [HLN.out];exact Nat.le_refl _
         ·rw [HLN.out];omega
         ·rw [HX.out,HLN.out];exact HO5.out
         ·intro fl q hl h
          obtain ⟨rr,m,k1,k2,k3,k4,k5,k6,k7⟩:=leftF_next Hleft.out hlt fl q hl h
          obtain ⟨e1,e2⟩:=Hu2.out rr m k1 k2
          subst e1 e2
          rw [HLN.out]
          exact ⟨k4,k5,k6,.inr k7⟩
       ·have hli:((acc.length:Int) == 0)=false:=by rw [beq_eq_false_iff_ne];omega
        go_upto_region 8 with go_in
        go_wp2_with fail
        refine (need_yes _).mono ?_
        rintro e wN ⟨rfl,rfl⟩
        go_wp2_with fail
        refine (repeatB false wN.heap.size 1 n _ (by omega) (World.cell?_alloc_mark ..)).mono ?_
        rintro e w4 ⟨g4,rfl,hb4,hB4⟩
        have hB4':Below wN.heap.size wN w4:=below_alloc hB4
        have hown4:=own_after hown2 hB4'
        have hrd4:=rd_below hrd2 hB4' (rd_lt hrd2)
        have hG4:=grown_below hG2 hB4'
        have HN4:=hid (World.news_of_block hb4)
        clear hB4 hB4' hown2 hrd2 hG2 hb4 hln2
        go_wp2_with (at_builtin;refine wpList_append_own _ rfl (.tmp 37) (.tmp 41) 282 rfl w1.heap.size 4 i0 (.bool false) 1 1 Tryz.underlying282 hi hz0 hz1 hz2 rfl (by decide) _ _ _ rfl hown4 ⟨g4,0,none⟩ n n (List.replicate n (.bool false)) rfl ?c0 ?c1 ?c2 ?c3 ?c4 ?c5 ?_)
        case c0=>simp
        case c1=>intro j u hj;exact HN4.out j u (by simpa using hj)
        case c2=>intro u hu;rw [List.mem_replicate] at hu;rw [hu.2];rfl
        case c3=>unfold maxLen;omega
        case c4=>omega
        case c5=>have:=hG4.size;omega
        intro v5 w5 hown5 hgr5 _
        have HR:=hid (rd_append' hrd4 hp1 hG4 hown4 hgr5)
        have HO5:=hid hown5
        have HX:Hid (bools (acc++List.replicate n false)=bools acc++List.replicate n (.bool false)):=by simp [Hid,bools]
        have HLN:Hid ((acc++List.replicate n false).length=acc.length+n):=by simp [Hid]
        clear hown4 hown5 hgr5 hG4 hrd4 HN4
        go_wp2
        go_roundg (2*(count - (acc.length+n))+(if (!false)=true then 0 else 1))
        case measure=>have h:=Hgk.out;simp only [Bool.not_true,Bool.not_false,Bool.false_eq_true,if_true,if_false,reduceIte] at h ⊢;omega
        case rel =>
         refine ⟨acc++List.replicate n false,!false,r2,rfl,?_,?_,?_,HR.out.1,HR.out.2,?_⟩
         ·rw [HLN.out];exact Nat.le_refl _
         ·rw [HLN.out];omega
         ·rw [HX.out,HLN.out];exact HO5.out
         ·intro fl q hl h
          obtain ⟨rr,m,k1,k2,k3,k4,k5,k6,k7⟩:=leftF_next Hleft.out hlt fl q hl h
          obtain ⟨e1,e2⟩:=Hu2.out rr m k1 k2
          subst e1 e2
          rw [HLN.out]
          exact ⟨k4,k5,k6,.inr k7⟩
     ·have hn0i:decide ((0:Int) < (n:Int))=false:=by simp;omega
      cases nb with
      | true =>
       go_upto_region 8 with go_in
       go_wp2_with fail
       refine (need_no _).mono ?_
       rintro e wN ⟨rfl,rfl⟩
       go_wp2
       refine ⟨rfl,grown_trans Hg1.out hG2,.inl ⟨rfl,fun fl q hl h=>?_⟩⟩
       obtain ⟨rr,m,k1,k2,k3,_⟩:=leftF_next Hleft.out hlt fl q hl h
       obtain ⟨e1,e2⟩:=Hu2.out rr m k1 k2
       obtain ⟨f1,f2⟩:=k3 (by omega)
       cases f2
      | false =>
       by_cases hl0:acc.length=0
       ·have hli:((acc.length:Int) == 0)=true:=by simp [hl0]
        have Hl0:=hid hl0
        clear hl0
        go_upto_region 8 with go_in
        go_wp2_with fail
        refine (need_yes _).mono ?_
        rintro e wN ⟨rfl,rfl⟩
        go_wp2_with fail
        refine (repeatB false wN.heap.size 1 n _ (by omega) (World.cell?_alloc_mark ..)).mono ?_
        rintro e w4 ⟨g4,rfl,hb4,hB4⟩
        have hB4':Below wN.heap.size wN w4:=below_alloc hB4
        have hown4:=own_after hown2 hB4'
        have hrd4:=rd_below hrd2 hB4' (rd_lt hrd2)
        have hG4:=grown_below hG2 hB4'
        have HN4:=hid (World.news_of_block hb4)
        clear hB4 hB4' hown2 hrd2 hG2 hb4 hln2
        go_wp2_with (at_builtin;refine wpList_append_own _ rfl (.tmp 37) (.tmp 41) 282 rfl w1.heap.size 4 i0 (.bool false) 1 1 Tryz.underlying282 hi hz0 hz1 hz2 rfl (by decide) _ _ _ rfl hown4 ⟨g4,0,none⟩ n n (List.replicate n (.bool false)) rfl ?c0 ?c1 ?c2 ?c3 ?c4 ?c5 ?_)
        case c0=>simp
        case c1=>intro j u hj;exact HN4.out j u (by simpa using hj)
        case c2=>intro u hu;rw [List.mem_replicate] at hu;rw [hu.2];rfl
        case c3=>unfold maxLen;omega
        case c4=>omega
        case c5=>have:=hG4.size;omega
        intro v5 w5 hown5 hgr5 _
        have HR:=hid (rd_append' hrd4 hp1 hG4 hown4 hgr5)
        have HO5:=hid hown5
        have HX:Hid (bools (acc++List.replicate n false)=bools acc++List.replicate n (.bool false)):=by simp [Hid,bools]
        have HLN:Hid ((acc++List.replicate n false).length=acc.length+n):=by simp [Hid]
        clear hown4 hown5 hgr5 hG4 hrd4 HN4
        go_wp2
        go_roundg (2*(count - (acc.length+n))+(if (!false)=true then 0 else 1))
        case measure=>have h:=Hgk.out;simp only [Bool.not_true,Bool.not_false,Bool.false_eq_true,if_true,if_false,reduceIte] at h ⊢;omega
        case rel =>
         refine ⟨acc++List.replicate n false,!false,r2,rfl,?_,?_,?_,HR.out.1,HR.out.2,?_⟩
         ·rw [HLN.out];exact Nat.le_refl _
         ·rw [HLN.out];omega
         ·rw [HX.out,HLN.out];exact HO5.out
         ·intro fl q hl h
          obtain ⟨rr,m,k1,k2,k3,k4,k5,k6,k7⟩:=leftF_next Hleft.out hlt fl q hl h
          obtain ⟨e1,e2⟩:=Hu2.out rr m k1 k2
          subst e1 e2
          rw [HLN.out]
          exact ⟨k4,k5,k6,.inr k7⟩
       ·have hli:((acc.length:Int) == 0)=false:=by rw [beq_eq_false_iff_ne];omega
        go_upto_region 8 with go_in
        go_wp2_with fail
        refine (need_no _).mono ?_
        rintro e wN ⟨rfl,rfl⟩
        go_wp2
        refine ⟨rfl,grown_trans Hg1.out hG2,.inl ⟨rfl,fun fl q hl h=>?_⟩⟩
        obtain ⟨rr,m,k1,k2,k3,_⟩:=leftF_next Hleft.out hlt fl q hl h
        obtain ⟨e1,e2⟩:=Hu2.out rr m k1 k2
        obtain ⟨f1,f2⟩:=k3 (by omega)
        rw [f1] at hl0
        exact absurd rfl hl0
   ·have hke:acc.length=count:=by omega
    have Hke:=hid hke
    have hi1:decide ((acc.length:Int) < (count:Int))=false:=by simp;omega
    have Hown:=hid hown
    have Hrd:=hid hrd
    have hln1:=hln wr
    clear hg hown hrd hke hln
    go_wp2
    go_ret
    refine ⟨grown_trans Hg1.out Hg.out,.inr ⟨acc,r,_,by have:=Hke.out;omega,rfl,ownsRow_base Hown.out Hg1.out.size,Hrd.out,fun fl q hl h=>?_⟩⟩
    obtain ⟨e1,e2,e3,_⟩:=Hleft.out fl q hl h
    rw [Hke.out,← e1,List.take_length] at e2
    subst e2
    refine ⟨rfl,?_⟩
    rw [List.drop_length] at e3
    exact e3.symm
end
section
open Go.RowKit
def modNB (key:Int) (m:ModF):NB:=(m.nonce,if key=0 then m.plain else m.body)
theorem readPiece_any (p g c k:Nat) (key:Int) (sort s rest:List UInt8) (w:World) (hs:s.length≤maxLen) (hp:RdAt w p s rest) :
  Calls Tryz.prog 274 #[.pointer (some ⟨p,0,none⟩),.int .i64 key,moduleV sort g c k] w (ReadsX (ModOk key) (modBytes key) (fun m=>pieceV sort g c k (modNB key m)) p s rest w):=by
 have Hs:=hid hs
 have Hp:=hid hp
 have hplt:=rd_lt hp
 clear hs hp
 obtain ⟨hb0,hl0,hm0,ho0⟩:=boxes2 w #[strB sort,.int .i64 (g:Int),.int .i64 (c:Int),.int .i64 (k:Int)] 111 #[Value.string { data:=#[] },.int .i64 0,.int .i64 0,.int .i64 0,Value.string { data:=#[] },Value.string { data:=#[] }] 113
 by_cases hk:key=0
 ·subst hk
  have HXM:Hid (∀ (m:ModF) (q:List UInt8),ModOk 0 m→rest=modBytes 0 m++q→m.plain.length≤65535∧rest=twoB (m.plain.length:Int)++(m.plain++q)):=by
   intro m q hm h
   rcases hm with ⟨_,h1,h2,h3⟩|⟨h0,_⟩
   ·refine ⟨h3,?_⟩
    rw [h]
    simp [modBytes]
   ·exact absurd rfl h0
  go_enter Tryz.func274,Tryz.ntmps274
  go_wp2_with fail
  generalize (w.alloc _).alloc _=W0 at *
  have Hp0:=hid (rd_below Hp.out hb0 hplt)
  have hG0:w.grownBy W0 (some p):=grown_below (grown_refl w _) hb0
  have hne0:w.heap.size≠p:=by omega
  have hne1:w.heap.size+1≠p:=by omega
  have HC0:=hid (cells4 hm0)
  have Hm0:=hid hm0
  have Ho0:=hid ho0
  clear hb0 hm0 ho0
  refine wp_region_held_drew (S:=fun w'=>w'.cell? ⟨w.heap.size,0,none⟩=some (strB sort)∧w'.cell? ⟨w.heap.size,1,none⟩=some (.int .i64 (g:Int))∧w'.cell? ⟨w.heap.size,2,none⟩=some (.int .i64 (c:Int))∧w'.cell? ⟨w.heap.size,3,none⟩=some (.int .i64 (k:Int))) (by kernel_rfl) ?_ (fun hHeld=>?_)
  ·exact HC0.out
  refine tk 0 (moduleV sort g c k) ?_
  refine tk 1 (.pointer (some ⟨p,0,none⟩)) ?_
  refine tk 2 (.pointer (some ⟨p,0,none⟩)) ?_
  simp only [jA,jB,jC,Act.put,jD,jE,jF]
  refine rd 3 (fun K hK=>?_)
  simp only [jA,jB,jC]
  go_simp
  go_at_call 223
  refine (twoX_any p s rest _ Hs.out (show RdAt W0.drew p s rest from Hp0.out)).mono ?_
  rintro e w3 ⟨hg3,⟨hr,rfl⟩|⟨a,b,r,hr,rfl,hp3⟩⟩
  ·refine ⟨rfl,grown_trans hG0 (grown_undrew hg3),.inl ⟨rfl,fun m q hm h=>?_⟩⟩
   have:=(HXM.out m q hm h).2
   rw [this] at hr
   simp only [List.length_append,twoB_length] at hr
   omega
  have hm3:=grown_keeps (grown_undrew hg3) Hm0.out hne0
  have ho3:=grown_keeps (grown_undrew hg3) Ho0.out hne1
  have HG3:=hid (grown_trans hG0 (grown_undrew hg3))
  have Hp3:=hid hp3
  have HC3:=hid (cells4 hm3)
  have Ho3:=hid ho3
  have Hm3:=hid hm3
  have hab:a.toNat+256*b.toNat≤65535:=by have:=a.toNat_lt;have:=b.toNat_lt;omega
  have HX:Hid (∀ (m:ModF) (q:List UInt8),ModOk 0 m→rest=modBytes 0 m++q→m.plain.length=a.toNat+256*b.toNat∧r=m.plain++q):=by
   intro m q hm h
   obtain ⟨h1,h2⟩:=HXM.out m q hm h
   rw [hr] at h2
   have h':[a,b]++r=twoB (m.plain.length:Int)++(m.plain++q):=h2
   obtain ⟨h3,h4⟩:=List.append_inj h' (by rw [twoB_length];rfl)
   rw [← two_back a b] at h3
   exact ⟨(twoB_inj hab h1 h3).symm,h4⟩
  have HY:Hid (a.toNat+256*b.toNat≤r.length→ModOk 0 ⟨r.take (a.toNat+256*b.toNat),[],[]⟩∧rest=modBytes 0 ⟨r.take (a.toNat+256*b.toNat),[],[]⟩++r.drop (a.toNat+256*b.toNat)):=by
   intro hl
   have hl2:(r.take (a.toNat+256*b.toNat)).length=a.toNat+256*b.toNat:=by rw [List.length_take];omega
   refine ⟨.inl ⟨rfl,rfl,rfl,by simp only [hl2];exact hab⟩,?_⟩
   simp only [modBytes,if_true]
   rw [hl2,two_back,List.append_assoc,List.take_append_drop,hr]
   rfl
  clear hg3 hp3 hm3 ho3 hr
  generalize a.toNat+256*b.toNat=n at *
  try go_wp2_with fail
  refine hK.out _ _ HC3.out (fun hHeld=>?_)
  clear hK K
  try simp only [jA,jB,jC,Act.put,jD,jE,jF]
  refine rd 4 (fun K hK=>?_)
  simp only [jA,jB,jC]
  go_simp
  go_at_call 224
  refine (takeR_any p s r n w3 Hs.out (by omega) Hp3.out).mono ?_
  rintro e w4 ⟨hg4,⟨hlt,rfl⟩|⟨hle2,rfl,hp4⟩⟩
  ·refine ⟨rfl,grown_trans HG3.out hg4,.inl ⟨rfl,fun m q hm h=>?_⟩⟩
   obtain ⟨h3,h4⟩:=HX.out m q hm h
   rw [h4,List.length_append] at hlt
   omega
  have hm4:=grown_keeps hg4 Hm3.out hne0
  have ho4:=grown_keeps hg4 Ho3.out hne1
  have HG4:=hid (grown_trans HG3.out hg4)
  have Hp4:=hid hp4
  have HC4:=hid (cells4 hm4)
  have Ho4:=hid ho4
  have Hm4:=hid hm4
  have HE:=hid (HY.out hle2)
  clear hg4 hp4 hm4 ho4 HX HY
  generalize r.take n=U at *
  generalize r.drop n=V at *
  try go_wp2_with fail
  refine hK.out _ _ HC4.out (fun hHeld=>?_)
  clear hK K
  try simp only [jA,jB,jC,Act.put,jD,jE,jF]
  refine rd 5 (fun K hK=>?_)
  simp only [jA,jB,jC]
  go_simp
  try go_wp2_with fail
  refine hK.out _ _ HC4.out (fun hHeld=>?_)
  clear hK K
  try simp only [jA,jB,jC,Act.put,jD,jE,jF]
  obtain ⟨⟨q0,q1,q2,q3,q4,q5⟩,z0,z1,z2,z3,z4,z5⟩:=cells6 Ho4.out
  refine rd 6 (fun K hK=>?_)
  simp only [jA,jB,jC]
  try go_simp
  show K _ (w4.setCells (w.heap.size+1) 0 [strB sort,.int .i64 (g:Int),.int .i64 (c:Int),.int .i64 (k:Int),Value.string { data:=#[] },strB U])
  have ho5:=setCells_row [strB sort,.int .i64 (g:Int),.int .i64 (c:Int),.int .i64 (k:Int),Value.string { data:=#[] },strB U] (by rfl) Ho4.out
  have hg5:=setCells_grown (w.heap.size+1) [strB sort,.int .i64 (g:Int),.int .i64 (c:Int),.int .i64 (k:Int),Value.string { data:=#[] },strB U] w4 0
  clear q0 q1 q2 q3 q4 q5 z0 z1 z2 z3 z4 z5
  generalize w4.setCells _ _ _=W5 at *
  have HC5:=hid (cells4 (grown_keeps hg5 Hm4.out (by omega)))
  have HG5:=hid (grown_own HG4.out hg5 (by rintro k hk;cases hk;omega))
  have Hp5:=hid (rd_grown Hp4.out hg5 (by omega))
  clear hg5
  refine hK.out _ _ HC5.out (fun hHeld=>?_)
  clear hK K
  refine wpAnyH_done (by kernel_rfl) ?_ _
  obtain ⟨⟨q0,q1,q2,q3,q4,q5⟩,_⟩:=cells6 ho5
  go_wp2
  exact bodyPost_ret (v:=pieceV sort g c k (modNB 0 ⟨U,[],[]⟩)) (by simp [results,Tryz.results274,go_sem,q0,q1,q2,q3,q4,q5,modNB]) rfl ⟨HG5.out,.inr ⟨⟨U,[],[]⟩,V,HE.out.1,rfl,Hp5.out,HE.out.2⟩⟩
 ·have hki:(key == 0)=false:=by simpa using hk
  go_enter Tryz.func274,Tryz.ntmps274
  go_wp2_with fail
  generalize (w.alloc _).alloc _=W0 at *
  have Hp0:=hid (rd_below Hp.out hb0 hplt)
  have hG0:w.grownBy W0 (some p):=grown_below (grown_refl w _) hb0
  have hne1:w.heap.size+1≠p:=by omega
  have HXM:Hid (∀ (m:ModF) (q:List UInt8),ModOk key m→rest=modBytes key m++q→SealOk (m.nonce,m.body)∧rest=sealedB (m.nonce,m.body)++q):=by
   intro m q hm h
   rcases hm with ⟨h0,_⟩|⟨_,h1,h2,h3,h4⟩
   ·exact absurd h0 hk
   ·refine ⟨⟨h2,h3,h4⟩,?_⟩
    rw [h,modBytes,if_neg hk]
    rfl
  have HYM:Hid (∀ (x:NB) (q:List UInt8),SealOk x→rest=sealedB x++q→ModOk key ⟨[],x.1,x.2⟩∧rest=modBytes key ⟨[],x.1,x.2⟩++q∧modNB key ⟨[],x.1,x.2⟩=x):=by
   intro x q hx h
   refine ⟨.inr ⟨hk,rfl,hx.1,hx.2.1,hx.2.2⟩,?_,?_⟩
   ·rw [h,modBytes,if_neg hk]
    rfl
   ·simp only [modNB,if_neg hk]
  have Ho0:=hid ho0
  clear hm0 ho0 hb0 hk hki
  refine (readSealed_any p g c k sort s rest W0 Hs.out Hp0.out).mono ?_
  rintro e w1 ⟨hg1,⟨rfl,hno⟩|⟨x,r,hx,rfl,hp1,hr⟩⟩
  ·have HN:Hid (∀ (m:ModF) (q:List UInt8),ModOk key m→rest≠modBytes key m++q):=fun m q hm h=>hno (m.nonce,m.body) q (HXM.out m q hm h).1 (HXM.out m q hm h).2
   have HG:=hid (grown_trans hG0 hg1)
   clear hno hg1 hG0
   go_wp2
   exact ⟨rfl,HG.out,.inl ⟨rfl,HN.out⟩⟩
  have HE:=hid (HYM.out x r hx hr)
  have Ho1:=hid (grown_keeps hg1 Ho0.out hne1)
  have HG1:=hid (grown_trans hG0 hg1)
  have Hp1:=hid hp1
  clear hg1 hG0 hp1 hr
  obtain ⟨⟨q0,q1,q2,q3,q4,q5⟩,z0,z1,z2,z3,z4,z5⟩:=cells6 Ho1.out
  have ho5:=hid (setCells_row [strB sort,.int .i64 (g:Int),.int .i64 (c:Int),.int .i64 (k:Int),strB x.1,strB x.2] (by rfl) Ho1.out)
  have hg5:=hid (setCells_grown (w.heap.size+1) [strB sort,.int .i64 (g:Int),.int .i64 (c:Int),.int .i64 (k:Int),strB x.1,strB x.2] w1 0)
  go_wp2
  show bodyPost _ _ _ _ _ (w1.setCells (w.heap.size+1) 0 [strB sort,.int .i64 (g:Int),.int .i64 (c:Int),.int .i64 (k:Int),strB x.1,strB x.2])
  clear q0 q1 q2 q3 q4 q5 z0 z1 z2 z3 z4 z5
  generalize w1.setCells _ _ _=W5 at *
  have HG5:=hid (grown_own HG1.out hg5.out (by rintro k hk;cases hk;omega))
  have Hp5:=hid (rd_grown Hp1.out hg5.out (by omega))
  obtain ⟨⟨q0,q1,q2,q3,q4,q5⟩,_⟩:=cells6 ho5.out
  exact bodyPost_ret (v:=pieceV sort g c k x) (by simp [results,Tryz.results274,go_sem,q0,q1,q2,q3,q4,q5]) rfl ⟨HG5.out,.inr ⟨⟨[],x.1,x.2⟩,r,HE.out.1,by simp only [HE.out.2.2],Hp5.out,HE.out.2.1⟩⟩
end
section
def colLen (c:Nat):List SpotB→Nat
 | []=>0
 | s :: L=>(if s.c=c∧s.sort=80 then s.many else 0)+colLen c L
theorem colLen_append (c:Nat):∀ (L L2:List SpotB),colLen c (L++L2)=colLen c L+colLen c L2:=by
 intro L
 induction L with
 | nil=>intro L2;simp [colLen]
 | cons s L ih=>intro L2;simp only [List.cons_append,colLen,ih];omega
theorem colLen_take (c i:Nat) (L:List SpotB):colLen c (L.take i)≤colLen c L:=by
 have:=colLen_append c (L.take i) (L.drop i)
 rw [List.take_append_drop] at this
 omega
theorem colLen_pages (c P g start n:Nat):∀ k,k*P≤n+P→colLen c (pageSpots P g c start n k)=min (k*P) n:=by
 intro k
 induction k with
 | zero=>intro _;simp [pageSpots,colLen]
 | succ k ih =>
  intro hk
  rw [Nat.succ_mul] at hk ⊢
  rw [page_succ,colLen_append,ih (by omega)]
  simp only [colLen,and_self,if_true]
  unfold partN
  omega
theorem colLen_other (c:Nat):∀ (L:List SpotB),(∀ s ∈ L,s.c≠c)→colLen c L=0:=by
 intro L
 induction L with
 | nil=>intro _;rfl
 | cons s L ih =>
  intro h
  have h1:=h s (List.mem_cons_self ..)
  simp only [colLen,h1,false_and,if_false,ih (fun x hx=>h x (List.mem_cons_of_mem _ hx))]
theorem colLen_chunk (R G P g c:Nat) (hP:1≤P):colLen c (chunkSpots R G P g c)=partN R G g:=by
 have h1:=cnt_mul (n:=partN R G g) hP
 unfold chunkSpots
 rw [colLen_append,colLen_pages _ _ _ _ _ _ h1.2]
 simp only [colLen,show ¬ ((77:UInt8)=80) from by decide,and_false,if_false]
 omega
theorem colLen_group (R G P g c:Nat) (hP:1≤P):∀ C,colLen c (groupSpots R G P g C)=if c < C then partN R G g else 0:=by
 intro C
 induction C with
 | zero=>simp [groupSpots,colLen]
 | succ C ih =>
  have e:groupSpots R G P g (C+1)=groupSpots R G P g C++chunkSpots R G P g C:=by simp [groupSpots,List.range_succ]
  rw [e,colLen_append,ih]
  by_cases h:c=C
  ·subst h
   rw [colLen_chunk _ _ _ _ _ hP,if_neg (by omega),if_pos (by omega)]
   omega
  ·rw [colLen_other c (chunkSpots R G P g C) (fun s hs=>by rw [chunk_col s hs];exact fun e=>h e.symm)]
   by_cases h2:c < C
   ·rw [if_pos h2,if_pos (by omega)]
    omega
   ·rw [if_neg h2,if_neg (by omega)]
theorem spotsTo_succ' (R C G P n:Nat):spotsTo R C G P (n+1)=spotsTo R C G P n++groupSpots R G P n C:=by simp [spotsTo,List.range_succ]
theorem colLen_to (R C G P c:Nat) (hc:c < C) (hP:1≤P):∀ n,n*G≤R+G→colLen c (spotsTo R C G P n)=min (n*G) R:=by
 intro n
 induction n with
 | zero=>intro _;simp [spotsTo,colLen]
 | succ n ih =>
  intro hn
  rw [Nat.succ_mul] at hn ⊢
  rw [spotsTo_succ',colLen_append,ih (by omega),colLen_group _ _ _ _ _ hP,if_pos hc]
  unfold partN
  omega
theorem colLen_all (R C G P c:Nat) (hc:c < C) (hP:1≤P) (hG:1≤G):colLen c (spotsB R C G P)=R:=by
 have h1:=cnt_mul (n:=R) hG
 unfold spotsB
 rw [colLen_to R C G P c hc hP _ h1.2]
 omega
theorem meta_start (R C G P c:Nat) (hc:c < C) (hP:1≤P) (hG:1≤G):∀ n,n≤cntN R G→∀ (i:Nat) (s:SpotB),(spotsTo R C G P n)[i]?=some s→s.sort=77→s.start≤colLen c ((spotsTo R C G P n).take i):=by
 intro n
 induction n with
 | zero=>intro _ i s h;simp [spotsTo] at h
 | succ n ih =>
  intro hn i s h hs
  have hnG:n*G < R:=(cnt_lt hG).1 (by omega)
  rw [spotsTo_succ'] at h ⊢
  by_cases hi:i < (spotsTo R C G P n).length
  ·rw [List.getElem?_append_left hi] at h
   rw [List.take_append_of_le_length (by omega)]
   exact ih (by omega) i s h hs
  ·rw [List.getElem?_append_right (by omega)] at h
   have hmem:=List.mem_of_getElem? h
   simp only [groupSpots,List.mem_flatMap,List.mem_range] at hmem
   obtain ⟨c',_,hm⟩:=hmem
   have hst:s.start=n*G:=by
    simp only [chunkSpots,pageSpots,List.mem_append,List.mem_map,List.mem_singleton] at hm
    rcases hm with ⟨p,_,rfl⟩|rfl
    ·exact absurd (show (80:UInt8)=77 from hs) (by decide)
    ·rfl
   rw [List.take_append,List.take_of_length_le (by omega),colLen_append,colLen_to R C G P c hc hP n (by omega)]
   omega
theorem cellsF_len (pre:List UInt8) (r:List KeyB) (kind key:Int) (c:Nat):∀ (L:List SpotB) (M:List ModF) (x y:List CellB),M.length=L.length→(∀ s ∈ L,s.sort=77∨s.sort=80)→cellsF pre r kind key c (some x) L M=some y→y.length=x.length+colLen c L:=by
 intro L
 induction L with
 | nil=>intro M x y hl _ h;cases M<;>simp [cellsF] at h<;>simp [h,colLen]
 | cons s L ih =>
  intro M x y hl hso h
  rcases M with _|⟨m,M⟩
  ·simp at hl
  simp only [cellsF] at h
  have hs:=hso s (List.mem_cons_self ..)
  have ih':=fun x'=>ih M x' y (by simpa using hl) (fun s hs=>hso s (List.mem_cons_of_mem _ hs))
  simp only [colLen]
  by_cases hc:s.c=c
  ·rw [if_pos hc] at h
   cases hst:stepF pre r kind key x s m with
   | none=>rw [hst,cellsF_none] at h;cases h
   | some x' =>
    rw [hst] at h
    have:=ih' x' h
    unfold stepF at hst
    split at hst
    ·cases hst
    ·rcases hs with hs|hs
     ·rw [if_pos hs] at hst
      split at hst
      ·cases hst
       rw [if_neg (by rw [hs];rintro ⟨_,h⟩;exact absurd h (by decide))]
       omega
      ·cases hst
     ·rw [if_neg (by rw [hs];decide)] at hst
      split at hst
      ·cases hst
      ·split at hst
       ·rename_i hmany
        cases hst
        rw [if_pos ⟨hc,hs⟩]
        rw [List.length_append] at this
        omega
       ·cases hst
  ·rw [if_neg hc] at h
   have:=ih' x h
   rw [if_neg (fun h=>hc h.1)]
   omega
theorem cells_there (pre:List UInt8) (r:List KeyB) (kind key:Int) {R C G P c:Nat} (hc:c < C) (hP:1≤P) (hG:1≤G) {M:List ModF} (hl:M.length=(spotsB R C G P).length) {i:Nat} {cells:List CellB} (h:cellsF pre r kind key c (some []) ((spotsB R C G P).take i) (M.take i)=some cells) :
  cells.length≤R∧∀ s,(spotsB R C G P)[i]?=some s→s.sort=77→s.start≤cells.length:=by
 have h1:=cellsF_len pre r kind key c _ _ _ _ (by simp [hl]) (fun s hs=>(spot_sorts s (List.mem_of_mem_take hs)).symm) h
 have h2:=colLen_take c i (spotsB R C G P)
 rw [colLen_all R C G P c hc hP hG] at h2
 simp only [List.length_nil,Nat.zero_add] at h1
 refine ⟨by omega,fun s hs hm=>?_⟩
 have:=meta_start R C G P c hc hP hG (cntN R G) (Nat.le_refl _) i s hs hm
 rw [h1]
 exact this
end
end Go.Proofs.YthhpbhpfagoapaaGreat
