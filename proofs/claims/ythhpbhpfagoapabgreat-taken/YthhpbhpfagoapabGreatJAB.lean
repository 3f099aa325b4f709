import Derived.Test.YthhpbhpfagoapabGreatRTk
import Derived.Test.YthhpbhpfagoapabGreatJAC
import Derived.Test.YthhpbhpfagoapabGreatKJob
import Derived.Deep.QuietTactic
import Derived.BigQuiet
import Derived.Deep.Cut
import Derived.Deep.CutBlock
namespace Go.Proofs.YthhpbhpfagoapabGreat
set_option linter.unusedVariables false
set_option linter.unusedSimpArgs false
set_option maxRecDepth 100000
set_option maxHeartbeats 16000000
open Go.RowKit
section
theorem JL {w w':World} {g B p:Nat} (h:BoxT w g B) (hg:w.grownBy w' (some p)) (hB:B < w.heap.size) (hne:B≠p):BoxT w' g B:=by
 have k:∀ j,w'.cell? ⟨B,j,none⟩=w.cell? ⟨B,j,none⟩:=fun j=>hg.cell_far ⟨B,j,none⟩ hB (by intro h;simp at h;exact hne h)
 obtain ⟨h0,h1,h2,h3,h4,h5,h6⟩:=h
 exact ⟨(k 0).trans h0,(k 1).trans h1,(k 2).trans h2,(k 3).trans h3,(k 4).trans h4,(k 5).trans h5,(k 6).trans h6⟩
theorem Tw (l:List CellB) (i:Nat) (h:i≤l.length):qQ l i=zS xA (l.take i):=by
 cases i with
 | zero=>rfl
 | succ i =>
  rw [List.take_succ_eq_append_getElem (by omega),ZL]
  unfold qQ
  rw [if_neg (by omega)]
  exact qN l i (by omega)
theorem Sq (n:Nat) (st:CellB→CellB→List UInt8) (l:List CellB) (h:∀ i,i < l.length→xM n l i=st (qQ l i) (zv l i)):∀ k,k≤l.length→jW n l k=ZS st xA (l.take k):=by
 intro k
 induction k with
 | zero=>intro _;rfl
 | succ k ih =>
  intro hk
  rw [jW,ih (by omega),List.take_succ_eq_append_getElem (by omega),Am,h k (by omega),Tw l k (by omega),qN l k (by omega)]
  simp [ZS]
theorem XR (n:Nat) (hn:n≠3) (st:CellB→CellB→List UInt8) (l:List CellB) (h:∀ i,i < l.length→xM n l i=st (qQ l i) (zv l i)):qL n l=ZS st xA l:=by
 have:=Sq n st l h l.length (Nat.le_refl _)
 rw [List.take_length] at this
 simp [qL,hn,this]
def Df (count:Nat) (l:List CellB):Prop:=l.length=count∧∀ c ∈ l,okT c
theorem Rz (l:List CellB):qL 3 l=uB (qW l).length++(ZS ZA xA (qW l)++jW 3 l l.length):=by
 have h5:qL 5 (qW l)=ZS ZA xA (qW l):=XR 5 (by decide) ZA (qW l) (fun i hi=>rfl)
 have h6:jW 5 (qW l) (qW l).length=ZS ZA xA (qW l):=by rw [← h5];simp [qL]
 simp only [qL,if_true,Nh,h6,List.append_assoc]
def LQ (count:Nat) (rest:List UInt8) (X:List CellB) (r0:List UInt8) (acc:List CellB) (r:List UInt8):Prop :=
 ∀ l2 q,Df count l2→rest=qL 3 l2++q→qW l2=X∧r0=jW 3 l2 l2.length++q∧l2.take acc.length=acc∧r0=jW 3 l2 acc.length++r
theorem Rl {count:Nat} {rest r0 r:List UInt8} {X acc:List CellB} (h:LQ count rest X r0 acc r) (hlt:acc.length < count) (l2:List CellB) (q:List UInt8) (hd:Df count l2) (hr:rest=qL 3 l2++q) :
  ∃ (j:Nat) (m:List UInt8),∃ hj:j < X.length,r=uB j++m∧l2.take (acc.length+1)=acc++[⟨false,0,(X[j]).text⟩]∧r0=jW 3 l2 (acc.length+1)++m:=by
 obtain ⟨h1,h2,h3,h4⟩:=h l2 q hd hr
 have hk:acc.length < l2.length:=by rw [hd.1];exact hlt
 generalize hkk:acc.length=k at *
 subst h1
 obtain ⟨c,hc,hct⟩:=Uy l2 k hk
 obtain ⟨hj,hjt⟩:=XU (qW l2) (l2[k]).text ⟨c,hc,hct⟩
 obtain ⟨m0,hm0⟩:=GL 3 l2 (k+1) (l2.length - (k+1))
 rw [show k+1+(l2.length - (k+1))=l2.length by omega] at hm0
 have hs:jW 3 l2 (k+1)=jW 3 l2 k++uB (qk (qW l2) (l2[k]).text):=by
  rw [jW];simp only [xM,qN l2 k hk]
 refine ⟨qk (qW l2) (l2[k]).text,m0++q,hj,?_,?_,?_⟩
 ·have e1:jW 3 l2 k++r=jW 3 l2 k++(uB (qk (qW l2) (l2[k]).text)++(m0++q)):=by
   rw [← h4,h2,hm0,hs];simp only [List.append_assoc]
  exact List.append_cancel_left e1
 ·rw [List.take_succ_eq_append_getElem hk,h3,hjt]
  congr 2
  obtain ⟨o1,o2,_⟩:=hd.2 l2[k] (List.getElem_mem hk)
  generalize l2[k]=c at *
  obtain ⟨cn,ci,ct⟩:=c
  simp only at o1 o2
  subst o1 o2
  rfl
 ·rw [h2,hm0,List.append_assoc]
theorem IY (g p count:Nat) (s rest:List UInt8) (w:World) (hs:s.length≤maxLen) (hc:count≤60) (hc1:1≤count) (hp:qy w p s rest) :
  Calls Tryz.prog 162 #[txtC g,.pointer (some ⟨p,0,none⟩),.int .i64 (count:Int)] w (Xu 9 JI (Df count) (qL 3) p s rest w):=by
 obtain ⟨i0,hi,hz0,hz1,hz2⟩:=info_parts Tryz.infoStr
 have Hs:=hid hs
 have Hp:=hid hp
 have hplt:=xF hp
 clear hs hp
 go_enter Tryz.func162,Tryz.ntmps162
 go_wp2_with fail
 obtain ⟨hb0,hs0,hc0⟩:=Ja w #[.slice (some ⟨g,0,none⟩) 3 3,fnV 165,fnV 166,fnV 115,fnV 167,fnV 168,fnV 169] 214
 have Hc:Hid (BoxT _ g w.heap.size):=⟨hc0 0,hc0 1,hc0 2,hc0 3,hc0 4,hc0 5,hc0 6⟩
 have Hp0:=hid (qJ Hp.out hb0 hplt)
 have Hb0:=hid hb0
 have hs1:=Nat.lt_of_lt_of_eq (Nat.lt_succ_self w.heap.size) hs0.symm
 have hplt0:=Nat.lt_of_lt_of_le hplt hb0.size
 have hpne:w.heap.size≠p:=by omega
 clear hc0 hb0 hs0
 generalize w.alloc _=w0 at *
 refine wp_region_held_drew (S:=fun w'=>w'.cell? ⟨w.heap.size,0,none⟩=some (.slice (some ⟨g,0,none⟩) 3 3)∧w'.cell? ⟨w.heap.size,1,none⟩=some (fnV 165)∧w'.cell? ⟨w.heap.size,2,none⟩=some (fnV 166)∧w'.cell? ⟨w.heap.size,3,none⟩=some (fnV 115)∧w'.cell? ⟨w.heap.size,4,none⟩=some (fnV 167)∧w'.cell? ⟨w.heap.size,5,none⟩=some (fnV 168)∧w'.cell? ⟨w.heap.size,6,none⟩=some (fnV 169)) (by kernel_rfl) Hc.out (fun hHeld=>?_)
 refine tk 0 (txtC g) ?_
 refine tk 1 (.pointer (some ⟨p,0,none⟩)) ?_
 refine tk 2 (.pointer (some ⟨p,0,none⟩)) ?_
 refine tk 3 (.int .i64 (count:Int)) ?_
 simp only [jA,jB,jC,Act.put,jD,jE,jF]
 refine rd 4 (fun K hK=>?_)
 simp only [jA,jB,jC]
 go_simp
 go_at_call 139
 refine (Kz p s rest count w0.drew Hs.out (by omega) (show qy w0.drew p s rest from Hp0.out)).mono ?_
 rintro e w1 ⟨hg1,⟨rfl,hno⟩|⟨n,r1,hn,rfl,hrd1,hu1⟩⟩
 ·refine ⟨rfl,jg (jG (jU w _) Hb0.out) (jP hg1),.inl ⟨rfl,fun l2 q hl2 h=>?_⟩⟩
  rw [Rz,List.append_assoc] at h
  exact hno _ _ (by show _≤count;rw [← hl2.1];exact JC l2 l2.length) h
 ·have Hg1:=hid (jP hg1)
  have Hu1:=hid hu1
  have hn1:n≤count:=hn
  have Hbx1:=hid (JL Hc.out Hg1.out hs1 hpne)
  clear hg1 hu1
  try go_wp2_with fail
  refine hK.out _ _ Hbx1.out (fun hHeld=>?_)
  clear hK K
  try simp only [jA,jB,jC,Act.put,jD,jE,jF]
  refine rd 5 (fun K hK=>?_)
  simp only [jA,jB,jC]
  go_simp
  go_at_call 160
  refine (Et g p n s r1 w1 Hs.out (by omega) hrd1).mono ?_
  rintro e w2 ⟨hg2,⟨rfl,hno⟩|⟨X,r0,vX,hX,rfl,hownX,hrd2,hu2⟩⟩
  ·refine ⟨rfl,jg (jG (jU w _) Hb0.out) (jg Hg1.out hg2),.inl ⟨rfl,fun l2 q hl2 h=>?_⟩⟩
   rw [Rz,List.append_assoc,List.append_assoc] at h
   obtain ⟨e1,e2⟩:=Hu1.out _ _ (by show _≤count;rw [← hl2.1];exact JC l2 l2.length) h
   exact hno (qW l2) _ ⟨e1,fun c hc=>hl2.2 c (Zq l2 l2.length (Nat.le_refl _) c hc)⟩ e2.symm
  ·have HG2:=hid (jg Hg1.out hg2)
   have Hbx2:=hid (JL Hc.out HG2.out hs1 hpne)
   have Hu2:=hid hu2
   have HX:=hid hX
   have hXl:X.length=n:=hX.1
   have Hrd2:=hid hrd2
   have hp1:=xF hrd1
   have HL0:Hid (LQ count rest X r0 [] r0):=by
    intro l2 q hl2 h
    rw [Rz,List.append_assoc,List.append_assoc] at h
    obtain ⟨e1,e2⟩:=Hu1.out _ _ (by show _≤count;rw [← hl2.1];exact JC l2 l2.length) h
    obtain ⟨e3,e4⟩:=Hu2.out (qW l2) _ ⟨e1,fun c hc=>hl2.2 c (Zq l2 l2.length (Nat.le_refl _) c hc)⟩ e2.symm
    exact ⟨e3,e4.symm,rfl,rfl⟩
   clear hg2 hu2 hX hrd2
   try go_wp2_with fail
   refine hK.out _ _ Hbx2.out (fun hHeld=>?_)
   clear hK K
   try simp only [jA,jB,jC,Act.put,jD,jE,jF]
   refine rd 6 (fun K hK=>?_)
   simp only [jA,jB,jC]
   go_simp
   try go_wp2_with fail
   refine hK.out _ _ Hbx2.out (fun hHeld=>?_)
   clear hK K
   try simp only [jA,jB,jC,Act.put,jD,jE,jF]
   refine wpAnyH_done (by kernel_rfl) ?_ _
   clear hHeld
   by_cases hX0:X=[]
   ·have hXz:X.length=0:=by rw [hX0];rfl
    have HX0:=hid hX0
    rw [hXz] at hownX
    have hln:=EL hownX w2
    clear hX0 hXz hXl
    go_wp2_with fail
    refine (qU _).mono ?_
    rintro e w3 ⟨rfl,rfl⟩
    go_wp2
    refine ⟨rfl,jg (jG (jU w _) Hb0.out) HG2.out,.inl ⟨rfl,fun l2 q hl2 h=>?_⟩⟩
    obtain ⟨e1,_⟩:=HL0.out l2 q hl2 h
    obtain ⟨c,hc2,_⟩:=Uy l2 0 (by rw [hl2.1];omega)
    rw [e1,HX0.out] at hc2
    cases hc2
   ·have hXp:=List.length_pos_iff.2 hX0
    have hXi:(0:Int) < (X.length:Int):=by omega
    have hX60:X.length≤60:=by omega
    have hbX:∀ b cap,vX=.slice (some ⟨b,0,none⟩) X.length cap→w1.heap.size≤b:=by
     intro b cap hv
     exact (hownX.lt b (by rw [hv];rfl)).1
    obtain ⟨bX,capX,rfl,hlie⟩:=Gs hownX hX0
    have hbX1:=hbX bX capX rfl
    have Hlie:=hid hlie
    have hbX2:=hlie.lt
    have hbXp:bX≠p:=by omega
    have hp2:=xF Hrd2.out
    have hsubX:IntKind.i64.wrap ((X.length:Int) - 1)=((X.length - 1:Nat):Int):=by rw [IntKind.wrap_i64];omega
    clear hownX hbX hlie hX0 hXl
    go_wp2_with fail
    refine (qh _).mono ?_
    rintro e w3 ⟨rfl,rfl⟩
    go_wp2_with fail
    obtain ⟨W3,rfl⟩:∃ W3,W3=w3:=⟨_,rfl⟩
    go_loopw [8,20] (fun v i wr=>∃ (acc:List CellB) (r:List UInt8),acc.length≤count∧i=.int .i64 (acc.length:Int)∧(∀ c ∈ acc,okT c)∧wr.ownsRow W3.heap.size 9 1 v acc.length (JI acc)∧qy wr p s r∧W3.grownBy wr (some p)∧LQ count rest X r0 acc r)
     (fun _ i _=>count - (intOf i).toNat)
    case atStart=>exact ⟨[],r0,Nat.zero_le _,rfl,(fun c h=>Jc h),World.ownsRow_nil _ _ _ _,Hrd2.out,jU _ _,HL0.out⟩
    case round =>
     obtain ⟨acc,r,hac,rfl,hok,hown,hrd,hg,hleft⟩:=hrel
     have Hok:=hid hok
     have Hleft:=hid hleft
     have Hg:=hid hg
     clear hok hleft
     by_cases hlt:acc.length < count
     ·have hi1:(acc.length:Int) < (count:Int):=by omega
      go_wp2_with fail
      refine (UB p s r _ (X.length - 1) _ (by omega) Hs.out (by omega) hrd).mono ?_
      rintro e w4 ⟨hg4,⟨rfl,hno⟩|⟨j,r4,hj,rfl,hrd4,hu4⟩⟩
      ·go_wp2
       refine ⟨rfl,jg (jG (jU w _) Hb0.out) (jg HG2.out (jg Hg.out hg4)),.inl ⟨rfl,fun l2 q hl2 h=>?_⟩⟩
       obtain ⟨jj,m,hjj,k1,_⟩:=Rl Hleft.out hlt l2 q hl2 h
       exact hno jj m (by show _≤_;omega) k1
      ·have hj1:j≤X.length - 1:=hj
       have hjX:j < X.length:=by omega
       have hji:(j:Int) < (X.length:Int):=by omega
       have Hu4:=hid hu4
       have hown4:=zT hown hp2 hg4
       have hG4:=jg Hg.out hg4
       have hcell:=(hG4.cell_far ⟨bX,j,none⟩ hbX2 (by intro h;simp at h;exact hbXp h)).trans (Hlie.out.cell j hjX)
       have hoX:=HX.out.2 X[j] (List.getElem_mem hjX)
       have HoX:=hid hoX
       clear hown hrd hu4 hg4 hg hoX
       generalize hx:(X[j]).text=x at *
       have Hx:=hid hx
       clear hx
       go_wp2_with (at_builtin;refine wpList_append_own _ rfl (.tmp 22) (.tmp 31) 163 rfl W3.heap.size 9 i0 (.string ⟨#[]⟩) 1 16 Tryz.underlying163 hi hz0 hz1 hz2 rfl (by decide) _ _ _ rfl (hown4.alloc _) ⟨_,0,none⟩ 1 1 [strB x] rfl rfl ?c1 ?c2 ?c3 ?c4 ?c5 ?_)
       case c1=>exact qE w4 #[strB x] 9
       case c2=>intro u hu;simp at hu;subst hu;rfl
       case c3=>unfold maxLen;omega
       case c4=>omega
       case c5=>have:=hG4.size;simp;omega
       intro v5 w5 hown5 hgr5 _
       have HR:=hid (XV hrd4 hp2 hG4 hown4 hgr5)
       have HO5:=hid hown5
       clear hown4 hown5 hgr5 hG4 hrd4 hcell
       go_wp2
       go_roundw
       case rel =>
        refine ⟨acc++[⟨false,0,x⟩],r4,by simp;omega,by simp,?_,?_,HR.out.1,HR.out.2,?_⟩
        ·intro c hc
         rcases List.mem_append.1 hc with h|h
         ·exact Hok.out c h
         ·simp only [List.mem_cons,List.not_mem_nil,or_false] at h
          subst h
          exact ⟨rfl,rfl,by rw [← Hx.out];exact HoX.out.2.2⟩
        ·rw [show (acc++[(⟨false,0,x⟩:CellB)]).length=acc.length+1 by simp,show JI (acc++[⟨false,0,x⟩])=JI acc++[strB x] by simp [JI,zl,Zs]]
         exact HO5.out
        ·intro l2 q hl2 h
         obtain ⟨jj,m,hjj,k1,k2,k3⟩:=Rl Hleft.out hlt l2 q hl2 h
         obtain ⟨e1,e2⟩:=Hu4.out jj m (by show _≤_;omega) k1
         subst e1 e2
         obtain ⟨f1,f2,_⟩:=Hleft.out l2 q hl2 h
         rw [show (acc++[(⟨false,0,x⟩:CellB)]).length=acc.length+1 by simp]
         exact ⟨f1,f2,by rw [k2,Hx.out],k3⟩
       case measure=>simp [intOf];omega
     ·have hke:acc.length=count:=by omega
      have Hke:=hid hke
      have Hown:=hid hown
      have Hrd:=hid hrd
      have hi1:decide ((acc.length:Int) < (count:Int))=false:=by simp;omega
      clear hg hown hrd hke
      go_wp2
      go_ret
      refine ⟨jg (jG (jU w _) Hb0.out) (jg HG2.out Hg.out),.inr ⟨acc,r,_,⟨Hke.out,Hok.out⟩,rfl,jS Hown.out (Nat.le_trans Hb0.out.size HG2.out.size),Hrd.out,fun l2 q hl2 h=>?_⟩⟩
      obtain ⟨e1,e2,e3,e4⟩:=Hleft.out l2 q hl2 h
      rw [Hke.out,← hl2.1,List.take_length] at e3
      subst e3
      refine ⟨rfl,?_⟩
      exact List.append_cancel_left (e2.symm.trans e4)
end
section
def XH (b:Bool):CellB:=⟨b,0,[]⟩
def VC (fl:List Bool):List UInt8:=uB fl.length++qZ false (fl.map XH)
theorem Cb (l:List CellB):∀ (b:Bool) (n:Nat),XG b n l=XG b n ((l.map (·.null)).map XH):=by
 induction l with
 | nil=>intro b n;rfl
 | cons c l ih =>
  intro b n
  simp only [List.map_cons,XG,XH]
  rw [ih,ih]
theorem Sv (l:List CellB):zZ l=VC (l.map (·.null)):=by
 unfold zZ VC qZ
 rw [List.length_map]
 congr 1
 cases l with
 | nil=>rfl
 | cons c l =>
  rw [if_neg (by simp),if_neg (by simp),Cb]
theorem ID (nb:Bool) (fl:List Bool) (j:Nat) (h:j < Jk nb (fl.map XH)):∃ hj:j < fl.length,fl[j]=nb:=by
 obtain ⟨h1,h2⟩:=EF nb (fl.map XH) j h
 rw [List.length_map] at h1
 exact ⟨h1,by simpa [XH] using h2⟩
theorem Yq (nb:Bool) (fl:List Bool) (h:Jk nb (fl.map XH) < fl.length):fl[Jk nb (fl.map XH)]=!nb:=by
 have:=Db nb (fl.map XH) (by simpa using h)
 simpa [XH] using this
def Lx (rest:List UInt8) (count:Nat) (acc:List Bool) (nb:Bool) (r:List UInt8):Prop :=
 ∀ fl q,fl.length≤60→rest=VC fl++q→fl.length=count∧fl.take acc.length=acc∧r=qZ nb ((fl.drop acc.length).map XH)++q∧((acc=[]∧nb=false)∨∀ h:acc.length < fl.length,fl[acc.length]=nb)
theorem Qo {rest r:List UInt8} {count:Nat} {acc:List Bool} {nb:Bool} (h:Lx rest count acc nb r) (hlt:acc.length < count) (fl:List Bool) (q:List UInt8) (hl:fl.length≤60) (hr:rest=VC fl++q) :
  ∃ (rr:Nat) (m:List UInt8),rr≤count - acc.length∧r=uB rr++m∧(rr=0→acc=[]∧nb=false)∧fl.length=count∧fl.take (acc.length+rr)=acc++List.replicate rr nb∧m=qZ (!nb) ((fl.drop (acc.length+rr)).map XH)++q∧((∀ h:acc.length+rr < fl.length,fl[acc.length+rr]=!nb)):=by
 obtain ⟨h1,h2,h3,h4⟩:=h fl q hl hr
 have hk:acc.length < fl.length:=by omega
 generalize hkk:acc.length=k at *
 have hle:=Nv nb ((fl.drop k).map XH)
 rw [List.length_map,List.length_drop] at hle
 have hlt2:=ID nb (fl.drop k)
 have hend:=Yq nb (fl.drop k)
 have hst:=ZV nb ((fl.drop k).map XH) (by simp;omega)
 generalize hrr:Jk nb ((fl.drop k).map XH)=rr at *
 rw [← List.map_drop,List.drop_drop] at hst
 refine ⟨rr,qZ (!nb) ((fl.drop (k+rr)).map XH)++q,by omega,by rw [h3,hst,List.append_assoc],?_,h1,?_,rfl,?_⟩
 ·intro h0
  rcases h4 with h5|h5
  ·exact h5
  ·exfalso
   have e1:=hend (by rw [List.length_drop];omega)
   rw [List.getElem_drop] at e1
   simp only [h0,Nat.add_zero] at e1
   rw [h5 hk] at e1
   cases nb<;>simp at e1
 ·rw [List.take_add,h2]
  congr 1
  apply List.ext_getElem
  ·rw [List.length_take,List.length_drop,List.length_replicate];omega
  ·intro j hj1 hj2
   rw [List.length_replicate] at hj2
   obtain ⟨_,e1⟩:=hlt2 j hj2
   rw [List.getElem_take,List.getElem_replicate]
   exact e1
 ·intro h5
  have e1:=hend (by rw [List.length_drop];omega)
  rw [List.getElem_drop] at e1
  exact e1
def QR (fl:List Bool):List Value:=fl.map .bool
theorem PA {w:World} {base n:Nat} {v:Value} {xs:List Value} (h:w.ownsRow base 4 1 v n xs) (w':World) :
  Sem.run Tryz.prog (Builtin.len_ #[237] 3 #[v]) w'=.ok (.int .i64 (n:Int)) w':=by
 rcases h.2 with ⟨rfl,rfl⟩|⟨g,cap,cur,rfl,_⟩
 ·exact run_len_slice (P:=Tryz.prog) w' 237 3 _ _ _ (by rw [Tryz.underlying237];rfl)
 ·exact run_len_slice (P:=Tryz.prog) w' 237 3 _ _ _ (by rw [Tryz.underlying237];rfl)
def DT (p:Nat) (s rest:List UInt8) (w:World) (e:Ending) (w':World):Prop :=
 w.grownBy w' (some p)∧((e=gaveUp∧∀ fl q,fl.length≤60→rest≠VC fl++q)∨∃ fl r v,fl.length≤60∧e=.returned v∧w'.ownsRow w.heap.size 4 1 v fl.length (QR fl)∧qy w' p s r∧∀ fl2 q,fl2.length≤60→rest=VC fl2++q→fl2=fl∧q=r)
theorem VH (p:Nat) (s rest:List UInt8) (w:World) (hs:s.length≤maxLen) (hp:qy w p s rest) :
  Calls Tryz.prog 174 #[.pointer (some ⟨p,0,none⟩)] w (DT p s rest w):=by
 obtain ⟨i0,hi,hz0,hz1,hz2⟩:=info_parts Tryz.infoBool
 have Hs:=hid hs
 have Hp:=hid hp
 have hplt:=xF hp
 clear hs hp
 go_enter Tryz.func174,Tryz.ntmps174
 go_wp2_with fail
 refine (UB p s rest _ 60 _ rfl Hs.out (by omega) Hp.out).mono ?_
 rintro e w1 ⟨hg1,⟨rfl,hno⟩|⟨count,r1,hn,rfl,hrd1,hu1⟩⟩
 ·go_wp2
  refine ⟨rfl,hg1,.inl ⟨rfl,fun fl q hl h=>?_⟩⟩
  rw [VC,List.append_assoc] at h
  exact hno _ _ hl h
 ·have Hu1:=hid hu1
  have hcount:count≤60:=hn
  have Hg1:=hid hg1
  have hp1:=xF hrd1
  clear hu1 hg1 hn
  have HL0:Hid (Lx rest count [] false r1):=by
   intro fl q hl h
   rw [VC,List.append_assoc] at h
   obtain ⟨e1,e2⟩:=Hu1.out _ _ hl h
   exact ⟨e1,rfl,e2.symm,.inl ⟨rfl,rfl⟩⟩
  go_wp2_with (at_make;refine wpList_make_own _ rfl (.const (.int .i64 0)) (.tmp 10) 237 rfl w1.heap.size 4 i0 (.bool false) 1 Tryz.underlying237 hi hz0 hz1 .i64 .i64 _ count rfl rfl rfl (by rw [hz2];omega) (by unfold maxLen;omega) (Nat.le_refl _) ?_;intro w3 hown3 hgr3)
  have hB3:Below w1.heap.size w1 w3:=(Below.refl _ _).grown hgr3 (Nat.le_refl _) (fun _ h=>by cases h)
  have hrd3:=qJ hrd1 hB3 hp1
  have hg13:=jG (jU w1 (some p)) hB3
  clear hgr3 hB3 hrd1
  go_loopg [4,5] (2*count+1) (fun gk v b wr=>∃ (acc:List Bool) (nb:Bool) (r:List UInt8),b=.bool nb∧2*(count - acc.length)+(if nb=true then 0 else 1)≤gk∧acc.length≤count∧wr.ownsRow w1.heap.size 4 1 v acc.length (QR acc)∧qy wr p s r∧w1.grownBy wr (some p)∧Lx rest count acc nb r)
  case atStart=>exact ⟨[],false,r1,rfl,by simp,Nat.zero_le _,hown3,hrd3,hg13,HL0.out⟩
  case round =>
   clear hown3 hrd3 hg13
   obtain ⟨acc,nb,r,rfl,hgk,hac,hown,hrd,hg,hleft⟩:=hrel
   have Hgk:=hid hgk
   have Hleft:=hid hleft
   have Hg:=hid hg
   have hln:=PA hown
   clear hleft hgk
   by_cases hlt:acc.length < count
   ·have hi1:(acc.length:Int) < (count:Int):=by omega
    have hln1:=hln wr
    go_wp2_with fail
    refine (UB p s r _ (count - acc.length) _ (by omega) Hs.out (by omega) hrd).mono ?_
    rintro e w2 ⟨hg2,⟨rfl,hno⟩|⟨n,r2,hn,rfl,hrd2,hu2⟩⟩
    ·go_wp2
     refine ⟨rfl,jg Hg1.out (jg Hg.out hg2),.inl ⟨rfl,fun fl q hl h=>?_⟩⟩
     obtain ⟨rr,m,k1,k2,_⟩:=Qo Hleft.out hlt fl q hl h
     exact hno rr m k1 k2
    ·have hn1:n≤count - acc.length:=hn
     have Hu2:=hid hu2
     have hown2:=zT hown hp1 hg2
     have hG2:=jg Hg.out hg2
     have hln2:=hln w2
     clear hown hrd hu2 hg2 hg hln1 hn
     by_cases hn0:0 < n
     ·have hn0i:(0:Int) < (n:Int):=by omega
      cases nb with
      | true =>
       go_upto_region 8 with go_in
       go_wp2_with fail
       refine (qh _).mono ?_
       rintro e wN ⟨rfl,rfl⟩
       go_wp2_with fail
       refine (Nu true wN.heap.size 1 n _ (by omega) (World.cell?_alloc_mark ..)).mono ?_
       rintro e w4 ⟨g4,rfl,hb4,hB4⟩
       have hB4':Below wN.heap.size wN w4:=xG hB4
       have hown4:=ju hown2 hB4'
       have hrd4:=qJ hrd2 hB4' (xF hrd2)
       have hG4:=jG hG2 hB4'
       have HN4:=hid (World.news_of_block hb4)
       clear hB4 hB4' hown2 hrd2 hG2 hb4 hln2
       go_wp2_with (at_builtin;refine wpList_append_own _ rfl (.tmp 37) (.tmp 41) 237 rfl w1.heap.size 4 i0 (.bool false) 1 1 Tryz.underlying237 hi hz0 hz1 hz2 rfl (by decide) _ _ _ rfl hown4 ⟨g4,0,none⟩ n n (List.replicate n (.bool true)) rfl ?c0 ?c1 ?c2 ?c3 ?c4 ?c5 ?_)
       case c0=>simp
       case c1=>intro j u hj;exact HN4.out j u (by simpa using hj)
       case c2=>intro u hu;rw [List.mem_replicate] at hu;rw [hu.2];rfl
       case c3=>unfold maxLen;omega
       case c4=>omega
       case c5=>have:=hG4.size;omega
       intro v5 w5 hown5 hgr5 _
       have HR:=hid (Zw hrd4 hp1 hG4 hown4 hgr5)
       have HO5:=hid hown5
       have HX:Hid (QR (acc++List.replicate n true)=QR acc++List.replicate n (.bool true)):=by simp [Hid,QR]
       have HLN:Hid ((acc++List.replicate n true).length=acc.length+n):=by simp [Hid]
       clear hown4 hown5 hgr5 hG4 hrd4 HN4
       go_wp2
       go_roundg (2*(count - (acc.length+n))+(if (!true)=true then 0 else 1))
       case measure=>have h:=Hgk.out;simp only [Bool.not_true,Bool.not_false,Bool.false_eq_true,if_true,if_false,reduceIte] at h ⊢;omega
       case rel =>
        refine ⟨acc++List.replicate n true,!true,r2,rfl,?_,?_,?_,HR.out.1,HR.out.2,?_⟩
        ·rw [HLN.out];exact Nat.le_refl _
        ·rw [HLN.out];omega
        ·rw [HX.out,HLN.out];exact HO5.out
        ·intro fl q hl h
         obtain ⟨rr,m,k1,k2,k3,k4,k5,k6,k7⟩:=Qo Hleft.out hlt fl q hl h
         obtain ⟨e1,e2⟩:=Hu2.out rr m k1 k2
         subst e1 e2
         rw [HLN.out]
         exact ⟨k4,k5,k6,.inr k7⟩
      | false =>
       by_cases hl0:acc.length=0
       ·have hli:((acc.length:Int) == 0)=true:=by simp [hl0]
        have Hl0:=hid hl0
        clear hl0
        go_upto_region 8 with go_in
        go_wp2_with fail
        refine (qh _).mono ?_
        rintro e wN ⟨rfl,rfl⟩
        go_wp2_with fail
        refine (Nu false wN.heap.size 1 n _ (by omega) (World.cell?_alloc_mark ..)).mono ?_
        rintro e w4 ⟨g4,rfl,hb4,hB4⟩
        have hB4':Below wN.heap.size wN w4:=xG hB4
        have hown4:=ju hown2 hB4'
        have hrd4:=qJ hrd2 hB4' (xF hrd2)
        have hG4:=jG hG2 hB4'
        have HN4:=hid (World.news_of_block hb4)
        clear hB4 hB4' hown2 hrd2 hG2 hb4 hln2
        go_wp2_with (at_builtin;refine wpList_append_own _ rfl (.tmp 37) (.tmp 41) 237 rfl w1.heap.size 4 i0 (.bool false) 1 1 Tryz.underlying237 hi hz0 hz1 hz2 rfl (by decide) _ _ _ rfl hown4 ⟨g4,0,none⟩ n n (List.replicate n (.bool false)) rfl ?c0 ?c1 ?c2 ?c3 ?c4 ?c5 ?_)
        case c0=>simp
        case c1=>intro j u hj;exact HN4.out j u (by simpa using hj)
        case c2=>intro u hu;rw [List.mem_replicate] at hu;rw [hu.2];rfl
        case c3=>unfold maxLen;omega
        case c4=>omega
        case c5=>have:=hG4.size;omega
        intro v5 w5 hown5 hgr5 _
        have HR:=hid (Zw hrd4 hp1 hG4 hown4 hgr5)
        have HO5:=hid hown5
        have HX:Hid (QR (acc++List.replicate n false)=QR acc++List.replicate n (.bool false)):=by simp [Hid,QR]
        have HLN:Hid ((acc++List.replicate n false).length=acc.length+n):=by simp [Hid]
        clear hown4 hown5 hgr5 hG4 hrd4 HN4
        go_wp2
        go_roundg (2*(count - (acc.length+n))+(if (!false)=true then 0 else 1))
        case measure=>have h:=Hgk.out;simp only [Bool.not_true,Bool.not_false,Bool.false_eq_true,if_true,if_false,reduceIte] at h ⊢;omega
        case rel =>
         refine ⟨acc++List.replicate n false,!false,r2,rfl,?_,?_,?_,HR.out.1,HR.out.2,?_⟩
         ·rw [HLN.out];exact Nat.le_refl _
         ·rw [HLN.out];omega
         ·rw [HX.out,HLN.out];exact HO5.out
         ·intro fl q hl h
          obtain ⟨rr,m,k1,k2,k3,k4,k5,k6,k7⟩:=Qo Hleft.out hlt fl q hl h
          obtain ⟨e1,e2⟩:=Hu2.out rr m k1 k2
          subst e1 e2
          rw [HLN.out]
          exact ⟨k4,k5,k6,.inr k7⟩
       ·have hli:((acc.length:Int) == 0)=false:=by rw [beq_eq_false_iff_ne];omega
        go_upto_region 8 with go_in
        go_wp2_with fail
        refine (qh _).mono ?_
        rintro e wN ⟨rfl,rfl⟩
        go_wp2_with fail
        refine (Nu false wN.heap.size 1 n _ (by omega) (World.cell?_alloc_mark ..)).mono ?_
        rintro e w4 ⟨g4,rfl,hb4,hB4⟩
        have hB4':Below wN.heap.size wN w4:=xG hB4
        have hown4:=ju hown2 hB4'
        have hrd4:=qJ hrd2 hB4' (xF hrd2)
        have hG4:=jG hG2 hB4'
        have HN4:=hid (World.news_of_block hb4)
        clear hB4 hB4' hown2 hrd2 hG2 hb4 hln2
        go_wp2_with (at_builtin;refine wpList_append_own _ rfl (.tmp 37) (.tmp 41) 237 rfl w1.heap.size 4 i0 (.bool false) 1 1 Tryz.underlying237 hi hz0 hz1 hz2 rfl (by decide) _ _ _ rfl hown4 ⟨g4,0,none⟩ n n (List.replicate n (.bool false)) rfl ?c0 ?c1 ?c2 ?c3 ?c4 ?c5 ?_)
        case c0=>simp
        case c1=>intro j u hj;exact HN4.out j u (by simpa using hj)
        case c2=>intro u hu;rw [List.mem_replicate] at hu;rw [hu.2];rfl
        case c3=>unfold maxLen;omega
        case c4=>omega
        case c5=>have:=hG4.size;omega
        intro v5 w5 hown5 hgr5 _
        have HR:=hid (Zw hrd4 hp1 hG4 hown4 hgr5)
        have HO5:=hid hown5
        have HX:Hid (QR (acc++List.replicate n false)=QR acc++List.replicate n (.bool false)):=by simp [Hid,QR]
        have HLN:Hid ((acc++List.replicate n false).length=acc.length+n):=by simp [Hid]
        clear hown4 hown5 hgr5 hG4 hrd4 HN4
        go_wp2
        go_roundg (2*(count - (acc.length+n))+(if (!false)=true then 0 else 1))
        case measure=>have h:=Hgk.out;simp only [Bool.not_true,Bool.not_false,Bool.false_eq_true,if_true,if_false,reduceIte] at h ⊢;omega
        case rel =>
         refine ⟨acc++List.replicate n false,!false,r2,rfl,?_,?_,?_,HR.out.1,HR.out.2,?_⟩
         ·rw [HLN.out];exact Nat.le_refl _
         ·rw [HLN.out];omega
         ·rw [HX.out,HLN.out];exact HO5.out
         ·intro fl q hl h
          obtain ⟨rr,m,k1,k2,k3,k4,k5,k6,k7⟩:=Qo Hleft.out hlt fl q hl h
          obtain ⟨e1,e2⟩:=Hu2.out rr m k1 k2
          subst e1 e2
          rw [HLN.out]
          exact ⟨k4,k5,k6,.inr k7⟩
     ·have hn0i:decide ((0:Int) < (n:Int))=false:=by simp;omega
      cases nb with
      | true =>
       go_upto_region 8 with go_in
       go_wp2_with fail
       refine (qU _).mono ?_
       rintro e wN ⟨rfl,rfl⟩
       go_wp2
       refine ⟨rfl,jg Hg1.out hG2,.inl ⟨rfl,fun fl q hl h=>?_⟩⟩
       obtain ⟨rr,m,k1,k2,k3,_⟩:=Qo Hleft.out hlt fl q hl h
       obtain ⟨e1,e2⟩:=Hu2.out rr m k1 k2
       obtain ⟨f1,f2⟩:=k3 (by omega)
       cases f2
      | false =>
       by_cases hl0:acc.length=0
       ·have hli:((acc.length:Int) == 0)=true:=by simp [hl0]
        have Hl0:=hid hl0
        clear hl0
        go_upto_region 8 with go_in
        go_wp2_with fail
        refine (qh _).mono ?_
        rintro e wN ⟨rfl,rfl⟩
        go_wp2_with fail
        refine (Nu false wN.heap.size 1 n _ (by omega) (World.cell?_alloc_mark ..)).mono ?_
        rintro e w4 ⟨g4,rfl,hb4,hB4⟩
        have hB4':Below wN.heap.size wN w4:=xG hB4
        have hown4:=ju hown2 hB4'
        have hrd4:=qJ hrd2 hB4' (xF hrd2)
        have hG4:=jG hG2 hB4'
        have HN4:=hid (World.news_of_block hb4)
        clear hB4 hB4' hown2 hrd2 hG2 hb4 hln2
        go_wp2_with (at_builtin;refine wpList_append_own _ rfl (.tmp 37) (.tmp 41) 237 rfl w1.heap.size 4 i0 (.bool false) 1 1 Tryz.underlying237 hi hz0 hz1 hz2 rfl (by decide) _ _ _ rfl hown4 ⟨g4,0,none⟩ n n (List.replicate n (.bool false)) rfl ?c0 ?c1 ?c2 ?c3 ?c4 ?c5 ?_)
        case c0=>simp
        case c1=>intro j u hj;exact HN4.out j u (by simpa using hj)
        case c2=>intro u hu;rw [List.mem_replicate] at hu;rw [hu.2];rfl
        case c3=>unfold maxLen;omega
        case c4=>omega
        case c5=>have:=hG4.size;omega
        intro v5 w5 hown5 hgr5 _
        have HR:=hid (Zw hrd4 hp1 hG4 hown4 hgr5)
        have HO5:=hid hown5
        have HX:Hid (QR (acc++List.replicate n false)=QR acc++List.replicate n (.bool false)):=by simp [Hid,QR]
        have HLN:Hid ((acc++List.replicate n false).length=acc.length+n):=by simp [Hid]
        clear hown4 hown5 hgr5 hG4 hrd4 HN4
        go_wp2
        go_roundg (2*(count - (acc.length+n))+(if (!false)=true then 0 else 1))
        case measure=>have h:=Hgk.out;simp only [Bool.not_true,Bool.not_false,Bool.false_eq_true,if_true,if_false,reduceIte] at h ⊢;omega
        case rel =>
         refine ⟨acc++List.replicate n false,!false,r2,rfl,?_,?_,?_,HR.out.1,HR.out.2,?_⟩
         ·rw [HLN.out];exact Nat.le_refl _
         ·rw [HLN.out];omega
         ·rw [HX.out,HLN.out];exact HO5.out
         ·intro fl q hl h
          obtain ⟨rr,m,k1,k2,k3,k4,k5,k6,k7⟩:=Qo Hleft.out hlt fl q hl h
          obtain ⟨e1,e2⟩:=Hu2.out rr m k1 k2
          subst e1 e2
          rw [HLN.out]
          exact ⟨k4,k5,k6,.inr k7⟩
       ·have hli:((acc.length:Int) == 0)=false:=by rw [beq_eq_false_iff_ne];omega
        go_upto_region 8 with go_in
        go_wp2_with fail
        refine (qU _).mono ?_
        rintro e wN ⟨rfl,rfl⟩
        go_wp2
        refine ⟨rfl,jg Hg1.out hG2,.inl ⟨rfl,fun fl q hl h=>?_⟩⟩
        obtain ⟨rr,m,k1,k2,k3,_⟩:=Qo Hleft.out hlt fl q hl h
        obtain ⟨e1,e2⟩:=Hu2.out rr m k1 k2
        obtain ⟨f1,f2⟩:=k3 (by omega)
        rw [f1] at hl0
        exact absurd rfl hl0
   ·have hke:acc.length=count:=by omega
    have Hke:=hid hke
    have hi1:decide ((acc.length:Int) < (count:Int))=false:=by simp;omega
    have Hown:=hid hown
    have Hrd:=hid hrd
    have hln1:=hln wr
    clear hg hown hrd hke hln
    go_wp2
    go_ret
    refine ⟨jg Hg1.out Hg.out,.inr ⟨acc,r,_,by have:=Hke.out;omega,rfl,jS Hown.out Hg1.out.size,Hrd.out,fun fl q hl h=>?_⟩⟩
    obtain ⟨e1,e2,e3,_⟩:=Hleft.out fl q hl h
    rw [Hke.out,← e1,List.take_length] at e2
    subst e2
    refine ⟨rfl,?_⟩
    rw [List.drop_length] at e3
    exact e3.symm
end
section
theorem Ma (a num:Int) (f r Bn:Nat) (w:World) (h:w.cell? ⟨Bn,0,none⟩=some (.int .u8 num)) :
  Calls Tryz.prog 183 #[.agg #[.int .u8 a,fnV f,fnV r],.pointer (some ⟨Bn,0,none⟩)] w fun e w'=>e=.returned (.bool (a == num))∧Below w.heap.size w w':=by
 have hlt:=World.block_lt_of_cell? w _ h
 go_enter Tryz.func183,Tryz.ntmps183
 go_wp2
 go_ret
 exact ⟨rfl,(Below.refl _ _).alloc (Nat.le_refl _) _⟩
def Xa (num:Int):Int:=if num=0 then 0 else if num=1 then 1 else if num=2 then 2 else -1
theorem Fo (g Bn:Nat) (num:Int) (w:World) (hg:g < w.heap.size) (hw:NumW w g) (h:w.cell? ⟨Bn,0,none⟩=some (.int .u8 num)) :
  Calls Tryz.prog 182 #[.slice (some ⟨g,0,none⟩) 3 3,.func (.func 183) #[] #[.pointer (some ⟨Bn,0,none⟩)]] w fun e w'=>e=.returned (.int .i64 (Xa num))∧Below w.heap.size w w':=by
 have Hw:=hid hw
 have Hn:=hid h
 have hlt:=World.block_lt_of_cell? w _ h
 clear hw h
 go_enter Tryz.func182,Tryz.ntmps182
 go_wp2
 go_loopw [8] (fun i wr=>∃ k:Nat,k≤3∧i=.int .i64 (k:Int)∧(0 < k→num≠0)∧(1 < k→num≠1)∧(2 < k→num≠2)∧Below w.heap.size w wr) (fun i _=>3 - (intOf i).toNat)
 case atStart=>exact ⟨0,by omega,rfl,fun h=>by omega,fun h=>by omega,fun h=>by omega,Below.refl _ _⟩
 case round =>
  obtain ⟨k,hk,rfl,n0,n1,n2,hB⟩:=hrel
  have hwl:=Hw.out.later hg hB
  have hnum:=(hB.cell (p:=⟨Bn,0,none⟩) hlt).trans Hn.out
  have N0:=hid n0
  have N1:=hid n1
  have N2:=hid n2
  clear n0 n1 n2
  rcases (show k=0∨k=1∨k=2∨k=3 by omega) with rfl|rfl|rfl|rfl
  ·have c0:wr.cell? ⟨g,0,none⟩=some (.int .u8 0):=qe hwl 0 rfl
   have c1:wr.cell? ⟨g,1,none⟩=some (fnV 145):=qe hwl 1 rfl
   have c2:wr.cell? ⟨g,2,none⟩=some (fnV 146):=qe hwl 2 rfl
   clear hwl
   go_wp2_with fail
   refine (Ma 0 num 145 146 Bn _ hnum).mono ?_
   rintro e w2 ⟨rfl,hb2⟩
   have hB2:=hB.trans (hb2.mono hB.size)
   clear hB hb2 c0 c1 c2 hnum
   by_cases hne:num=0
   ·have hb:((0:Int) == num)=true:=by simp [hne]
    have Hne:=hid hne
    clear hne
    go_wp2
    go_ret
    exact ⟨xd (by unfold Xa;rw [if_pos Hne.out]),hB2⟩
   ·have hb:((0:Int) == num)=false:=by rw [beq_eq_false_iff_ne];exact fun h=>hne h.symm
    have Hne:=hid hne
    clear hne
    go_wp2
    go_roundw
    case rel=>exact ⟨1,by omega,by go_num,fun _=>Hne.out,fun h=>by omega,fun h=>by omega,hB2⟩
    case measure=>simp [intOf]
  ·have c0:wr.cell? ⟨g,3,none⟩=some (.int .u8 1):=qe hwl 3 rfl
   have c1:wr.cell? ⟨g,4,none⟩=some (fnV 147):=qe hwl 4 rfl
   have c2:wr.cell? ⟨g,5,none⟩=some (fnV 148):=qe hwl 5 rfl
   clear hwl
   go_wp2_with fail
   refine (Ma 1 num 147 148 Bn _ hnum).mono ?_
   rintro e w2 ⟨rfl,hb2⟩
   have hB2:=hB.trans (hb2.mono hB.size)
   clear hB hb2 c0 c1 c2 hnum
   by_cases hne:num=1
   ·have hb:((1:Int) == num)=true:=by simp [hne]
    have Hne:=hid hne
    clear hne
    go_wp2
    go_ret
    exact ⟨xd (by unfold Xa;rw [if_neg (N0.out (by omega)),if_pos Hne.out]),hB2⟩
   ·have hb:((1:Int) == num)=false:=by rw [beq_eq_false_iff_ne];exact fun h=>hne h.symm
    have Hne:=hid hne
    clear hne
    go_wp2
    go_roundw
    case rel=>exact ⟨2,by omega,by go_num,fun _=>N0.out (by omega),fun _=>Hne.out,fun h=>by omega,hB2⟩
    case measure=>simp [intOf]
  ·have c0:wr.cell? ⟨g,6,none⟩=some (.int .u8 2):=qe hwl 6 rfl
   have c1:wr.cell? ⟨g,7,none⟩=some (fnV 149):=qe hwl 7 rfl
   have c2:wr.cell? ⟨g,8,none⟩=some (fnV 150):=qe hwl 8 rfl
   clear hwl
   go_wp2_with fail
   refine (Ma 2 num 149 150 Bn _ hnum).mono ?_
   rintro e w2 ⟨rfl,hb2⟩
   have hB2:=hB.trans (hb2.mono hB.size)
   clear hB hb2 c0 c1 c2 hnum
   by_cases hne:num=2
   ·have hb:((2:Int) == num)=true:=by simp [hne]
    have Hne:=hid hne
    clear hne
    go_wp2
    go_ret
    exact ⟨xd (by unfold Xa;rw [if_neg (N0.out (by omega)),if_neg (N1.out (by omega)),if_pos Hne.out]),hB2⟩
   ·have hb:((2:Int) == num)=false:=by rw [beq_eq_false_iff_ne];exact fun h=>hne h.symm
    have Hne:=hid hne
    clear hne
    go_wp2
    go_roundw
    case rel=>exact ⟨3,by omega,by go_num,fun _=>N0.out (by omega),fun _=>N1.out (by omega),fun _=>Hne.out,hB2⟩
    case measure=>simp [intOf]
  ·go_wp2
   go_ret
   exact ⟨xd (by unfold Xa;rw [if_neg (N0.out (by omega)),if_neg (N1.out (by omega)),if_neg (N2.out (by omega))]),hB⟩
theorem Mg (a num:Int) (f r Bn:Nat) (w:World) (h:w.cell? ⟨Bn,0,none⟩=some (.int .u8 num)) :
  Calls Tryz.prog 185 #[.agg #[.int .u8 a,fnV f,fnV r],.pointer (some ⟨Bn,0,none⟩)] w fun e w'=>e=.returned (.bool (a == num))∧Below w.heap.size w w':=by
 have hlt:=World.block_lt_of_cell? w _ h
 go_enter Tryz.func185,Tryz.ntmps185
 go_wp2
 go_ret
 exact ⟨rfl,(Below.refl _ _).alloc (Nat.le_refl _) _⟩
def QY (num:Int):Int:=if num=0 then 0 else if num=3 then 1 else if num=4 then 2 else -1
theorem Fi (g Bn:Nat) (num:Int) (w:World) (hg:g < w.heap.size) (hw:TxtW w g) (h:w.cell? ⟨Bn,0,none⟩=some (.int .u8 num)) :
  Calls Tryz.prog 184 #[.slice (some ⟨g,0,none⟩) 3 3,.func (.func 185) #[] #[.pointer (some ⟨Bn,0,none⟩)]] w fun e w'=>e=.returned (.int .i64 (QY num))∧Below w.heap.size w w':=by
 have Hw:=hid hw
 have Hn:=hid h
 have hlt:=World.block_lt_of_cell? w _ h
 clear hw h
 go_enter Tryz.func184,Tryz.ntmps184
 go_wp2
 go_loopw [8] (fun i wr=>∃ k:Nat,k≤3∧i=.int .i64 (k:Int)∧(0 < k→num≠0)∧(1 < k→num≠3)∧(2 < k→num≠4)∧Below w.heap.size w wr) (fun i _=>3 - (intOf i).toNat)
 case atStart=>exact ⟨0,by omega,rfl,fun h=>by omega,fun h=>by omega,fun h=>by omega,Below.refl _ _⟩
 case round =>
  obtain ⟨k,hk,rfl,n0,n1,n2,hB⟩:=hrel
  have hwl:=Hw.out.later hg hB
  have hnum:=(hB.cell (p:=⟨Bn,0,none⟩) hlt).trans Hn.out
  have N0:=hid n0
  have N1:=hid n1
  have N2:=hid n2
  clear n0 n1 n2
  rcases (show k=0∨k=1∨k=2∨k=3 by omega) with rfl|rfl|rfl|rfl
  ·have c0:wr.cell? ⟨g,0,none⟩=some (.int .u8 0):=qe hwl 0 rfl
   have c1:wr.cell? ⟨g,1,none⟩=some (fnV 159):=qe hwl 1 rfl
   have c2:wr.cell? ⟨g,2,none⟩=some (fnV 160):=qe hwl 2 rfl
   clear hwl
   go_wp2_with fail
   refine (Mg 0 num 159 160 Bn _ hnum).mono ?_
   rintro e w2 ⟨rfl,hb2⟩
   have hB2:=hB.trans (hb2.mono hB.size)
   clear hB hb2 c0 c1 c2 hnum
   by_cases hne:num=0
   ·have hb:((0:Int) == num)=true:=by simp [hne]
    have Hne:=hid hne
    clear hne
    go_wp2
    go_ret
    exact ⟨xd (by unfold QY;rw [if_pos Hne.out]),hB2⟩
   ·have hb:((0:Int) == num)=false:=by rw [beq_eq_false_iff_ne];exact fun h=>hne h.symm
    have Hne:=hid hne
    clear hne
    go_wp2
    go_roundw
    case rel=>exact ⟨1,by omega,by go_num,fun _=>Hne.out,fun h=>by omega,fun h=>by omega,hB2⟩
    case measure=>simp [intOf]
  ·have c0:wr.cell? ⟨g,3,none⟩=some (.int .u8 3):=qe hwl 3 rfl
   have c1:wr.cell? ⟨g,4,none⟩=some (fnV 161):=qe hwl 4 rfl
   have c2:wr.cell? ⟨g,5,none⟩=some (fnV 162):=qe hwl 5 rfl
   clear hwl
   go_wp2_with fail
   refine (Mg 3 num 161 162 Bn _ hnum).mono ?_
   rintro e w2 ⟨rfl,hb2⟩
   have hB2:=hB.trans (hb2.mono hB.size)
   clear hB hb2 c0 c1 c2 hnum
   by_cases hne:num=3
   ·have hb:((3:Int) == num)=true:=by simp [hne]
    have Hne:=hid hne
    clear hne
    go_wp2
    go_ret
    exact ⟨xd (by unfold QY;rw [if_neg (N0.out (by omega)),if_pos Hne.out]),hB2⟩
   ·have hb:((3:Int) == num)=false:=by rw [beq_eq_false_iff_ne];exact fun h=>hne h.symm
    have Hne:=hid hne
    clear hne
    go_wp2
    go_roundw
    case rel=>exact ⟨2,by omega,by go_num,fun _=>N0.out (by omega),fun _=>Hne.out,fun h=>by omega,hB2⟩
    case measure=>simp [intOf]
  ·have c0:wr.cell? ⟨g,6,none⟩=some (.int .u8 4):=qe hwl 6 rfl
   have c1:wr.cell? ⟨g,7,none⟩=some (fnV 163):=qe hwl 7 rfl
   have c2:wr.cell? ⟨g,8,none⟩=some (fnV 164):=qe hwl 8 rfl
   clear hwl
   go_wp2_with fail
   refine (Mg 4 num 163 164 Bn _ hnum).mono ?_
   rintro e w2 ⟨rfl,hb2⟩
   have hB2:=hB.trans (hb2.mono hB.size)
   clear hB hb2 c0 c1 c2 hnum
   by_cases hne:num=4
   ·have hb:((4:Int) == num)=true:=by simp [hne]
    have Hne:=hid hne
    clear hne
    go_wp2
    go_ret
    exact ⟨xd (by unfold QY;rw [if_neg (N0.out (by omega)),if_neg (N1.out (by omega)),if_pos Hne.out]),hB2⟩
   ·have hb:((4:Int) == num)=false:=by rw [beq_eq_false_iff_ne];exact fun h=>hne h.symm
    have Hne:=hid hne
    clear hne
    go_wp2
    go_roundw
    case rel=>exact ⟨3,by omega,by go_num,fun _=>N0.out (by omega),fun _=>N1.out (by omega),fun _=>Hne.out,hB2⟩
    case measure=>simp [intOf]
  ·go_wp2
   go_ret
   exact ⟨xd (by unfold QY;rw [if_neg (N0.out (by omega)),if_neg (N1.out (by omega)),if_neg (N2.out (by omega))]),hB⟩
end
section
theorem DD (sa sb so:List UInt8) (ha:Option Addr) (hcap:Nat) (how:List Int) (w:World) (h1:sa.length≤1000000000) (h2:sb.length≤1000000000) (h3:so.length≤maxLen) (hl:LiesI w ha how) :
  Calls Tryz.prog 15 #[strB sa,strB sb,strB so,.slice ha how.length hcap] w fun e w'=>(∃ s,e=.returned (strB s)∧s.length=sa.length)∧Below w.heap.size w w':=by
 have Hl:=hid hl
 have hfew:=hl.few
 have HR:=hid hl.ok
 clear hl
 unfold maxLen at h3
 go_enter Tryz.func15,Tryz.ntmps15
 go_wp2
 go_loopw [9,10] (fun sv i wr=>∃ (q:Nat) (s:List UInt8),i=.int .i64 (q:Int)∧sv=strB s∧s.length≤sa.length∧sa.length≤s.length∧q≤how.length+3∧Below w.heap.size w wr) (fun _ i _=>how.length+4 - (intOf i).toNat)
 case atStart=>exact ⟨0,sa,rfl,rfl,Nat.le_refl _,Nat.le_refl _,by omega,Below.refl _ _⟩
 case round =>
  obtain ⟨q,s,rfl,rfl,hsl,hsg,hq,hB⟩:=hrel
  have HB:=hid hB
  have Hlr:=hid (Hl.out.later hB)
  clear hB
  have hwq:IntKind.i64.wrap ((q:Int)+3)=(q:Int)+3:=by rw [IntKind.wrap_i64];omega
  by_cases hlt:q+3 < how.length
  ·have hlti:(q:Int)+3 < (how.length:Int):=by omega
   obtain ⟨b,off,rfl,hbw,hcell⟩:=Hlr.out.at_ (List.ne_nil_of_length_pos (by omega))
   have d0:=hcell (q) (by omega)
   have d1:=hcell (q+1) (by omega)
   have d2:=hcell (q+2) (by omega)
   have d3:=hcell (q+3) (by omega)
   have r0:=HR.out _ (List.getElem_mem (show q < how.length by omega))
   have r1:=HR.out _ (List.getElem_mem (show q+1 < how.length by omega))
   have r2:=HR.out _ (List.getElem_mem (show q+2 < how.length by omega))
   have r3:=HR.out _ (List.getElem_mem (show q+3 < how.length by omega))
   have HD0:=hid d0
   have HD1:Hid (wr.cell? ⟨b,off+(q+1),none⟩=some (.int .i64 how[q+1])):=d1
   have HD2:Hid (wr.cell? ⟨b,off+(q+2),none⟩=some (.int .i64 how[q+2])):=d2
   have HD3:Hid (wr.cell? ⟨b,off+(q+3),none⟩=some (.int .i64 how[q+3])):=d3
   have hw1:IntKind.i64.wrap ((q:Int)+1)=((q+1:Nat):Int):=by rw [IntKind.wrap_i64];omega
   have hw2:IntKind.i64.wrap ((q:Int)+2)=((q+2:Nat):Int):=by rw [IntKind.wrap_i64];omega
   have hw3:IntKind.i64.wrap ((q:Int)+3)=((q+3:Nat):Int):=by rw [IntKind.wrap_i64];omega
   have hi0:(q:Int) < (how.length:Int):=by omega
   have hi1:((q+1:Nat):Int) < (how.length:Int):=by omega
   have hi2:((q+2:Nat):Int) < (how.length:Int):=by omega
   have hi3:((q+3:Nat):Int) < (how.length:Int):=by omega
   clear d1 d2 d3 hcell
   generalize how[q]=c0 at *
   generalize how[q+1]=c1 at *
   generalize how[q+2]=c2 at *
   generalize how[q+3]=c3 at *
   obtain ⟨hp0,hp1⟩:=qD c0 3 (by decide)
   go_wp2_with fail
   refine (Jn c0 3 _ r0.1 r0.2 (by decide) (by decide)).mono ?_
   rintro e w1 ⟨rfl,rfl⟩
   generalize qj c0 3=V0 at *
   clear d0 hp0 hp1 hwq
   go_upto_if 29 with fail
   go_cut [11] (fun fr wc=>∃ from_:List UInt8,fr=strB from_∧from_.length≤9223372036854775807∧wc=w1)
   case first =>
    by_cases hv:V0=0
    ·have hv':(V0 == 0)=true:=by simp [hv]
     go_wp2
     go_meet
     case rel=>exact ⟨so,rfl,by omega,rfl⟩
    ·have hv':(V0 == 0)=false:=by simpa using hv
     go_wp2
     go_meet
     case rel=>exact ⟨sb,rfl,by omega,rfl⟩
   case rest =>
    obtain ⟨fr,rfl,hfr,rfl⟩:=hcut
    by_cases hs0:s.length=0
    ·have hsi:((s.length:Int) == 0)=true:=by rw [beq_iff_eq];omega
     have hw4:IntKind.i64.wrap ((q:Int)+4)=((q+4:Nat):Int):=by rw [IntKind.wrap_i64];omega
     clear hw1 hw2 hw3
     go_wp2
     exact ⟨⟨q+4,s,by go_num,rfl,hsl,hsg,by omega,HB.out⟩,by simp [intOf];omega⟩
    ·have hsi:((s.length:Int) == 0)=false:=by rw [beq_eq_false_iff_ne];omega
     by_cases hf0:fr.length=0
     ·have hfi:((fr.length:Int) == 0)=true:=by rw [beq_iff_eq];omega
      have hw4:IntKind.i64.wrap ((q:Int)+4)=((q+4:Nat):Int):=by rw [IntKind.wrap_i64];omega
      clear hw1 hw2 hw3
      go_wp2
      exact ⟨⟨q+4,s,by go_num,rfl,hsl,hsg,by omega,HB.out⟩,by simp [intOf];omega⟩
     ·have hfi:((fr.length:Int) == 0)=false:=by rw [beq_eq_false_iff_ne];omega
      have e1:=HD1.out
      have HP1:=hid (Jn c1 (s.length:Int) wc r1.1 r1.2 (by omega) (by omega))
      obtain ⟨hi10,hi11⟩:=qD c1 (s.length:Int) (by omega)
      generalize qj c1 (s.length:Int)=I at *
      go_wp2_with fail
      refine HP1.out.mono ?_
      rintro e w2 ⟨rfl,rfl⟩
      have e2:=HD2.out
      have HP2:=hid (Jn c2 (fr.length:Int) w2 r2.1 r2.2 (by omega) (by omega))
      obtain ⟨hm0,hm1⟩:=qD c2 (fr.length:Int) (by omega)
      generalize qj c2 (fr.length:Int)=M at *
      clear e1 HP1
      go_wp2_with fail
      refine HP2.out.mono ?_
      rintro e w3 ⟨rfl,rfl⟩
      clear e2 HP2
      go_upto_region 11 with fail
      go_cut [66] (fun t wd=>∃ bb,t=.bool bb∧(bb=true→I < (fr.length:Int))∧wd=w3)
      case first =>
       have e0:=HD0.out
       go_wp2_with fail
       refine (Jn c0 2 _ r0.1 r0.2 (by decide) (by decide)).mono ?_
       rintro e w4 ⟨rfl,rfl⟩
       clear e0
       generalize qj c0 2=V2 at *
       by_cases hv2:V2=0
       ·have hv2':(V2 == 0)=true:=by simp [hv2]
        go_wp2
        go_meet
        case rel=>exact ⟨decide (I < (fr.length:Int)),rfl,(fun h=>of_decide_eq_true h),rfl⟩
       ·have hv2':(V2 == 0)=false:=by simpa using hv2
        go_wp2
        go_meet
        case rel=>exact ⟨false,rfl,(fun h=>by cases h),rfl⟩
      case rest =>
       obtain ⟨bb,rfl,hbb,rfl⟩:=hcut
       go_upto_if 66 with fail
       go_cut [13] (fun mv wd=>∃ m:Int,mv=.int .i64 m∧0≤m∧m < (fr.length:Int)∧wd=wc)
       case first =>
        cases bb with
        | true =>
         have:=hbb rfl
         go_wp2
         go_meet
         case rel=>exact ⟨I,rfl,hi10,this,rfl⟩
        | false =>
         go_wp2
         go_meet
         case rel=>exact ⟨M,rfl,hm0,hm1,rfl⟩
       case rest =>
        obtain ⟨m,rfl,hmm0,hmm1,rfl⟩:=hcut
        clear hbb hm0 hm1
        have e3:=HD3.out
        go_wp2_with fail
        refine (Jn c3 40 _ r3.1 r3.2 (by decide) (by decide)).mono ?_
        rintro e w5 ⟨rfl,rfl⟩
        obtain ⟨hn0,hn1⟩:=qD c3 40 (by decide)
        generalize qj c3 40=NN at *
        clear e3
        have hwd:IntKind.i64.wrap ((s.length:Int) - I)=(s.length:Int) - I:=by rw [IntKind.wrap_i64];omega
        have hwe:IntKind.i64.wrap ((fr.length:Int) - m)=(fr.length:Int) - m:=by rw [IntKind.wrap_i64];omega
        go_upto_if 79 with fail
        go_cut [14] (fun nv wd=>∃ n:Int,nv=.int .i64 n∧0≤n∧n≤(s.length:Int) - I∧wd=w5)
        case first =>
         by_cases hc:(s.length:Int) - I < NN
         ·go_wp2
          go_meet
          case rel=>exact ⟨_,rfl,by omega,by omega,rfl⟩
         ·go_wp2
          go_meet
          case rel=>exact ⟨NN,rfl,hn0,by omega,rfl⟩
        case rest =>
         obtain ⟨n,rfl,hnn0,hnn1,rfl⟩:=hcut
         clear hn0 hn1
         go_upto_if 89 with fail
         go_cut [14] (fun nv wd=>∃ n:Int,nv=.int .i64 n∧0≤n∧n≤(s.length:Int) - I∧n≤(fr.length:Int) - m∧wd=wc)
         case first =>
          by_cases hc:(fr.length:Int) - m < n
          ·go_wp2
           go_meet
           case rel=>exact ⟨_,rfl,by omega,by omega,by omega,rfl⟩
          ·go_wp2
           go_meet
           case rel=>exact ⟨n,rfl,hnn0,hnn1,by omega,rfl⟩
         case rest =>
          clear hnn0 hnn1
          obtain ⟨n',rfl,hnn0,hnn1,hnn2,rfl⟩:=hcut
          obtain ⟨i,rfl⟩:∃ i:Nat,I=(i:Int):=⟨I.toNat,by omega⟩
          obtain ⟨mm,rfl⟩:∃ mm:Nat,m=(mm:Int):=⟨m.toNat,by omega⟩
          obtain ⟨nn,rfl⟩:∃ nn:Nat,n'=(nn:Int):=⟨n'.toNat,by omega⟩
          have x1:(⟨s.toArray⟩:ByteArray).extract 0 i=⟨(s.take i).toArray⟩:=CT s i
          have x2:(⟨fr.toArray⟩:ByteArray).extract mm (mm+nn)=⟨((fr.drop mm).take nn).toArray⟩:=by rw [KO,Nat.add_sub_cancel_left]
          have x3:(⟨s.toArray⟩:ByteArray).extract (i+nn) s.length=⟨(s.drop (i+nn)).toArray⟩:=Dd s (i+nn)
          have l1:(s.take i).length≤i:=by rw [List.length_take];omega
          have l2:((fr.drop mm).take nn).length≤nn:=by rw [List.length_take];omega
          have l3:(s.drop (i+nn)).length≤s.length:=by rw [List.length_drop];omega
          have HLen:Hid ((s.take i++(fr.drop mm).take nn++s.drop (i+nn)).length=s.length):=by
           show List.length _=_
           simp only [List.length_append,List.length_take,List.length_drop]
           omega
          have hwf:IntKind.i64.wrap ((mm:Int)+(nn:Int))=((mm+nn:Nat):Int):=by rw [IntKind.wrap_i64];omega
          have hwg:IntKind.i64.wrap ((i:Int)+(nn:Int))=((i+nn:Nat):Int):=by rw [IntKind.wrap_i64];omega
          have hw4:IntKind.i64.wrap ((q:Int)+4)=((q+4:Nat):Int):=by rw [IntKind.wrap_i64];omega
          have b1:(i:Int)≤(s.length:Int):=by omega
          have b2:((mm+nn:Nat):Int)≤(fr.length:Int):=by omega
          have b3:(mm:Int)≤((mm+nn:Nat):Int):=by omega
          have b4:((i+nn:Nat):Int)≤(s.length:Int):=by omega
          have b5:(0:Int)≤((mm+nn:Nat):Int):=by omega
          have b6:(0:Int)≤((i+nn:Nat):Int):=by omega
          clear hw1 hw2 hw3 hwd hwe HD0 HD1 HD2 HD3 hsi hfi
          go_upto_region 18 with fail
          go_quiet (fail)
          rw [IN,IN]
          have HLen2:Hid ((s.take i++(fr.drop mm).take nn++s.drop (i+nn)).length=s.length):=HLen
          generalize s.take i++(fr.drop mm).take nn++s.drop (i+nn)=s' at *
          clear x1 x2 x3 l1 l2 l3 b1 b2 b3 b4 b5 b6 hwf hwg
          go_wp2
          exact ⟨⟨q+4,s',by go_num,rfl,by have:=HLen.out;omega,by have:=HLen.out;omega,by omega,below_drewN HB.out _⟩,by simp [intOf];omega⟩
  ·have hdn:¬ ((q:Int)+3 < (how.length:Int)):=by omega
   go_wp2
   go_ret
   exact ⟨⟨s,rfl,by omega⟩,HB.out⟩
end
end Go.Proofs.YthhpbhpfagoapabGreat
