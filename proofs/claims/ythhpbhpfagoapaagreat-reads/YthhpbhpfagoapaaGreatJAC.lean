import Derived.Test.YthhpbhpfagoapaaGreatTk
import Derived.Test.YthhpbhpfagoapaaGreatDReadRows
import Derived.Test.YthhpbhpfagoapaaGreatJAH
import Derived.Test.YthhpbhpfagoapaaGreatJAP
import Derived.Test.YthhpbhpfagoapaaGreatJAY
import Derived.Test.YthhpbhpfagoapaaGreatJAT
namespace Go.Proofs.YthhpbhpfagoapaaGreat
set_option linter.unusedVariables false
set_option linter.unusedSimpArgs false
set_option maxRecDepth 100000
set_option maxHeartbeats 16000000
section
open Go.RowKit
theorem Jv {w w':World} {g B p:Nat} (h:BoxT w g B) (hg:w.grownBy w' (some p)) (hB:B < w.heap.size) (hne:B≠p):BoxT w' g B:=by
 have k:∀ j,w'.cell? ⟨B,j,none⟩=w.cell? ⟨B,j,none⟩:=fun j=>hg.cell_far ⟨B,j,none⟩ hB (by intro h;simp at h;exact hne h)
 obtain ⟨h0,h1,h2,h3,h4,h5,h6⟩:=h
 exact ⟨(k 0).trans h0,(k 1).trans h1,(k 2).trans h2,(k 3).trans h3,(k 4).trans h4,(k 5).trans h5,(k 6).trans h6⟩
theorem Mg (l:List CellB) (i:Nat) (h:i≤l.length):jR l i=zK qy (l.take i):=by
 cases i with
 | zero=>rfl
 | succ i =>
  rw [List.take_succ_eq_append_getElem (by omega),Zb]
  unfold jR
  rw [if_neg (by omega)]
  exact jY l i (by omega)
theorem Cc (n:Nat) (st:CellB→CellB→List UInt8) (l:List CellB) (h:∀ i,i < l.length→qG n l i=st (jR l i) (xP l i)):∀ k,k≤l.length→js n l k=Zk st qy (l.take k):=by
 intro k
 induction k with
 | zero=>intro _;rfl
 | succ k ih =>
  intro hk
  rw [js,ih (by omega),List.take_succ_eq_append_getElem (by omega),Ew,h k (by omega),Mg l k (by omega),jY l k (by omega)]
  simp [Zk]
theorem Xk (n:Nat) (hn:n≠3) (st:CellB→CellB→List UInt8) (l:List CellB) (h:∀ i,i < l.length→qG n l i=st (jR l i) (xP l i)):qp n l=Zk st qy l:=by
 have:=Cc n st l h l.length (Nat.le_refl _)
 rw [List.take_length] at this
 simp [qp,hn,this]
def ES (count:Nat) (l:List CellB):Prop:=l.length=count∧∀ c ∈ l,okT c
theorem GO (l:List CellB):qp 3 l=uB (qb l).length++(Zk XR qy (qb l)++js 3 l l.length):=by
 have h5:qp 5 (qb l)=Zk XR qy (qb l):=Xk 5 (by decide) XR (qb l) (fun i hi=>rfl)
 have h6:js 5 (qb l) (qb l).length=Zk XR qy (qb l):=by rw [← h5];simp [qp]
 simp only [qp,if_true,Gh,h6,List.append_assoc]
def Th (count:Nat) (rest:List UInt8) (X:List CellB) (r0:List UInt8) (acc:List CellB) (r:List UInt8):Prop :=
 ∀ l2 q,ES count l2→rest=qp 3 l2++q→qb l2=X∧r0=js 3 l2 l2.length++q∧l2.take acc.length=acc∧r0=js 3 l2 acc.length++r
theorem Nw {count:Nat} {rest r0 r:List UInt8} {X acc:List CellB} (h:Th count rest X r0 acc r) (hlt:acc.length < count) (l2:List CellB) (q:List UInt8) (hd:ES count l2) (hr:rest=qp 3 l2++q) :
  ∃ (j:Nat) (m:List UInt8),∃ hj:j < X.length,r=uB j++m∧l2.take (acc.length+1)=acc++[⟨false,0,(X[j]).text⟩]∧r0=js 3 l2 (acc.length+1)++m:=by
 obtain ⟨h1,h2,h3,h4⟩:=h l2 q hd hr
 have hk:acc.length < l2.length:=by rw [hd.1];exact hlt
 generalize hkk:acc.length=k at *
 subst h1
 obtain ⟨c,hc,hct⟩:=Zt l2 k hk
 obtain ⟨hj,hjt⟩:=QH (qb l2) (l2[k]).text ⟨c,hc,hct⟩
 obtain ⟨m0,hm0⟩:=Gf 3 l2 (k+1) (l2.length - (k+1))
 rw [show k+1+(l2.length - (k+1))=l2.length by omega] at hm0
 have hs:js 3 l2 (k+1)=js 3 l2 k++uB (jP (qb l2) (l2[k]).text):=by
  rw [js];simp only [qG,jY l2 k hk]
 refine ⟨jP (qb l2) (l2[k]).text,m0++q,hj,?_,?_,?_⟩
 ·have e1:js 3 l2 k++r=js 3 l2 k++(uB (jP (qb l2) (l2[k]).text)++(m0++q)):=by
   rw [← h4,h2,hm0,hs];simp only [List.append_assoc]
  exact List.append_cancel_left e1
 ·rw [List.take_succ_eq_append_getElem hk,h3,hjt]
  congr 2
  obtain ⟨o1,o2,_⟩:=hd.2 l2[k] (List.getElem_mem hk)
  generalize l2[k]=c at *
  obtain ⟨cn,ci,ct⟩:=c
  simp only at o1 o2
  subst o1 o2
  rfl
 ·rw [h2,hm0,List.append_assoc]
theorem El (g p count:Nat) (s rest:List UInt8) (w:World) (hs:s.length≤maxLen) (hc:count≤60) (hc1:1≤count) (hp:qq w p s rest) :
  Calls Tryz.prog 199 #[txtC g,.pointer (some ⟨p,0,none⟩),.int .i64 (count:Int)] w (QX 9 JC (ES count) (qp 3) p s rest w):=by
 obtain ⟨i0,hi,hz0,hz1,hz2⟩:=info_parts Tryz.infoStr
 have Hs:=hid hs
 have Hp:=hid hp
 have hplt:=xh hp
 clear hs hp
 go_enter Tryz.func199,Tryz.ntmps199
 go_wp2_with fail
 obtain ⟨hb0,hs0,hc0⟩:=zT w #[.slice (some ⟨g,0,none⟩) 3 3,fnV 202,fnV 203,fnV 204,fnV 205,fnV 206,fnV 207] 225
 have Hc:Hid (BoxT _ g w.heap.size):=⟨hc0 0,hc0 1,hc0 2,hc0 3,hc0 4,hc0 5,hc0 6⟩
 have Hp0:=hid (qA Hp.out hb0 hplt)
 have Hb0:=hid hb0
 have hs1:=Nat.lt_of_lt_of_eq (Nat.lt_succ_self w.heap.size) hs0.symm
 have hplt0:=Nat.lt_of_lt_of_le hplt hb0.size
 have hpne:w.heap.size≠p:=by omega
 clear hc0 hb0 hs0
 generalize w.alloc _=w0 at *
 refine wp_region_held_drew (S:=fun w'=>w'.cell? ⟨w.heap.size,0,none⟩=some (.slice (some ⟨g,0,none⟩) 3 3)∧w'.cell? ⟨w.heap.size,1,none⟩=some (fnV 202)∧w'.cell? ⟨w.heap.size,2,none⟩=some (fnV 203)∧w'.cell? ⟨w.heap.size,3,none⟩=some (fnV 204)∧w'.cell? ⟨w.heap.size,4,none⟩=some (fnV 205)∧w'.cell? ⟨w.heap.size,5,none⟩=some (fnV 206)∧w'.cell? ⟨w.heap.size,6,none⟩=some (fnV 207)) (by kernel_rfl) Hc.out (fun hHeld=>?_)
 refine tk 0 (txtC g) ?_
 refine tk 1 (.pointer (some ⟨p,0,none⟩)) ?_
 refine tk 2 (.pointer (some ⟨p,0,none⟩)) ?_
 refine tk 3 (.int .i64 (count:Int)) ?_
 simp only [ga,gb,gc,Act.put,gd,ge,gf]
 refine rd 4 (fun K hK=>?_)
 simp only [ga,gb,gc]
 go_simp
 go_at_call 242
 refine (ZB p s rest count w0.drew Hs.out (by omega) (show qq w0.drew p s rest from Hp0.out)).mono ?_
 rintro e w1 ⟨hg1,⟨rfl,hno⟩|⟨n,r1,hn,rfl,hrd1,hu1⟩⟩
 ·refine ⟨rfl,ja (jz (jL w _) Hb0.out) (jx hg1),.inl ⟨rfl,fun l2 q hl2 h=>?_⟩⟩
  rw [GO,List.append_assoc] at h
  exact hno _ _ (by show _≤count;rw [← hl2.1];exact zp l2 l2.length) h
 ·have Hg1:=hid (jx hg1)
  have Hu1:=hid hu1
  have hn1:n≤count:=hn
  have Hbx1:=hid (Jv Hc.out Hg1.out hs1 hpne)
  clear hg1 hu1
  try go_wp2_with fail
  refine hK.out _ _ Hbx1.out (fun hHeld=>?_)
  clear hK K
  try simp only [ga,gb,gc,Act.put,gd,ge,gf]
  refine rd 5 (fun K hK=>?_)
  simp only [ga,gb,gc]
  go_simp
  go_at_call 197
  refine (RM g p n s r1 w1 Hs.out (by omega) hrd1).mono ?_
  rintro e w2 ⟨hg2,⟨rfl,hno⟩|⟨X,r0,vX,hX,rfl,hownX,hrd2,hu2⟩⟩
  ·refine ⟨rfl,ja (jz (jL w _) Hb0.out) (ja Hg1.out hg2),.inl ⟨rfl,fun l2 q hl2 h=>?_⟩⟩
   rw [GO,List.append_assoc,List.append_assoc] at h
   obtain ⟨e1,e2⟩:=Hu1.out _ _ (by show _≤count;rw [← hl2.1];exact zp l2 l2.length) h
   exact hno (qb l2) _ ⟨e1,fun c hc=>hl2.2 c (JZ l2 l2.length (Nat.le_refl _) c hc)⟩ e2.symm
  ·have HG2:=hid (ja Hg1.out hg2)
   have Hbx2:=hid (Jv Hc.out HG2.out hs1 hpne)
   have Hu2:=hid hu2
   have HX:=hid hX
   have hXl:X.length=n:=hX.1
   have Hrd2:=hid hrd2
   have hp1:=xh hrd1
   have HL0:Hid (Th count rest X r0 [] r0):=by
    intro l2 q hl2 h
    rw [GO,List.append_assoc,List.append_assoc] at h
    obtain ⟨e1,e2⟩:=Hu1.out _ _ (by show _≤count;rw [← hl2.1];exact zp l2 l2.length) h
    obtain ⟨e3,e4⟩:=Hu2.out (qb l2) _ ⟨e1,fun c hc=>hl2.2 c (JZ l2 l2.length (Nat.le_refl _) c hc)⟩ e2.symm
    exact ⟨e3,e4.symm,rfl,rfl⟩
   clear hg2 hu2 hX hrd2
   try go_wp2_with fail
   refine hK.out _ _ Hbx2.out (fun hHeld=>?_)
   clear hK K
   try simp only [ga,gb,gc,Act.put,gd,ge,gf]
   refine rd 6 (fun K hK=>?_)
   simp only [ga,gb,gc]
   go_simp
   try go_wp2_with fail
   refine hK.out _ _ Hbx2.out (fun hHeld=>?_)
   clear hK K
   try simp only [ga,gb,gc,Act.put,gd,ge,gf]
   refine wpAnyH_done (by kernel_rfl) ?_ _
   clear hHeld
   by_cases hX0:X=[]
   ·have hXz:X.length=0:=by rw [hX0];rfl
    have HX0:=hid hX0
    rw [hXz] at hownX
    have hln:=YY hownX w2
    clear hX0 hXz hXl
    go_wp2_with fail
    refine (qN _).mono ?_
    rintro e w3 ⟨rfl,rfl⟩
    go_wp2
    refine ⟨rfl,ja (jz (jL w _) Hb0.out) HG2.out,.inl ⟨rfl,fun l2 q hl2 h=>?_⟩⟩
    obtain ⟨e1,_⟩:=HL0.out l2 q hl2 h
    obtain ⟨c,hc2,_⟩:=Zt l2 0 (by rw [hl2.1];omega)
    rw [e1,HX0.out] at hc2
    cases hc2
   ·have hXp:=List.length_pos_iff.2 hX0
    have hXi:(0:Int) < (X.length:Int):=by omega
    have hX60:X.length≤60:=by omega
    have hbX:∀ b cap,vX=.slice (some ⟨b,0,none⟩) X.length cap→w1.heap.size≤b:=by
     intro b cap hv
     exact (hownX.lt b (by rw [hv];rfl)).1
    obtain ⟨bX,capX,rfl,hlie⟩:=Vj hownX hX0
    have hbX1:=hbX bX capX rfl
    have Hlie:=hid hlie
    have hbX2:=hlie.lt
    have hbXp:bX≠p:=by omega
    have hp2:=xh Hrd2.out
    have hsubX:IntKind.i64.wrap ((X.length:Int) - 1)=((X.length - 1:Nat):Int):=by rw [IntKind.wrap_i64];omega
    clear hownX hbX hlie hX0 hXl
    go_wp2_with fail
    refine (jX _).mono ?_
    rintro e w3 ⟨rfl,rfl⟩
    go_wp2_with fail
    obtain ⟨W3,rfl⟩:∃ W3,W3=w3:=⟨_,rfl⟩
    go_loopw [8,20] (fun v i wr=>∃ (acc:List CellB) (r:List UInt8),acc.length≤count∧i=.int .i64 (acc.length:Int)∧(∀ c ∈ acc,okT c)∧wr.ownsRow W3.heap.size 9 1 v acc.length (JC acc)∧qq wr p s r∧W3.grownBy wr (some p)∧Th count rest X r0 acc r)
     (fun _ i _=>count - (intOf i).toNat)
    case atStart=>exact ⟨[],r0,Nat.zero_le _,rfl,(fun c h=>zX h),World.ownsRow_nil _ _ _ _,Hrd2.out,jL _ _,HL0.out⟩
    case round =>
     obtain ⟨acc,r,hac,rfl,hok,hown,hrd,hg,hleft⟩:=hrel
     have Hok:=hid hok
     have Hleft:=hid hleft
     have Hg:=hid hg
     clear hok hleft
     by_cases hlt:acc.length < count
     ·have hi1:(acc.length:Int) < (count:Int):=by omega
      go_wp2_with fail
      refine (KN p s r _ (X.length - 1) _ (by omega) Hs.out (by omega) hrd).mono ?_
      rintro e w4 ⟨hg4,⟨rfl,hno⟩|⟨j,r4,hj,rfl,hrd4,hu4⟩⟩
      ·go_wp2
       refine ⟨rfl,ja (jz (jL w _) Hb0.out) (ja HG2.out (ja Hg.out hg4)),.inl ⟨rfl,fun l2 q hl2 h=>?_⟩⟩
       obtain ⟨jj,m,hjj,k1,_⟩:=Nw Hleft.out hlt l2 q hl2 h
       exact hno jj m (by show _≤_;omega) k1
      ·have hj1:j≤X.length - 1:=hj
       have hjX:j < X.length:=by omega
       have hji:(j:Int) < (X.length:Int):=by omega
       have Hu4:=hid hu4
       have hown4:=qS hown hp2 hg4
       have hG4:=ja Hg.out hg4
       have hcell:=(hG4.cell_far ⟨bX,j,none⟩ hbX2 (by intro h;simp at h;exact hbXp h)).trans (Hlie.out.cell j hjX)
       have hoX:=HX.out.2 X[j] (List.getElem_mem hjX)
       have HoX:=hid hoX
       clear hown hrd hu4 hg4 hg hoX
       generalize hx:(X[j]).text=x at *
       have Hx:=hid hx
       clear hx
       go_wp2_with (at_builtin;refine wpList_append_own _ rfl (.tmp 22) (.tmp 31) 71 rfl W3.heap.size 9 i0 (.string ⟨#[]⟩) 1 16 Tryz.underlying71 hi hz0 hz1 hz2 rfl (by decide) _ _ _ rfl (hown4.alloc _) ⟨_,0,none⟩ 1 1 [strB x] rfl rfl ?c1 ?c2 ?c3 ?c4 ?c5 ?_)
       case c1=>exact qj w4 #[strB x] 9
       case c2=>intro u hu;simp at hu;subst hu;rfl
       case c3=>unfold maxLen;omega
       case c4=>omega
       case c5=>have:=hG4.size;simp;omega
       intro v5 w5 hown5 hgr5 _
       have HR:=hid (Xr hrd4 hp2 hG4 hown4 hgr5)
       have HO5:=hid hown5
       clear hown4 hown5 hgr5 hG4 hrd4 hcell
       go_wp2
       go_roundw
       case rel =>
        refine ⟨acc++[⟨false,0,x⟩],r4,by simp;omega,by simp,?_,?_,HR.out.1,HR.out.2,?_⟩
        ·intro c hc
         rcases List.mem_append.1 hc with h|h
         ·exact Hok.out c h
         ·simp only [List.mem_cons,List.not_mem_nil,or_false] at h
          subst h
          exact ⟨rfl,rfl,by rw [← Hx.out];exact HoX.out.2.2⟩
        ·rw [show (acc++[(⟨false,0,x⟩:CellB)]).length=acc.length+1 by simp,show JC (acc++[⟨false,0,x⟩])=JC acc++[strB x] by simp [JC,zw,texts]]
         exact HO5.out
        ·intro l2 q hl2 h
         obtain ⟨jj,m,hjj,k1,k2,k3⟩:=Nw Hleft.out hlt l2 q hl2 h
         obtain ⟨e1,e2⟩:=Hu4.out jj m (by show _≤_;omega) k1
         subst e1 e2
         obtain ⟨f1,f2,_⟩:=Hleft.out l2 q hl2 h
         rw [show (acc++[(⟨false,0,x⟩:CellB)]).length=acc.length+1 by simp]
         exact ⟨f1,f2,by rw [k2,Hx.out],k3⟩
       case measure=>simp [intOf];omega
     ·have hke:acc.length=count:=by omega
      have Hke:=hid hke
      have Hown:=hid hown
      have Hrd:=hid hrd
      have hi1:decide ((acc.length:Int) < (count:Int))=false:=by simp;omega
      clear hg hown hrd hke
      go_wp2
      go_ret
      refine ⟨ja (jz (jL w _) Hb0.out) (ja HG2.out Hg.out),.inr ⟨acc,r,_,⟨Hke.out,Hok.out⟩,rfl,jy Hown.out (Nat.le_trans Hb0.out.size HG2.out.size),Hrd.out,fun l2 q hl2 h=>?_⟩⟩
      obtain ⟨e1,e2,e3,e4⟩:=Hleft.out l2 q hl2 h
      rw [Hke.out,← hl2.1,List.take_length] at e3
      subst e3
      refine ⟨rfl,?_⟩
      exact List.append_cancel_left (e2.symm.trans e4)
end
section
open Go.RowKit
def Xi (b:Bool):CellB:=⟨b,0,[]⟩
def UF (fl:List Bool):List UInt8:=uB fl.length++qO false (fl.map Xi)
theorem Da (l:List CellB):∀ (b:Bool) (n:Nat),Zv b n l=Zv b n ((l.map (·.null)).map Xi):=by
 induction l with
 | nil=>intro b n;rfl
 | cons c l ih =>
  intro b n
  simp only [List.map_cons,Zv,Xi]
  rw [ih,ih]
theorem Pw (l:List CellB):zr l=UF (l.map (·.null)):=by
 unfold zr UF qO
 rw [List.length_map]
 congr 1
 cases l with
 | nil=>rfl
 | cons c l =>
  rw [if_neg (by simp),if_neg (by simp),Da]
theorem YM (nb:Bool) (fl:List Bool) (j:Nat) (h:j < rowB nb (fl.map Xi)):∃ hj:j < fl.length,fl[j]=nb:=by
 obtain ⟨h1,h2⟩:=GC nb (fl.map Xi) j h
 rw [List.length_map] at h1
 exact ⟨h1,by simpa [Xi] using h2⟩
theorem Rg (nb:Bool) (fl:List Bool) (h:rowB nb (fl.map Xi) < fl.length):fl[rowB nb (fl.map Xi)]=!nb:=by
 have:=Nz nb (fl.map Xi) (by simpa using h)
 simpa [Xi] using this
def Tu (rest:List UInt8) (count:Nat) (acc:List Bool) (nb:Bool) (r:List UInt8):Prop :=
 ∀ fl q,fl.length≤60→rest=UF fl++q→fl.length=count∧fl.take acc.length=acc∧r=qO nb ((fl.drop acc.length).map Xi)++q∧((acc=[]∧nb=false)∨∀ h:acc.length < fl.length,fl[acc.length]=nb)
theorem Qc {rest r:List UInt8} {count:Nat} {acc:List Bool} {nb:Bool} (h:Tu rest count acc nb r) (hlt:acc.length < count) (fl:List Bool) (q:List UInt8) (hl:fl.length≤60) (hr:rest=UF fl++q) :
  ∃ (rr:Nat) (m:List UInt8),rr≤count - acc.length∧r=uB rr++m∧(rr=0→acc=[]∧nb=false)∧fl.length=count∧fl.take (acc.length+rr)=acc++List.replicate rr nb∧m=qO (!nb) ((fl.drop (acc.length+rr)).map Xi)++q∧((∀ h:acc.length+rr < fl.length,fl[acc.length+rr]=!nb)):=by
 obtain ⟨h1,h2,h3,h4⟩:=h fl q hl hr
 have hk:acc.length < fl.length:=by omega
 generalize hkk:acc.length=k at *
 have hle:=ZT nb ((fl.drop k).map Xi)
 rw [List.length_map,List.length_drop] at hle
 have hlt2:=YM nb (fl.drop k)
 have hend:=Rg nb (fl.drop k)
 have hst:=QT nb ((fl.drop k).map Xi) (by simp;omega)
 generalize hrr:rowB nb ((fl.drop k).map Xi)=rr at *
 rw [← List.map_drop,List.drop_drop] at hst
 refine ⟨rr,qO (!nb) ((fl.drop (k+rr)).map Xi)++q,by omega,by rw [h3,hst,List.append_assoc],?_,h1,?_,rfl,?_⟩
 ·intro h0
  rcases h4 with h5|h5
  ·exact h5
  ·exfalso
   have e1:=hend (by rw [List.length_drop];omega)
   rw [List.getElem_drop] at e1
   simp only [h0,Nat.add_zero] at e1
   rw [h5 hk] at e1
   cases nb<;>simp at e1
 ·rw [List.take_add,h2]
  congr 1
  apply List.ext_getElem
  ·rw [List.length_take,List.length_drop,List.length_replicate];omega
  ·intro j hj1 hj2
   rw [List.length_replicate] at hj2
   obtain ⟨_,e1⟩:=hlt2 j hj2
   rw [List.getElem_take,List.getElem_replicate]
   exact e1
 ·intro h5
  have e1:=hend (by rw [List.length_drop];omega)
  rw [List.getElem_drop] at e1
  exact e1
def Qz (fl:List Bool):List Value:=fl.map .bool
theorem Cb {w:World} {base n:Nat} {v:Value} {xs:List Value} (h:w.ownsRow base 4 1 v n xs) (w':World) :
  Sem.run Tryz.prog (Builtin.len_ #[282] 3 #[v]) w'=.ok (.int .i64 (n:Int)) w':=by
 rcases h.2 with ⟨rfl,rfl⟩|⟨g,cap,cur,rfl,_⟩
 ·exact run_len_slice (P:=Tryz.prog) w' 282 3 _ _ _ (by rw [Tryz.underlying282];rfl)
 ·exact run_len_slice (P:=Tryz.prog) w' 282 3 _ _ _ (by rw [Tryz.underlying282];rfl)
def As (p:Nat) (s rest:List UInt8) (w:World) (e:Ending) (w':World):Prop :=
 w.grownBy w' (some p)∧((e=gaveUp∧∀ fl q,fl.length≤60→rest≠UF fl++q)∨∃ fl r v,fl.length≤60∧e=.returned v∧w'.ownsRow w.heap.size 4 1 v fl.length (Qz fl)∧qq w' p s r∧∀ fl2 q,fl2.length≤60→rest=UF fl2++q→fl2=fl∧q=r)
theorem UC (p:Nat) (s rest:List UInt8) (w:World) (hs:s.length≤maxLen) (hp:qq w p s rest) :
  Calls Tryz.prog 209 #[.pointer (some ⟨p,0,none⟩)] w (As p s rest w):=by
 obtain ⟨i0,hi,hz0,hz1,hz2⟩:=info_parts Tryz.infoBool
 have Hs:=hid hs
 have Hp:=hid hp
 have hplt:=xh hp
 clear hs hp
 go_enter Tryz.func209,Tryz.ntmps209
 go_wp2_with fail
 refine (KN p s rest _ 60 _ rfl Hs.out (by omega) Hp.out).mono ?_
 rintro e w1 ⟨hg1,⟨rfl,hno⟩|⟨count,r1,hn,rfl,hrd1,hu1⟩⟩
 ·go_wp2
  refine ⟨rfl,hg1,.inl ⟨rfl,fun fl q hl h=>?_⟩⟩
  rw [UF,List.append_assoc] at h
  exact hno _ _ hl h
 ·have Hu1:=hid hu1
  have hcount:count≤60:=hn
  have Hg1:=hid hg1
  have hp1:=xh hrd1
  clear hu1 hg1 hn
  have HL0:Hid (Tu rest count [] false r1):=by
   intro fl q hl h
   rw [UF,List.append_assoc] at h
   obtain ⟨e1,e2⟩:=Hu1.out _ _ hl h
   exact ⟨e1,rfl,e2.symm,.inl ⟨rfl,rfl⟩⟩
  go_wp2_with (at_make;refine wpList_make_own _ rfl (.const (.int .i64 0)) (.tmp 10) 282 rfl w1.heap.size 4 i0 (.bool false) 1 Tryz.underlying282 hi hz0 hz1 .i64 .i64 _ count rfl rfl rfl (by rw [hz2];omega) (by unfold maxLen;omega) (Nat.le_refl _) ?_;intro w3 hown3 hgr3)
  have hB3:Below w1.heap.size w1 w3:=(Below.refl _ _).grown hgr3 (Nat.le_refl _) (fun _ h=>by cases h)
  have hrd3:=qA hrd1 hB3 hp1
  have hg13:=jz (jL w1 (some p)) hB3
  clear hgr3 hB3 hrd1
  go_loopg [4,5] (2*count+1) (fun gk v b wr=>∃ (acc:List Bool) (nb:Bool) (r:List UInt8),b=.bool nb∧2*(count - acc.length)+(if nb=true then 0 else 1)≤gk∧acc.length≤count∧wr.ownsRow w1.heap.size 4 1 v acc.length (Qz acc)∧qq wr p s r∧w1.grownBy wr (some p)∧Tu rest count acc nb r)
  case atStart=>exact ⟨[],false,r1,rfl,by simp,Nat.zero_le _,hown3,hrd3,hg13,HL0.out⟩
  case round =>
   clear hown3 hrd3 hg13
   obtain ⟨acc,nb,r,rfl,hgk,hac,hown,hrd,hg,hleft⟩:=hrel
   have Hgk:=hid hgk
   have Hleft:=hid hleft
   have Hg:=hid hg
   have hln:=Cb hown
   clear hleft hgk
   by_cases hlt:acc.length < count
   ·have hi1:(acc.length:Int) < (count:Int):=by omega
    have hln1:=hln wr
    go_wp2_with fail
    refine (KN p s r _ (count - acc.length) _ (by omega) Hs.out (by omega) hrd).mono ?_
    rintro e w2 ⟨hg2,⟨rfl,hno⟩|⟨n,r2,hn,rfl,hrd2,hu2⟩⟩
    ·go_wp2
     refine ⟨rfl,ja Hg1.out (ja Hg.out hg2),.inl ⟨rfl,fun fl q hl h=>?_⟩⟩
     obtain ⟨rr,m,k1,k2,_⟩:=Qc Hleft.out hlt fl q hl h
     exact hno rr m k1 k2
    ·have hn1:n≤count - acc.length:=hn
     have Hu2:=hid hu2
     have hown2:=qS hown hp1 hg2
     have hG2:=ja Hg.out hg2
     have hln2:=hln w2
     clear hown hrd hu2 hg2 hg hln1 hn
     by_cases hn0:0 < n
     ·have hn0i:(0:Int) < (n:Int):=by omega
      cases nb with
      | true =>
       go_upto_region 8 with go_in
       go_wp2_with fail
       refine (jX _).mono ?_
       rintro e wN ⟨rfl,rfl⟩
       go_wp2_with fail
       refine (GB true wN.heap.size 1 n _ (by omega) (World.cell?_alloc_mark ..)).mono ?_
       rintro e w4 ⟨g4,rfl,hb4,hB4⟩
       have hB4':Below wN.heap.size wN w4:=zE hB4
       have hown4:=jH hown2 hB4'
       have hrd4:=qA hrd2 hB4' (xh hrd2)
       have hG4:=jz hG2 hB4'
       have HN4:=hid (World.news_of_block hb4)
       clear hB4 hB4' hown2 hrd2 hG2 hb4 hln2
       go_wp2_with (at_builtin;refine wpList_append_own _ rfl (.tmp 37) (.tmp 41) 282 rfl w1.heap.size 4 i0 (.bool false) 1 1 Tryz.underlying282 hi hz0 hz1 hz2 rfl (by decide) _ _ _ rfl hown4 ⟨g4,0,none⟩ n n (List.replicate n (.bool true)) rfl ?c0 ?c1 ?c2 ?c3 ?c4 ?c5 ?_)
       case c0=>simp
       case c1=>intro j u hj;exact HN4.out j u (by simpa using hj)
       case c2=>intro u hu;rw [List.mem_replicate] at hu;rw [hu.2];rfl
       case c3=>unfold maxLen;omega
       case c4=>omega
       case c5=>have:=hG4.size;omega
       intro v5 w5 hown5 hgr5 _
       have HR:=hid (XF hrd4 hp1 hG4 hown4 hgr5)
       have HO5:=hid hown5
       have HX:Hid (Qz (acc++List.replicate n true)=Qz acc++List.replicate n (.bool true)):=by simp [Hid,Qz]
       have HLN:Hid ((acc++List.replicate n true).length=acc.length+n):=by simp [Hid]
       clear hown4 hown5 hgr5 hG4 hrd4 HN4
       go_wp2
       go_roundg (2*(count - (acc.length+n))+(if (!true)=true then 0 else 1))
       case measure=>have h:=Hgk.out;simp only [Bool.not_true,Bool.not_false,Bool.false_eq_true,if_true,if_false,reduceIte] at h ⊢;omega
       case rel =>
        refine ⟨acc++List.replicate n true,!true,r2,rfl,?_,?_,?_,HR.out.1,HR.out.2,?_⟩
        ·rw [HLN.out];exact Nat.le_refl _
        ·rw [HLN.out];omega
        ·rw [HX.out,HLN.out];exact HO5.out
        ·intro fl q hl h
         obtain ⟨rr,m,k1,k2,k3,k4,k5,k6,k7⟩:=Qc Hleft.out hlt fl q hl h
         obtain ⟨e1,e2⟩:=Hu2.out rr m k1 k2
         subst e1 e2
         rw [HLN.out]
         exact ⟨k4,k5,k6,.inr k7⟩
      | false =>
       by_cases hl0:acc.length=0
       ·have hli:((acc.length:Int) == 0)=true:=by simp [hl0]
        have Hl0:=hid hl0
        clear hl0
        go_upto_region 8 with go_in
        go_wp2_with fail
        refine (jX _).mono ?_
        rintro e wN ⟨rfl,rfl⟩
        go_wp2_with fail
        refine (GB false wN.heap.size 1 n _ (by omega) (World.cell?_alloc_mark ..)).mono ?_
        rintro e w4 ⟨g4,rfl,hb4,hB4⟩
        have hB4':Below wN.heap.size wN w4:=zE hB4
        have hown4:=jH hown2 hB4'
        have hrd4:=qA hrd2 hB4' (xh hrd2)
        have hG4:=jz hG2 hB4'
        have HN4:=hid (World.news_of_block hb4)
        clear hB4 hB4' hown2 hrd2 hG2 hb4 hln2
        go_wp2_with (at_builtin;refine wpList_append_own _ rfl (.tmp 37) (.tmp 41) 282 rfl w1.heap.size 4 i0 (.bool false) 1 1 Tryz.underlying282 hi hz0 hz1 hz2 rfl (by decide) _ _ _ rfl hown4 ⟨g4,0,none⟩ n n (List.replicate n (.bool false)) rfl ?c0 ?c1 ?c2 ?c3 ?c4 ?c5 ?_)
        case c0=>simp
        case c1=>intro j u hj;exact HN4.out j u (by simpa using hj)
        case c2=>intro u hu;rw [List.mem_replicate] at hu;rw [hu.2];rfl
        case c3=>unfold maxLen;omega
        case c4=>omega
        case c5=>have:=hG4.size;omega
        intro v5 w5 hown5 hgr5 _
        have HR:=hid (XF hrd4 hp1 hG4 hown4 hgr5)
        have HO5:=hid hown5
        have HX:Hid (Qz (acc++List.replicate n false)=Qz acc++List.replicate n (.bool false)):=by simp [Hid,Qz]
        have HLN:Hid ((acc++List.replicate n false).length=acc.length+n):=by simp [Hid]
        clear hown4 hown5 hgr5 hG4 hrd4 HN4
        go_wp2
        go_roundg (2*(count - (acc.length+n))+(if (!false)=true then 0 else 1))
        case measure=>have h:=Hgk.out;simp only [Bool.not_true,Bool.not_false,Bool.false_eq_true,if_true,if_false,reduceIte] at h ⊢;omega
        case rel =>
         refine ⟨acc++List.replicate n false,!false,r2,rfl,?_,?_,?_,HR.out.1,HR.out.2,?_⟩
         ·rw [HLN.out];exact Nat.le_refl _
         ·rw [HLN.out];omega
         ·rw [HX.out,HLN.out];exact HO5.out
         ·intro fl q hl h
          obtain ⟨rr,m,k1,k2,k3,k4,k5,k6,k7⟩:=Qc Hleft.out hlt fl q hl h
          obtain ⟨e1,e2⟩:=Hu2.out rr m k1 k2
          subst e1 e2
          rw [HLN.out]
          exact ⟨k4,k5,k6,.inr k7⟩
       ·have hli:((acc.length:Int) == 0)=false:=by rw [beq_eq_false_iff_ne];omega
        go_upto_region 8 with go_in
        go_wp2_with fail
        refine (jX _).mono ?_
        rintro e wN ⟨rfl,rfl⟩
        go_wp2_with fail
        refine (GB false wN.heap.size 1 n _ (by omega) (World.cell?_alloc_mark ..)).mono ?_
        rintro e w4 ⟨g4,rfl,hb4,hB4⟩
        have hB4':Below wN.heap.size wN w4:=zE hB4
        have hown4:=jH hown2 hB4'
        have hrd4:=qA hrd2 hB4' (xh hrd2)
        have hG4:=jz hG2 hB4'
        have HN4:=hid (World.news_of_block hb4)
        clear hB4 hB4' hown2 hrd2 hG2 hb4 hln2
        go_wp2_with (at_builtin;refine wpList_append_own _ rfl (.tmp 37) (.tmp 41) 282 rfl w1.heap.size 4 i0 (.bool false) 1 1 Tryz.underlying282 hi hz0 hz1 hz2 rfl (by decide) _ _ _ rfl hown4 ⟨g4,0,none⟩ n n (List.replicate n (.bool false)) rfl ?c0 ?c1 ?c2 ?c3 ?c4 ?c5 ?_)
        case c0=>simp
        case c1=>intro j u hj;exact HN4.out j u (by simpa using hj)
        case c2=>intro u hu;rw [List.mem_replicate] at hu;rw [hu.2];rfl
        case c3=>unfold maxLen;omega
        case c4=>omega
        case c5=>have:=hG4.size;omega
        intro v5 w5 hown5 hgr5 _
        have HR:=hid (XF hrd4 hp1 hG4 hown4 hgr5)
        have HO5:=hid hown5
        have HX:Hid (Qz (acc++List.replicate n false)=Qz acc++List.replicate n (.bool false)):=by simp [Hid,Qz]
        have HLN:Hid ((acc++List.replicate n false).length=acc.length+n):=by simp [Hid]
        clear hown4 hown5 hgr5 hG4 hrd4 HN4
        go_wp2
        go_roundg (2*(count - (acc.length+n))+(if (!false)=true then 0 else 1))
        case measure=>have h:=Hgk.out;simp only [Bool.not_true,Bool.not_false,Bool.false_eq_true,if_true,if_false,reduceIte] at h ⊢;omega
        case rel =>
         refine ⟨acc++List.replicate n false,!false,r2,rfl,?_,?_,?_,HR.out.1,HR.out.2,?_⟩
         ·rw [HLN.out];exact Nat.le_refl _
         ·rw [HLN.out];omega
         ·rw [HX.out,HLN.out];exact HO5.out
         ·intro fl q hl h
          obtain ⟨rr,m,k1,k2,k3,k4,k5,k6,k7⟩:=Qc Hleft.out hlt fl q hl h
          obtain ⟨e1,e2⟩:=Hu2.out rr m k1 k2
          subst e1 e2
          rw [HLN.out]
          exact ⟨k4,k5,k6,.inr k7⟩
     ·have hn0i:decide ((0:Int) < (n:Int))=false:=by simp;omega
      cases nb with
      | true =>
       go_upto_region 8 with go_in
       go_wp2_with fail
       refine (qN _).mono ?_
       rintro e wN ⟨rfl,rfl⟩
       go_wp2
       refine ⟨rfl,ja Hg1.out hG2,.inl ⟨rfl,fun fl q hl h=>?_⟩⟩
       obtain ⟨rr,m,k1,k2,k3,_⟩:=Qc Hleft.out hlt fl q hl h
       obtain ⟨e1,e2⟩:=Hu2.out rr m k1 k2
       obtain ⟨f1,f2⟩:=k3 (by omega)
       cases f2
      | false =>
       by_cases hl0:acc.length=0
       ·have hli:((acc.length:Int) == 0)=true:=by simp [hl0]
        have Hl0:=hid hl0
        clear hl0
        go_upto_region 8 with go_in
        go_wp2_with fail
        refine (jX _).mono ?_
        rintro e wN ⟨rfl,rfl⟩
        go_wp2_with fail
        refine (GB false wN.heap.size 1 n _ (by omega) (World.cell?_alloc_mark ..)).mono ?_
        rintro e w4 ⟨g4,rfl,hb4,hB4⟩
        have hB4':Below wN.heap.size wN w4:=zE hB4
        have hown4:=jH hown2 hB4'
        have hrd4:=qA hrd2 hB4' (xh hrd2)
        have hG4:=jz hG2 hB4'
        have HN4:=hid (World.news_of_block hb4)
        clear hB4 hB4' hown2 hrd2 hG2 hb4 hln2
        go_wp2_with (at_builtin;refine wpList_append_own _ rfl (.tmp 37) (.tmp 41) 282 rfl w1.heap.size 4 i0 (.bool false) 1 1 Tryz.underlying282 hi hz0 hz1 hz2 rfl (by decide) _ _ _ rfl hown4 ⟨g4,0,none⟩ n n (List.replicate n (.bool false)) rfl ?c0 ?c1 ?c2 ?c3 ?c4 ?c5 ?_)
        case c0=>simp
        case c1=>intro j u hj;exact HN4.out j u (by simpa using hj)
        case c2=>intro u hu;rw [List.mem_replicate] at hu;rw [hu.2];rfl
        case c3=>unfold maxLen;omega
        case c4=>omega
        case c5=>have:=hG4.size;omega
        intro v5 w5 hown5 hgr5 _
        have HR:=hid (XF hrd4 hp1 hG4 hown4 hgr5)
        have HO5:=hid hown5
        have HX:Hid (Qz (acc++List.replicate n false)=Qz acc++List.replicate n (.bool false)):=by simp [Hid,Qz]
        have HLN:Hid ((acc++List.replicate n false).length=acc.length+n):=by simp [Hid]
        clear hown4 hown5 hgr5 hG4 hrd4 HN4
        go_wp2
        go_roundg (2*(count - (acc.length+n))+(if (!false)=true then 0 else 1))
        case measure=>have h:=Hgk.out;simp only [Bool.not_true,Bool.not_false,Bool.false_eq_true,if_true,if_false,reduceIte] at h ⊢;omega
        case rel =>
         refine ⟨acc++List.replicate n false,!false,r2,rfl,?_,?_,?_,HR.out.1,HR.out.2,?_⟩
         ·rw [HLN.out];exact Nat.le_refl _
         ·rw [HLN.out];omega
         ·rw [HX.out,HLN.out];exact HO5.out
         ·intro fl q hl h
          obtain ⟨rr,m,k1,k2,k3,k4,k5,k6,k7⟩:=Qc Hleft.out hlt fl q hl h
          obtain ⟨e1,e2⟩:=Hu2.out rr m k1 k2
          subst e1 e2
          rw [HLN.out]
          exact ⟨k4,k5,k6,.inr k7⟩
       ·have hli:((acc.length:Int) == 0)=false:=by rw [beq_eq_false_iff_ne];omega
        go_upto_region 8 with go_in
        go_wp2_with fail
        refine (qN _).mono ?_
        rintro e wN ⟨rfl,rfl⟩
        go_wp2
        refine ⟨rfl,ja Hg1.out hG2,.inl ⟨rfl,fun fl q hl h=>?_⟩⟩
        obtain ⟨rr,m,k1,k2,k3,_⟩:=Qc Hleft.out hlt fl q hl h
        obtain ⟨e1,e2⟩:=Hu2.out rr m k1 k2
        obtain ⟨f1,f2⟩:=k3 (by omega)
        rw [f1] at hl0
        exact absurd rfl hl0
   ·have hke:acc.length=count:=by omega
    have Hke:=hid hke
    have hi1:decide ((acc.length:Int) < (count:Int))=false:=by simp;omega
    have Hown:=hid hown
    have Hrd:=hid hrd
    have hln1:=hln wr
    clear hg hown hrd hke hln
    go_wp2
    go_ret
    refine ⟨ja Hg1.out Hg.out,.inr ⟨acc,r,_,by have:=Hke.out;omega,rfl,jy Hown.out Hg1.out.size,Hrd.out,fun fl q hl h=>?_⟩⟩
    obtain ⟨e1,e2,e3,_⟩:=Hleft.out fl q hl h
    rw [Hke.out,← e1,List.take_length] at e2
    subst e2
    refine ⟨rfl,?_⟩
    rw [List.drop_length] at e3
    exact e3.symm
end
section
open Go.RowKit
theorem AQ (a num:Int) (f r Bn:Nat) (w:World) (h:w.cell? ⟨Bn,0,none⟩=some (.int .u8 num)) :
  Calls Tryz.prog 251 #[.agg #[.int .u8 a,fnV f,fnV r],.pointer (some ⟨Bn,0,none⟩)] w fun e w'=>e=.returned (.bool (a == num))∧Below w.heap.size w w':=by
 have hlt:=World.block_lt_of_cell? w _ h
 go_enter Tryz.func251,Tryz.ntmps251
 go_wp2
 go_ret
 exact ⟨rfl,(Below.refl _ _).alloc (Nat.le_refl _) _⟩
def QC (num:Int):Int:=if num=0 then 0 else if num=1 then 1 else if num=2 then 2 else -1
theorem Lf (g Bn:Nat) (num:Int) (w:World) (hg:g < w.heap.size) (hw:NumW w g) (h:w.cell? ⟨Bn,0,none⟩=some (.int .u8 num)) :
  Calls Tryz.prog 250 #[.slice (some ⟨g,0,none⟩) 3 3,.func (.func 251) #[] #[.pointer (some ⟨Bn,0,none⟩)]] w fun e w'=>e=.returned (.int .i64 (QC num))∧Below w.heap.size w w':=by
 have Hw:=hid hw
 have Hn:=hid h
 have hlt:=World.block_lt_of_cell? w _ h
 clear hw h
 go_enter Tryz.func250,Tryz.ntmps250
 go_wp2
 go_loopw [8] (fun i wr=>∃ k:Nat,k≤3∧i=.int .i64 (k:Int)∧(0 < k→num≠0)∧(1 < k→num≠1)∧(2 < k→num≠2)∧Below w.heap.size w wr) (fun i _=>3 - (intOf i).toNat)
 case atStart=>exact ⟨0,by omega,rfl,fun h=>by omega,fun h=>by omega,fun h=>by omega,Below.refl _ _⟩
 case round =>
  obtain ⟨k,hk,rfl,n0,n1,n2,hB⟩:=hrel
  have hwl:=Hw.out.later hg hB
  have hnum:=(hB.cell (p:=⟨Bn,0,none⟩) hlt).trans Hn.out
  have N0:=hid n0
  have N1:=hid n1
  have N2:=hid n2
  clear n0 n1 n2
  rcases (show k=0∨k=1∨k=2∨k=3 by omega) with rfl|rfl|rfl|rfl
  ·have c0:wr.cell? ⟨g,0,none⟩=some (.int .u8 0):=jU hwl 0 rfl
   have c1:wr.cell? ⟨g,1,none⟩=some (fnV 181):=jU hwl 1 rfl
   have c2:wr.cell? ⟨g,2,none⟩=some (fnV 182):=jU hwl 2 rfl
   clear hwl
   go_wp2_with fail
   refine (AQ 0 num 181 182 Bn _ hnum).mono ?_
   rintro e w2 ⟨rfl,hb2⟩
   have hB2:=hB.trans (hb2.mono hB.size)
   clear hB hb2 c0 c1 c2 hnum
   by_cases hne:num=0
   ·have hb:((0:Int) == num)=true:=by simp [hne]
    have Hne:=hid hne
    clear hne
    go_wp2
    go_ret
    exact ⟨xe (by unfold QC;rw [if_pos Hne.out]),hB2⟩
   ·have hb:((0:Int) == num)=false:=by rw [beq_eq_false_iff_ne];exact fun h=>hne h.symm
    have Hne:=hid hne
    clear hne
    go_wp2
    go_roundw
    case rel=>exact ⟨1,by omega,by go_num,fun _=>Hne.out,fun h=>by omega,fun h=>by omega,hB2⟩
    case measure=>simp [intOf]
  ·have c0:wr.cell? ⟨g,3,none⟩=some (.int .u8 1):=jU hwl 3 rfl
   have c1:wr.cell? ⟨g,4,none⟩=some (fnV 183):=jU hwl 4 rfl
   have c2:wr.cell? ⟨g,5,none⟩=some (fnV 184):=jU hwl 5 rfl
   clear hwl
   go_wp2_with fail
   refine (AQ 1 num 183 184 Bn _ hnum).mono ?_
   rintro e w2 ⟨rfl,hb2⟩
   have hB2:=hB.trans (hb2.mono hB.size)
   clear hB hb2 c0 c1 c2 hnum
   by_cases hne:num=1
   ·have hb:((1:Int) == num)=true:=by simp [hne]
    have Hne:=hid hne
    clear hne
    go_wp2
    go_ret
    exact ⟨xe (by unfold QC;rw [if_neg (N0.out (by omega)),if_pos Hne.out]),hB2⟩
   ·have hb:((1:Int) == num)=false:=by rw [beq_eq_false_iff_ne];exact fun h=>hne h.symm
    have Hne:=hid hne
    clear hne
    go_wp2
    go_roundw
    case rel=>exact ⟨2,by omega,by go_num,fun _=>N0.out (by omega),fun _=>Hne.out,fun h=>by omega,hB2⟩
    case measure=>simp [intOf]
  ·have c0:wr.cell? ⟨g,6,none⟩=some (.int .u8 2):=jU hwl 6 rfl
   have c1:wr.cell? ⟨g,7,none⟩=some (fnV 185):=jU hwl 7 rfl
   have c2:wr.cell? ⟨g,8,none⟩=some (fnV 186):=jU hwl 8 rfl
   clear hwl
   go_wp2_with fail
   refine (AQ 2 num 185 186 Bn _ hnum).mono ?_
   rintro e w2 ⟨rfl,hb2⟩
   have hB2:=hB.trans (hb2.mono hB.size)
   clear hB hb2 c0 c1 c2 hnum
   by_cases hne:num=2
   ·have hb:((2:Int) == num)=true:=by simp [hne]
    have Hne:=hid hne
    clear hne
    go_wp2
    go_ret
    exact ⟨xe (by unfold QC;rw [if_neg (N0.out (by omega)),if_neg (N1.out (by omega)),if_pos Hne.out]),hB2⟩
   ·have hb:((2:Int) == num)=false:=by rw [beq_eq_false_iff_ne];exact fun h=>hne h.symm
    have Hne:=hid hne
    clear hne
    go_wp2
    go_roundw
    case rel=>exact ⟨3,by omega,by go_num,fun _=>N0.out (by omega),fun _=>N1.out (by omega),fun _=>Hne.out,hB2⟩
    case measure=>simp [intOf]
  ·go_wp2
   go_ret
   exact ⟨xe (by unfold QC;rw [if_neg (N0.out (by omega)),if_neg (N1.out (by omega)),if_neg (N2.out (by omega))]),hB⟩
theorem Dm (a num:Int) (f r Bn:Nat) (w:World) (h:w.cell? ⟨Bn,0,none⟩=some (.int .u8 num)) :
  Calls Tryz.prog 253 #[.agg #[.int .u8 a,fnV f,fnV r],.pointer (some ⟨Bn,0,none⟩)] w fun e w'=>e=.returned (.bool (a == num))∧Below w.heap.size w w':=by
 have hlt:=World.block_lt_of_cell? w _ h
 go_enter Tryz.func253,Tryz.ntmps253
 go_wp2
 go_ret
 exact ⟨rfl,(Below.refl _ _).alloc (Nat.le_refl _) _⟩
def QF (num:Int):Int:=if num=0 then 0 else if num=3 then 1 else if num=4 then 2 else -1
theorem Ld (g Bn:Nat) (num:Int) (w:World) (hg:g < w.heap.size) (hw:TxtW w g) (h:w.cell? ⟨Bn,0,none⟩=some (.int .u8 num)) :
  Calls Tryz.prog 252 #[.slice (some ⟨g,0,none⟩) 3 3,.func (.func 253) #[] #[.pointer (some ⟨Bn,0,none⟩)]] w fun e w'=>e=.returned (.int .i64 (QF num))∧Below w.heap.size w w':=by
 have Hw:=hid hw
 have Hn:=hid h
 have hlt:=World.block_lt_of_cell? w _ h
 clear hw h
 go_enter Tryz.func252,Tryz.ntmps252
 go_wp2
 go_loopw [8] (fun i wr=>∃ k:Nat,k≤3∧i=.int .i64 (k:Int)∧(0 < k→num≠0)∧(1 < k→num≠3)∧(2 < k→num≠4)∧Below w.heap.size w wr) (fun i _=>3 - (intOf i).toNat)
 case atStart=>exact ⟨0,by omega,rfl,fun h=>by omega,fun h=>by omega,fun h=>by omega,Below.refl _ _⟩
 case round =>
  obtain ⟨k,hk,rfl,n0,n1,n2,hB⟩:=hrel
  have hwl:=Hw.out.later hg hB
  have hnum:=(hB.cell (p:=⟨Bn,0,none⟩) hlt).trans Hn.out
  have N0:=hid n0
  have N1:=hid n1
  have N2:=hid n2
  clear n0 n1 n2
  rcases (show k=0∨k=1∨k=2∨k=3 by omega) with rfl|rfl|rfl|rfl
  ·have c0:wr.cell? ⟨g,0,none⟩=some (.int .u8 0):=jU hwl 0 rfl
   have c1:wr.cell? ⟨g,1,none⟩=some (fnV 196):=jU hwl 1 rfl
   have c2:wr.cell? ⟨g,2,none⟩=some (fnV 197):=jU hwl 2 rfl
   clear hwl
   go_wp2_with fail
   refine (Dm 0 num 196 197 Bn _ hnum).mono ?_
   rintro e w2 ⟨rfl,hb2⟩
   have hB2:=hB.trans (hb2.mono hB.size)
   clear hB hb2 c0 c1 c2 hnum
   by_cases hne:num=0
   ·have hb:((0:Int) == num)=true:=by simp [hne]
    have Hne:=hid hne
    clear hne
    go_wp2
    go_ret
    exact ⟨xe (by unfold QF;rw [if_pos Hne.out]),hB2⟩
   ·have hb:((0:Int) == num)=false:=by rw [beq_eq_false_iff_ne];exact fun h=>hne h.symm
    have Hne:=hid hne
    clear hne
    go_wp2
    go_roundw
    case rel=>exact ⟨1,by omega,by go_num,fun _=>Hne.out,fun h=>by omega,fun h=>by omega,hB2⟩
    case measure=>simp [intOf]
  ·have c0:wr.cell? ⟨g,3,none⟩=some (.int .u8 3):=jU hwl 3 rfl
   have c1:wr.cell? ⟨g,4,none⟩=some (fnV 198):=jU hwl 4 rfl
   have c2:wr.cell? ⟨g,5,none⟩=some (fnV 199):=jU hwl 5 rfl
   clear hwl
   go_wp2_with fail
   refine (Dm 3 num 198 199 Bn _ hnum).mono ?_
   rintro e w2 ⟨rfl,hb2⟩
   have hB2:=hB.trans (hb2.mono hB.size)
   clear hB hb2 c0 c1 c2 hnum
   by_cases hne:num=3
   ·have hb:((3:Int) == num)=true:=by simp [hne]
    have Hne:=hid hne
    clear hne
    go_wp2
    go_ret
    exact ⟨xe (by unfold QF;rw [if_neg (N0.out (by omega)),if_pos Hne.out]),hB2⟩
   ·have hb:((3:Int) == num)=false:=by rw [beq_eq_false_iff_ne];exact fun h=>hne h.symm
    have Hne:=hid hne
    clear hne
    go_wp2
    go_roundw
    case rel=>exact ⟨2,by omega,by go_num,fun _=>N0.out (by omega),fun _=>Hne.out,fun h=>by omega,hB2⟩
    case measure=>simp [intOf]
  ·have c0:wr.cell? ⟨g,6,none⟩=some (.int .u8 4):=jU hwl 6 rfl
   have c1:wr.cell? ⟨g,7,none⟩=some (fnV 200):=jU hwl 7 rfl
   have c2:wr.cell? ⟨g,8,none⟩=some (fnV 201):=jU hwl 8 rfl
   clear hwl
   go_wp2_with fail
   refine (Dm 4 num 200 201 Bn _ hnum).mono ?_
   rintro e w2 ⟨rfl,hb2⟩
   have hB2:=hB.trans (hb2.mono hB.size)
   clear hB hb2 c0 c1 c2 hnum
   by_cases hne:num=4
   ·have hb:((4:Int) == num)=true:=by simp [hne]
    have Hne:=hid hne
    clear hne
    go_wp2
    go_ret
    exact ⟨xe (by unfold QF;rw [if_neg (N0.out (by omega)),if_neg (N1.out (by omega)),if_pos Hne.out]),hB2⟩
   ·have hb:((4:Int) == num)=false:=by rw [beq_eq_false_iff_ne];exact fun h=>hne h.symm
    have Hne:=hid hne
    clear hne
    go_wp2
    go_roundw
    case rel=>exact ⟨3,by omega,by go_num,fun _=>N0.out (by omega),fun _=>N1.out (by omega),fun _=>Hne.out,hB2⟩
    case measure=>simp [intOf]
  ·go_wp2
   go_ret
   exact ⟨xe (by unfold QF;rw [if_neg (N0.out (by omega)),if_neg (N1.out (by omega)),if_neg (N2.out (by omega))]),hB⟩
end
section
theorem En:∀ (l:List Nat),(∀ x ∈ l,x < 18446744073709551616)→(l.flatMap uB).length≤10*l.length:=by
 intro l
 induction l with
 | nil=>intro _;simp
 | cons x l ih =>
  intro h
  have h1:=jN x (h x (by simp))
  have h2:=ih (fun y hy=>h y (List.mem_cons_of_mem _ hy))
  rw [List.flatMap_cons,List.length_append,List.length_cons]
  omega
theorem Zy {foot:Nat} {parts footer:List UInt8} {S:SheetF} (hl:∀ x ∈ jp S.cols 4 true (qx S) S.mods,x < 18446744073709551616) (h:SheetOk foot parts footer S):footer.length≤4200:=by
 have hp:=h.plan
 simp only [qU,Bool.and_eq_true,decide_eq_true_eq] at hp
 have hh:=h.heads
 simp only [jV,Bool.and_eq_true,decide_eq_true_eq] at hh
 have hr:=h.rows
 have hc:∀ c ∈ S.cols,(jT c).length≤38:=by
  intro c hc
  obtain ⟨k,hk,rfl⟩:=List.mem_iff_getElem.1 hc
  obtain ⟨a,b,c,d⟩:=QR (QK hh.1 (Nat.le_refl _) k hk).1
  exact II (NT a).2 b ⟨c,d⟩
 have h1:=Ns jT 38 S.cols hc
 have h2:=En _ hl
 have h3:=Qg h
 have hcn:jW S.rows S.plan.group.toNat≤S.rows:=Xe (by omega)
 have h4:jW S.rows S.plan.group.toNat*S.cols.length≤60*6:=Nat.mul_le_mul (by omega) hh.2.2
 have u1:=jN S.rows (by omega)
 have u2:=jN S.plan.group.toNat (by omega)
 have u3:=jN S.plan.page.toNat (by omega)
 have u4:=jN S.plan.foot.toNat (by omega)
 have u5:=jN S.cols.length (by omega)
 rw [h.footer]
 unfold qH
 simp only [List.length_append]
 omega
end
section
open Go.RowKit
theorem AR (sec non ext body:ByteArray) (w:World) (h:5002 < body.size) (hm:body.size≤maxLen) :
  Calls Tryz.prog 180 #[.string sec,.string non,.string ext,.string body] w fun e w' =>
   e=.returned (.tuple #[strB [],.bool false])∧w'=w:=by
 unfold maxLen at hm
 have i1:¬ (body.size:Int) < 2:=by omega
 have i2:(5002:Int) < (body.size:Int):=by omega
 go_enter Tryz.func180,Tryz.ntmps180
 go_wp2
 go_ret2
 exact ⟨rfl,rfl⟩
def Gc:Option (List UInt8)→Value
 | some p=>.tuple #[strB p,.bool true]
 | none=>.tuple #[strB [],.bool false]
theorem Me {sec non ext body:List UInt8} (h2:2≤body.length) (h5:body.length≤5002) (h:Zg sec non ext body=true):qo sec non ext body=some (zl sec non (Uk body)):=by
 have:=ZQ sec non ext body
 rw [h,beq_iff_eq] at this
 unfold qo
 rw [if_pos ⟨h5,h2,this⟩]
 rfl
theorem Tm {sec non ext body:List UInt8} (h:Zg sec non ext body=false):qo sec non ext body=none:=by
 have:=ZQ sec non ext body
 rw [h] at this
 unfold qo
 rw [if_neg]
 rintro ⟨_,_,h3⟩
 have h4:(Xh sec non ext (zl sec non (Uk body)) == body)=true:=by rw [beq_iff_eq];exact h3
 rw [h4] at this
 cases this
theorem ND (sec non ext body:List UInt8) (w:World) (h1:sec.length≤1000) (h2:non.length≤1000) (h3:ext.length≤5000) (hm:body.length≤maxLen) :
  Calls Tryz.prog 180 #[strB sec,strB non,strB ext,strB body] w fun e w'=>e=.returned (Gc (qo sec non ext body))∧Below w.heap.size w w':=by
 have hz:=jK body
 have hd:∀ l:List UInt8,(⟨l.toArray⟩:ByteArray).data.toList=l:=fun l=>by simp
 by_cases hlo:body.length < 2
 ·refine (IS ⟨sec.toArray⟩ ⟨non.toArray⟩ ⟨ext.toArray⟩ ⟨body.toArray⟩ w (by rw [hz];exact hlo)).mono ?_
  rintro e w' ⟨rfl,rfl⟩
  have:qo sec non ext body=none:=by unfold qo;rw [if_neg (by omega)]
  exact ⟨by rw [this];rfl,Below.refl _ _⟩
 by_cases hhi:5002 < body.length
 ·refine (AR ⟨sec.toArray⟩ ⟨non.toArray⟩ ⟨ext.toArray⟩ ⟨body.toArray⟩ w (by rw [hz];exact hhi) (by rw [hz];exact hm)).mono ?_
  rintro e w' ⟨rfl,rfl⟩
  have:qo sec non ext body=none:=by unfold qo;rw [if_neg (by omega)]
  exact ⟨by rw [this];rfl,Below.refl _ _⟩
 cases ho:Zg sec non ext body with
 | true =>
  refine (MY ⟨sec.toArray⟩ ⟨non.toArray⟩ ⟨ext.toArray⟩ ⟨body.toArray⟩ w (by rw [hz];omega) (by rw [hz];omega) (by rw [jK];exact h1) (by rw [jK];exact h2) (by rw [jK];exact h3) (by simp only [hd];exact ho)).mono ?_
  rintro e w' ⟨rfl,hb⟩
  refine ⟨?_,hb⟩
  rw [Me (by omega) (by omega) ho]
  simp only [hd,Gc]
 | false =>
  refine (Pa ⟨sec.toArray⟩ ⟨non.toArray⟩ ⟨ext.toArray⟩ ⟨body.toArray⟩ w (by rw [hz];omega) (by rw [hz];omega) (by rw [jK];exact h1) (by rw [jK];exact h2) (by rw [jK];exact h3) (by simp only [hd];exact ho)).mono ?_
  rintro e w' ⟨rfl,hb⟩
  refine ⟨?_,hb⟩
  rw [Tm ho]
  rfl
end
section
def xG (c:Nat):List SpotB→Nat
 | []=>0
 | s :: L=>(if s.c=c∧s.sort=80 then s.many else 0)+xG c L
theorem xx (c:Nat):∀ (L L2:List SpotB),xG c (L++L2)=xG c L+xG c L2:=by
 intro L
 induction L with
 | nil=>intro L2;simp [xG]
 | cons s L ih=>intro L2;simp only [List.cons_append,xG,ih];omega
theorem Im (c i:Nat) (L:List SpotB):xG c (L.take i)≤xG c L:=by
 have:=xx c (L.take i) (L.drop i)
 rw [List.take_append_drop] at this
 omega
theorem Ee (c P g start n:Nat):∀ k,k*P≤n+P→xG c (jo P g c start n k)=min (k*P) n:=by
 intro k
 induction k with
 | zero=>intro _;simp [jo,xG]
 | succ k ih =>
  intro hk
  rw [Nat.succ_mul] at hk ⊢
  rw [QP,xx,ih (by omega)]
  simp only [xG,and_self,if_true]
  unfold jv
  omega
theorem Yr (c:Nat):∀ (L:List SpotB),(∀ s ∈ L,s.c≠c)→xG c L=0:=by
 intro L
 induction L with
 | nil=>intro _;rfl
 | cons s L ih =>
  intro h
  have h1:=h s (List.mem_cons_self ..)
  simp only [xG,h1,false_and,if_false,ih (fun x hx=>h x (List.mem_cons_of_mem _ hx))]
theorem UN (R G P g c:Nat) (hP:1≤P):xG c (jh R G P g c)=jv R G g:=by
 have h1:=Yo (n:=jv R G g) hP
 unfold jh
 rw [xx,Ee _ _ _ _ _ _ h1.2]
 simp only [xG,show ¬ ((77:UInt8)=80) from by decide,and_false,if_false]
 omega
theorem Yz (R G P g c:Nat) (hP:1≤P):∀ C,xG c (ju R G P g C)=if c < C then jv R G g else 0:=by
 intro C
 induction C with
 | zero=>simp [ju,xG]
 | succ C ih =>
  have e:ju R G P g (C+1)=ju R G P g C++jh R G P g C:=by simp [ju,List.range_succ]
  rw [e,xx,ih]
  by_cases h:c=C
  ·subst h
   rw [UN _ _ _ _ _ hP,if_neg (by omega),if_pos (by omega)]
   omega
  ·rw [Yr c (jh R G P g C) (fun s hs=>by rw [KG s hs];exact fun e=>h e.symm)]
   by_cases h2:c < C
   ·rw [if_pos h2,if_pos (by omega)]
    omega
   ·rw [if_neg h2,if_neg (by omega)]
theorem Zc (R C G P n:Nat):jQ R C G P (n+1)=jQ R C G P n++ju R G P n C:=by simp [jQ,List.range_succ]
theorem VE (R C G P c:Nat) (hc:c < C) (hP:1≤P):∀ n,n*G≤R+G→xG c (jQ R C G P n)=min (n*G) R:=by
 intro n
 induction n with
 | zero=>intro _;simp [jQ,xG]
 | succ n ih =>
  intro hn
  rw [Nat.succ_mul] at hn ⊢
  rw [Zc,xx,ih (by omega),Yz _ _ _ _ _ hP,if_pos hc]
  unfold jv
  omega
theorem Ds (R C G P c:Nat) (hc:c < C) (hP:1≤P) (hG:1≤G):xG c (jC R C G P)=R:=by
 have h1:=Yo (n:=R) hG
 unfold jC
 rw [VE R C G P c hc hP _ h1.2]
 omega
theorem Aj (R C G P c:Nat) (hc:c < C) (hP:1≤P) (hG:1≤G):∀ n,n≤jW R G→∀ (i:Nat) (s:SpotB),(jQ R C G P n)[i]?=some s→s.sort=77→s.start≤xG c ((jQ R C G P n).take i):=by
 intro n
 induction n with
 | zero=>intro _ i s h;simp [jQ] at h
 | succ n ih =>
  intro hn i s h hs
  have hnG:n*G < R:=(Qr hG).1 (by omega)
  rw [Zc] at h ⊢
  by_cases hi:i < (jQ R C G P n).length
  ·rw [List.getElem?_append_left hi] at h
   rw [List.take_append_of_le_length (by omega)]
   exact ih (by omega) i s h hs
  ·rw [List.getElem?_append_right (by omega)] at h
   have hmem:=List.mem_of_getElem? h
   simp only [ju,List.mem_flatMap,List.mem_range] at hmem
   obtain ⟨c',_,hm⟩:=hmem
   have hst:s.start=n*G:=by
    simp only [jh,jo,List.mem_append,List.mem_map,List.mem_singleton] at hm
    rcases hm with ⟨p,_,rfl⟩|rfl
    ·exact absurd (show (80:UInt8)=77 from hs) (by decide)
    ·rfl
   rw [List.take_append,List.take_of_length_le (by omega),xx,VE R C G P c hc hP n (by omega)]
   omega
theorem GU (pre:List UInt8) (r:List KeyB) (kind key:Int) (c:Nat):∀ (L:List SpotB) (M:List ModF) (x y:List CellB),M.length=L.length→(∀ s ∈ L,s.sort=77∨s.sort=80)→jD pre r kind key c (some x) L M=some y→y.length=x.length+xG c L:=by
 intro L
 induction L with
 | nil=>intro M x y hl _ h;cases M<;>simp [jD] at h<;>simp [h,xG]
 | cons s L ih =>
  intro M x y hl hso h
  rcases M with _|⟨m,M⟩
  ·simp at hl
  simp only [jD] at h
  have hs:=hso s (List.mem_cons_self ..)
  have ih':=fun x'=>ih M x' y (by simpa using hl) (fun s hs=>hso s (List.mem_cons_of_mem _ hs))
  simp only [xG]
  by_cases hc:s.c=c
  ·rw [if_pos hc] at h
   cases hst:Qi pre r kind key x s m with
   | none=>rw [hst,xk] at h;cases h
   | some x' =>
    rw [hst] at h
    have:=ih' x' h
    unfold Qi at hst
    split at hst
    ·cases hst
    ·rcases hs with hs|hs
     ·rw [if_pos hs] at hst
      split at hst
      ·cases hst
       rw [if_neg (by rw [hs];rintro ⟨_,h⟩;exact absurd h (by decide))]
       omega
      ·cases hst
     ·rw [if_neg (by rw [hs];decide)] at hst
      split at hst
      ·cases hst
      ·split at hst
       ·rename_i hmany
        cases hst
        rw [if_pos ⟨hc,hs⟩]
        rw [List.length_append] at this
        omega
       ·cases hst
  ·rw [if_neg hc] at h
   have:=ih' x h
   rw [if_neg (fun h=>hc h.1)]
   omega
theorem ED (pre:List UInt8) (r:List KeyB) (kind key:Int) (c:Nat) {L:List SpotB} {M:List ModF} {i:Nat} {s:SpotB} {m:ModF} (hs:L[i]?=some s) (hm:M[i]?=some m) {cells:List CellB} (h:jD pre r kind key c (some []) (L.take i) (M.take i)=some cells) :
  jD pre r kind key c (some []) (L.take (i+1)) (M.take (i+1))=if s.c=c then Qi pre r kind key cells s m else some cells:=by
 have h1:i < L.length:=by rcases List.getElem?_eq_some_iff.1 hs with ⟨h,_⟩;exact h
 have h2:i < M.length:=by rcases List.getElem?_eq_some_iff.1 hm with ⟨h,_⟩;exact h
 rw [List.take_add_one,List.take_add_one,hs,hm,zH _ _ _ _ _ _ _ _ _ _ (by simp;omega),h]
 show jD pre r kind key c (if s.c=c then Qi pre r kind key cells s m else some cells) [] []=_
 generalize (if s.c=c then Qi pre r kind key cells s m else some cells)=x
 cases x<;>rfl
theorem XT (pre:List UInt8) (r:List KeyB) (kind key:Int) (c:Nat) {L:List SpotB} {M:List ModF} (hl:M.length=L.length) {i:Nat} (h:jD pre r kind key c (some []) (L.take i) (M.take i)=none):jD pre r kind key c (some []) L M=none:=by
 have:=zH pre r kind key c (L.take i) (M.take i) (L.drop i) (M.drop i) (some []) (by simp [hl])
 rw [List.take_append_drop,List.take_append_drop,h,xk] at this
 exact this
theorem Gj (pre:List UInt8) (r:List KeyB) (kind key:Int) {R C G P c:Nat} (hc:c < C) (hP:1≤P) (hG:1≤G) {M:List ModF} (hl:M.length=(jC R C G P).length) {i:Nat} {cells:List CellB} (h:jD pre r kind key c (some []) ((jC R C G P).take i) (M.take i)=some cells) :
  cells.length≤R∧∀ s,(jC R C G P)[i]?=some s→s.sort=77→s.start≤cells.length:=by
 have h1:=GU pre r kind key c _ _ _ _ (by simp [hl]) (fun s hs=>(ZP s (List.mem_of_mem_take hs)).symm) h
 have h2:=Im c i (jC R C G P)
 rw [Ds R C G P c hc hP hG] at h2
 simp only [List.length_nil,Nat.zero_add] at h1
 refine ⟨by omega,fun s hs hm=>?_⟩
 have:=Aj R C G P c hc hP hG (jW R G) (Nat.le_refl _) i s hs hm
 rw [h1]
 exact this
end
section
theorem AD (t:List ColB) (st:Option (List UInt8)) {L:List SpotB} {i:Nat} {s:SpotB} (h:L[i]?=some s):qI t st (L.take (i+1))=((qI t st (L.take i)).1++[(Kt (jk t s.c).key (qI t st (L.take i)).2).1],(Kt (jk t s.c).key (qI t st (L.take i)).2).2):=by
 rw [List.take_add_one,h]
 show qI t st (L.take i++[s])=_
 rw [Dc]
 rfl
theorem Co {t:List ColB} {parts rest:List UInt8} {L:List SpotB} {M:List ModF} (h:qI t (some parts) L=(M,some rest)):ModsOk t L M∧parts=jl t L M++rest∧M.length=L.length:=by
 obtain ⟨M1,h1,h2,h3⟩:=NL t L [] parts rest M h
 rw [List.nil_append] at h1
 subst h1
 exact ⟨h2,h3,qQ h2⟩
theorem Gx {t:List ColB} {L:List SpotB} {i:Nat} {s:SpotB} (h:L[i]?=some s) {M:List ModF} (hM:M.length=i) (m:ModF) :
  jp t 4 true (L.take (i+1)) (M++[m])=jp t 4 true (L.take i) M++(if qF true (L.take i)=true then [4+(jl t (L.take i) M).length] else []):=by
 have hi:i < L.length:=(List.getElem?_eq_some_iff.1 h).1
 rw [List.take_add_one,h]
 show jp t 4 true (L.take i++[s]) (M++[m])=_
 rw [Jr _ _ _ _ _ _ (by simp;omega)]
 simp [jp]
theorem IH {L:List SpotB}:∀ {k:Nat} {s:SpotB} (b:Bool),L[k]?=some s→qF b (L.take (k+1))=decide (s.sort=77):=by
 induction L with
 | nil=>intro k s b h;simp at h
 | cons x L ih =>
  intro k s b h
  rcases k with _|k
  ·simp at h
   subst h
   simp [qF]
  ·simp at h
   simp only [List.take_succ_cons,qF]
   exact ih _ h
end
end Go.Proofs.YthhpbhpfagoapaaGreat
