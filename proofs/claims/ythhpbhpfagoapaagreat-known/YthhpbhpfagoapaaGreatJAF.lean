import Derived.Test.YthhpbhpfagoapaaGreatRTk
import Derived.Test.YthhpbhpfagoapaaGreatJAG
import Derived.Test.YthhpbhpfagoapaaGreatJAL
import Derived.Test.YthhpbhpfagoapaaGreatJAZ
namespace Go.Proofs.YthhpbhpfagoapaaGreat
set_option linter.unusedVariables false
set_option linter.unusedSimpArgs false
set_option maxRecDepth 100000
set_option maxHeartbeats 16000000
open Go.RowKit
section
theorem zZ {w w':World} {g B p:Nat} (h:BoxT w g B) (hg:w.grownBy w' (some p)) (hB:B < w.heap.size) (hne:B≠p):BoxT w' g B:=by
 have k:∀ j,w'.cell? ⟨B,j,none⟩=w.cell? ⟨B,j,none⟩:=fun j=>hg.cell_far ⟨B,j,none⟩ hB (by intro h;simp at h;exact hne h)
 obtain ⟨h0,h1,h2,h3,h4,h5,h6⟩:=h
 exact ⟨(k 0).trans h0,(k 1).trans h1,(k 2).trans h2,(k 3).trans h3,(k 4).trans h4,(k 5).trans h5,(k 6).trans h6⟩
theorem CW (l:List CellB) (i:Nat) (h:i≤l.length):qF l i=zt xb (l.take i):=by
 cases i with
 | zero=>rfl
 | succ i =>
  rw [List.take_succ_eq_append_getElem (by omega),XX]
  unfold qF
  rw [if_neg (by omega)]
  exact qD l i (by omega)
theorem Mp (n:Nat) (st:CellB→CellB→List UInt8) (l:List CellB) (h:∀ i,i < l.length→xu n l i=st (qF l i) (xY l i)):∀ k,k≤l.length→jN n l k=Zl st xb (l.take k):=by
 intro k
 induction k with
 | zero=>intro _;rfl
 | succ k ih =>
  intro hk
  rw [jN,ih (by omega),List.take_succ_eq_append_getElem (by omega),Eu,h k (by omega),CW l k (by omega),qD l k (by omega)]
  simp [Zl]
theorem Xd (n:Nat) (hn:n≠3) (st:CellB→CellB→List UInt8) (l:List CellB) (h:∀ i,i < l.length→xu n l i=st (qF l i) (xY l i)):qz n l=Zl st xb l:=by
 have:=Mp n st l h l.length (Nat.le_refl _)
 rw [List.take_length] at this
 simp [qz,hn,this]
def Ia (count:Nat) (l:List CellB):Prop:=l.length=count∧∀ c ∈ l,okT c
theorem Ni (l:List CellB):qz 3 l=uB (qL l).length++(Zl XV xb (qL l)++jN 3 l l.length):=by
 have h5:qz 5 (qL l)=Zl XV xb (qL l):=Xd 5 (by decide) XV (qL l) (fun i hi=>rfl)
 have h6:jN 5 (qL l) (qL l).length=Zl XV xb (qL l):=by rw [← h5];simp [qz]
 simp only [qz,if_true,VO,h6,List.append_assoc]
def Tp (count:Nat) (rest:List UInt8) (X:List CellB) (r0:List UInt8) (acc:List CellB) (r:List UInt8):Prop :=
 ∀ l2 q,Ia count l2→rest=qz 3 l2++q→qL l2=X∧r0=jN 3 l2 l2.length++q∧l2.take acc.length=acc∧r0=jN 3 l2 acc.length++r
theorem Nb {count:Nat} {rest r0 r:List UInt8} {X acc:List CellB} (h:Tp count rest X r0 acc r) (hlt:acc.length < count) (l2:List CellB) (q:List UInt8) (hd:Ia count l2) (hr:rest=qz 3 l2++q) :
  ∃ (j:Nat) (m:List UInt8),∃ hj:j < X.length,r=uB j++m∧l2.take (acc.length+1)=acc++[⟨false,0,(X[j]).text⟩]∧r0=jN 3 l2 (acc.length+1)++m:=by
 obtain ⟨h1,h2,h3,h4⟩:=h l2 q hd hr
 have hk:acc.length < l2.length:=by rw [hd.1];exact hlt
 generalize hkk:acc.length=k at *
 subst h1
 obtain ⟨c,hc,hct⟩:=KL l2 k hk
 obtain ⟨hj,hjt⟩:=Xn (qL l2) (l2[k]).text ⟨c,hc,hct⟩
 obtain ⟨m0,hm0⟩:=VV 3 l2 (k+1) (l2.length - (k+1))
 rw [show k+1+(l2.length - (k+1))=l2.length by omega] at hm0
 have hs:jN 3 l2 (k+1)=jN 3 l2 k++uB (qb (qL l2) (l2[k]).text):=by
  rw [jN];simp only [xu,qD l2 k hk]
 refine ⟨qb (qL l2) (l2[k]).text,m0++q,hj,?_,?_,?_⟩
 ·have e1:jN 3 l2 k++r=jN 3 l2 k++(uB (qb (qL l2) (l2[k]).text)++(m0++q)):=by
   rw [← h4,h2,hm0,hs];simp only [List.append_assoc]
  exact List.append_cancel_left e1
 ·rw [List.take_succ_eq_append_getElem hk,h3,hjt]
  congr 2
  obtain ⟨o1,o2,_⟩:=hd.2 l2[k] (List.getElem_mem hk)
  generalize l2[k]=c at *
  obtain ⟨cn,ci,ct⟩:=c
  simp only at o1 o2
  subst o1 o2
  rfl
 ·rw [h2,hm0,List.append_assoc]
theorem Is (g p count:Nat) (s rest:List UInt8) (w:World) (hs:s.length≤maxLen) (hc:count≤60) (hc1:1≤count) (hp:qp w p s rest) :
  Calls Tryz.prog 199 #[txtC g,.pointer (some ⟨p,0,none⟩),.int .i64 (count:Int)] w (QS 9 Ji (Ia count) (qz 3) p s rest w):=by
 obtain ⟨i0,hi,hz0,hz1,hz2⟩:=info_parts Tryz.infoStr
 have Hs:=hid hs
 have Hp:=hid hp
 have hplt:=xh hp
 clear hs hp
 go_enter Tryz.func199,Tryz.ntmps199
 go_wp2_with fail
 obtain ⟨hb0,hs0,hc0⟩:=zx w #[.slice (some ⟨g,0,none⟩) 3 3,fnV 202,fnV 203,fnV 204,fnV 205,fnV 206,fnV 207] 225
 have Hc:Hid (BoxT _ g w.heap.size):=⟨hc0 0,hc0 1,hc0 2,hc0 3,hc0 4,hc0 5,hc0 6⟩
 have Hp0:=hid (qy Hp.out hb0 hplt)
 have Hb0:=hid hb0
 have hs1:=Nat.lt_of_lt_of_eq (Nat.lt_succ_self w.heap.size) hs0.symm
 have hplt0:=Nat.lt_of_lt_of_le hplt hb0.size
 have hpne:w.heap.size≠p:=by omega
 clear hc0 hb0 hs0
 generalize w.alloc _=w0 at *
 refine wp_region_held_drew (S:=fun w'=>w'.cell? ⟨w.heap.size,0,none⟩=some (.slice (some ⟨g,0,none⟩) 3 3)∧w'.cell? ⟨w.heap.size,1,none⟩=some (fnV 202)∧w'.cell? ⟨w.heap.size,2,none⟩=some (fnV 203)∧w'.cell? ⟨w.heap.size,3,none⟩=some (fnV 204)∧w'.cell? ⟨w.heap.size,4,none⟩=some (fnV 205)∧w'.cell? ⟨w.heap.size,5,none⟩=some (fnV 206)∧w'.cell? ⟨w.heap.size,6,none⟩=some (fnV 207)) (by kernel_rfl) Hc.out (fun hHeld=>?_)
 refine tk 0 (txtC g) ?_
 refine tk 1 (.pointer (some ⟨p,0,none⟩)) ?_
 refine tk 2 (.pointer (some ⟨p,0,none⟩)) ?_
 refine tk 3 (.int .i64 (count:Int)) ?_
 simp only [jA,jB,jC,Act.put,jD,jE,jF]
 refine rd 4 (fun K hK=>?_)
 simp only [jA,jB,jC]
 go_simp
 go_at_call 242
 refine (ZO p s rest count w0.drew Hs.out (by omega) (show qp w0.drew p s rest from Hp0.out)).mono ?_
 rintro e w1 ⟨hg1,⟨rfl,hno⟩|⟨n,r1,hn,rfl,hrd1,hu1⟩⟩
 ·refine ⟨rfl,jd (jw (jK w _) Hb0.out) (jG hg1),.inl ⟨rfl,fun l2 q hl2 h=>?_⟩⟩
  rw [Ni,List.append_assoc] at h
  exact hno _ _ (by show _≤count;rw [← hl2.1];exact Jb l2 l2.length) h
 ·have Hg1:=hid (jG hg1)
  have Hu1:=hid hu1
  have hn1:n≤count:=hn
  have Hbx1:=hid (zZ Hc.out Hg1.out hs1 hpne)
  clear hg1 hu1
  try go_wp2_with fail
  refine hK.out _ _ Hbx1.out (fun hHeld=>?_)
  clear hK K
  try simp only [jA,jB,jC,Act.put,jD,jE,jF]
  refine rd 5 (fun K hK=>?_)
  simp only [jA,jB,jC]
  go_simp
  go_at_call 197
  refine (RQ g p n s r1 w1 Hs.out (by omega) hrd1).mono ?_
  rintro e w2 ⟨hg2,⟨rfl,hno⟩|⟨X,r0,vX,hX,rfl,hownX,hrd2,hu2⟩⟩
  ·refine ⟨rfl,jd (jw (jK w _) Hb0.out) (jd Hg1.out hg2),.inl ⟨rfl,fun l2 q hl2 h=>?_⟩⟩
   rw [Ni,List.append_assoc,List.append_assoc] at h
   obtain ⟨e1,e2⟩:=Hu1.out _ _ (by show _≤count;rw [← hl2.1];exact Jb l2 l2.length) h
   exact hno (qL l2) _ ⟨e1,fun c hc=>hl2.2 c (XI l2 l2.length (Nat.le_refl _) c hc)⟩ e2.symm
  ·have HG2:=hid (jd Hg1.out hg2)
   have Hbx2:=hid (zZ Hc.out HG2.out hs1 hpne)
   have Hu2:=hid hu2
   have HX:=hid hX
   have hXl:X.length=n:=hX.1
   have Hrd2:=hid hrd2
   have hp1:=xh hrd1
   have HL0:Hid (Tp count rest X r0 [] r0):=by
    intro l2 q hl2 h
    rw [Ni,List.append_assoc,List.append_assoc] at h
    obtain ⟨e1,e2⟩:=Hu1.out _ _ (by show _≤count;rw [← hl2.1];exact Jb l2 l2.length) h
    obtain ⟨e3,e4⟩:=Hu2.out (qL l2) _ ⟨e1,fun c hc=>hl2.2 c (XI l2 l2.length (Nat.le_refl _) c hc)⟩ e2.symm
    exact ⟨e3,e4.symm,rfl,rfl⟩
   clear hg2 hu2 hX hrd2
   try go_wp2_with fail
   refine hK.out _ _ Hbx2.out (fun hHeld=>?_)
   clear hK K
   try simp only [jA,jB,jC,Act.put,jD,jE,jF]
   refine rd 6 (fun K hK=>?_)
   simp only [jA,jB,jC]
   go_simp
   try go_wp2_with fail
   refine hK.out _ _ Hbx2.out (fun hHeld=>?_)
   clear hK K
   try simp only [jA,jB,jC,Act.put,jD,jE,jF]
   refine wpAnyH_done (by kernel_rfl) ?_ _
   clear hHeld
   by_cases hX0:X=[]
   ·have hXz:X.length=0:=by rw [hX0];rfl
    have HX0:=hid hX0
    rw [hXz] at hownX
    have hln:=Ei hownX w2
    clear hX0 hXz hXl
    go_wp2_with fail
    refine (qK _).mono ?_
    rintro e w3 ⟨rfl,rfl⟩
    go_wp2
    refine ⟨rfl,jd (jw (jK w _) Hb0.out) HG2.out,.inl ⟨rfl,fun l2 q hl2 h=>?_⟩⟩
    obtain ⟨e1,_⟩:=HL0.out l2 q hl2 h
    obtain ⟨c,hc2,_⟩:=KL l2 0 (by rw [hl2.1];omega)
    rw [e1,HX0.out] at hc2
    cases hc2
   ·have hXp:=List.length_pos_iff.2 hX0
    have hXi:(0:Int) < (X.length:Int):=by omega
    have hX60:X.length≤60:=by omega
    have hbX:∀ b cap,vX=.slice (some ⟨b,0,none⟩) X.length cap→w1.heap.size≤b:=by
     intro b cap hv
     exact (hownX.lt b (by rw [hv];rfl)).1
    obtain ⟨bX,capX,rfl,hlie⟩:=Vg hownX hX0
    have hbX1:=hbX bX capX rfl
    have Hlie:=hid hlie
    have hbX2:=hlie.lt
    have hbXp:bX≠p:=by omega
    have hp2:=xh Hrd2.out
    have hsubX:IntKind.i64.wrap ((X.length:Int) - 1)=((X.length - 1:Nat):Int):=by rw [IntKind.wrap_i64];omega
    clear hownX hbX hlie hX0 hXl
    go_wp2_with fail
    refine (jW _).mono ?_
    rintro e w3 ⟨rfl,rfl⟩
    go_wp2_with fail
    obtain ⟨W3,rfl⟩:∃ W3,W3=w3:=⟨_,rfl⟩
    go_loopw [8,20] (fun v i wr=>∃ (acc:List CellB) (r:List UInt8),acc.length≤count∧i=.int .i64 (acc.length:Int)∧(∀ c ∈ acc,okT c)∧wr.ownsRow W3.heap.size 9 1 v acc.length (Ji acc)∧qp wr p s r∧W3.grownBy wr (some p)∧Tp count rest X r0 acc r)
     (fun _ i _=>count - (intOf i).toNat)
    case atStart=>exact ⟨[],r0,Nat.zero_le _,rfl,(fun c h=>zy h),World.ownsRow_nil _ _ _ _,Hrd2.out,jK _ _,HL0.out⟩
    case round =>
     obtain ⟨acc,r,hac,rfl,hok,hown,hrd,hg,hleft⟩:=hrel
     have Hok:=hid hok
     have Hleft:=hid hleft
     have Hg:=hid hg
     clear hok hleft
     by_cases hlt:acc.length < count
     ·have hi1:(acc.length:Int) < (count:Int):=by omega
      go_wp2_with fail
      refine (KH p s r _ (X.length - 1) _ (by omega) Hs.out (by omega) hrd).mono ?_
      rintro e w4 ⟨hg4,⟨rfl,hno⟩|⟨j,r4,hj,rfl,hrd4,hu4⟩⟩
      ·go_wp2
       refine ⟨rfl,jd (jw (jK w _) Hb0.out) (jd HG2.out (jd Hg.out hg4)),.inl ⟨rfl,fun l2 q hl2 h=>?_⟩⟩
       obtain ⟨jj,m,hjj,k1,_⟩:=Nb Hleft.out hlt l2 q hl2 h
       exact hno jj m (by show _≤_;omega) k1
      ·have hj1:j≤X.length - 1:=hj
       have hjX:j < X.length:=by omega
       have hji:(j:Int) < (X.length:Int):=by omega
       have Hu4:=hid hu4
       have hown4:=zw hown hp2 hg4
       have hG4:=jd Hg.out hg4
       have hcell:=(hG4.cell_far ⟨bX,j,none⟩ hbX2 (by intro h;simp at h;exact hbXp h)).trans (Hlie.out.cell j hjX)
       have hoX:=HX.out.2 X[j] (List.getElem_mem hjX)
       have HoX:=hid hoX
       clear hown hrd hu4 hg4 hg hoX
       generalize hx:(X[j]).text=x at *
       have Hx:=hid hx
       clear hx
       go_wp2_with (at_builtin;refine wpList_append_own _ rfl (.tmp 22) (.tmp 31) 71 rfl W3.heap.size 9 i0 (.string ⟨#[]⟩) 1 16 Tryz.underlying71 hi hz0 hz1 hz2 rfl (by decide) _ _ _ rfl (hown4.alloc _) ⟨_,0,none⟩ 1 1 [strB x] rfl rfl ?c1 ?c2 ?c3 ?c4 ?c5 ?_)
       case c1=>exact qx w4 #[strB x] 9
       case c2=>intro u hu;simp at hu;subst hu;rfl
       case c3=>unfold maxLen;omega
       case c4=>omega
       case c5=>have:=hG4.size;simp;omega
       intro v5 w5 hown5 hgr5 _
       have HR:=hid (Xk hrd4 hp2 hG4 hown4 hgr5)
       have HO5:=hid hown5
       clear hown4 hown5 hgr5 hG4 hrd4 hcell
       go_wp2
       go_roundw
       case rel =>
        refine ⟨acc++[⟨false,0,x⟩],r4,by simp;omega,by simp,?_,?_,HR.out.1,HR.out.2,?_⟩
        ·intro c hc
         rcases List.mem_append.1 hc with h|h
         ·exact Hok.out c h
         ·simp only [List.mem_cons,List.not_mem_nil,or_false] at h
          subst h
          exact ⟨rfl,rfl,by rw [← Hx.out];exact HoX.out.2.2⟩
        ·rw [show (acc++[(⟨false,0,x⟩:CellB)]).length=acc.length+1 by simp,show Ji (acc++[⟨false,0,x⟩])=Ji acc++[strB x] by simp [Ji,xT,Xv]]
         exact HO5.out
        ·intro l2 q hl2 h
         obtain ⟨jj,m,hjj,k1,k2,k3⟩:=Nb Hleft.out hlt l2 q hl2 h
         obtain ⟨e1,e2⟩:=Hu4.out jj m (by show _≤_;omega) k1
         subst e1 e2
         obtain ⟨f1,f2,_⟩:=Hleft.out l2 q hl2 h
         rw [show (acc++[(⟨false,0,x⟩:CellB)]).length=acc.length+1 by simp]
         exact ⟨f1,f2,by rw [k2,Hx.out],k3⟩
       case measure=>simp [intOf];omega
     ·have hke:acc.length=count:=by omega
      have Hke:=hid hke
      have Hown:=hid hown
      have Hrd:=hid hrd
      have hi1:decide ((acc.length:Int) < (count:Int))=false:=by simp;omega
      clear hg hown hrd hke
      go_wp2
      go_ret
      refine ⟨jd (jw (jK w _) Hb0.out) (jd HG2.out Hg.out),.inr ⟨acc,r,_,⟨Hke.out,Hok.out⟩,rfl,jI Hown.out (Nat.le_trans Hb0.out.size HG2.out.size),Hrd.out,fun l2 q hl2 h=>?_⟩⟩
      obtain ⟨e1,e2,e3,e4⟩:=Hleft.out l2 q hl2 h
      rw [Hke.out,← hl2.1,List.take_length] at e3
      subst e3
      refine ⟨rfl,?_⟩
      exact List.append_cancel_left (e2.symm.trans e4)
end
section
theorem Pr (n:Nat):qn 0 n=false:=by
 have h:∀ x:Int,bits .and .i64 0 x=0:=by
  intro x
  show IntKind.i64.wrap ((BitVec.ofInt 64 0 &&& BitVec.ofInt 64 x).toNat:Nat)=0
  simp
  decide
 unfold qn
 rw [h]
 rfl
theorem JG (c without:Int):xG (jL c without)=true∧(∀ n:Int,1≤n→n≤5→js (jL c without) n=!qn without n.toNat)∧(∀ n:Int,1≤n→n≤5→qn without n.toNat=false→jl (jL c without) n=qZ c n.toNat)∧(jL c without).length≤5∧∀ x ∈ jL c without,DP x:=by
 have e:jL c without=((((if qn without 1=true then [] else [(⟨1,qZ c 1⟩:KeyB)])++(if qn without 2=true then [] else [⟨2,qZ c 2⟩]))++(if qn without 3=true then [] else [⟨3,qZ c 3⟩]))++(if qn without 4=true then [] else [⟨4,qZ c 4⟩]))++(if qn without 5=true then [] else [⟨5,qZ c 5⟩]):=by
  simp only [jL,Jj,List.map_append,List.nil_append]
  cases qn without 1<;>cases qn without 2<;>cases qn without 3<;>cases qn without 4<;>cases qn without 5<;>simp
 have l:=fun n=>XB c n
 rw [e]
 refine ⟨?_,?_,?_,?_,?_⟩
 ·cases qn without 1<;>cases qn without 2<;>cases qn without 3<;>cases qn without 4<;>cases qn without 5<;>simp [xG,XE,Qn,js,l]
 ·intro n h1 h5
  have:n=1∨n=2∨n=3∨n=4∨n=5:=by omega
  rcases this with rfl|rfl|rfl|rfl|rfl
  ·show _=!qn without 1
   cases qn without 1<;>cases qn without 2<;>cases qn without 3<;>cases qn without 4<;>cases qn without 5<;>simp [js]
  ·show _=!qn without 2
   cases qn without 1<;>cases qn without 2<;>cases qn without 3<;>cases qn without 4<;>cases qn without 5<;>simp [js]
  ·show _=!qn without 3
   cases qn without 1<;>cases qn without 2<;>cases qn without 3<;>cases qn without 4<;>cases qn without 5<;>simp [js]
  ·show _=!qn without 4
   cases qn without 1<;>cases qn without 2<;>cases qn without 3<;>cases qn without 4<;>cases qn without 5<;>simp [js]
  ·show _=!qn without 5
   cases qn without 1<;>cases qn without 2<;>cases qn without 3<;>cases qn without 4<;>cases qn without 5<;>simp [js]
 ·intro n h1 h5 ho
  have:n=1∨n=2∨n=3∨n=4∨n=5:=by omega
  rcases this with rfl|rfl|rfl|rfl|rfl
  ·have ho':qn without 1=false:=ho
   show _=qZ c 1
   rw [ho']
   cases qn without 2<;>cases qn without 3<;>cases qn without 4<;>cases qn without 5<;>simp [jl,Ka]
  ·have ho':qn without 2=false:=ho
   show _=qZ c 2
   rw [ho']
   cases qn without 1<;>cases qn without 3<;>cases qn without 4<;>cases qn without 5<;>simp [jl,Ka]
  ·have ho':qn without 3=false:=ho
   show _=qZ c 3
   rw [ho']
   cases qn without 1<;>cases qn without 2<;>cases qn without 4<;>cases qn without 5<;>simp [jl,Ka]
  ·have ho':qn without 4=false:=ho
   show _=qZ c 4
   rw [ho']
   cases qn without 1<;>cases qn without 2<;>cases qn without 3<;>cases qn without 5<;>simp [jl,Ka]
  ·have ho':qn without 5=false:=ho
   show _=qZ c 5
   rw [ho']
   cases qn without 1<;>cases qn without 2<;>cases qn without 3<;>cases qn without 4<;>simp [jl,Ka]
 ·cases qn without 1<;>cases qn without 2<;>cases qn without 3<;>cases qn without 4<;>cases qn without 5<;>simp
 ·intro x hx
  have hx2:x=⟨1,qZ c 1⟩∨x=⟨2,qZ c 2⟩∨x=⟨3,qZ c 3⟩∨x=⟨4,qZ c 4⟩∨x=⟨5,qZ c 5⟩:=by
   simp only [List.mem_append] at hx
   rcases hx with (((hx|hx)|hx)|hx)|hx<;>split at hx<;>simp at hx<;>simp [hx]
  rcases hx2 with rfl|rfl|rfl|rfl|rfl<;>exact ⟨by rw [l];decide,by dsimp only;omega,by dsimp only;omega⟩
theorem RB (c without:Int) {n:Int} (h1:1≤n) (h5:n≤5) (h:js (jL c without) n=true):jl (jL c without) n=jl (jL c 0) n:=by
 have ho:qn without n.toNat=false:=by
  have:=(JG c without).2.1 n h1 h5
  rw [h] at this
  cases hq:qn without n.toNat with
  | false=>rfl
  | true=>rw [hq] at this;cases this
 rw [(JG c without).2.2.1 n h1 h5 ho,(JG c 0).2.2.1 n h1 h5 (Pr _)]
end
end Go.Proofs.YthhpbhpfagoapaaGreat
