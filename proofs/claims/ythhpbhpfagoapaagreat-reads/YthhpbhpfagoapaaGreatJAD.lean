import Derived.Test.YthhpbhpfagoapaaGreatJAA
import Derived.Test.YthhpbhpfagoapaaGreatRTk
import Derived.Test.YthhpbhpfagoapaaGreatJAE
import Derived.Test.YthhpbhpfagoapaaGreatJAQ
import Derived.Laws.CopyOwn
import Derived.OwnWalk
import Derived.Deep.QuietTactic
import Derived.BigQuiet
import Derived.WalkSmall
import Derived.Deep.RegionWith
namespace Go.Proofs.YthhpbhpfagoapaaGreat
set_option linter.unusedVariables false
set_option linter.unusedSimpArgs false
set_option maxRecDepth 100000
set_option maxHeartbeats 16000000
open Go.RowKit
section
theorem JM {w w':World} {g B p:Nat} (h:BoxT w g B) (hg:w.grownBy w' (some p)) (hB:B < w.heap.size) (hne:B≠p):BoxT w' g B:=by
 have k:∀ j,w'.cell? ⟨B,j,none⟩=w.cell? ⟨B,j,none⟩:=fun j=>hg.cell_far ⟨B,j,none⟩ hB (by intro h;simp at h;exact hne h)
 obtain ⟨h0,h1,h2,h3,h4,h5,h6⟩:=h
 exact ⟨(k 0).trans h0,(k 1).trans h1,(k 2).trans h2,(k 3).trans h3,(k 4).trans h4,(k 5).trans h5,(k 6).trans h6⟩
theorem Ta (l:List CellB) (i:Nat) (h:i≤l.length):jX l i=zY qG (l.take i):=by
 cases i with
 | zero=>rfl
 | succ i =>
  rw [ax (by omega),Zo]
  unfold jX
  rw [aj (by omega)]
  exact qg l i (by omega)
theorem MZ (n:Nat) (st:CellB→CellB→List UInt8) (l:List CellB) (h:∀ i,i < l.length→qN n l i=st (jX l i) (xX l i)):∀ k,k≤l.length→js n l k=Zz st qG (l.take k):=by
 intro k
 induction k with
 | zero=>intro _;rfl
 | succ k ih =>
  intro hk
  rw [js,ih (by omega),ax (by omega),IM,h k (by omega),Ta l k (by omega),qg l k (by omega)]
  simp [Zz]
theorem Xx (n:Nat) (hn:n≠3) (st:CellB→CellB→List UInt8) (l:List CellB) (h:∀ i,i < l.length→qN n l i=st (jX l i) (xX l i)):qy n l=Zz st qG l:=by
 have:=MZ n st l h l.length (ae _)
 rw [aF] at this
 simp [qy,hn,this]
def IZ (count:Nat) (l:List CellB):Prop:=l.length=count∧∀ c ∈ l,okT c
theorem NR (l:List CellB):qy 3 l=uB (qi l).length++(Zz Zm qG (qi l)++js 3 l l.length):=by
 have h5:qy 5 (qi l)=Zz Zm qG (qi l):=Xx 5 (by decide) Zm (qi l) (fun i hi=>rfl)
 have h6:js 5 (qi l) (qi l).length=Zz Zm qG (qi l):=by rw [← h5];simp [qy]
 simp only [qy,bG,GQ,h6,af]
def TO (count:Nat) (rest:List UInt8) (X:List CellB) (r0:List UInt8) (acc:List CellB) (r:List UInt8):Prop :=
 ∀ l2 q,IZ count l2→rest=qy 3 l2++q→qi l2=X∧r0=js 3 l2 l2.length++q∧l2.take acc.length=acc∧r0=js 3 l2 acc.length++r
theorem NW {count:Nat} {rest r0 r:List UInt8} {X acc:List CellB} (h:TO count rest X r0 acc r) (hlt:acc.length < count) (l2:List CellB) (q:List UInt8) (hd:IZ count l2) (hr:rest=qy 3 l2++q) :
  ∃ (j:Nat) (m:List UInt8),∃ hj:j < X.length,r=uB j++m∧l2.take (acc.length+1)=acc++[⟨false,0,(X[j]).text⟩]∧r0=js 3 l2 (acc.length+1)++m:=by
 obtain ⟨h1,h2,h3,h4⟩:=h l2 q hd hr
 have hk:acc.length < l2.length:=by rw [hd.1];exact hlt
 generalize hkk:acc.length=k at *
 subst h1
 obtain ⟨c,hc,hct⟩:=ZO l2 k hk
 obtain ⟨hj,hjt⟩:=QT (qi l2) (l2[k]).text ⟨c,hc,hct⟩
 obtain ⟨m0,hm0⟩:=Gt 3 l2 (k+1) (l2.length - (k+1))
 rw [show k+1+(l2.length - (k+1))=l2.length by omega] at hm0
 have hs:js 3 l2 (k+1)=js 3 l2 k++uB (jV (qi l2) (l2[k]).text):=by
  rw [js];simp only [qN,qg l2 k hk]
 refine ⟨jV (qi l2) (l2[k]).text,m0++q,hj,?_,?_,?_⟩
 ·have e1:js 3 l2 k++r=js 3 l2 k++(uB (jV (qi l2) (l2[k]).text)++(m0++q)):=by
   rw [← h4,h2,hm0,hs];simp only [af]
  exact cE e1
 ·rw [ax hk,h3,hjt]
  congr 2
  obtain ⟨o1,o2,_⟩:=hd.2 l2[k] (al hk)
  generalize l2[k]=c at *
  obtain ⟨cn,ci,ct⟩:=c
  simp only at o1 o2
  subst o1 o2
  rfl
 ·rw [h2,hm0,af]
theorem EY (g p count:Nat) (s rest:List UInt8) (w:World) (hs:s.length≤maxLen) (hc:count≤60) (hc1:1≤count) (hp:qz w p s rest) :
  Calls Tryz.prog 199 #[txtC g,.pointer (some ⟨p,0,none⟩),.int .i64 (count:Int)] w (Xp 9 JI (IZ count) (qy 3) p s rest w):=by
 obtain ⟨i0,hi,hz0,hz1,hz2⟩:=info_parts Tryz.infoStr
 have Hs:=hid hs
 have Hp:=hid hp
 have hplt:=xp hp
 clear hs hp
 go_enter Tryz.func199,Tryz.ntmps199
 go_wp2_with fail
 obtain ⟨hb0,hs0,hc0⟩:=Jd w #[.slice (some ⟨g,0,none⟩) 3 3,fnV 202,fnV 203,fnV 204,fnV 205,fnV 206,fnV 207] 225
 have Hc:Hid (BoxT _ g w.heap.size):=⟨hc0 0,hc0 1,hc0 2,hc0 3,hc0 4,hc0 5,hc0 6⟩
 have Hp0:=hid (qK Hp.out hb0 hplt)
 have Hb0:=hid hb0
 have hs1:=aI (aL w.heap.size) hs0.symm
 have hplt0:=aa hplt hb0.size
 have hpne:w.heap.size≠p:=by omega
 clear hc0 hb0 hs0
 generalize w.alloc _=w0 at *
 refine wp_region_held_drew (S:=fun w'=>w'.cell? ⟨w.heap.size,0,none⟩=some (.slice (some ⟨g,0,none⟩) 3 3)∧w'.cell? ⟨w.heap.size,1,none⟩=some (fnV 202)∧w'.cell? ⟨w.heap.size,2,none⟩=some (fnV 203)∧w'.cell? ⟨w.heap.size,3,none⟩=some (fnV 204)∧w'.cell? ⟨w.heap.size,4,none⟩=some (fnV 205)∧w'.cell? ⟨w.heap.size,5,none⟩=some (fnV 206)∧w'.cell? ⟨w.heap.size,6,none⟩=some (fnV 207)) (by kernel_rfl) Hc.out (fun hHeld=>?_)
 refine tk 0 (txtC g) ?_
 refine tk 1 (.pointer (some ⟨p,0,none⟩)) ?_
 refine tk 2 (.pointer (some ⟨p,0,none⟩)) ?_
 refine tk 3 (.int .i64 (count:Int)) ?_
 simp only [jA,jB,jC,Act.put,jD,jE,jF]
 refine rd 4 (fun K hK=>?_)
 simp only [jA,jB,jC]
 go_simp
 go_at_call 242
 refine (Kd p s rest count w0.drew Hs.out (by omega) (show qz w0.drew p s rest from Hp0.out)).mono ?_
 rintro e w1 ⟨hg1,⟨rfl,hno⟩|⟨n,r1,hn,rfl,hrd1,hu1⟩⟩
 ·refine ⟨rfl,ja (jH (jS w _) Hb0.out) (jz hg1),.inl ⟨rfl,fun l2 q hl2 h=>?_⟩⟩
  rw [NR,af] at h
  exact hno _ _ (by show _≤count;rw [← hl2.1];exact zA l2 l2.length) h
 ·have Hg1:=hid (jz hg1)
  have Hu1:=hid hu1
  have hn1:n≤count:=hn
  have Hbx1:=hid (JM Hc.out Hg1.out hs1 hpne)
  clear hg1 hu1
  try go_wp2_with fail
  refine hK.out _ _ Hbx1.out (fun hHeld=>?_)
  clear hK K
  try simp only [jA,jB,jC,Act.put,jD,jE,jF]
  refine rd 5 (fun K hK=>?_)
  simp only [jA,jB,jC]
  go_simp
  go_at_call 197
  refine (Yx g p n s r1 w1 Hs.out (by omega) hrd1).mono ?_
  rintro e w2 ⟨hg2,⟨rfl,hno⟩|⟨X,r0,vX,hX,rfl,hownX,hrd2,hu2⟩⟩
  ·refine ⟨rfl,ja (jH (jS w _) Hb0.out) (ja Hg1.out hg2),.inl ⟨rfl,fun l2 q hl2 h=>?_⟩⟩
   rw [NR,af,af] at h
   obtain ⟨e1,e2⟩:=Hu1.out _ _ (by show _≤count;rw [← hl2.1];exact zA l2 l2.length) h
   exact hno (qi l2) _ ⟨e1,fun c hc=>hl2.2 c (Ql l2 l2.length (ae _) c hc)⟩ e2.symm
  ·have HG2:=hid (ja Hg1.out hg2)
   have Hbx2:=hid (JM Hc.out HG2.out hs1 hpne)
   have Hu2:=hid hu2
   have HX:=hid hX
   have hXl:X.length=n:=hX.1
   have Hrd2:=hid hrd2
   have hp1:=xp hrd1
   have HL0:Hid (TO count rest X r0 [] r0):=by
    intro l2 q hl2 h
    rw [NR,af,af] at h
    obtain ⟨e1,e2⟩:=Hu1.out _ _ (by show _≤count;rw [← hl2.1];exact zA l2 l2.length) h
    obtain ⟨e3,e4⟩:=Hu2.out (qi l2) _ ⟨e1,fun c hc=>hl2.2 c (Ql l2 l2.length (ae _) c hc)⟩ e2.symm
    exact ⟨e3,e4.symm,rfl,rfl⟩
   clear hg2 hu2 hX hrd2
   try go_wp2_with fail
   refine hK.out _ _ Hbx2.out (fun hHeld=>?_)
   clear hK K
   try simp only [jA,jB,jC,Act.put,jD,jE,jF]
   refine rd 6 (fun K hK=>?_)
   simp only [jA,jB,jC]
   go_simp
   try go_wp2_with fail
   refine hK.out _ _ Hbx2.out (fun hHeld=>?_)
   clear hK K
   try simp only [jA,jB,jC,Act.put,jD,jE,jF]
   refine wpAnyH_done (by kernel_rfl) ?_ _
   clear hHeld
   by_cases hX0:X=[]
   ·have hXz:X.length=0:=by rw [hX0];rfl
    have HX0:=hid hX0
    rw [hXz] at hownX
    have hln:=El hownX w2
    clear hX0 hXz hXl
    go_wp2_with fail
    refine (qU _).mono ?_
    rintro e w3 ⟨rfl,rfl⟩
    go_wp2
    refine ⟨rfl,ja (jH (jS w _) Hb0.out) HG2.out,.inl ⟨rfl,fun l2 q hl2 h=>?_⟩⟩
    obtain ⟨e1,_⟩:=HL0.out l2 q hl2 h
    obtain ⟨c,hc2,_⟩:=ZO l2 0 (by rw [hl2.1];omega)
    rw [e1,HX0.out] at hc2
    cases hc2
   ·have hXp:=b9.2 hX0
    have hXi:(0:Int) < (X.length:Int):=by omega
    have hX60:X.length≤60:=by omega
    have hbX:∀ b cap,vX=.slice (some ⟨b,0,none⟩) X.length cap→w1.heap.size≤b:=by
     intro b cap hv
     exact (hownX.lt b (by rw [hv];rfl)).1
    obtain ⟨bX,capX,rfl,hlie⟩:=Gf hownX hX0
    have hbX1:=hbX bX capX rfl
    have Hlie:=hid hlie
    have hbX2:=hlie.lt
    have hbXp:bX≠p:=by omega
    have hp2:=xp Hrd2.out
    have hsubX:IntKind.i64.wrap ((X.length:Int) - 1)=((X.length - 1:Nat):Int):=by rw [IntKind.wrap_i64];omega
    clear hownX hbX hlie hX0 hXl
    go_wp2_with fail
    refine (qd _).mono ?_
    rintro e w3 ⟨rfl,rfl⟩
    go_wp2_with fail
    obtain ⟨W3,rfl⟩:∃ W3,W3=w3:=⟨_,rfl⟩
    go_loopw [8,20] (fun v i wr=>∃ (acc:List CellB) (r:List UInt8),acc.length≤count∧i=.int .i64 (acc.length:Int)∧(∀ c ∈ acc,okT c)∧wr.ownsRow W3.heap.size 9 1 v acc.length (JI acc)∧qz wr p s r∧W3.grownBy wr (some p)∧TO count rest X r0 acc r)
     (fun _ i _=>count - (intOf i).toNat)
    case atStart=>exact ⟨[],r0,ah _,rfl,(fun c h=>Jf h),World.ownsRow_nil _ _ _ _,Hrd2.out,jS _ _,HL0.out⟩
    case round =>
     obtain ⟨acc,r,hac,rfl,hok,hown,hrd,hg,hleft⟩:=hrel
     have Hok:=hid hok
     have Hleft:=hid hleft
     have Hg:=hid hg
     clear hok hleft
     by_cases hlt:acc.length < count
     ·have hi1:(acc.length:Int) < (count:Int):=by omega
      go_wp2_with fail
      refine (Ui p s r _ (X.length - 1) _ (by omega) Hs.out (by omega) hrd).mono ?_
      rintro e w4 ⟨hg4,⟨rfl,hno⟩|⟨j,r4,hj,rfl,hrd4,hu4⟩⟩
      ·go_wp2
       refine ⟨rfl,ja (jH (jS w _) Hb0.out) (ja HG2.out (ja Hg.out hg4)),.inl ⟨rfl,fun l2 q hl2 h=>?_⟩⟩
       obtain ⟨jj,m,hjj,k1,_⟩:=NW Hleft.out hlt l2 q hl2 h
       exact hno jj m (by show _≤_;omega) k1
      ·have hj1:j≤X.length - 1:=hj
       have hjX:j < X.length:=by omega
       have hji:(j:Int) < (X.length:Int):=by omega
       have Hu4:=hid hu4
       have hown4:=qZ hown hp2 hg4
       have hG4:=ja Hg.out hg4
       have hcell:=(hG4.cell_far ⟨bX,j,none⟩ hbX2 (by intro h;simp at h;exact hbXp h)).trans (Hlie.out.cell j hjX)
       have hoX:=HX.out.2 X[j] (al hjX)
       have HoX:=hid hoX
       clear hown hrd hu4 hg4 hg hoX
       generalize hx:(X[j]).text=x at *
       have Hx:=hid hx
       clear hx
       go_wp2_with (at_builtin;refine wpList_append_own _ rfl (.tmp 22) (.tmp 31) 71 rfl W3.heap.size 9 i0 (.string ⟨#[]⟩) 1 16 Tryz.underlying71 hi hz0 hz1 hz2 rfl (by decide) _ _ _ rfl (hown4.alloc _) ⟨_,0,none⟩ 1 1 [strB x] rfl rfl ?c1 ?c2 ?c3 ?c4 ?c5 ?_)
       case c1=>exact qq w4 #[strB x] 9
       case c2=>intro u hu;simp at hu;subst hu;rfl
       case c3=>unfold maxLen;omega
       case c4=>omega
       case c5=>have:=hG4.size;simp;omega
       intro v5 w5 hown5 hgr5 _
       have HR:=hid (XG hrd4 hp2 hG4 hown4 hgr5)
       have HO5:=hid hown5
       clear hown4 hown5 hgr5 hG4 hrd4 hcell
       go_wp2
       go_roundw
       case rel =>
        refine ⟨acc++[⟨false,0,x⟩],r4,by simp;omega,by simp,?_,?_,HR.out.1,HR.out.2,?_⟩
        ·intro c hc
         rcases aM.1 hc with h|h
         ·exact Hok.out c h
         ·simp only [ba,bs,cM] at h
          subst h
          exact ⟨rfl,rfl,by rw [← Hx.out];exact HoX.out.2.2⟩
        ·rw [show (acc++[(⟨false,0,x⟩:CellB)]).length=acc.length+1 by simp,show JI (acc++[⟨false,0,x⟩])=JI acc++[strB x] by simp [JI,zJ,XV]]
         exact HO5.out
        ·intro l2 q hl2 h
         obtain ⟨jj,m,hjj,k1,k2,k3⟩:=NW Hleft.out hlt l2 q hl2 h
         obtain ⟨e1,e2⟩:=Hu4.out jj m (by show _≤_;omega) k1
         subst e1 e2
         obtain ⟨f1,f2,_⟩:=Hleft.out l2 q hl2 h
         rw [show (acc++[(⟨false,0,x⟩:CellB)]).length=acc.length+1 by simp]
         exact ⟨f1,f2,by rw [k2,Hx.out],k3⟩
       case measure=>simp [intOf];omega
     ·have hke:acc.length=count:=by omega
      have Hke:=hid hke
      have Hown:=hid hown
      have Hrd:=hid hrd
      have hi1:decide ((acc.length:Int) < (count:Int))=false:=by simp;omega
      clear hg hown hrd hke
      go_wp2
      go_ret
      refine ⟨ja (jH (jS w _) Hb0.out) (ja HG2.out Hg.out),.inr ⟨acc,r,_,⟨Hke.out,Hok.out⟩,rfl,jw Hown.out (ar Hb0.out.size HG2.out.size),Hrd.out,fun l2 q hl2 h=>?_⟩⟩
      obtain ⟨e1,e2,e3,e4⟩:=Hleft.out l2 q hl2 h
      rw [Hke.out,← hl2.1,aF] at e3
      subst e3
      refine ⟨rfl,?_⟩
      exact cE (e2.symm.trans e4)
end
section
def Xu (b:Bool):CellB:=⟨b,0,[]⟩
def UV (fl:List Bool):List UInt8:=uB fl.length++qV false (fl.map Xu)
theorem Mc (l:List CellB):∀ (b:Bool) (n:Nat),ZF b n l=ZF b n ((l.map (·.null)).map Xu):=by
 induction l with
 | nil=>intro b n;rfl
 | cons c l ih =>
  intro b n
  simp only [cK,ZF,Xu]
  rw [ih,ih]
theorem Pd (l:List CellB):zC l=UV (l.map (·.null)):=by
 unfold zC UV qV
 rw [ch]
 congr 1
 cases l with
 | nil=>rfl
 | cons c l =>
  rw [aj (by simp),aj (by simp),Mc]
theorem EJ (nb:Bool) (fl:List Bool) (j:Nat) (h:j < rowB nb (fl.map Xu)):∃ hj:j < fl.length,fl[j]=nb:=by
 obtain ⟨h1,h2⟩:=Np nb (fl.map Xu) j h
 rw [ch] at h1
 exact ⟨h1,by simpa [Xu] using h2⟩
theorem RH (nb:Bool) (fl:List Bool) (h:rowB nb (fl.map Xu) < fl.length):fl[rowB nb (fl.map Xu)]=!nb:=by
 have:=RC nb (fl.map Xu) (by simpa using h)
 simpa [Xu] using this
def Sz (rest:List UInt8) (count:Nat) (acc:List Bool) (nb:Bool) (r:List UInt8):Prop :=
 ∀ fl q,fl.length≤60→rest=UV fl++q→fl.length=count∧fl.take acc.length=acc∧r=qV nb ((fl.drop acc.length).map Xu)++q∧((acc=[]∧nb=false)∨∀ h:acc.length < fl.length,fl[acc.length]=nb)
theorem Qt {rest r:List UInt8} {count:Nat} {acc:List Bool} {nb:Bool} (h:Sz rest count acc nb r) (hlt:acc.length < count) (fl:List Bool) (q:List UInt8) (hl:fl.length≤60) (hr:rest=UV fl++q) :
  ∃ (rr:Nat) (m:List UInt8),rr≤count - acc.length∧r=uB rr++m∧(rr=0→acc=[]∧nb=false)∧fl.length=count∧fl.take (acc.length+rr)=acc++List.replicate rr nb∧m=qV (!nb) ((fl.drop (acc.length+rr)).map Xu)++q∧((∀ h:acc.length+rr < fl.length,fl[acc.length+rr]=!nb)):=by
 obtain ⟨h1,h2,h3,h4⟩:=h fl q hl hr
 have hk:acc.length < fl.length:=by omega
 generalize hkk:acc.length=k at *
 have hle:=Ki nb ((fl.drop k).map Xu)
 rw [ch,an] at hle
 have hlt2:=EJ nb (fl.drop k)
 have hend:=RH nb (fl.drop k)
 have hst:=Xf nb ((fl.drop k).map Xu) (by simp;omega)
 generalize hrr:rowB nb ((fl.drop k).map Xu)=rr at *
 rw [← List.map_drop,bz] at hst
 refine ⟨rr,qV (!nb) ((fl.drop (k+rr)).map Xu)++q,by omega,by rw [h3,hst,af],?_,h1,?_,rfl,?_⟩
 ·intro h0
  rcases h4 with h5|h5
  ·exact h5
  ·exfalso
   have e1:=hend (by rw [an];omega)
   rw [aZ] at e1
   simp only [h0,cP] at e1
   rw [h5 hk] at e1
   cases nb<;>simp at e1
 ·rw [List.take_add,h2]
  congr 1
  apply cx
  ·rw [aq,an,aE];omega
  ·intro j hj1 hj2
   rw [aE] at hj2
   obtain ⟨_,e1⟩:=hlt2 j hj2
   rw [cD,bY]
   exact e1
 ·intro h5
  have e1:=hend (by rw [an];omega)
  rw [aZ] at e1
  exact e1
def QO (fl:List Bool):List Value:=fl.map .bool
theorem Te {w:World} {base n:Nat} {v:Value} {xs:List Value} (h:w.ownsRow base 4 1 v n xs) (w':World) :
  Sem.run Tryz.prog (Builtin.len_ #[282] 3 #[v]) w'=.ok (.int .i64 (n:Int)) w':=by
 rcases h.2 with ⟨rfl,rfl⟩|⟨g,cap,cur,rfl,_⟩
 ·exact run_len_slice (P:=Tryz.prog) w' 282 3 _ _ _ (by rw [Tryz.underlying282];rfl)
 ·exact run_len_slice (P:=Tryz.prog) w' 282 3 _ _ _ (by rw [Tryz.underlying282];rfl)
def Mf (p:Nat) (s rest:List UInt8) (w:World) (e:Ending) (w':World):Prop :=
 w.grownBy w' (some p)∧((e=gaveUp∧∀ fl q,fl.length≤60→rest≠UV fl++q)∨∃ fl r v,fl.length≤60∧e=.returned v∧w'.ownsRow w.heap.size 4 1 v fl.length (QO fl)∧qz w' p s r∧∀ fl2 q,fl2.length≤60→rest=UV fl2++q→fl2=fl∧q=r)
theorem Vn (p:Nat) (s rest:List UInt8) (w:World) (hs:s.length≤maxLen) (hp:qz w p s rest) :
  Calls Tryz.prog 209 #[.pointer (some ⟨p,0,none⟩)] w (Mf p s rest w):=by
 obtain ⟨i0,hi,hz0,hz1,hz2⟩:=info_parts Tryz.infoBool
 have Hs:=hid hs
 have Hp:=hid hp
 have hplt:=xp hp
 clear hs hp
 go_enter Tryz.func209,Tryz.ntmps209
 go_wp2_with fail
 refine (Ui p s rest _ 60 _ rfl Hs.out (by omega) Hp.out).mono ?_
 rintro e w1 ⟨hg1,⟨rfl,hno⟩|⟨count,r1,hn,rfl,hrd1,hu1⟩⟩
 ·go_wp2
  refine ⟨rfl,hg1,.inl ⟨rfl,fun fl q hl h=>?_⟩⟩
  rw [UV,af] at h
  exact hno _ _ hl h
 ·have Hu1:=hid hu1
  have hcount:count≤60:=hn
  have Hg1:=hid hg1
  have hp1:=xp hrd1
  clear hu1 hg1 hn
  have HL0:Hid (Sz rest count [] false r1):=by
   intro fl q hl h
   rw [UV,af] at h
   obtain ⟨e1,e2⟩:=Hu1.out _ _ hl h
   exact ⟨e1,rfl,e2.symm,.inl ⟨rfl,rfl⟩⟩
  go_wp2_with (at_make;refine wpList_make_own _ rfl (.const (.int .i64 0)) (.tmp 10) 282 rfl w1.heap.size 4 i0 (.bool false) 1 Tryz.underlying282 hi hz0 hz1 .i64 .i64 _ count rfl rfl rfl (by rw [hz2];omega) (by unfold maxLen;omega) (ae _) ?_;intro w3 hown3 hgr3)
  have hB3:Below w1.heap.size w1 w3:=(Below.refl _ _).grown hgr3 (ae _) (fun _ h=>by cases h)
  have hrd3:=qK hrd1 hB3 hp1
  have hg13:=jH (jS w1 (some p)) hB3
  clear hgr3 hB3 hrd1
  go_loopg [4,5] (2*count+1) (fun gk v b wr=>∃ (acc:List Bool) (nb:Bool) (r:List UInt8),b=.bool nb∧2*(count - acc.length)+(if nb=true then 0 else 1)≤gk∧acc.length≤count∧wr.ownsRow w1.heap.size 4 1 v acc.length (QO acc)∧qz wr p s r∧w1.grownBy wr (some p)∧Sz rest count acc nb r)
  case atStart=>exact ⟨[],false,r1,rfl,by simp,ah _,hown3,hrd3,hg13,HL0.out⟩
  case round =>
   clear hown3 hrd3 hg13
   obtain ⟨acc,nb,r,rfl,hgk,hac,hown,hrd,hg,hleft⟩:=hrel
   have Hgk:=hid hgk
   have Hleft:=hid hleft
   have Hg:=hid hg
   have hln:=Te hown
   clear hleft hgk
   by_cases hlt:acc.length < count
   ·have hi1:(acc.length:Int) < (count:Int):=by omega
    have hln1:=hln wr
    go_wp2_with fail
    refine (Ui p s r _ (count - acc.length) _ (by omega) Hs.out (by omega) hrd).mono ?_
    rintro e w2 ⟨hg2,⟨rfl,hno⟩|⟨n,r2,hn,rfl,hrd2,hu2⟩⟩
    ·go_wp2
     refine ⟨rfl,ja Hg1.out (ja Hg.out hg2),.inl ⟨rfl,fun fl q hl h=>?_⟩⟩
     obtain ⟨rr,m,k1,k2,_⟩:=Qt Hleft.out hlt fl q hl h
     exact hno rr m k1 k2
    ·have hn1:n≤count - acc.length:=hn
     have Hu2:=hid hu2
     have hown2:=qZ hown hp1 hg2
     have hG2:=ja Hg.out hg2
     have hln2:=hln w2
     clear hown hrd hu2 hg2 hg hln1 hn
     by_cases hn0:0 < n
     ·have hn0i:(0:Int) < (n:Int):=by omega
      cases nb with
      | true =>
       go_upto_region 8 with go_in
       go_wp2_with fail
       refine (qd _).mono ?_
       rintro e wN ⟨rfl,rfl⟩
       go_wp2_with fail
       refine (Nk true wN.heap.size 1 n _ (by omega) (World.cell?_alloc_mark ..)).mono ?_
       rintro e w4 ⟨g4,rfl,hb4,hB4⟩
       have hB4':Below wN.heap.size wN w4:=zM hB4
       have hown4:=jL hown2 hB4'
       have hrd4:=qK hrd2 hB4' (xp hrd2)
       have hG4:=jH hG2 hB4'
       have HN4:=hid (World.news_of_block hb4)
       clear hB4 hB4' hown2 hrd2 hG2 hb4 hln2
       go_wp2_with (at_builtin;refine wpList_append_own _ rfl (.tmp 37) (.tmp 41) 282 rfl w1.heap.size 4 i0 (.bool false) 1 1 Tryz.underlying282 hi hz0 hz1 hz2 rfl (by decide) _ _ _ rfl hown4 ⟨g4,0,none⟩ n n (List.replicate n (.bool true)) rfl ?c0 ?c1 ?c2 ?c3 ?c4 ?c5 ?_)
       case c0=>simp
       case c1=>intro j u hj;exact HN4.out j u (by simpa using hj)
       case c2=>intro u hu;rw [bC] at hu;rw [hu.2];rfl
       case c3=>unfold maxLen;omega
       case c4=>omega
       case c5=>have:=hG4.size;omega
       intro v5 w5 hown5 hgr5 _
       have HR:=hid (XZ hrd4 hp1 hG4 hown4 hgr5)
       have HO5:=hid hown5
       have HX:Hid (QO (acc++List.replicate n true)=QO acc++List.replicate n (.bool true)):=by simp [Hid,QO]
       have HLN:Hid ((acc++List.replicate n true).length=acc.length+n):=by simp [Hid]
       clear hown4 hown5 hgr5 hG4 hrd4 HN4
       go_wp2
       go_roundg (2*(count - (acc.length+n))+(if (!true)=true then 0 else 1))
       case measure=>have h:=Hgk.out;simp only [Bool.not_true,Bool.not_false,bl,bG,bU,reduceIte] at h ⊢;omega
       case rel =>
        refine ⟨acc++List.replicate n true,!true,r2,rfl,?_,?_,?_,HR.out.1,HR.out.2,?_⟩
        ·rw [HLN.out];exact ae _
        ·rw [HLN.out];omega
        ·rw [HX.out,HLN.out];exact HO5.out
        ·intro fl q hl h
         obtain ⟨rr,m,k1,k2,k3,k4,k5,k6,k7⟩:=Qt Hleft.out hlt fl q hl h
         obtain ⟨e1,e2⟩:=Hu2.out rr m k1 k2
         subst e1 e2
         rw [HLN.out]
         exact ⟨k4,k5,k6,.inr k7⟩
      | false =>
       by_cases hl0:acc.length=0
       ·have hli:((acc.length:Int) == 0)=true:=by simp [hl0]
        have Hl0:=hid hl0
        clear hl0
        go_upto_region 8 with go_in
        go_wp2_with fail
        refine (qd _).mono ?_
        rintro e wN ⟨rfl,rfl⟩
        go_wp2_with fail
        refine (Nk false wN.heap.size 1 n _ (by omega) (World.cell?_alloc_mark ..)).mono ?_
        rintro e w4 ⟨g4,rfl,hb4,hB4⟩
        have hB4':Below wN.heap.size wN w4:=zM hB4
        have hown4:=jL hown2 hB4'
        have hrd4:=qK hrd2 hB4' (xp hrd2)
        have hG4:=jH hG2 hB4'
        have HN4:=hid (World.news_of_block hb4)
        clear hB4 hB4' hown2 hrd2 hG2 hb4 hln2
        go_wp2_with (at_builtin;refine wpList_append_own _ rfl (.tmp 37) (.tmp 41) 282 rfl w1.heap.size 4 i0 (.bool false) 1 1 Tryz.underlying282 hi hz0 hz1 hz2 rfl (by decide) _ _ _ rfl hown4 ⟨g4,0,none⟩ n n (List.replicate n (.bool false)) rfl ?c0 ?c1 ?c2 ?c3 ?c4 ?c5 ?_)
        case c0=>simp
        case c1=>intro j u hj;exact HN4.out j u (by simpa using hj)
        case c2=>intro u hu;rw [bC] at hu;rw [hu.2];rfl
        case c3=>unfold maxLen;omega
        case c4=>omega
        case c5=>have:=hG4.size;omega
        intro v5 w5 hown5 hgr5 _
        have HR:=hid (XZ hrd4 hp1 hG4 hown4 hgr5)
        have HO5:=hid hown5
        have HX:Hid (QO (acc++List.replicate n false)=QO acc++List.replicate n (.bool false)):=by simp [Hid,QO]
        have HLN:Hid ((acc++List.replicate n false).length=acc.length+n):=by simp [Hid]
        clear hown4 hown5 hgr5 hG4 hrd4 HN4
        go_wp2
        go_roundg (2*(count - (acc.length+n))+(if (!false)=true then 0 else 1))
        case measure=>have h:=Hgk.out;simp only [Bool.not_true,Bool.not_false,bl,bG,bU,reduceIte] at h ⊢;omega
        case rel =>
         refine ⟨acc++List.replicate n false,!false,r2,rfl,?_,?_,?_,HR.out.1,HR.out.2,?_⟩
         ·rw [HLN.out];exact ae _
         ·rw [HLN.out];omega
         ·rw [HX.out,HLN.out];exact HO5.out
         ·intro fl q hl h
          obtain ⟨rr,m,k1,k2,k3,k4,k5,k6,k7⟩:=Qt Hleft.out hlt fl q hl h
          obtain ⟨e1,e2⟩:=Hu2.out rr m k1 k2
          subst e1 e2
          rw [HLN.out]
          exact ⟨k4,k5,k6,.inr k7⟩
       ·have hli:((acc.length:Int) == 0)=false:=by rw [aQ];omega
        go_upto_region 8 with go_in
        go_wp2_with fail
        refine (qd _).mono ?_
        rintro e wN ⟨rfl,rfl⟩
        go_wp2_with fail
        refine (Nk false wN.heap.size 1 n _ (by omega) (World.cell?_alloc_mark ..)).mono ?_
        rintro e w4 ⟨g4,rfl,hb4,hB4⟩
        have hB4':Below wN.heap.size wN w4:=zM hB4
        have hown4:=jL hown2 hB4'
        have hrd4:=qK hrd2 hB4' (xp hrd2)
        have hG4:=jH hG2 hB4'
        have HN4:=hid (World.news_of_block hb4)
        clear hB4 hB4' hown2 hrd2 hG2 hb4 hln2
        go_wp2_with (at_builtin;refine wpList_append_own _ rfl (.tmp 37) (.tmp 41) 282 rfl w1.heap.size 4 i0 (.bool false) 1 1 Tryz.underlying282 hi hz0 hz1 hz2 rfl (by decide) _ _ _ rfl hown4 ⟨g4,0,none⟩ n n (List.replicate n (.bool false)) rfl ?c0 ?c1 ?c2 ?c3 ?c4 ?c5 ?_)
        case c0=>simp
        case c1=>intro j u hj;exact HN4.out j u (by simpa using hj)
        case c2=>intro u hu;rw [bC] at hu;rw [hu.2];rfl
        case c3=>unfold maxLen;omega
        case c4=>omega
        case c5=>have:=hG4.size;omega
        intro v5 w5 hown5 hgr5 _
        have HR:=hid (XZ hrd4 hp1 hG4 hown4 hgr5)
        have HO5:=hid hown5
        have HX:Hid (QO (acc++List.replicate n false)=QO acc++List.replicate n (.bool false)):=by simp [Hid,QO]
        have HLN:Hid ((acc++List.replicate n false).length=acc.length+n):=by simp [Hid]
        clear hown4 hown5 hgr5 hG4 hrd4 HN4
        go_wp2
        go_roundg (2*(count - (acc.length+n))+(if (!false)=true then 0 else 1))
        case measure=>have h:=Hgk.out;simp only [Bool.not_true,Bool.not_false,bl,bG,bU,reduceIte] at h ⊢;omega
        case rel =>
         refine ⟨acc++List.replicate n false,!false,r2,rfl,?_,?_,?_,HR.out.1,HR.out.2,?_⟩
         ·rw [HLN.out];exact ae _
         ·rw [HLN.out];omega
         ·rw [HX.out,HLN.out];exact HO5.out
         ·intro fl q hl h
          obtain ⟨rr,m,k1,k2,k3,k4,k5,k6,k7⟩:=Qt Hleft.out hlt fl q hl h
          obtain ⟨e1,e2⟩:=Hu2.out rr m k1 k2
          subst e1 e2
          rw [HLN.out]
          exact ⟨k4,k5,k6,.inr k7⟩
     ·have hn0i:decide ((0:Int) < (n:Int))=false:=by simp;omega
      cases nb with
      | true =>
       go_upto_region 8 with go_in
       go_wp2_with fail
       refine (qU _).mono ?_
       rintro e wN ⟨rfl,rfl⟩
       go_wp2
       refine ⟨rfl,ja Hg1.out hG2,.inl ⟨rfl,fun fl q hl h=>?_⟩⟩
       obtain ⟨rr,m,k1,k2,k3,_⟩:=Qt Hleft.out hlt fl q hl h
       obtain ⟨e1,e2⟩:=Hu2.out rr m k1 k2
       obtain ⟨f1,f2⟩:=k3 (by omega)
       cases f2
      | false =>
       by_cases hl0:acc.length=0
       ·have hli:((acc.length:Int) == 0)=true:=by simp [hl0]
        have Hl0:=hid hl0
        clear hl0
        go_upto_region 8 with go_in
        go_wp2_with fail
        refine (qd _).mono ?_
        rintro e wN ⟨rfl,rfl⟩
        go_wp2_with fail
        refine (Nk false wN.heap.size 1 n _ (by omega) (World.cell?_alloc_mark ..)).mono ?_
        rintro e w4 ⟨g4,rfl,hb4,hB4⟩
        have hB4':Below wN.heap.size wN w4:=zM hB4
        have hown4:=jL hown2 hB4'
        have hrd4:=qK hrd2 hB4' (xp hrd2)
        have hG4:=jH hG2 hB4'
        have HN4:=hid (World.news_of_block hb4)
        clear hB4 hB4' hown2 hrd2 hG2 hb4 hln2
        go_wp2_with (at_builtin;refine wpList_append_own _ rfl (.tmp 37) (.tmp 41) 282 rfl w1.heap.size 4 i0 (.bool false) 1 1 Tryz.underlying282 hi hz0 hz1 hz2 rfl (by decide) _ _ _ rfl hown4 ⟨g4,0,none⟩ n n (List.replicate n (.bool false)) rfl ?c0 ?c1 ?c2 ?c3 ?c4 ?c5 ?_)
        case c0=>simp
        case c1=>intro j u hj;exact HN4.out j u (by simpa using hj)
        case c2=>intro u hu;rw [bC] at hu;rw [hu.2];rfl
        case c3=>unfold maxLen;omega
        case c4=>omega
        case c5=>have:=hG4.size;omega
        intro v5 w5 hown5 hgr5 _
        have HR:=hid (XZ hrd4 hp1 hG4 hown4 hgr5)
        have HO5:=hid hown5
        have HX:Hid (QO (acc++List.replicate n false)=QO acc++List.replicate n (.bool false)):=by simp [Hid,QO]
        have HLN:Hid ((acc++List.replicate n false).length=acc.length+n):=by simp [Hid]
        clear hown4 hown5 hgr5 hG4 hrd4 HN4
        go_wp2
        go_roundg (2*(count - (acc.length+n))+(if (!false)=true then 0 else 1))
        case measure=>have h:=Hgk.out;simp only [Bool.not_true,Bool.not_false,bl,bG,bU,reduceIte] at h ⊢;omega
        case rel =>
         refine ⟨acc++List.replicate n false,!false,r2,rfl,?_,?_,?_,HR.out.1,HR.out.2,?_⟩
         ·rw [HLN.out];exact ae _
         ·rw [HLN.out];omega
         ·rw [HX.out,HLN.out];exact HO5.out
         ·intro fl q hl h
          obtain ⟨rr,m,k1,k2,k3,k4,k5,k6,k7⟩:=Qt Hleft.out hlt fl q hl h
          obtain ⟨e1,e2⟩:=Hu2.out rr m k1 k2
          subst e1 e2
          rw [HLN.out]
          exact ⟨k4,k5,k6,.inr k7⟩
       ·have hli:((acc.length:Int) == 0)=false:=by rw [aQ];omega
        go_upto_region 8 with go_in
        go_wp2_with fail
        refine (qU _).mono ?_
        rintro e wN ⟨rfl,rfl⟩
        go_wp2
        refine ⟨rfl,ja Hg1.out hG2,.inl ⟨rfl,fun fl q hl h=>?_⟩⟩
        obtain ⟨rr,m,k1,k2,k3,_⟩:=Qt Hleft.out hlt fl q hl h
        obtain ⟨e1,e2⟩:=Hu2.out rr m k1 k2
        obtain ⟨f1,f2⟩:=k3 (by omega)
        rw [f1] at hl0
        exact absurd rfl hl0
   ·have hke:acc.length=count:=by omega
    have Hke:=hid hke
    have hi1:decide ((acc.length:Int) < (count:Int))=false:=by simp;omega
    have Hown:=hid hown
    have Hrd:=hid hrd
    have hln1:=hln wr
    clear hg hown hrd hke hln
    go_wp2
    go_ret
    refine ⟨ja Hg1.out Hg.out,.inr ⟨acc,r,_,by have:=Hke.out;omega,rfl,jw Hown.out Hg1.out.size,Hrd.out,fun fl q hl h=>?_⟩⟩
    obtain ⟨e1,e2,e3,_⟩:=Hleft.out fl q hl h
    rw [Hke.out,← e1,aF] at e2
    subst e2
    refine ⟨rfl,?_⟩
    rw [List.drop_length] at e3
    exact e3.symm
end
section
theorem DW (a num:Int) (f r Bn:Nat) (w:World) (h:w.cell? ⟨Bn,0,none⟩=some (.int .u8 num)) :
  Calls Tryz.prog 251 #[.agg #[.int .u8 a,fnV f,fnV r],.pointer (some ⟨Bn,0,none⟩)] w fun e w'=>e=.returned (.bool (a == num))∧Below w.heap.size w w':=by
 have hlt:=aG w _ h
 go_enter Tryz.func251,Tryz.ntmps251
 go_wp2
 go_ret
 exact ⟨rfl,(Below.refl _ _).alloc (ae _) _⟩
def QV (num:Int):Int:=if num=0 then 0 else if num=1 then 1 else if num=2 then 2 else -1
theorem Bc (g Bn:Nat) (num:Int) (w:World) (hg:g < w.heap.size) (hw:NumW w g) (h:w.cell? ⟨Bn,0,none⟩=some (.int .u8 num)) :
  Calls Tryz.prog 250 #[.slice (some ⟨g,0,none⟩) 3 3,.func (.func 251) #[] #[.pointer (some ⟨Bn,0,none⟩)]] w fun e w'=>e=.returned (.int .i64 (QV num))∧Below w.heap.size w w':=by
 have Hw:=hid hw
 have Hn:=hid h
 have hlt:=aG w _ h
 clear hw h
 go_enter Tryz.func250,Tryz.ntmps250
 go_wp2
 go_loopw [8] (fun i wr=>∃ k:Nat,k≤3∧i=.int .i64 (k:Int)∧(0 < k→num≠0)∧(1 < k→num≠1)∧(2 < k→num≠2)∧Below w.heap.size w wr) (fun i _=>3 - (intOf i).toNat)
 case atStart=>exact ⟨0,by omega,rfl,fun h=>by omega,fun h=>by omega,fun h=>by omega,Below.refl _ _⟩
 case round =>
  obtain ⟨k,hk,rfl,n0,n1,n2,hB⟩:=hrel
  have hwl:=Hw.out.later hg hB
  have hnum:=(hB.cell (p:=⟨Bn,0,none⟩) hlt).trans Hn.out
  have N0:=hid n0
  have N1:=hid n1
  have N2:=hid n2
  clear n0 n1 n2
  rcases (show k=0∨k=1∨k=2∨k=3 by omega) with rfl|rfl|rfl|rfl
  ·have c0:wr.cell? ⟨g,0,none⟩=some (.int .u8 0):=qc hwl 0 rfl
   have c1:wr.cell? ⟨g,1,none⟩=some (fnV 181):=qc hwl 1 rfl
   have c2:wr.cell? ⟨g,2,none⟩=some (fnV 182):=qc hwl 2 rfl
   clear hwl
   go_wp2_with fail
   refine (DW 0 num 181 182 Bn _ hnum).mono ?_
   rintro e w2 ⟨rfl,hb2⟩
   have hB2:=hB.trans (hb2.mono hB.size)
   clear hB hb2 c0 c1 c2 hnum
   by_cases hne:num=0
   ·have hb:((0:Int) == num)=true:=by simp [hne]
    have Hne:=hid hne
    clear hne
    go_wp2
    go_ret
    exact ⟨xm (by unfold QV;rw [aw Hne.out]),hB2⟩
   ·have hb:((0:Int) == num)=false:=by rw [aQ];exact fun h=>hne h.symm
    have Hne:=hid hne
    clear hne
    go_wp2
    go_roundw
    case rel=>exact ⟨1,by omega,by go_num,fun _=>Hne.out,fun h=>by omega,fun h=>by omega,hB2⟩
    case measure=>simp [intOf]
  ·have c0:wr.cell? ⟨g,3,none⟩=some (.int .u8 1):=qc hwl 3 rfl
   have c1:wr.cell? ⟨g,4,none⟩=some (fnV 183):=qc hwl 4 rfl
   have c2:wr.cell? ⟨g,5,none⟩=some (fnV 184):=qc hwl 5 rfl
   clear hwl
   go_wp2_with fail
   refine (DW 1 num 183 184 Bn _ hnum).mono ?_
   rintro e w2 ⟨rfl,hb2⟩
   have hB2:=hB.trans (hb2.mono hB.size)
   clear hB hb2 c0 c1 c2 hnum
   by_cases hne:num=1
   ·have hb:((1:Int) == num)=true:=by simp [hne]
    have Hne:=hid hne
    clear hne
    go_wp2
    go_ret
    exact ⟨xm (by unfold QV;rw [aj (N0.out (by omega)),aw Hne.out]),hB2⟩
   ·have hb:((1:Int) == num)=false:=by rw [aQ];exact fun h=>hne h.symm
    have Hne:=hid hne
    clear hne
    go_wp2
    go_roundw
    case rel=>exact ⟨2,by omega,by go_num,fun _=>N0.out (by omega),fun _=>Hne.out,fun h=>by omega,hB2⟩
    case measure=>simp [intOf]
  ·have c0:wr.cell? ⟨g,6,none⟩=some (.int .u8 2):=qc hwl 6 rfl
   have c1:wr.cell? ⟨g,7,none⟩=some (fnV 185):=qc hwl 7 rfl
   have c2:wr.cell? ⟨g,8,none⟩=some (fnV 186):=qc hwl 8 rfl
   clear hwl
   go_wp2_with fail
   refine (DW 2 num 185 186 Bn _ hnum).mono ?_
   rintro e w2 ⟨rfl,hb2⟩
   have hB2:=hB.trans (hb2.mono hB.size)
   clear hB hb2 c0 c1 c2 hnum
   by_cases hne:num=2
   ·have hb:((2:Int) == num)=true:=by simp [hne]
    have Hne:=hid hne
    clear hne
    go_wp2
    go_ret
    exact ⟨xm (by unfold QV;rw [aj (N0.out (by omega)),aj (N1.out (by omega)),aw Hne.out]),hB2⟩
   ·have hb:((2:Int) == num)=false:=by rw [aQ];exact fun h=>hne h.symm
    have Hne:=hid hne
    clear hne
    go_wp2
    go_roundw
    case rel=>exact ⟨3,by omega,by go_num,fun _=>N0.out (by omega),fun _=>N1.out (by omega),fun _=>Hne.out,hB2⟩
    case measure=>simp [intOf]
  ·go_wp2
   go_ret
   exact ⟨xm (by unfold QV;rw [aj (N0.out (by omega)),aj (N1.out (by omega)),aj (N2.out (by omega))]),hB⟩
theorem Dz (a num:Int) (f r Bn:Nat) (w:World) (h:w.cell? ⟨Bn,0,none⟩=some (.int .u8 num)) :
  Calls Tryz.prog 253 #[.agg #[.int .u8 a,fnV f,fnV r],.pointer (some ⟨Bn,0,none⟩)] w fun e w'=>e=.returned (.bool (a == num))∧Below w.heap.size w w':=by
 have hlt:=aG w _ h
 go_enter Tryz.func253,Tryz.ntmps253
 go_wp2
 go_ret
 exact ⟨rfl,(Below.refl _ _).alloc (ae _) _⟩
def Xb (num:Int):Int:=if num=0 then 0 else if num=3 then 1 else if num=4 then 2 else -1
theorem LW (g Bn:Nat) (num:Int) (w:World) (hg:g < w.heap.size) (hw:TxtW w g) (h:w.cell? ⟨Bn,0,none⟩=some (.int .u8 num)) :
  Calls Tryz.prog 252 #[.slice (some ⟨g,0,none⟩) 3 3,.func (.func 253) #[] #[.pointer (some ⟨Bn,0,none⟩)]] w fun e w'=>e=.returned (.int .i64 (Xb num))∧Below w.heap.size w w':=by
 have Hw:=hid hw
 have Hn:=hid h
 have hlt:=aG w _ h
 clear hw h
 go_enter Tryz.func252,Tryz.ntmps252
 go_wp2
 go_loopw [8] (fun i wr=>∃ k:Nat,k≤3∧i=.int .i64 (k:Int)∧(0 < k→num≠0)∧(1 < k→num≠3)∧(2 < k→num≠4)∧Below w.heap.size w wr) (fun i _=>3 - (intOf i).toNat)
 case atStart=>exact ⟨0,by omega,rfl,fun h=>by omega,fun h=>by omega,fun h=>by omega,Below.refl _ _⟩
 case round =>
  obtain ⟨k,hk,rfl,n0,n1,n2,hB⟩:=hrel
  have hwl:=Hw.out.later hg hB
  have hnum:=(hB.cell (p:=⟨Bn,0,none⟩) hlt).trans Hn.out
  have N0:=hid n0
  have N1:=hid n1
  have N2:=hid n2
  clear n0 n1 n2
  rcases (show k=0∨k=1∨k=2∨k=3 by omega) with rfl|rfl|rfl|rfl
  ·have c0:wr.cell? ⟨g,0,none⟩=some (.int .u8 0):=qc hwl 0 rfl
   have c1:wr.cell? ⟨g,1,none⟩=some (fnV 196):=qc hwl 1 rfl
   have c2:wr.cell? ⟨g,2,none⟩=some (fnV 197):=qc hwl 2 rfl
   clear hwl
   go_wp2_with fail
   refine (Dz 0 num 196 197 Bn _ hnum).mono ?_
   rintro e w2 ⟨rfl,hb2⟩
   have hB2:=hB.trans (hb2.mono hB.size)
   clear hB hb2 c0 c1 c2 hnum
   by_cases hne:num=0
   ·have hb:((0:Int) == num)=true:=by simp [hne]
    have Hne:=hid hne
    clear hne
    go_wp2
    go_ret
    exact ⟨xm (by unfold Xb;rw [aw Hne.out]),hB2⟩
   ·have hb:((0:Int) == num)=false:=by rw [aQ];exact fun h=>hne h.symm
    have Hne:=hid hne
    clear hne
    go_wp2
    go_roundw
    case rel=>exact ⟨1,by omega,by go_num,fun _=>Hne.out,fun h=>by omega,fun h=>by omega,hB2⟩
    case measure=>simp [intOf]
  ·have c0:wr.cell? ⟨g,3,none⟩=some (.int .u8 3):=qc hwl 3 rfl
   have c1:wr.cell? ⟨g,4,none⟩=some (fnV 198):=qc hwl 4 rfl
   have c2:wr.cell? ⟨g,5,none⟩=some (fnV 199):=qc hwl 5 rfl
   clear hwl
   go_wp2_with fail
   refine (Dz 3 num 198 199 Bn _ hnum).mono ?_
   rintro e w2 ⟨rfl,hb2⟩
   have hB2:=hB.trans (hb2.mono hB.size)
   clear hB hb2 c0 c1 c2 hnum
   by_cases hne:num=3
   ·have hb:((3:Int) == num)=true:=by simp [hne]
    have Hne:=hid hne
    clear hne
    go_wp2
    go_ret
    exact ⟨xm (by unfold Xb;rw [aj (N0.out (by omega)),aw Hne.out]),hB2⟩
   ·have hb:((3:Int) == num)=false:=by rw [aQ];exact fun h=>hne h.symm
    have Hne:=hid hne
    clear hne
    go_wp2
    go_roundw
    case rel=>exact ⟨2,by omega,by go_num,fun _=>N0.out (by omega),fun _=>Hne.out,fun h=>by omega,hB2⟩
    case measure=>simp [intOf]
  ·have c0:wr.cell? ⟨g,6,none⟩=some (.int .u8 4):=qc hwl 6 rfl
   have c1:wr.cell? ⟨g,7,none⟩=some (fnV 200):=qc hwl 7 rfl
   have c2:wr.cell? ⟨g,8,none⟩=some (fnV 201):=qc hwl 8 rfl
   clear hwl
   go_wp2_with fail
   refine (Dz 4 num 200 201 Bn _ hnum).mono ?_
   rintro e w2 ⟨rfl,hb2⟩
   have hB2:=hB.trans (hb2.mono hB.size)
   clear hB hb2 c0 c1 c2 hnum
   by_cases hne:num=4
   ·have hb:((4:Int) == num)=true:=by simp [hne]
    have Hne:=hid hne
    clear hne
    go_wp2
    go_ret
    exact ⟨xm (by unfold Xb;rw [aj (N0.out (by omega)),aj (N1.out (by omega)),aw Hne.out]),hB2⟩
   ·have hb:((4:Int) == num)=false:=by rw [aQ];exact fun h=>hne h.symm
    have Hne:=hid hne
    clear hne
    go_wp2
    go_roundw
    case rel=>exact ⟨3,by omega,by go_num,fun _=>N0.out (by omega),fun _=>N1.out (by omega),fun _=>Hne.out,hB2⟩
    case measure=>simp [intOf]
  ·go_wp2
   go_ret
   exact ⟨xm (by unfold Xb;rw [aj (N0.out (by omega)),aj (N1.out (by omega)),aj (N2.out (by omega))]),hB⟩
end
section
theorem Us (w:World) (dT sT ty elem:TypeId) (g dLen dCap size:Nat) (a:Addr) (sLen sCap:Nat) (cur:Array Value) (t:TypeId) (cs:List Value)
  (hu:Tryz.prog.underlying dT=some (.slice elem)) (hs:(Tryz.prog.info? elem).map (·.size)=some size)
  (hg:w.heap[g]?=some (.cells cur t (0,0))) (hn:cs.length=Nat.min sLen dLen*size)
  (hsrc:∀ j v,cs[j]?=some v→w.cell? (a.add j)=some v) (hfit:cs.length≤cur.size) (h1:∀ v ∈ cs,v.oneCell'=true) :
  (Builtin.copy_ #[dT,sT] ty #[.slice (some ⟨g,0,none⟩) dLen dCap,.slice (some a) sLen sCap]).run Tryz.prog w =
   .ok (goInt (Nat.min sLen dLen)) (w.setRow g (cs++cur.toList.drop cs.length).toArray):=by
 have hl:=run_loadCells_list (P:=Tryz.prog) w a cs hsrc
 have hst:=run_storeCells_at Tryz.prog g 0 t cs 0 cur w hg (by simpa using hfit) h1
 cases hq:Tryz.prog.info? elem with
 | none=>simp [hq] at hs
 | some i =>
  have hi:i.size=size:=by simpa [hq] using hs
  simp only [bK,List.take_zero,aX] at hst
  simp [Builtin.copy_,run_underlying hu,Builtin.lenOf,Builtin.firstCells,sizeOf,typeInfo,hq,hi,← hn,hl,hst]
theorem RN (w:World) (dT sT ty elem:TypeId) (g dLen dCap size sCap:Nat)
  (hu:Tryz.prog.underlying dT=some (.slice elem)) (hs:(Tryz.prog.info? elem).map (·.size)=some size) :
  (Builtin.copy_ #[dT,sT] ty #[.slice (some ⟨g,0,none⟩) dLen dCap,.slice none 0 sCap]).run Tryz.prog w=.ok (goInt 0) w:=by
 cases hq:Tryz.prog.info? elem with
 | none=>simp [hq] at hs
 | some i=>simp [Builtin.copy_,run_underlying hu,Builtin.lenOf,Builtin.firstCells,sizeOf,typeInfo,hq,storeCells]
theorem Lies.cells {w:World} {b off:Nat} {l:List CellB} (h:∀ j (h:j < l.length),
  w.cell? ⟨b,off+j*3,none⟩=some (.bool (l[j]).null)∧w.cell? ⟨b,off+j*3+1,none⟩=some (.int .i64 (l[j]).int)∧w.cell? ⟨b,off+j*3+2,none⟩=some (strB (l[j]).text)) :
  ∀ i v,(jO l)[i]?=some v→w.cell? ((⟨b,off,none⟩:Addr).add i)=some v:=by
 intro i v hi
 have hil:i < (jO l).length:=(aA.1 hi).1
 rw [Jt] at hil
 have hj:i / 3 < l.length:=by omega
 obtain ⟨h1,h2,h3⟩:=h (i / 3) hj
 obtain ⟨c1,c2,c3⟩:=KW l (i / 3) hj
 have ha:(⟨b,off,none⟩:Addr).add i=⟨b,off+i,none⟩:=by unfold Addr.add;split<;>simp_all
 rw [ha]
 have hm:i % 3=0∨i % 3=1∨i % 3=2:=by omega
 rcases hm with hm|hm|hm
 ·have e:i=i / 3*3:=by omega
  rw [e] at hi ⊢
  rw [c1] at hi
  rw [h1];exact hi
 ·have e:i=i / 3*3+1:=by omega
  rw [e] at hi ⊢
  rw [c2] at hi
  rw [← bI,h2];exact hi
 ·have e:i=i / 3*3+2:=by omega
  rw [e] at hi ⊢
  rw [c3] at hi
  rw [← bI,h3];exact hi
theorem Kh (l:List CellB):∀ v ∈ jO l,v.oneCell'=true:=by
 intro v hv
 simp only [jO,bT] at hv
 obtain ⟨c,_,hc⟩:=hv
 simp at hc
 rcases hc with rfl|rfl|rfl<;>rfl
theorem Lg (a a2:Option Addr) (cap cap2:Nat) (l:List CellB) (w:World) (hm:l.length≤maxLen) (hl:Lies w a l) (hl2:Lies w a2 l) :
  Calls Tryz.prog 92 #[.slice a l.length cap,.slice a2 l.length cap2] w fun e w'=>e=.returned (.bool true)∧Below w.heap.size w w':=by
 have Hl:=hid hl
 have Hl2:=hid hl2
 clear hl hl2
 unfold maxLen at hm
 have hne:((l.length:Int) != (l.length:Int))=false:=by simp
 go_enter Tryz.func92,Tryz.ntmps92
 go_wp2
 go_loopw [5] (fun i wr=>∃ k:Nat,k≤l.length∧i=.int .i64 (k:Int)∧Below w.heap.size w wr) (fun i _=>l.length - (intOf i).toNat)
 case atStart=>exact ⟨0,ah _,rfl,Below.refl _ _⟩
 case round =>
  obtain ⟨k,hk,rfl,hB⟩:=hrel
  by_cases hlt:k < l.length
  ·obtain ⟨b,off,rfl,hbw,hcell⟩:=(Hl.out.later hB).at_ (ai (by omega))
   obtain ⟨g1,g2,g3⟩:=hcell k hlt
   obtain ⟨b',off',rfl,hbw',hcell'⟩:=(Hl2.out.later hB).at_ (ai (by omega))
   obtain ⟨k1,k2,k3⟩:=hcell' k hlt
   clear hcell hcell'
   generalize l[k]=c at *
   have hki:(k:Int) < (l.length:Int):=by omega
   go_wp2_with fail
   go_quiet (fail)
   go_wp2_with fail
   go_roundw
   case rel=>exact ⟨k+1,by omega,by go_num,below_drewN hB nq⟩
   case measure=>simp [intOf];omega
  ·go_wp2
   go_ret
   exact ⟨rfl,hB⟩
end
end Go.Proofs.YthhpbhpfagoapaaGreat
