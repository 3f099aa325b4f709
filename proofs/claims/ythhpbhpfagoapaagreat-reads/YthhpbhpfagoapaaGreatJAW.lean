import Derived.Test.YthhpbhpfagoapaaGreatTk
import Derived.Test.YthhpbhpfagoapaaGreatJAS
import Derived.Test.YthhpbhpfagoapaaGreatJAV
import Derived.Test.YthhpbhpfagoapaaGreatJAX
import Derived.Deep.RegionHeld3
namespace Go.Proofs.YthhpbhpfagoapaaGreat
set_option linter.unusedVariables false
set_option linter.unusedSimpArgs false
set_option maxRecDepth 100000
set_option maxHeartbeats 16000000
open Go.RowKit
section
theorem JA {w w':World} {g B p:Nat} (h:BoxT w g B) (hg:w.grownBy w' (some p)) (hB:B < w.heap.size) (hne:B≠p):BoxT w' g B:=by
 have k:∀ j,w'.cell? ⟨B,j,none⟩=w.cell? ⟨B,j,none⟩:=fun j=>hg.cell_far ⟨B,j,none⟩ hB (by intro h;simp at h;exact hne h)
 obtain ⟨h0,h1,h2,h3,h4,h5,h6⟩:=h
 exact ⟨(k 0).trans h0,(k 1).trans h1,(k 2).trans h2,(k 3).trans h3,(k 4).trans h4,(k 5).trans h5,(k 6).trans h6⟩
theorem MH (l:List CellB) (i:Nat) (h:i≤l.length):jR l i=zL qz (l.take i):=by
 cases i with
 | zero=>rfl
 | succ i =>
  rw [List.take_succ_eq_append_getElem (by omega),XY]
  unfold jR
  rw [if_neg (by omega)]
  exact jY l i (by omega)
theorem CK (n:Nat) (st:CellB→CellB→List UInt8) (l:List CellB) (h:∀ i,i < l.length→qG n l i=st (jR l i) (xP l i)):∀ k,k≤l.length→js n l k=Zl st qz (l.take k):=by
 intro k
 induction k with
 | zero=>intro _;rfl
 | succ k ih =>
  intro hk
  rw [js,ih (by omega),List.take_succ_eq_append_getElem (by omega),Iv,h k (by omega),MH l k (by omega),jY l k (by omega)]
  simp [Zl]
theorem Xq (n:Nat) (hn:n≠3) (st:CellB→CellB→List UInt8) (l:List CellB) (h:∀ i,i < l.length→qG n l i=st (jR l i) (xP l i)):qq n l=Zl st qz l:=by
 have:=CK n st l h l.length (Nat.le_refl _)
 rw [List.take_length] at this
 simp [qq,hn,this]
def EM (count:Nat) (l:List CellB):Prop:=l.length=count∧∀ c ∈ l,okT c
theorem NR (l:List CellB):qq 3 l=uB (qa l).length++(Zl XX qz (qa l)++js 3 l l.length):=by
 have h5:qq 5 (qa l)=Zl XX qz (qa l):=Xq 5 (by decide) XX (qa l) (fun i hi=>rfl)
 have h6:js 5 (qa l) (qa l).length=Zl XX qz (qa l):=by rw [← h5];simp [qq]
 simp only [qq,if_true,VJ,h6,List.append_assoc]
def TJ (count:Nat) (rest:List UInt8) (X:List CellB) (r0:List UInt8) (acc:List CellB) (r:List UInt8):Prop :=
 ∀ l2 q,EM count l2→rest=qq 3 l2++q→qa l2=X∧r0=js 3 l2 l2.length++q∧l2.take acc.length=acc∧r0=js 3 l2 acc.length++r
theorem Nn {count:Nat} {rest r0 r:List UInt8} {X acc:List CellB} (h:TJ count rest X r0 acc r) (hlt:acc.length < count) (l2:List CellB) (q:List UInt8) (hd:EM count l2) (hr:rest=qq 3 l2++q) :
  ∃ (j:Nat) (m:List UInt8),∃ hj:j < X.length,r=uB j++m∧l2.take (acc.length+1)=acc++[⟨false,0,(X[j]).text⟩]∧r0=js 3 l2 (acc.length+1)++m:=by
 obtain ⟨h1,h2,h3,h4⟩:=h l2 q hd hr
 have hk:acc.length < l2.length:=by rw [hd.1];exact hlt
 generalize hkk:acc.length=k at *
 subst h1
 obtain ⟨c,hc,hct⟩:=Zy l2 k hk
 obtain ⟨hj,hjt⟩:=QJ (qa l2) (l2[k]).text ⟨c,hc,hct⟩
 obtain ⟨m0,hm0⟩:=VY 3 l2 (k+1) (l2.length - (k+1))
 rw [show k+1+(l2.length - (k+1))=l2.length by omega] at hm0
 have hs:js 3 l2 (k+1)=js 3 l2 k++uB (jP (qa l2) (l2[k]).text):=by
  rw [js];simp only [qG,jY l2 k hk]
 refine ⟨jP (qa l2) (l2[k]).text,m0++q,hj,?_,?_,?_⟩
 ·have e1:js 3 l2 k++r=js 3 l2 k++(uB (jP (qa l2) (l2[k]).text)++(m0++q)):=by
   rw [← h4,h2,hm0,hs];simp only [List.append_assoc]
  exact List.append_cancel_left e1
 ·rw [List.take_succ_eq_append_getElem hk,h3,hjt]
  congr 2
  obtain ⟨o1,o2,_⟩:=hd.2 l2[k] (List.getElem_mem hk)
  generalize l2[k]=c at *
  obtain ⟨cn,ci,ct⟩:=c
  simp only at o1 o2
  subst o1 o2
  rfl
 ·rw [h2,hm0,List.append_assoc]
theorem Ii (g p count:Nat) (s rest:List UInt8) (w:World) (hs:s.length≤maxLen) (hc:count≤60) (hc1:1≤count) (hp:qp w p s rest) :
  Calls Tryz.prog 199 #[txtC g,.pointer (some ⟨p,0,none⟩),.int .i64 (count:Int)] w (Xa 9 Jt (EM count) (qq 3) p s rest w):=by
 obtain ⟨i0,hi,hz0,hz1,hz2⟩:=info_parts Tryz.infoStr
 have Hs:=hid hs
 have Hp:=hid hp
 have hplt:=xh hp
 clear hs hp
 go_enter Tryz.func199,Tryz.ntmps199
 go_wp2_with fail
 obtain ⟨hb0,hs0,hc0⟩:=zV w #[.slice (some ⟨g,0,none⟩) 3 3,fnV 202,fnV 203,fnV 204,fnV 205,fnV 206,fnV 207] 225
 have Hc:Hid (BoxT _ g w.heap.size):=⟨hc0 0,hc0 1,hc0 2,hc0 3,hc0 4,hc0 5,hc0 6⟩
 have Hp0:=hid (qA Hp.out hb0 hplt)
 have Hb0:=hid hb0
 have hs1:=Nat.lt_of_lt_of_eq (Nat.lt_succ_self w.heap.size) hs0.symm
 have hplt0:=Nat.lt_of_lt_of_le hplt hb0.size
 have hpne:w.heap.size≠p:=by omega
 clear hc0 hb0 hs0
 generalize w.alloc _=w0 at *
 refine wp_region_held_drew (S:=fun w'=>w'.cell? ⟨w.heap.size,0,none⟩=some (.slice (some ⟨g,0,none⟩) 3 3)∧w'.cell? ⟨w.heap.size,1,none⟩=some (fnV 202)∧w'.cell? ⟨w.heap.size,2,none⟩=some (fnV 203)∧w'.cell? ⟨w.heap.size,3,none⟩=some (fnV 204)∧w'.cell? ⟨w.heap.size,4,none⟩=some (fnV 205)∧w'.cell? ⟨w.heap.size,5,none⟩=some (fnV 206)∧w'.cell? ⟨w.heap.size,6,none⟩=some (fnV 207)) (by kernel_rfl) Hc.out (fun hHeld=>?_)
 refine tk 0 (txtC g) ?_
 refine tk 1 (.pointer (some ⟨p,0,none⟩)) ?_
 refine tk 2 (.pointer (some ⟨p,0,none⟩)) ?_
 refine tk 3 (.int .i64 (count:Int)) ?_
 simp only [ga,gb,gc,Act.put,gd,ge,gf]
 refine rd 4 (fun K hK=>?_)
 simp only [ga,gb,gc]
 go_simp
 go_at_call 242
 refine (ZH p s rest count w0.drew Hs.out (by omega) (show qp w0.drew p s rest from Hp0.out)).mono ?_
 rintro e w1 ⟨hg1,⟨rfl,hno⟩|⟨n,r1,hn,rfl,hrd1,hu1⟩⟩
 ·refine ⟨rfl,ja (jz (jL w _) Hb0.out) (jx hg1),.inl ⟨rfl,fun l2 q hl2 h=>?_⟩⟩
  rw [NR,List.append_assoc] at h
  exact hno _ _ (by show _≤count;rw [← hl2.1];exact zp l2 l2.length) h
 ·have Hg1:=hid (jx hg1)
  have Hu1:=hid hu1
  have hn1:n≤count:=hn
  have Hbx1:=hid (JA Hc.out Hg1.out hs1 hpne)
  clear hg1 hu1
  try go_wp2_with fail
  refine hK.out _ _ Hbx1.out (fun hHeld=>?_)
  clear hK K
  try simp only [ga,gb,gc,Act.put,gd,ge,gf]
  refine rd 5 (fun K hK=>?_)
  simp only [ga,gb,gc]
  go_simp
  go_at_call 197
  refine (RG g p n s r1 w1 Hs.out (by omega) hrd1).mono ?_
  rintro e w2 ⟨hg2,⟨rfl,hno⟩|⟨X,r0,vX,hX,rfl,hownX,hrd2,hu2⟩⟩
  ·refine ⟨rfl,ja (jz (jL w _) Hb0.out) (ja Hg1.out hg2),.inl ⟨rfl,fun l2 q hl2 h=>?_⟩⟩
   rw [NR,List.append_assoc,List.append_assoc] at h
   obtain ⟨e1,e2⟩:=Hu1.out _ _ (by show _≤count;rw [← hl2.1];exact zp l2 l2.length) h
   exact hno (qa l2) _ ⟨e1,fun c hc=>hl2.2 c (Qc l2 l2.length (Nat.le_refl _) c hc)⟩ e2.symm
  ·have HG2:=hid (ja Hg1.out hg2)
   have Hbx2:=hid (JA Hc.out HG2.out hs1 hpne)
   have Hu2:=hid hu2
   have HX:=hid hX
   have hXl:X.length=n:=hX.1
   have Hrd2:=hid hrd2
   have hp1:=xh hrd1
   have HL0:Hid (TJ count rest X r0 [] r0):=by
    intro l2 q hl2 h
    rw [NR,List.append_assoc,List.append_assoc] at h
    obtain ⟨e1,e2⟩:=Hu1.out _ _ (by show _≤count;rw [← hl2.1];exact zp l2 l2.length) h
    obtain ⟨e3,e4⟩:=Hu2.out (qa l2) _ ⟨e1,fun c hc=>hl2.2 c (Qc l2 l2.length (Nat.le_refl _) c hc)⟩ e2.symm
    exact ⟨e3,e4.symm,rfl,rfl⟩
   clear hg2 hu2 hX hrd2
   try go_wp2_with fail
   refine hK.out _ _ Hbx2.out (fun hHeld=>?_)
   clear hK K
   try simp only [ga,gb,gc,Act.put,gd,ge,gf]
   refine rd 6 (fun K hK=>?_)
   simp only [ga,gb,gc]
   go_simp
   try go_wp2_with fail
   refine hK.out _ _ Hbx2.out (fun hHeld=>?_)
   clear hK K
   try simp only [ga,gb,gc,Act.put,gd,ge,gf]
   refine wpAnyH_done (by kernel_rfl) ?_ _
   clear hHeld
   by_cases hX0:X=[]
   ·have hXz:X.length=0:=by rw [hX0];rfl
    have HX0:=hid hX0
    rw [hXz] at hownX
    have hln:=YW hownX w2
    clear hX0 hXz hXl
    go_wp2_with fail
    refine (qM _).mono ?_
    rintro e w3 ⟨rfl,rfl⟩
    go_wp2
    refine ⟨rfl,ja (jz (jL w _) Hb0.out) HG2.out,.inl ⟨rfl,fun l2 q hl2 h=>?_⟩⟩
    obtain ⟨e1,_⟩:=HL0.out l2 q hl2 h
    obtain ⟨c,hc2,_⟩:=Zy l2 0 (by rw [hl2.1];omega)
    rw [e1,HX0.out] at hc2
    cases hc2
   ·have hXp:=List.length_pos_iff.2 hX0
    have hXi:(0:Int) < (X.length:Int):=by omega
    have hX60:X.length≤60:=by omega
    have hbX:∀ b cap,vX=.slice (some ⟨b,0,none⟩) X.length cap→w1.heap.size≤b:=by
     intro b cap hv
     exact (hownX.lt b (by rw [hv];rfl)).1
    obtain ⟨bX,capX,rfl,hlie⟩:=Vy hownX hX0
    have hbX1:=hbX bX capX rfl
    have Hlie:=hid hlie
    have hbX2:=hlie.lt
    have hbXp:bX≠p:=by omega
    have hp2:=xh Hrd2.out
    have hsubX:IntKind.i64.wrap ((X.length:Int) - 1)=((X.length - 1:Nat):Int):=by rw [IntKind.wrap_i64];omega
    clear hownX hbX hlie hX0 hXl
    go_wp2_with fail
    refine (jX _).mono ?_
    rintro e w3 ⟨rfl,rfl⟩
    go_wp2_with fail
    obtain ⟨W3,rfl⟩:∃ W3,W3=w3:=⟨_,rfl⟩
    go_loopw [8,20] (fun v i wr=>∃ (acc:List CellB) (r:List UInt8),acc.length≤count∧i=.int .i64 (acc.length:Int)∧(∀ c ∈ acc,okT c)∧wr.ownsRow W3.heap.size 9 1 v acc.length (Jt acc)∧qp wr p s r∧W3.grownBy wr (some p)∧TJ count rest X r0 acc r)
     (fun _ i _=>count - (intOf i).toNat)
    case atStart=>exact ⟨[],r0,Nat.zero_le _,rfl,(fun c h=>zU h),World.ownsRow_nil _ _ _ _,Hrd2.out,jL _ _,HL0.out⟩
    case round =>
     obtain ⟨acc,r,hac,rfl,hok,hown,hrd,hg,hleft⟩:=hrel
     have Hok:=hid hok
     have Hleft:=hid hleft
     have Hg:=hid hg
     clear hok hleft
     by_cases hlt:acc.length < count
     ·have hi1:(acc.length:Int) < (count:Int):=by omega
      go_wp2_with fail
      refine (KF p s r _ (X.length - 1) _ (by omega) Hs.out (by omega) hrd).mono ?_
      rintro e w4 ⟨hg4,⟨rfl,hno⟩|⟨j,r4,hj,rfl,hrd4,hu4⟩⟩
      ·go_wp2
       refine ⟨rfl,ja (jz (jL w _) Hb0.out) (ja HG2.out (ja Hg.out hg4)),.inl ⟨rfl,fun l2 q hl2 h=>?_⟩⟩
       obtain ⟨jj,m,hjj,k1,_⟩:=Nn Hleft.out hlt l2 q hl2 h
       exact hno jj m (by show _≤_;omega) k1
      ·have hj1:j≤X.length - 1:=hj
       have hjX:j < X.length:=by omega
       have hji:(j:Int) < (X.length:Int):=by omega
       have Hu4:=hid hu4
       have hown4:=qS hown hp2 hg4
       have hG4:=ja Hg.out hg4
       have hcell:=(hG4.cell_far ⟨bX,j,none⟩ hbX2 (by intro h;simp at h;exact hbXp h)).trans (Hlie.out.cell j hjX)
       have hoX:=HX.out.2 X[j] (List.getElem_mem hjX)
       have HoX:=hid hoX
       clear hown hrd hu4 hg4 hg hoX
       generalize hx:(X[j]).text=x at *
       have Hx:=hid hx
       clear hx
       go_wp2_with (at_builtin;refine wpList_append_own _ rfl (.tmp 22) (.tmp 31) 71 rfl W3.heap.size 9 i0 (.string ⟨#[]⟩) 1 16 Tryz.underlying71 hi hz0 hz1 hz2 rfl (by decide) _ _ _ rfl (hown4.alloc _) ⟨_,0,none⟩ 1 1 [strB x] rfl rfl ?c1 ?c2 ?c3 ?c4 ?c5 ?_)
       case c1=>exact qj w4 #[strB x] 9
       case c2=>intro u hu;simp at hu;subst hu;rfl
       case c3=>unfold maxLen;omega
       case c4=>omega
       case c5=>have:=hG4.size;simp;omega
       intro v5 w5 hown5 hgr5 _
       have HR:=hid (Xu hrd4 hp2 hG4 hown4 hgr5)
       have HO5:=hid hown5
       clear hown4 hown5 hgr5 hG4 hrd4 hcell
       go_wp2
       go_roundw
       case rel =>
        refine ⟨acc++[⟨false,0,x⟩],r4,by simp;omega,by simp,?_,?_,HR.out.1,HR.out.2,?_⟩
        ·intro c hc
         rcases List.mem_append.1 hc with h|h
         ·exact Hok.out c h
         ·simp only [List.mem_cons,List.not_mem_nil,or_false] at h
          subst h
          exact ⟨rfl,rfl,by rw [← Hx.out];exact HoX.out.2.2⟩
        ·rw [show (acc++[(⟨false,0,x⟩:CellB)]).length=acc.length+1 by simp,show Jt (acc++[⟨false,0,x⟩])=Jt acc++[strB x] by simp [Jt,zz,texts]]
         exact HO5.out
        ·intro l2 q hl2 h
         obtain ⟨jj,m,hjj,k1,k2,k3⟩:=Nn Hleft.out hlt l2 q hl2 h
         obtain ⟨e1,e2⟩:=Hu4.out jj m (by show _≤_;omega) k1
         subst e1 e2
         obtain ⟨f1,f2,_⟩:=Hleft.out l2 q hl2 h
         rw [show (acc++[(⟨false,0,x⟩:CellB)]).length=acc.length+1 by simp]
         exact ⟨f1,f2,by rw [k2,Hx.out],k3⟩
       case measure=>simp [intOf];omega
     ·have hke:acc.length=count:=by omega
      have Hke:=hid hke
      have Hown:=hid hown
      have Hrd:=hid hrd
      have hi1:decide ((acc.length:Int) < (count:Int))=false:=by simp;omega
      clear hg hown hrd hke
      go_wp2
      go_ret
      refine ⟨ja (jz (jL w _) Hb0.out) (ja HG2.out Hg.out),.inr ⟨acc,r,_,⟨Hke.out,Hok.out⟩,rfl,jy Hown.out (Nat.le_trans Hb0.out.size HG2.out.size),Hrd.out,fun l2 q hl2 h=>?_⟩⟩
      obtain ⟨e1,e2,e3,e4⟩:=Hleft.out l2 q hl2 h
      rw [Hke.out,← hl2.1,List.take_length] at e3
      subst e3
      refine ⟨rfl,?_⟩
      exact List.append_cancel_left (e2.symm.trans e4)
end
section
abbrev sheet0:Array Value:=#[.int .i64 0,.bool false,Value.string { data:=#[] },Value.string { data:=#[] },.int .i64 0,.int .i64 0,.int .i64 0,Value.string { data:=#[] },Value.string { data:=#[] },Value.string { data:=#[] },.int .i64 0,.int .i64 0,.int .i64 0,.int .i64 0,.bool false,.slice none 0 0,.slice none 0 0,.slice none 0 0]
theorem Ge {P:Program} {fn:Func} {p q:Tmp} {ty tz:TypeId} (h:fn.results=#[.cell p ty,.cell q tz]) (tmps:Array Value) (w:World) (g k:Nat) (cs:Array Value) (x:Value)
  (hp:tmps.getD p undef=.pointer (some ⟨g,0,none⟩)) (hq:tmps.getD q undef=.pointer (some ⟨k,0,none⟩)) (hl:(loadVar ty ⟨g,0,none⟩).run P w=.ok (.agg cs) w) (hl2:(loadVar tz ⟨k,0,none⟩).run P w=.ok x w) :
  (results fn tmps).run P w=.ok (.tuple #[.agg cs,x]) w:=by
 have hp':tmps[p]?.getD undef=.pointer (some ⟨g,0,none⟩):=by simpa using hp
 have hq':tmps[q]?.getD undef=.pointer (some ⟨k,0,none⟩):=by simpa using hq
 simp [results,h,hp',hq',asAddr,hl,hl2]
theorem Cu (f:FormF) (footer:List UInt8) (B1 B2:Nat) (w:World) (hs:footer.length≤maxLen) (hl:(qe f).length≤65000) (h1:w.heap[B1]?=some (.cells (formC f) 115 (0,0))) (h2:w.cell? ⟨B2,0,none⟩=some (strB footer)) :
  Calls Tryz.prog 229 #[.pointer (some ⟨B1,0,none⟩),.pointer (some ⟨B2,0,none⟩)] w (Pq f footer w):=by
 have Hs:=hid hs
 have Hl:=hid hl
 have h2a:=jc (.cells sheet0 120) h2
 have h1a:=jt (.cells sheet0 120) h1
 clear hs hl
 obtain ⟨hb0,hl0,_,ho0⟩:=qg w sheet0 120
 go_enter Tryz.func229,Tryz.ntmps229
 go_wp2_with (refine wpList_load_row rfl 115 (.tmp 0) rfl B1 rfl 115 (formC f) (0,0) _ h1a Tryz.underlying115 rfl (by kernel_rfl) ?_)
 clear h1a h2a h1 h2
 refine (MD f footer (w.alloc (.cells sheet0 120)) Hs.out Hl.out).mono ?_
 generalize w.alloc _=W0 at *
 have HB0:=hid hb0
 have Ho0:=hid ho0
 clear hb0 ho0
 rintro e w1 ⟨hb1,⟨rfl,hn⟩|⟨S,v,cv,pv,Kb,V,Qp,Qm,Pv,hS,hok,rfl,hin⟩⟩
 ·have HN:=hid hn
  have HB1:=hid (HB0.out.trans (hb1.mono HB0.out.size))
  clear hb1 hn
  go_wp2
  exact ⟨rfl,HB1.out,.inl ⟨rfl,HN.out⟩⟩
 ·have HS:=hid (And.intro hS hok)
  have HB1:=hid (HB0.out.trans (hb1.mono HB0.out.size))
  have Ho1:=hid (jb hb1 Ho0.out)
  obtain ⟨hv,hsz,hone⟩:=hin.one
  subst hv
  have HIN:=hid hin
  clear hb1 hS hok hin
  generalize hCC:zt S f cv pv Kb=CC at *
  have HCC:=hid hCC
  clear hCC
  have hinf:(Tryz.prog.info? 120).map (·.size)=some CC.size:=by rw [hsz];kernel_rfl
  have hsz0:sheet0.size=CC.size:=by rw [hsz];rfl
  have HSZ:=hid hsz
  clear hsz
  go_wp2_with (refine wpList_store_row rfl 120 (.tmp 2) (.tmp 5) rfl w.heap.size CC rfl rfl 120 sheet0 Ho1.out hinf hsz0 hone ?_)
  have HoF:=hid (setRow_heap w1 w.heap.size _ CC 120 (0,0) Ho1.out)
  have HBF:=hid (HB1.out.trans (jg (jn w1 w.heap.size CC) (Nat.le_refl _) HB1.out.size))
  have HIF:=hid ((HIN.out.grown (jn w1 w.heap.size CC) Ho1.out (by decide) (by decide) (by decide) (by decide)).lower HB0.out.size)
  generalize w1.setRow _ _=WF at *
  exact bodyPost_ret (v:=.agg CC) (results_cell_row (P:=Tryz.prog) (p:=2) (ty:=120) rfl _ _ w.heap.size 120 CC (0,0) _ rfl HoF.out Tryz.underlying120 rfl hinf) rfl ⟨HBF.out,.inr ⟨S,.agg CC,cv,pv,Kb,V,Qp,Qm,Pv,HS.out.1,HS.out.2,rfl,HIF.out⟩⟩
theorem VH (p:Addr) (b:Bool) (u:TypeId) (pv:Value) (older:List PanicEntry) (w:World) (hc:w.cell? p=some (.bool b)) (hz:w.frozen? p=false) :
  CallsD Tryz.prog 258 #[.pointer (some p)] (.panicking ({ v:=.iface u pv,recovered:=false } :: older)) w fun e u' w' =>
   e=.returned (.tuple #[])∧u'=.panicking ({ v:=.iface u pv,recovered:=true } :: older)∧w'=w.setCell p (.bool false):=by
 refine callsD_of_wpS Tryz.func258 rfl fun c₀ cs hu=>?_
 apply wpS_region
 simp [wpOpsS,go_sem,recoverD,hu,Tryz.ntmps258,Exit.thenS,hc,hz,bodyPostS,results,Tryz.results258]
theorem Ej (p:Addr) (b:Bool) (w:World) (hc:w.cell? p=some (.bool b)) (hz:w.frozen? p=false) :
  CallsD Tryz.prog 258 #[.pointer (some p)] .returning w fun e u' w'=>e=.returned (.tuple #[])∧u'=.returning∧w'=w.setCell p (.bool true):=by
 refine callsD_of_wpS Tryz.func258 rfl fun c₀ cs hu=>?_
 apply wpS_region
 simp [wpOpsS,go_sem,recoverD,hu,Tryz.ntmps258,Exit.thenS,hc,hz,bodyPostS,results,Tryz.results258]
 cases c₀
 simp_all
def VA (f:FormF) (footer:List UInt8) (w:World) (e:Ending) (w':World):Prop :=
 Below w.heap.size w w'∧((xp f.foot f.parts footer=none∧e=.returned (.tuple #[.agg sheet0,.bool false])) ∨
  ∃ S cv pv Kb V Qp Qm Pv,xp f.foot f.parts footer=some S∧SheetOk f.foot f.parts footer S∧e=.returned (.tuple #[.agg (zt S f cv pv Kb),.bool true])∧SheetIn S f w.heap.size w' (.agg (zt S f cv pv Kb)) cv pv Kb V Qp Qm Pv)
theorem Pk (f:FormF) (footer:List UInt8) (B1 B2:Nat) (w:World) (hs:footer.length≤maxLen) (hl:(qe f).length≤65000) (h1:w.heap[B1]?=some (.cells (formC f) 115 (0,0))) (h2:w.cell? ⟨B2,0,none⟩=some (strB footer)) :
  Calls Tryz.prog 228 #[.func (.func 229) #[] #[.pointer (some ⟨B1,0,none⟩),.pointer (some ⟨B2,0,none⟩)]] w (VA f footer w):=by
 have hmf:∀ (fn:Fn) (first cap:Array Value) (w:World),(Instr.makeFunc fn first cap).run Tryz.prog w=.ok (.func fn first cap) w:=fun _ _ _ _=>rfl
 have Hs:=hid hs
 have Hl:=hid hl
 have H1a:=hid (jt (.cells #[.bool false] 4) (jt (.cells sheet0 120) h1))
 have H2a:=hid (jc (.cells #[.bool false] 4) (jc (.cells sheet0 120) h2))
 obtain ⟨hb0,hl0,ho0,hk0⟩:=JQ w sheet0 120 #[.bool false] 4
 clear hs hl h1 h2
 go_enter_defers Tryz.func228,Tryz.ntmps228
 go_wp2_with fail
 refine (Cu f footer B1 B2 ((w.alloc (.cells sheet0 120)).alloc (.cells #[.bool false] 4)) Hs.out Hl.out H1a.out H2a.out).mono ?_
 clear H1a H2a
 generalize (w.alloc _).alloc _=W0 at *
 have HB0:=hid hb0
 have Ho0:=hid ho0
 have Hk0:=hid hk0
 clear hb0 ho0 hk0
 rintro e w2 ⟨hb2,ho⟩
 have HB2:=hid (HB0.out.trans (hb2.mono HB0.out.size))
 have Ho2:=hid (jb hb2 Ho0.out)
 have Hk2:=hid (jb hb2 Hk0.out)
 have hc2:w2.cell? ⟨w.heap.size+1,0,none⟩=some (.bool false):=by rw [jd Hk2.out];rfl
 have hz2:w2.frozen? ⟨w.heap.size+1,0,none⟩=false:=frozen_of_row w2 _ _ _ _ Hk2.out
 rcases ho with ⟨rfl,hn⟩|⟨S,v,cv,pv,Kb,V,Qp,Qm,Pv,hS,hok,rfl,hin⟩
 ·have Hn:=hid hn
  clear hn hb2
  go_wp2
  refine leaves_cons (f:=258) (args:=#[.pointer (some ⟨w.heap.size+1,0,none⟩)]) (by simp) (by simp [go_sem]) ?_
  refine (VH ⟨w.heap.size+1,0,none⟩ false 9 _ [] _ hc2 hz2).mono ?_
  rintro e u' w'' ⟨rfl,rfl,rfl⟩
  have hW:=World.cell?_setCell_same w2 ⟨w.heap.size+1,0,none⟩ (.bool false) hc2
  have HBW:=hid (HB2.out.setCell (p:=⟨w.heap.size+1,0,none⟩) (by simp) (.bool false))
  have HoW:=hid (jf (qn w2 (w.heap.size+1) 0 (.bool false)) Ho2.out (by omega))
  generalize w2.setCell _ _=W at *
  have hload:=run_loadVar_row (P:=Tryz.prog) W w.heap.size 120 120 sheet0 (0,0) _ HoW.out Tryz.underlying120 rfl (by kernel_rfl)
  have hload2:(loadVar 4 ⟨w.heap.size+1,0,none⟩).run Tryz.prog W=.ok (.bool false) W:=by simp [go_sem,hW]
  have HFIN:Hid (VA f footer w (.returned (.tuple #[.agg sheet0,.bool false])) W):=⟨HBW.out,.inl ⟨Hn.out,rfl⟩⟩
  exact ⟨_,Ge (p:=2) (q:=3) rfl _ _ _ _ _ _ rfl rfl hload hload2,HFIN.out⟩
 ·obtain ⟨hv,hsz,hone⟩:=hin.one
  subst hv
  have HFS:=hid (And.intro hS hok)
  have HIN:=hid hin
  clear hS hok hin
  generalize hCC:zt S f cv pv Kb=CC at *
  have HCC:=hid hCC
  clear hCC
  have hinf:(Tryz.prog.info? 120).map (·.size)=some CC.size:=by rw [hsz];kernel_rfl
  have hsz0:sheet0.size=CC.size:=by rw [hsz];rfl
  clear hsz
  have hg3:=jn w2 w.heap.size CC
  have Hk3:=hid (jf hg3 Hk2.out (by omega))
  have Ho3:=hid (setRow_heap w2 w.heap.size _ CC 120 (0,0) Ho2.out)
  have HB3:=hid (HB2.out.trans (jg hg3 (Nat.le_refl _) HB2.out.size))
  have HI3:=hid ((HIN.out.grown hg3 Ho2.out (by decide) (by decide) (by decide) (by decide)).lower HB0.out.size)
  have hc3:(w2.setRow w.heap.size CC).cell? ⟨w.heap.size+1,0,none⟩=some (.bool false):=by rw [jd Hk3.out];rfl
  have hz3:(w2.setRow w.heap.size CC).frozen? ⟨w.heap.size+1,0,none⟩=false:=frozen_of_row _ _ _ _ _ Hk3.out
  clear hb2 hg3 hc2 hz2
  go_wp2_with (refine wpList_store_row rfl 120 (.tmp 2) (.tmp 6) rfl w.heap.size CC rfl rfl 120 sheet0 Ho2.out hinf hsz0 hone ?_)
  generalize w2.setRow _ _=w3 at *
  refine leaves_cons (f:=258) (args:=#[.pointer (some ⟨w.heap.size+1,0,none⟩)]) (by simp) (by simp [go_sem]) ?_
  refine (Ej ⟨w.heap.size+1,0,none⟩ true _ ?_ ?_).mono ?_
  ·exact World.cell?_setCell_same w3 ⟨w.heap.size+1,0,none⟩ (.bool true) hc3
  ·simp [hz3]
  rintro e u' w'' ⟨rfl,rfl,rfl⟩
  have hW1:=World.cell?_setCell_same w3 ⟨w.heap.size+1,0,none⟩ (.bool true) hc3
  have hW:=World.cell?_setCell_same _ ⟨w.heap.size+1,0,none⟩ (.bool true) hW1
  have HBW:=hid ((HB3.out.setCell (p:=⟨w.heap.size+1,0,none⟩) (by simp) (.bool true)).setCell (p:=⟨w.heap.size+1,0,none⟩) (by simp) (.bool true))
  have ga:=qn w3 (w.heap.size+1) 0 (.bool true)
  have gb:=qn (w3.setCell ⟨w.heap.size+1,0,none⟩ (.bool true)) (w.heap.size+1) 0 (.bool true)
  have hka:(w3.setCell ⟨w.heap.size+1,0,none⟩ (.bool true)).heap[w.heap.size+1]?=some (.cells #[.bool true] 4 (0,0)):=by
   rw [heap_setCell_same w3 (w.heap.size+1) 0 _ 4 (.bool true) Hk3.out];rfl
  have HoW:=hid (jf gb (jf ga Ho3.out (by omega)) (by omega))
  have HIW:=hid ((HI3.out.grown ga Hk3.out (by decide) (by decide) (by decide) (by decide)).grown gb hka (by decide) (by decide) (by decide) (by decide))
  clear hW1 hc3 hz3 ga gb hka
  generalize (w3.setCell _ _).setCell _ _=W at *
  have hload:=run_loadVar_row (P:=Tryz.prog) W w.heap.size 120 120 CC (0,0) _ HoW.out Tryz.underlying120 rfl hinf
  have hload2:(loadVar 4 ⟨w.heap.size+1,0,none⟩).run Tryz.prog W=.ok (.bool true) W:=by simp [go_sem,hW]
  rw [← HCC.out] at hload
  have HFIN:Hid (VA f footer w (.returned (.tuple #[.agg (zt S f cv pv Kb),.bool true])) W):=⟨HBW.out,.inr ⟨S,cv,pv,Kb,V,Qp,Qm,Pv,HFS.out.1,HFS.out.2,rfl,by rw [HCC.out];exact HIW.out⟩⟩
  exact ⟨_,Ge (p:=2) (q:=3) rfl _ _ _ _ _ _ rfl rfl hload hload2,HFIN.out⟩
end
section
theorem TD (w:World) (C1:Array Value) (t1:TypeId) (C2:Array Value) (t2:TypeId) (C3:Array Value) (t3:TypeId):Below w.heap.size w (((w.alloc (.cells C1 t1)).alloc (.cells C2 t2)).alloc (.cells C3 t3))∧w.heap.size+1+1 < (((w.alloc (.cells C1 t1)).alloc (.cells C2 t2)).alloc (.cells C3 t3)).heap.size ∧
  (((w.alloc (.cells C1 t1)).alloc (.cells C2 t2)).alloc (.cells C3 t3)).heap[w.heap.size]?=some (.cells C1 t1 (0,0))∧(((w.alloc (.cells C1 t1)).alloc (.cells C2 t2)).alloc (.cells C3 t3)).heap[w.heap.size+1]?=some (.cells C2 t2 (0,0))∧(((w.alloc (.cells C1 t1)).alloc (.cells C2 t2)).alloc (.cells C3 t3)).heap[w.heap.size+1+1]?=some (.cells C3 t3 (0,0)):=by
 obtain ⟨hb,hl,h1,h2⟩:=JQ w C1 t1 C2 t2
 have e:((w.alloc (.cells C1 t1)).alloc (.cells C2 t2)).heap.size=w.heap.size+2:=by simp
 refine ⟨hb.alloc hb.size _,by simp,jt _ h1,jt _ h2,?_⟩
 have:=heap_alloc_new ((w.alloc (.cells C1 t1)).alloc (.cells C2 t2)) (.cells C3 t3)
 rw [e] at this
 exact this
theorem qQ {P:Program} {fn:Func} {p q:Tmp} {ty:TypeId} (h:fn.results=#[.cell p ty,.tmp q]) (tmps:Array Value) (w:World) (g:Nat) (cs:Array Value) (x:Value)
  (hp:tmps.getD p undef=.pointer (some ⟨g,0,none⟩)) (hq:tmps.getD q undef=x) (hl:(loadVar ty ⟨g,0,none⟩).run P w=.ok (.agg cs) w) :
  (results fn tmps).run P w=.ok (.tuple #[.agg cs,x]) w:=by
 have hp':tmps[p]?.getD undef=.pointer (some ⟨g,0,none⟩):=by simpa using hp
 have hq':tmps[q]?.getD undef=x:=by simpa using hq
 simp [results,h,hp',hq',asAddr,hl]
def Lt (f:FormF) (footer:List UInt8) (w:World) (e:Ending) (w':World):Prop :=
 Below w.heap.size w w'∧((xp f.foot f.parts footer=none∧e=.returned (.tuple #[.agg sheet0,.int .i64 9])) ∨
  ∃ S cv pv Kb V Qp Qm Pv,xp f.foot f.parts footer=some S∧SheetOk f.foot f.parts footer S∧e=.returned (.tuple #[.agg (zt S f cv pv Kb),.int .i64 0])∧SheetIn S f w.heap.size w' (.agg (zt S f cv pv Kb)) cv pv Kb V Qp Qm Pv)
theorem Ng (f:FormF) (footer:List UInt8) (w:World) (hs:footer.length≤maxLen) (hl:(qe f).length≤65000) :
  Calls Tryz.prog 160 #[formV f,strB footer] w (Lt f footer w):=by
 have hmf:∀ (fn:Fn) (first cap:Array Value) (w:World),(Instr.makeFunc fn first cap).run Tryz.prog w=.ok (.func fn first cap) w:=fun _ _ _ _=>rfl
 have Hs:=hid hs
 have Hl:=hid hl
 clear hs hl
 show Calls _ _ #[.agg (formC f),strB footer] _ _
 generalize hFC:formC f=FC
 have HFC:=hid hFC
 clear hFC
 obtain ⟨hb0,hl0,h1,h2,h3⟩:=TD w FC 115 #[strB footer] 9 sheet0 120
 go_enter Tryz.func160,Tryz.ntmps160
 go_wp2_with fail
 generalize ((w.alloc _).alloc _).alloc _=W0 at *
 have HB0:=hid hb0
 have H1:Hid (W0.heap[w.heap.size]?=some (.cells (formC f) 115 (0,0))):=by show _=_;rw [HFC.out];exact h1
 have H2:Hid (W0.cell? ⟨w.heap.size+1,0,none⟩=some (strB footer)):=by show _=_;rw [jd h2];rfl
 have H3:=hid h3
 clear hb0 h1 h2 h3
 refine (Pk f footer w.heap.size (w.heap.size+1) W0 Hs.out Hl.out H1.out H2.out).mono ?_
 rintro e w1 ⟨hb1,⟨hn,rfl⟩|⟨S,cv,pv,Kb,V,Qp,Qm,Pv,hS,hok,rfl,hin⟩⟩
 ·have HN:=hid hn
  have HB1:=hid (HB0.out.trans (hb1.mono HB0.out.size))
  have H31:=hid (jb hb1 H3.out)
  clear hb1 hn
  obtain ⟨hbA,hlA,_,hoA⟩:=qg w1 sheet0 120
  have gA:=jn (w1.alloc (.cells sheet0 120)) w1.heap.size sheet0
  have h3A:=jf gA (jb hbA H31.out) (by have:=HB1.out.size;have:=(Array.getElem?_eq_some_iff.1 H31.out).1;omega)
  have HBA:=hid ((HB1.out.trans (hbA.mono HB1.out.size)).trans (jg gA HB1.out.size (Nat.le_trans HB1.out.size hbA.size)))
  go_wp2_with (first
   | (refine wpList_store_row rfl 120 (.tmp 6) (.tmp 11) rfl w1.heap.size sheet0 rfl rfl 120 sheet0 hoA (by kernel_rfl) rfl (by simp [Value.oneCell']) ?_)
   | (refine wpList_store_row rfl 120 (.tmp 4) (.tmp 15) rfl (w.heap.size+1+1) sheet0 rfl rfl 120 sheet0 h3A (by kernel_rfl) rfl (by simp [Value.oneCell']) ?_))
  show bodyPost _ _ _ _ _ (((w1.alloc (.cells sheet0 120)).setRow w1.heap.size sheet0).setRow (w.heap.size+1+1) sheet0)
  have H3A:=hid h3A
  clear hoA h3A gA hbA
  generalize (w1.alloc _).setRow _ _=w2 at *
  have HoF:=hid (setRow_heap w2 (w.heap.size+1+1) _ sheet0 120 (0,0) H3A.out)
  have HBF:=hid (HBA.out.trans (jg (jn w2 (w.heap.size+1+1) sheet0) (by omega) HBA.out.size))
  generalize w2.setRow _ _=WF at *
  exact bodyPost_ret (v:=.tuple #[.agg sheet0,.int .i64 9]) (qQ (p:=4) (q:=5) rfl _ _ _ _ _ rfl rfl (run_loadVar_row (P:=Tryz.prog) WF (w.heap.size+1+1) 120 120 sheet0 (0,0) _ HoF.out Tryz.underlying120 rfl (by kernel_rfl))) rfl ⟨HBF.out,.inl ⟨HN.out,rfl⟩⟩
 ·have HFS:=hid (And.intro hS hok)
  have HB1:=hid (HB0.out.trans (hb1.mono HB0.out.size))
  have H31:=hid (jb hb1 H3.out)
  obtain ⟨_,hsz,hone⟩:=hin.one
  have HIN:=hid (hin.lower (b:=w.heap.size) HB0.out.size)
  clear hb1 hS hok hin
  generalize hCC:zt S f cv pv Kb=CC at *
  have HCC:=hid hCC
  clear hCC
  have hinf:(Tryz.prog.info? 120).map (·.size)=some CC.size:=by rw [hsz];kernel_rfl
  have hsz0:sheet0.size=CC.size:=by rw [hsz];rfl
  clear hsz
  obtain ⟨hbA,hlA,_,hoA⟩:=qg w1 sheet0 120
  have gA:=jn (w1.alloc (.cells sheet0 120)) w1.heap.size CC
  have oA:=setRow_heap (w1.alloc (.cells sheet0 120)) w1.heap.size _ CC 120 (0,0) hoA
  have h3A:=jf gA (jb hbA H31.out) (by have:=HB1.out.size;have:=(Array.getElem?_eq_some_iff.1 H31.out).1;omega)
  have HBA:=hid ((HB1.out.trans (hbA.mono HB1.out.size)).trans (jg gA HB1.out.size (Nat.le_trans HB1.out.size hbA.size)))
  have HIA:=hid ((HIN.out.later hbA).grown gA hoA (by decide) (by decide) (by decide) (by decide))
  go_wp2_with (first
   | (refine wpList_store_row rfl 120 (.tmp 6) (.tmp 11) rfl w1.heap.size CC rfl rfl 120 sheet0 hoA hinf hsz0 hone ?_)
   | (refine wpList_load_row rfl 120 (.tmp 6) rfl w1.heap.size rfl 120 CC (0,0) _ oA Tryz.underlying120 rfl hinf ?_)
   | (refine wpList_store_row rfl 120 (.tmp 4) (.tmp 16) rfl (w.heap.size+1+1) CC rfl rfl 120 sheet0 h3A hinf hsz0 hone ?_))
  show bodyPost _ _ _ _ _ (((w1.alloc (.cells sheet0 120)).setRow w1.heap.size CC).setRow (w.heap.size+1+1) CC)
  have H3A:=hid h3A
  clear hoA oA h3A gA hbA
  generalize (w1.alloc _).setRow _ _=w2 at *
  have HoF:=hid (setRow_heap w2 (w.heap.size+1+1) _ CC 120 (0,0) H3A.out)
  have HBF:=hid (HBA.out.trans (jg (jn w2 (w.heap.size+1+1) CC) (by omega) HBA.out.size))
  have HIF:=hid (HIA.out.grown (jn w2 (w.heap.size+1+1) CC) H3A.out (by decide) (by decide) (by decide) (by decide))
  generalize w2.setRow _ _=WF at *
  exact bodyPost_ret (v:=.tuple #[.agg CC,.int .i64 0]) (qQ (p:=4) (q:=5) rfl _ _ _ _ _ rfl rfl (run_loadVar_row (P:=Tryz.prog) WF (w.heap.size+1+1) 120 120 CC (0,0) _ HoF.out Tryz.underlying120 rfl hinf)) rfl ⟨HBF.out,.inr ⟨S,cv,pv,Kb,V,Qp,Qm,Pv,HFS.out.1,HFS.out.2,by rw [HCC.out],by rw [HCC.out];exact HIF.out⟩⟩
end
section
theorem NQ (file:List UInt8):((⟨file.toArray⟩:ByteArray).extract 0 2).toList=file.take 2:=by rw [ByteArray.toList_eq];simp
theorem NV (file:List UInt8):((⟨file.toArray⟩:ByteArray).extract (file.length - 2) file.length).toList=file.drop (file.length - 2):=by rw [ByteArray.toList_eq];simp;rw [List.take_of_length_le (by simp)]
theorem UH (file:List UInt8) (a b:Nat):(⟨file.toArray⟩:ByteArray).extract a b=⟨((file.drop a).take (b - a)).toArray⟩:=by
 apply ByteArray.ext
 rw [ByteArray.data_extract]
 simp
theorem xC {w w':World} {B p:Nat} (h:w.grownBy w' (some p)) (hp:B≤p) (hB:B≤w.heap.size):Below B w w' :=
 ⟨h.os,h.tape,h.output,h.size,fun i hi=>h.block i (Nat.lt_of_lt_of_le hi hB) (by intro e;injection e with e;omega)⟩
theorem qb {B:Nat} {w w':World} (h:Below B w w'):Below B w w'.drew:=⟨h.os,h.tape,h.output,h.size,h.block⟩
def PF (file:List UInt8):Prop:=¬ 65000 < file.length∧¬ file.length < 8∧file.take 2=[67,70]∧file.drop (file.length - 2)=[67,70]∧(file.getD 2 0=69∨file.getD 2 0=79)∧¬ (file.getD 3 0).toNat < 1∧¬ 9 < (file.getD 3 0).toNat
theorem Rh (file:List UInt8) (w:World) (hgood:PF file) (hfr:file.length < 8+Qe (file.drop (file.length - 4))) :
  Calls Tryz.prog 88 #[strB file] w (EX file w):=by
 have HN:Hid (zP file=none):=by
  show _=_
  unfold zP
  rw [if_pos hfr]
  split<;>rfl
 have Hgood:=hid hgood
 obtain ⟨h1,h2,h3,h4,h5,h6,h7⟩:=hgood
 obtain ⟨hb0,hl0,_,ho0⟩:=qg w file0 169
 have HB0:=hid hb0
 have Ho0:=hid ho0
 clear hb0 ho0
 have h1i:(file.length:Int)≤65000:=by omega
 have h2i:(8:Int)≤(file.length:Int):=by omega
 have h1d:decide ((65000:Int) < (file.length:Int))=false:=decide_eq_false (by omega)
 have h2d:decide ((file.length:Int) < 8)=false:=decide_eq_false (by omega)
 have h3d:(((⟨file.toArray⟩:ByteArray).extract 0 2).toList == [67,70])=true:=by rw [NQ];simpa using h3
 have h4d:(((⟨file.toArray⟩:ByteArray).extract (file.length - 2) file.length).toList == [67,70])=true:=by rw [NV];simpa using h4
 have hl2:2 < (⟨file.toArray⟩:ByteArray).size:=by simp [ByteArray.size];omega
 have hl3:3 < (⟨file.toArray⟩:ByteArray).size:=by simp [ByteArray.size];omega
 obtain ⟨b2,hb2⟩:∃ b,file[2]?=some b:=⟨file[2],List.getElem?_eq_getElem (by omega)⟩
 obtain ⟨b3,hb3⟩:∃ b,file[3]?=some b:=⟨file[3],List.getElem?_eq_getElem (by omega)⟩
 have g2:file.getD 2 0=b2:=by simp [List.getD,hb2]
 have g3:file.getD 3 0=b3:=by simp [List.getD,hb3]
 have i2:((⟨file.toArray⟩:ByteArray)[2]'hl2).toNat=b2.toNat:=by
  have:=(List.getElem?_eq_some_iff.1 hb2).2
  rw [← this];rfl
 have i3:((⟨file.toArray⟩:ByteArray)[3]'hl3).toNat=b3.toNat:=by
  have:=(List.getElem?_eq_some_iff.1 hb3).2
  rw [← this];rfl
 rw [g3] at h6 h7
 rw [g2] at h5
 have Hg3:=hid g3
 have Hg2:=hid g2
 have h6d:decide ((b3.toNat:Int) < 1)=false:=decide_eq_false (by omega)
 have h7d:decide ((9:Int) < (b3.toNat:Int))=false:=decide_eq_false (by omega)
 obtain ⟨y0,hy0⟩:∃ b,file[file.length - 4]?=some b:=⟨file[file.length - 4]'(by omega),List.getElem?_eq_getElem (by omega)⟩
 obtain ⟨y1,hy1⟩:∃ b,file[file.length - 3]?=some b:=⟨file[file.length - 3]'(by omega),List.getElem?_eq_getElem (by omega)⟩
 have e0:∀ h,(⟨file.toArray⟩:ByteArray)[file.length - 4]'h=y0:=fun h=>(List.getElem?_eq_some_iff.1 hy0).2
 have e1:∀ h,(⟨file.toArray⟩:ByteArray)[file.length - 3]'h=y1:=fun h=>(List.getElem?_eq_some_iff.1 hy1).2
 have HTN:Hid (Qe (file.drop (file.length - 4))=y0.toNat+256*y1.toNat):=by
  show _=_
  obtain ⟨h0,h0'⟩:=List.getElem?_eq_some_iff.1 hy0
  obtain ⟨h1,h1'⟩:=List.getElem?_eq_some_iff.1 hy1
  rw [List.drop_eq_getElem_cons h0,h0',show file.length - 4+1=file.length - 3 by omega,List.drop_eq_getElem_cons h1,h1']
  rfl
 have l0:y0.toNat < 256:=y0.toNat_lt
 have l1:y1.toNat < 256:=y1.toNat_lt
 have l3:b3.toNat < 256:=b3.toNat_lt
 clear hy0 hy1 hb2 hb3 g2 g3 h1 h2 h3 h4 h6 h7
 have q0:(0:Int)≤(file.length:Int) - 4:=by omega
 have q1:(file.length:Int) - 4 < (file.length:Int):=by omega
 have q2:((file.length:Int) - 4).toNat=file.length - 4:=by omega
 have q3:(0:Int)≤(file.length:Int) - 3:=by omega
 have q4:(file.length:Int) - 3 < (file.length:Int):=by omega
 have q5:((file.length:Int) - 3).toNat=file.length - 3:=by omega
 have w0:IntKind.i64.wrap ((file.length:Int) - 4)=(file.length:Int) - 4:=IntWalk.i64_in _ ⟨by omega,by omega⟩
 have w1:IntKind.i64.wrap ((file.length:Int) - 3)=(file.length:Int) - 3:=IntWalk.i64_in _ ⟨by omega,by omega⟩
 have w2:IntKind.i64.wrap (y0.toNat:Int)=(y0.toNat:Int):=IntWalk.i64_in _ ⟨by omega,by omega⟩
 have w3:IntKind.i64.wrap (y1.toNat:Int)=(y1.toNat:Int):=IntWalk.i64_in _ ⟨by omega,by omega⟩
 have w4:IntKind.i64.wrap (256*(y1.toNat:Int))=256*(y1.toNat:Int):=IntWalk.i64_in _ ⟨by omega,by omega⟩
 have w5:IntKind.i64.wrap ((file.length:Int) - 4 - (y0.toNat:Int))=(file.length:Int) - 4 - (y0.toNat:Int):=IntWalk.i64_in _ ⟨by omega,by omega⟩
 have w6:IntKind.i64.wrap ((file.length:Int) - 4 - (y0.toNat:Int) - 256*(y1.toNat:Int))=(file.length:Int) - 4 - (y0.toNat:Int) - 256*(y1.toNat:Int):=IntWalk.i64_in _ ⟨by omega,by omega⟩
 have w7:IntKind.i64.wrap (b3.toNat:Int)=(b3.toNat:Int):=IntWalk.i64_in _ ⟨by omega,by omega⟩
 rw [HTN.out] at hfr
 have hfd:(file.length:Int) - 4 - (y0.toNat:Int) - 256*(y1.toNat:Int) < 4:=by omega
 clear hfr
 have h5a:(b2=69∧((b2.toNat:Int) != 69)=false)∨(b2=79∧((b2.toNat:Int) != 69)=true∧((b2.toNat:Int) != 79)=false):=by
  rcases h5 with rfl|rfl
  ·exact .inl ⟨rfl,rfl⟩
  ·exact .inr ⟨rfl,rfl,rfl⟩
 clear h5
 rcases h5a with ⟨_,h5b⟩|⟨_,h5b,h5c⟩
 all_goals
  go_enter Tryz.func88,Tryz.ntmps88
  go_wp2_with fail
  go_quiet (fail)
  have HoN:Hid (((w.alloc (.cells file0 169)).drewN nq).heap[w.heap.size]?=some (.cells file0 169 (0,0))):=Ho0.out
  have HBN:=hid (below_drewN HB0.out nq)
  generalize hWN:(w.alloc _).drewN nq=WN at *
  clear hWN
  go_wp2_with (refine wpList_store_row rfl 169 (.tmp 2) (.tmp 67) rfl w.heap.size file0 rfl rfl 169 file0 HoN.out (by kernel_rfl) rfl (by simp [Value.oneCell']) ?_)
  have HoX:=hid (setRow_heap WN w.heap.size _ file0 169 (0,0) HoN.out)
  have HBX:=hid (HBN.out.trans (xC (Qy WN w.heap.size file0) (Nat.le_refl _) HBN.out.size))
  generalize WN.setRow _ _=WX at *
  exact bodyPost_ret (v:=.tuple #[.agg file0,.bool false]) (ql (p:=2) (q:=3) rfl _ _ _ _ _ rfl rfl (run_loadVar_row (P:=Tryz.prog) WX w.heap.size 169 169 file0 (0,0) _ HoX.out Tryz.underlying169 rfl (by kernel_rfl))) rfl ⟨HBX.out,.inl ⟨HN.out,_,⟨by rfl,by simp [Value.oneCell']⟩,rfl⟩⟩
end
end Go.Proofs.YthhpbhpfagoapaaGreat
