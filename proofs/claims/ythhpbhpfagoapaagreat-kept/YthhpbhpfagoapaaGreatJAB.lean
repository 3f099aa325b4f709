import Derived.Test.YthhpbhpfagoapaaGreatJAF
namespace Go.Proofs.YthhpbhpfagoapaaGreat
set_option linter.unusedVariables false
set_option linter.unusedSimpArgs false
set_option maxRecDepth 100000
set_option maxHeartbeats 16000000
open Go.RowKit
section
def QZ (b:Bool):CellB:=⟨b,0,[]⟩
def UA (fl:List Bool):List UInt8:=uB fl.length++qQ false (fl.map QZ)
theorem Dv (l:List CellB):∀ (b:Bool) (n:Nat),Xc b n l=Xc b n ((l.map (·.null)).map QZ):=by
 induction l with
 | nil=>intro b n;rfl
 | cons c l ih =>
  intro b n
  simp only [List.map_cons,Xc,QZ]
  rw [ih,ih]
theorem Py (l:List CellB):zz l=UA (l.map (·.null)):=by
 unfold zz UA qQ
 rw [List.length_map]
 congr 1
 cases l with
 | nil=>rfl
 | cons c l =>
  rw [if_neg (by simp),if_neg (by simp),Dv]
theorem Ef (nb:Bool) (fl:List Bool) (j:Nat) (h:j < zG nb (fl.map QZ)):∃ hj:j < fl.length,fl[j]=nb:=by
 obtain ⟨h1,h2⟩:=YF nb (fl.map QZ) j h
 rw [List.length_map] at h1
 exact ⟨h1,by simpa [QZ] using h2⟩
theorem Rd (nb:Bool) (fl:List Bool) (h:zG nb (fl.map QZ) < fl.length):fl[zG nb (fl.map QZ)]=!nb:=by
 have:=EG nb (fl.map QZ) (by simpa using h)
 simpa [QZ] using this
def Px (rest:List UInt8) (count:Nat) (acc:List Bool) (nb:Bool) (r:List UInt8):Prop :=
 ∀ fl q,fl.length≤60→rest=UA fl++q→fl.length=count∧fl.take acc.length=acc∧r=qQ nb ((fl.drop acc.length).map QZ)++q∧((acc=[]∧nb=false)∨∀ h:acc.length < fl.length,fl[acc.length]=nb)
theorem JE {rest r:List UInt8} {count:Nat} {acc:List Bool} {nb:Bool} (h:Px rest count acc nb r) (hlt:acc.length < count) (fl:List Bool) (q:List UInt8) (hl:fl.length≤60) (hr:rest=UA fl++q) :
  ∃ (rr:Nat) (m:List UInt8),rr≤count - acc.length∧r=uB rr++m∧(rr=0→acc=[]∧nb=false)∧fl.length=count∧fl.take (acc.length+rr)=acc++List.replicate rr nb∧m=qQ (!nb) ((fl.drop (acc.length+rr)).map QZ)++q∧((∀ h:acc.length+rr < fl.length,fl[acc.length+rr]=!nb)):=by
 obtain ⟨h1,h2,h3,h4⟩:=h fl q hl hr
 have hk:acc.length < fl.length:=by omega
 generalize hkk:acc.length=k at *
 have hle:=Gl nb ((fl.drop k).map QZ)
 rw [List.length_map,List.length_drop] at hle
 have hlt2:=Ef nb (fl.drop k)
 have hend:=Rd nb (fl.drop k)
 have hst:=Zn nb ((fl.drop k).map QZ) (by simp;omega)
 generalize hrr:zG nb ((fl.drop k).map QZ)=rr at *
 rw [← List.map_drop,List.drop_drop] at hst
 refine ⟨rr,qQ (!nb) ((fl.drop (k+rr)).map QZ)++q,by omega,by rw [h3,hst,List.append_assoc],?_,h1,?_,rfl,?_⟩
 ·intro h0
  rcases h4 with h5|h5
  ·exact h5
  ·exfalso
   have e1:=hend (by rw [List.length_drop];omega)
   rw [List.getElem_drop] at e1
   simp only [h0,Nat.add_zero] at e1
   rw [h5 hk] at e1
   cases nb<;>simp at e1
 ·rw [List.take_add,h2]
  congr 1
  apply List.ext_getElem
  ·rw [List.length_take,List.length_drop,List.length_replicate];omega
  ·intro j hj1 hj2
   rw [List.length_replicate] at hj2
   obtain ⟨_,e1⟩:=hlt2 j hj2
   rw [List.getElem_take,List.getElem_replicate]
   exact e1
 ·intro h5
  have e1:=hend (by rw [List.length_drop];omega)
  rw [List.getElem_drop] at e1
  exact e1
def Qh (fl:List Bool):List Value:=fl.map .bool
theorem Mv {w:World} {base n:Nat} {v:Value} {xs:List Value} (h:w.ownsRow base 4 1 v n xs) (w':World) :
  Sem.run Tryz.prog (Builtin.len_ #[282] 3 #[v]) w'=.ok (.int .i64 (n:Int)) w':=by
 rcases h.2 with ⟨rfl,rfl⟩|⟨g,cap,cur,rfl,_⟩
 ·exact run_len_slice (P:=Tryz.prog) w' 282 3 _ _ _ (by rw [Tryz.underlying282];rfl)
 ·exact run_len_slice (P:=Tryz.prog) w' 282 3 _ _ _ (by rw [Tryz.underlying282];rfl)
def Dk (p:Nat) (s rest:List UInt8) (w:World) (e:Ending) (w':World):Prop :=
 w.grownBy w' (some p)∧((e=gaveUp∧∀ fl q,fl.length≤60→rest≠UA fl++q)∨∃ fl r v,fl.length≤60∧e=.returned v∧w'.ownsRow w.heap.size 4 1 v fl.length (Qh fl)∧qp w' p s r∧∀ fl2 q,fl2.length≤60→rest=UA fl2++q→fl2=fl∧q=r)
theorem UK (p:Nat) (s rest:List UInt8) (w:World) (hs:s.length≤maxLen) (hp:qp w p s rest) :
  Calls Tryz.prog 209 #[.pointer (some ⟨p,0,none⟩)] w (Dk p s rest w):=by
 obtain ⟨i0,hi,hz0,hz1,hz2⟩:=info_parts Tryz.infoBool
 have Hs:=hid hs
 have Hp:=hid hp
 have hplt:=xh hp
 clear hs hp
 go_enter Tryz.func209,Tryz.ntmps209
 go_wp2_with fail
 refine (KH p s rest _ 60 _ rfl Hs.out (by omega) Hp.out).mono ?_
 rintro e w1 ⟨hg1,⟨rfl,hno⟩|⟨count,r1,hn,rfl,hrd1,hu1⟩⟩
 ·go_wp2
  refine ⟨rfl,hg1,.inl ⟨rfl,fun fl q hl h=>?_⟩⟩
  rw [UA,List.append_assoc] at h
  exact hno _ _ hl h
 ·have Hu1:=hid hu1
  have hcount:count≤60:=hn
  have Hg1:=hid hg1
  have hp1:=xh hrd1
  clear hu1 hg1 hn
  have HL0:Hid (Px rest count [] false r1):=by
   intro fl q hl h
   rw [UA,List.append_assoc] at h
   obtain ⟨e1,e2⟩:=Hu1.out _ _ hl h
   exact ⟨e1,rfl,e2.symm,.inl ⟨rfl,rfl⟩⟩
  go_wp2_with (at_make;refine wpList_make_own _ rfl (.const (.int .i64 0)) (.tmp 10) 282 rfl w1.heap.size 4 i0 (.bool false) 1 Tryz.underlying282 hi hz0 hz1 .i64 .i64 _ count rfl rfl rfl (by rw [hz2];omega) (by unfold maxLen;omega) (Nat.le_refl _) ?_;intro w3 hown3 hgr3)
  have hB3:Below w1.heap.size w1 w3:=(Below.refl _ _).grown hgr3 (Nat.le_refl _) (fun _ h=>by cases h)
  have hrd3:=qy hrd1 hB3 hp1
  have hg13:=jw (jK w1 (some p)) hB3
  clear hgr3 hB3 hrd1
  go_loopg [4,5] (2*count+1) (fun gk v b wr=>∃ (acc:List Bool) (nb:Bool) (r:List UInt8),b=.bool nb∧2*(count - acc.length)+(if nb=true then 0 else 1)≤gk∧acc.length≤count∧wr.ownsRow w1.heap.size 4 1 v acc.length (Qh acc)∧qp wr p s r∧w1.grownBy wr (some p)∧Px rest count acc nb r)
  case atStart=>exact ⟨[],false,r1,rfl,by simp,Nat.zero_le _,hown3,hrd3,hg13,HL0.out⟩
  case round =>
   clear hown3 hrd3 hg13
   obtain ⟨acc,nb,r,rfl,hgk,hac,hown,hrd,hg,hleft⟩:=hrel
   have Hgk:=hid hgk
   have Hleft:=hid hleft
   have Hg:=hid hg
   have hln:=Mv hown
   clear hleft hgk
   by_cases hlt:acc.length < count
   ·have hi1:(acc.length:Int) < (count:Int):=by omega
    have hln1:=hln wr
    go_wp2_with fail
    refine (KH p s r _ (count - acc.length) _ (by omega) Hs.out (by omega) hrd).mono ?_
    rintro e w2 ⟨hg2,⟨rfl,hno⟩|⟨n,r2,hn,rfl,hrd2,hu2⟩⟩
    ·go_wp2
     refine ⟨rfl,jd Hg1.out (jd Hg.out hg2),.inl ⟨rfl,fun fl q hl h=>?_⟩⟩
     obtain ⟨rr,m,k1,k2,_⟩:=JE Hleft.out hlt fl q hl h
     exact hno rr m k1 k2
    ·have hn1:n≤count - acc.length:=hn
     have Hu2:=hid hu2
     have hown2:=zw hown hp1 hg2
     have hG2:=jd Hg.out hg2
     have hln2:=hln w2
     clear hown hrd hu2 hg2 hg hln1 hn
     by_cases hn0:0 < n
     ·have hn0i:(0:Int) < (n:Int):=by omega
      cases nb with
      | true =>
       go_upto_region 8 with go_in
       go_wp2_with fail
       refine (jW _).mono ?_
       rintro e wN ⟨rfl,rfl⟩
       go_wp2_with fail
       refine (Gm true wN.heap.size 1 n _ (by omega) (World.cell?_alloc_mark ..)).mono ?_
       rintro e w4 ⟨g4,rfl,hb4,hB4⟩
       have hB4':Below wN.heap.size wN w4:=xk hB4
       have hown4:=jm hown2 hB4'
       have hrd4:=qy hrd2 hB4' (xh hrd2)
       have hG4:=jw hG2 hB4'
       have HN4:=hid (World.news_of_block hb4)
       clear hB4 hB4' hown2 hrd2 hG2 hb4 hln2
       go_wp2_with (at_builtin;refine wpList_append_own _ rfl (.tmp 37) (.tmp 41) 282 rfl w1.heap.size 4 i0 (.bool false) 1 1 Tryz.underlying282 hi hz0 hz1 hz2 rfl (by decide) _ _ _ rfl hown4 ⟨g4,0,none⟩ n n (List.replicate n (.bool true)) rfl ?c0 ?c1 ?c2 ?c3 ?c4 ?c5 ?_)
       case c0=>simp
       case c1=>intro j u hj;exact HN4.out j u (by simpa using hj)
       case c2=>intro u hu;rw [List.mem_replicate] at hu;rw [hu.2];rfl
       case c3=>unfold maxLen;omega
       case c4=>omega
       case c5=>have:=hG4.size;omega
       intro v5 w5 hown5 hgr5 _
       have HR:=hid (Xz hrd4 hp1 hG4 hown4 hgr5)
       have HO5:=hid hown5
       have HX:Hid (Qh (acc++List.replicate n true)=Qh acc++List.replicate n (.bool true)):=by simp [Hid,Qh]
       have HLN:Hid ((acc++List.replicate n true).length=acc.length+n):=by simp [Hid]
       clear hown4 hown5 hgr5 hG4 hrd4 HN4
       go_wp2
       go_roundg (2*(count - (acc.length+n))+(if (!true)=true then 0 else 1))
       case measure=>have h:=Hgk.out;simp only [Bool.not_true,Bool.not_false,Bool.false_eq_true,if_true,if_false,reduceIte] at h ⊢;omega
       case rel =>
        refine ⟨acc++List.replicate n true,!true,r2,rfl,?_,?_,?_,HR.out.1,HR.out.2,?_⟩
        ·rw [HLN.out];exact Nat.le_refl _
        ·rw [HLN.out];omega
        ·rw [HX.out,HLN.out];exact HO5.out
        ·intro fl q hl h
         obtain ⟨rr,m,k1,k2,k3,k4,k5,k6,k7⟩:=JE Hleft.out hlt fl q hl h
         obtain ⟨e1,e2⟩:=Hu2.out rr m k1 k2
         subst e1 e2
         rw [HLN.out]
         exact ⟨k4,k5,k6,.inr k7⟩
      | false =>
       by_cases hl0:acc.length=0
       ·have hli:((acc.length:Int) == 0)=true:=by simp [hl0]
        have Hl0:=hid hl0
        clear hl0
        go_upto_region 8 with go_in
        go_wp2_with fail
        refine (jW _).mono ?_
        rintro e wN ⟨rfl,rfl⟩
        go_wp2_with fail
        refine (Gm false wN.heap.size 1 n _ (by omega) (World.cell?_alloc_mark ..)).mono ?_
        rintro e w4 ⟨g4,rfl,hb4,hB4⟩
        have hB4':Below wN.heap.size wN w4:=xk hB4
        have hown4:=jm hown2 hB4'
        have hrd4:=qy hrd2 hB4' (xh hrd2)
        have hG4:=jw hG2 hB4'
        have HN4:=hid (World.news_of_block hb4)
        clear hB4 hB4' hown2 hrd2 hG2 hb4 hln2
        go_wp2_with (at_builtin;refine wpList_append_own _ rfl (.tmp 37) (.tmp 41) 282 rfl w1.heap.size 4 i0 (.bool false) 1 1 Tryz.underlying282 hi hz0 hz1 hz2 rfl (by decide) _ _ _ rfl hown4 ⟨g4,0,none⟩ n n (List.replicate n (.bool false)) rfl ?c0 ?c1 ?c2 ?c3 ?c4 ?c5 ?_)
        case c0=>simp
        case c1=>intro j u hj;exact HN4.out j u (by simpa using hj)
        case c2=>intro u hu;rw [List.mem_replicate] at hu;rw [hu.2];rfl
        case c3=>unfold maxLen;omega
        case c4=>omega
        case c5=>have:=hG4.size;omega
        intro v5 w5 hown5 hgr5 _
        have HR:=hid (Xz hrd4 hp1 hG4 hown4 hgr5)
        have HO5:=hid hown5
        have HX:Hid (Qh (acc++List.replicate n false)=Qh acc++List.replicate n (.bool false)):=by simp [Hid,Qh]
        have HLN:Hid ((acc++List.replicate n false).length=acc.length+n):=by simp [Hid]
        clear hown4 hown5 hgr5 hG4 hrd4 HN4
        go_wp2
        go_roundg (2*(count - (acc.length+n))+(if (!false)=true then 0 else 1))
        case measure=>have h:=Hgk.out;simp only [Bool.not_true,Bool.not_false,Bool.false_eq_true,if_true,if_false,reduceIte] at h ⊢;omega
        case rel =>
         refine ⟨acc++List.replicate n false,!false,r2,rfl,?_,?_,?_,HR.out.1,HR.out.2,?_⟩
         ·rw [HLN.out];exact Nat.le_refl _
         ·rw [HLN.out];omega
         ·rw [HX.out,HLN.out];exact HO5.out
         ·intro fl q hl h
          obtain ⟨rr,m,k1,k2,k3,k4,k5,k6,k7⟩:=JE Hleft.out hlt fl q hl h
          obtain ⟨e1,e2⟩:=Hu2.out rr m k1 k2
          subst e1 e2
          rw [HLN.out]
          exact ⟨k4,k5,k6,.inr k7⟩
       ·have hli:((acc.length:Int) == 0)=false:=by rw [beq_eq_false_iff_ne];omega
        go_upto_region 8 with go_in
        go_wp2_with fail
        refine (jW _).mono ?_
        rintro e wN ⟨rfl,rfl⟩
        go_wp2_with fail
        refine (Gm false wN.heap.size 1 n _ (by omega) (World.cell?_alloc_mark ..)).mono ?_
        rintro e w4 ⟨g4,rfl,hb4,hB4⟩
        have hB4':Below wN.heap.size wN w4:=xk hB4
        have hown4:=jm hown2 hB4'
        have hrd4:=qy hrd2 hB4' (xh hrd2)
        have hG4:=jw hG2 hB4'
        have HN4:=hid (World.news_of_block hb4)
        clear hB4 hB4' hown2 hrd2 hG2 hb4 hln2
        go_wp2_with (at_builtin;refine wpList_append_own _ rfl (.tmp 37) (.tmp 41) 282 rfl w1.heap.size 4 i0 (.bool false) 1 1 Tryz.underlying282 hi hz0 hz1 hz2 rfl (by decide) _ _ _ rfl hown4 ⟨g4,0,none⟩ n n (List.replicate n (.bool false)) rfl ?c0 ?c1 ?c2 ?c3 ?c4 ?c5 ?_)
        case c0=>simp
        case c1=>intro j u hj;exact HN4.out j u (by simpa using hj)
        case c2=>intro u hu;rw [List.mem_replicate] at hu;rw [hu.2];rfl
        case c3=>unfold maxLen;omega
        case c4=>omega
        case c5=>have:=hG4.size;omega
        intro v5 w5 hown5 hgr5 _
        have HR:=hid (Xz hrd4 hp1 hG4 hown4 hgr5)
        have HO5:=hid hown5
        have HX:Hid (Qh (acc++List.replicate n false)=Qh acc++List.replicate n (.bool false)):=by simp [Hid,Qh]
        have HLN:Hid ((acc++List.replicate n false).length=acc.length+n):=by simp [Hid]
        clear hown4 hown5 hgr5 hG4 hrd4 HN4
        go_wp2
        go_roundg (2*(count - (acc.length+n))+(if (!false)=true then 0 else 1))
        case measure=>have h:=Hgk.out;simp only [Bool.not_true,Bool.not_false,Bool.false_eq_true,if_true,if_false,reduceIte] at h ⊢;omega
        case rel =>
         refine ⟨acc++List.replicate n false,!false,r2,rfl,?_,?_,?_,HR.out.1,HR.out.2,?_⟩
         ·rw [HLN.out];exact Nat.le_refl _
         ·rw [HLN.out];omega
         ·rw [HX.out,HLN.out];exact HO5.out
         ·intro fl q hl h
          obtain ⟨rr,m,k1,k2,k3,k4,k5,k6,k7⟩:=JE Hleft.out hlt fl q hl h
          obtain ⟨e1,e2⟩:=Hu2.out rr m k1 k2
          subst e1 e2
          rw [HLN.out]
          exact ⟨k4,k5,k6,.inr k7⟩
     ·have hn0i:decide ((0:Int) < (n:Int))=false:=by simp;omega
      cases nb with
      | true =>
       go_upto_region 8 with go_in
       go_wp2_with fail
       refine (qK _).mono ?_
       rintro e wN ⟨rfl,rfl⟩
       go_wp2
       refine ⟨rfl,jd Hg1.out hG2,.inl ⟨rfl,fun fl q hl h=>?_⟩⟩
       obtain ⟨rr,m,k1,k2,k3,_⟩:=JE Hleft.out hlt fl q hl h
       obtain ⟨e1,e2⟩:=Hu2.out rr m k1 k2
       obtain ⟨f1,f2⟩:=k3 (by omega)
       cases f2
      | false =>
       by_cases hl0:acc.length=0
       ·have hli:((acc.length:Int) == 0)=true:=by simp [hl0]
        have Hl0:=hid hl0
        clear hl0
        go_upto_region 8 with go_in
        go_wp2_with fail
        refine (jW _).mono ?_
        rintro e wN ⟨rfl,rfl⟩
        go_wp2_with fail
        refine (Gm false wN.heap.size 1 n _ (by omega) (World.cell?_alloc_mark ..)).mono ?_
        rintro e w4 ⟨g4,rfl,hb4,hB4⟩
        have hB4':Below wN.heap.size wN w4:=xk hB4
        have hown4:=jm hown2 hB4'
        have hrd4:=qy hrd2 hB4' (xh hrd2)
        have hG4:=jw hG2 hB4'
        have HN4:=hid (World.news_of_block hb4)
        clear hB4 hB4' hown2 hrd2 hG2 hb4 hln2
        go_wp2_with (at_builtin;refine wpList_append_own _ rfl (.tmp 37) (.tmp 41) 282 rfl w1.heap.size 4 i0 (.bool false) 1 1 Tryz.underlying282 hi hz0 hz1 hz2 rfl (by decide) _ _ _ rfl hown4 ⟨g4,0,none⟩ n n (List.replicate n (.bool false)) rfl ?c0 ?c1 ?c2 ?c3 ?c4 ?c5 ?_)
        case c0=>simp
        case c1=>intro j u hj;exact HN4.out j u (by simpa using hj)
        case c2=>intro u hu;rw [List.mem_replicate] at hu;rw [hu.2];rfl
        case c3=>unfold maxLen;omega
        case c4=>omega
        case c5=>have:=hG4.size;omega
        intro v5 w5 hown5 hgr5 _
        have HR:=hid (Xz hrd4 hp1 hG4 hown4 hgr5)
        have HO5:=hid hown5
        have HX:Hid (Qh (acc++List.replicate n false)=Qh acc++List.replicate n (.bool false)):=by simp [Hid,Qh]
        have HLN:Hid ((acc++List.replicate n false).length=acc.length+n):=by simp [Hid]
        clear hown4 hown5 hgr5 hG4 hrd4 HN4
        go_wp2
        go_roundg (2*(count - (acc.length+n))+(if (!false)=true then 0 else 1))
        case measure=>have h:=Hgk.out;simp only [Bool.not_true,Bool.not_false,Bool.false_eq_true,if_true,if_false,reduceIte] at h ⊢;omega
        case rel =>
         refine ⟨acc++List.replicate n false,!false,r2,rfl,?_,?_,?_,HR.out.1,HR.out.2,?_⟩
         ·rw [HLN.out];exact Nat.le_refl _
         ·rw [HLN.out];omega
         ·rw [HX.out,HLN.out];exact HO5.out
         ·intro fl q hl h
          obtain ⟨rr,m,k1,k2,k3,k4,k5,k6,k7⟩:=JE Hleft.out hlt fl q hl h
          obtain ⟨e1,e2⟩:=Hu2.out rr m k1 k2
          subst e1 e2
          rw [HLN.out]
          exact ⟨k4,k5,k6,.inr k7⟩
       ·have hli:((acc.length:Int) == 0)=false:=by rw [beq_eq_false_iff_ne];omega
        go_upto_region 8 with go_in
        go_wp2_with fail
        refine (qK _).mono ?_
        rintro e wN ⟨rfl,rfl⟩
        go_wp2
        refine ⟨rfl,jd Hg1.out hG2,.inl ⟨rfl,fun fl q hl h=>?_⟩⟩
        obtain ⟨rr,m,k1,k2,k3,_⟩:=JE Hleft.out hlt fl q hl h
        obtain ⟨e1,e2⟩:=Hu2.out rr m k1 k2
        obtain ⟨f1,f2⟩:=k3 (by omega)
        rw [f1] at hl0
        exact absurd rfl hl0
   ·have hke:acc.length=count:=by omega
    have Hke:=hid hke
    have hi1:decide ((acc.length:Int) < (count:Int))=false:=by simp;omega
    have Hown:=hid hown
    have Hrd:=hid hrd
    have hln1:=hln wr
    clear hg hown hrd hke hln
    go_wp2
    go_ret
    refine ⟨jd Hg1.out Hg.out,.inr ⟨acc,r,_,by have:=Hke.out;omega,rfl,jI Hown.out Hg1.out.size,Hrd.out,fun fl q hl h=>?_⟩⟩
    obtain ⟨e1,e2,e3,_⟩:=Hleft.out fl q hl h
    rw [Hke.out,← e1,List.take_length] at e2
    subst e2
    refine ⟨rfl,?_⟩
    rw [List.drop_length] at e3
    exact e3.symm
end
section
theorem IW (a num:Int) (f r Bn:Nat) (w:World) (h:w.cell? ⟨Bn,0,none⟩=some (.int .u8 num)) :
  Calls Tryz.prog 251 #[.agg #[.int .u8 a,fnV f,fnV r],.pointer (some ⟨Bn,0,none⟩)] w fun e w'=>e=.returned (.bool (a == num))∧Below w.heap.size w w':=by
 have hlt:=World.block_lt_of_cell? w _ h
 go_enter Tryz.func251,Tryz.ntmps251
 go_wp2
 go_ret
 exact ⟨rfl,(Below.refl _ _).alloc (Nat.le_refl _) _⟩
def Qk (num:Int):Int:=if num=0 then 0 else if num=1 then 1 else if num=2 then 2 else -1
theorem SR (g Bn:Nat) (num:Int) (w:World) (hg:g < w.heap.size) (hw:NumW w g) (h:w.cell? ⟨Bn,0,none⟩=some (.int .u8 num)) :
  Calls Tryz.prog 250 #[.slice (some ⟨g,0,none⟩) 3 3,.func (.func 251) #[] #[.pointer (some ⟨Bn,0,none⟩)]] w fun e w'=>e=.returned (.int .i64 (Qk num))∧Below w.heap.size w w':=by
 have Hw:=hid hw
 have Hn:=hid h
 have hlt:=World.block_lt_of_cell? w _ h
 clear hw h
 go_enter Tryz.func250,Tryz.ntmps250
 go_wp2
 go_loopw [8] (fun i wr=>∃ k:Nat,k≤3∧i=.int .i64 (k:Int)∧(0 < k→num≠0)∧(1 < k→num≠1)∧(2 < k→num≠2)∧Below w.heap.size w wr) (fun i _=>3 - (intOf i).toNat)
 case atStart=>exact ⟨0,by omega,rfl,fun h=>by omega,fun h=>by omega,fun h=>by omega,Below.refl _ _⟩
 case round =>
  obtain ⟨k,hk,rfl,n0,n1,n2,hB⟩:=hrel
  have hwl:=Hw.out.later hg hB
  have hnum:=(hB.cell (p:=⟨Bn,0,none⟩) hlt).trans Hn.out
  have N0:=hid n0
  have N1:=hid n1
  have N2:=hid n2
  clear n0 n1 n2
  rcases (show k=0∨k=1∨k=2∨k=3 by omega) with rfl|rfl|rfl|rfl
  ·have c0:wr.cell? ⟨g,0,none⟩=some (.int .u8 0):=jV hwl 0 rfl
   have c1:wr.cell? ⟨g,1,none⟩=some (fnV 181):=jV hwl 1 rfl
   have c2:wr.cell? ⟨g,2,none⟩=some (fnV 182):=jV hwl 2 rfl
   clear hwl
   go_wp2_with fail
   refine (IW 0 num 181 182 Bn _ hnum).mono ?_
   rintro e w2 ⟨rfl,hb2⟩
   have hB2:=hB.trans (hb2.mono hB.size)
   clear hB hb2 c0 c1 c2 hnum
   by_cases hne:num=0
   ·have hb:((0:Int) == num)=true:=by simp [hne]
    have Hne:=hid hne
    clear hne
    go_wp2
    go_ret
    exact ⟨qY (by unfold Qk;rw [if_pos Hne.out]),hB2⟩
   ·have hb:((0:Int) == num)=false:=by rw [beq_eq_false_iff_ne];exact fun h=>hne h.symm
    have Hne:=hid hne
    clear hne
    go_wp2
    go_roundw
    case rel=>exact ⟨1,by omega,by go_num,fun _=>Hne.out,fun h=>by omega,fun h=>by omega,hB2⟩
    case measure=>simp [intOf]
  ·have c0:wr.cell? ⟨g,3,none⟩=some (.int .u8 1):=jV hwl 3 rfl
   have c1:wr.cell? ⟨g,4,none⟩=some (fnV 183):=jV hwl 4 rfl
   have c2:wr.cell? ⟨g,5,none⟩=some (fnV 184):=jV hwl 5 rfl
   clear hwl
   go_wp2_with fail
   refine (IW 1 num 183 184 Bn _ hnum).mono ?_
   rintro e w2 ⟨rfl,hb2⟩
   have hB2:=hB.trans (hb2.mono hB.size)
   clear hB hb2 c0 c1 c2 hnum
   by_cases hne:num=1
   ·have hb:((1:Int) == num)=true:=by simp [hne]
    have Hne:=hid hne
    clear hne
    go_wp2
    go_ret
    exact ⟨qY (by unfold Qk;rw [if_neg (N0.out (by omega)),if_pos Hne.out]),hB2⟩
   ·have hb:((1:Int) == num)=false:=by rw [beq_eq_false_iff_ne];exact fun h=>hne h.symm
    have Hne:=hid hne
    clear hne
    go_wp2
    go_roundw
    case rel=>exact ⟨2,by omega,by go_num,fun _=>N0.out (by omega),fun _=>Hne.out,fun h=>by omega,hB2⟩
    case measure=>simp [intOf]
  ·have c0:wr.cell? ⟨g,6,none⟩=some (.int .u8 2):=jV hwl 6 rfl
   have c1:wr.cell? ⟨g,7,none⟩=some (fnV 185):=jV hwl 7 rfl
   have c2:wr.cell? ⟨g,8,none⟩=some (fnV 186):=jV hwl 8 rfl
   clear hwl
   go_wp2_with fail
   refine (IW 2 num 185 186 Bn _ hnum).mono ?_
   rintro e w2 ⟨rfl,hb2⟩
   have hB2:=hB.trans (hb2.mono hB.size)
   clear hB hb2 c0 c1 c2 hnum
   by_cases hne:num=2
   ·have hb:((2:Int) == num)=true:=by simp [hne]
    have Hne:=hid hne
    clear hne
    go_wp2
    go_ret
    exact ⟨qY (by unfold Qk;rw [if_neg (N0.out (by omega)),if_neg (N1.out (by omega)),if_pos Hne.out]),hB2⟩
   ·have hb:((2:Int) == num)=false:=by rw [beq_eq_false_iff_ne];exact fun h=>hne h.symm
    have Hne:=hid hne
    clear hne
    go_wp2
    go_roundw
    case rel=>exact ⟨3,by omega,by go_num,fun _=>N0.out (by omega),fun _=>N1.out (by omega),fun _=>Hne.out,hB2⟩
    case measure=>simp [intOf]
  ·go_wp2
   go_ret
   exact ⟨qY (by unfold Qk;rw [if_neg (N0.out (by omega)),if_neg (N1.out (by omega)),if_neg (N2.out (by omega))]),hB⟩
theorem AM (a num:Int) (f r Bn:Nat) (w:World) (h:w.cell? ⟨Bn,0,none⟩=some (.int .u8 num)) :
  Calls Tryz.prog 253 #[.agg #[.int .u8 a,fnV f,fnV r],.pointer (some ⟨Bn,0,none⟩)] w fun e w'=>e=.returned (.bool (a == num))∧Below w.heap.size w w':=by
 have hlt:=World.block_lt_of_cell? w _ h
 go_enter Tryz.func253,Tryz.ntmps253
 go_wp2
 go_ret
 exact ⟨rfl,(Below.refl _ _).alloc (Nat.le_refl _) _⟩
def Qi (num:Int):Int:=if num=0 then 0 else if num=3 then 1 else if num=4 then 2 else -1
theorem Ld (g Bn:Nat) (num:Int) (w:World) (hg:g < w.heap.size) (hw:TxtW w g) (h:w.cell? ⟨Bn,0,none⟩=some (.int .u8 num)) :
  Calls Tryz.prog 252 #[.slice (some ⟨g,0,none⟩) 3 3,.func (.func 253) #[] #[.pointer (some ⟨Bn,0,none⟩)]] w fun e w'=>e=.returned (.int .i64 (Qi num))∧Below w.heap.size w w':=by
 have Hw:=hid hw
 have Hn:=hid h
 have hlt:=World.block_lt_of_cell? w _ h
 clear hw h
 go_enter Tryz.func252,Tryz.ntmps252
 go_wp2
 go_loopw [8] (fun i wr=>∃ k:Nat,k≤3∧i=.int .i64 (k:Int)∧(0 < k→num≠0)∧(1 < k→num≠3)∧(2 < k→num≠4)∧Below w.heap.size w wr) (fun i _=>3 - (intOf i).toNat)
 case atStart=>exact ⟨0,by omega,rfl,fun h=>by omega,fun h=>by omega,fun h=>by omega,Below.refl _ _⟩
 case round =>
  obtain ⟨k,hk,rfl,n0,n1,n2,hB⟩:=hrel
  have hwl:=Hw.out.later hg hB
  have hnum:=(hB.cell (p:=⟨Bn,0,none⟩) hlt).trans Hn.out
  have N0:=hid n0
  have N1:=hid n1
  have N2:=hid n2
  clear n0 n1 n2
  rcases (show k=0∨k=1∨k=2∨k=3 by omega) with rfl|rfl|rfl|rfl
  ·have c0:wr.cell? ⟨g,0,none⟩=some (.int .u8 0):=jV hwl 0 rfl
   have c1:wr.cell? ⟨g,1,none⟩=some (fnV 196):=jV hwl 1 rfl
   have c2:wr.cell? ⟨g,2,none⟩=some (fnV 197):=jV hwl 2 rfl
   clear hwl
   go_wp2_with fail
   refine (AM 0 num 196 197 Bn _ hnum).mono ?_
   rintro e w2 ⟨rfl,hb2⟩
   have hB2:=hB.trans (hb2.mono hB.size)
   clear hB hb2 c0 c1 c2 hnum
   by_cases hne:num=0
   ·have hb:((0:Int) == num)=true:=by simp [hne]
    have Hne:=hid hne
    clear hne
    go_wp2
    go_ret
    exact ⟨qY (by unfold Qi;rw [if_pos Hne.out]),hB2⟩
   ·have hb:((0:Int) == num)=false:=by rw [beq_eq_false_iff_ne];exact fun h=>hne h.symm
    have Hne:=hid hne
    clear hne
    go_wp2
    go_roundw
    case rel=>exact ⟨1,by omega,by go_num,fun _=>Hne.out,fun h=>by omega,fun h=>by omega,hB2⟩
    case measure=>simp [intOf]
  ·have c0:wr.cell? ⟨g,3,none⟩=some (.int .u8 3):=jV hwl 3 rfl
   have c1:wr.cell? ⟨g,4,none⟩=some (fnV 198):=jV hwl 4 rfl
   have c2:wr.cell? ⟨g,5,none⟩=some (fnV 199):=jV hwl 5 rfl
   clear hwl
   go_wp2_with fail
   refine (AM 3 num 198 199 Bn _ hnum).mono ?_
   rintro e w2 ⟨rfl,hb2⟩
   have hB2:=hB.trans (hb2.mono hB.size)
   clear hB hb2 c0 c1 c2 hnum
   by_cases hne:num=3
   ·have hb:((3:Int) == num)=true:=by simp [hne]
    have Hne:=hid hne
    clear hne
    go_wp2
    go_ret
    exact ⟨qY (by unfold Qi;rw [if_neg (N0.out (by omega)),if_pos Hne.out]),hB2⟩
   ·have hb:((3:Int) == num)=false:=by rw [beq_eq_false_iff_ne];exact fun h=>hne h.symm
    have Hne:=hid hne
    clear hne
    go_wp2
    go_roundw
    case rel=>exact ⟨2,by omega,by go_num,fun _=>N0.out (by omega),fun _=>Hne.out,fun h=>by omega,hB2⟩
    case measure=>simp [intOf]
  ·have c0:wr.cell? ⟨g,6,none⟩=some (.int .u8 4):=jV hwl 6 rfl
   have c1:wr.cell? ⟨g,7,none⟩=some (fnV 200):=jV hwl 7 rfl
   have c2:wr.cell? ⟨g,8,none⟩=some (fnV 201):=jV hwl 8 rfl
   clear hwl
   go_wp2_with fail
   refine (AM 4 num 200 201 Bn _ hnum).mono ?_
   rintro e w2 ⟨rfl,hb2⟩
   have hB2:=hB.trans (hb2.mono hB.size)
   clear hB hb2 c0 c1 c2 hnum
   by_cases hne:num=4
   ·have hb:((4:Int) == num)=true:=by simp [hne]
    have Hne:=hid hne
    clear hne
    go_wp2
    go_ret
    exact ⟨qY (by unfold Qi;rw [if_neg (N0.out (by omega)),if_neg (N1.out (by omega)),if_pos Hne.out]),hB2⟩
   ·have hb:((4:Int) == num)=false:=by rw [beq_eq_false_iff_ne];exact fun h=>hne h.symm
    have Hne:=hid hne
    clear hne
    go_wp2
    go_roundw
    case rel=>exact ⟨3,by omega,by go_num,fun _=>N0.out (by omega),fun _=>N1.out (by omega),fun _=>Hne.out,hB2⟩
    case measure=>simp [intOf]
  ·go_wp2
   go_ret
   exact ⟨qY (by unfold Qi;rw [if_neg (N0.out (by omega)),if_neg (N1.out (by omega)),if_neg (N2.out (by omega))]),hB⟩
end
end Go.Proofs.YthhpbhpfagoapaaGreat
