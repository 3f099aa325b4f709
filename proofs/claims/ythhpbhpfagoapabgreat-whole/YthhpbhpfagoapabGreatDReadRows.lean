import Derived.Test.YthhpbhpfagoapabGreatDLoops
import Derived.Test.YthhpbhpfagoapabGreatDRepeat
import Derived.Deep.LoopGhost
namespace Go.Proofs.YthhpbhpfagoapabGreat
set_option linter.unusedVariables false
set_option linter.unusedSimpArgs false
set_option maxRecDepth 100000
set_option maxHeartbeats 16000000
open Go.RowKit
theorem GK (n:Nat) (l:List CellB) (a b:Nat):∃ m,jW n l (a+b)=jW n l a++m:=by
 induction b with
 | zero=>exact ⟨[],by simp⟩
 | succ b ih =>
  obtain ⟨m,hm⟩:=ih
  exact ⟨m++xL n l (a+b),by rw [← Nat.add_assoc,jW,hm,List.append_assoc]⟩
def SA (dom:List CellB→Prop) (rest:List UInt8) (acc:List CellB) (r:List UInt8):Prop :=
 ∀ l2 q,dom l2→rest=jW 2 l2 l2.length++q→l2.take acc.length=acc∧AL l2 acc.length∧rest=jW 2 l2 acc.length++r
theorem AU (dom:List CellB→Prop) (rest:List UInt8):SA dom rest [] rest:=fun l2 q _ h=>⟨rfl,.inl rfl,rfl⟩
def Id (count:Nat) (l:List CellB):Prop:=l.length=count∧∀ c ∈ l,okI c
theorem KA {count:Nat} {rest r:List UInt8} {acc:List CellB} (h:SA (Id count) rest acc r) (hlt:acc.length < count) (l2:List CellB) (q:List UInt8) (hd:Id count l2) (hr:rest=jW 2 l2 l2.length++q) :
  ∃ (rr:Nat) (v:Int) (m:List UInt8),0 < rr∧rr≤count - acc.length∧inI v∧r=uB rr++(zB v++m)∧l2.take (acc.length+rr)=acc++List.replicate rr ⟨false,v,[]⟩∧AL l2 (acc.length+rr)∧rest=jW 2 l2 (acc.length+rr)++m:=by
 obtain ⟨h1,h2,h3⟩:=h l2 q hd hr
 have hk:acc.length < l2.length:=by rw [hd.1];exact hlt
 generalize hkk:acc.length=k at *
 have hs:=RA l2 k hk h2
 have hp:=Ni l2 k hk
 have hle:=Nm (l2[k]).int (l2.drop k)
 rw [List.length_drop] at hle
 have hend:=Db l2 k hk
 have hval:=Np l2 k
 generalize hrr:Jv (l2[k]).int (l2.drop k)=rr at *
 have hs1:=hs rr (by omega) (Nat.le_refl _)
 obtain ⟨m0,hm0⟩:=GK 2 l2 (k+rr) (l2.length - (k+rr))
 rw [show k+rr+(l2.length - (k+rr))=l2.length by omega] at hm0
 have hokk:=hd.2 l2[k] (List.getElem_mem hk)
 refine ⟨rr,(l2[k]).int,m0++q,by omega,by rw [← hd.1];omega,hokk.2.2,?_,?_,hend,?_⟩
 ·have e1:jW 2 l2 k++r=jW 2 l2 k++(uB rr++(zB (l2[k]).int++(m0++q))):=by
   rw [← h3,hr,hm0,hs1];simp only [List.append_assoc]
  exact List.append_cancel_left e1
 ·have e2:l2.take (k+rr)=l2.take k++(l2.drop k).take rr:=by rw [List.take_add]
  rw [e2,h1]
  congr 1
  apply List.ext_getElem
  ·rw [List.length_take,List.length_drop,List.length_replicate];omega
  ·intro j hj1 hj2
   rw [List.length_replicate] at hj2
   rw [List.getElem_take,List.getElem_drop,List.getElem_replicate]
   have hv:=hval j hk (by rw [hrr];exact hj2)
   rw [qK l2 (k+j) (by omega)] at hv
   have ho:=hd.2 l2[k+j] (List.getElem_mem _)
   obtain ⟨o1,o2,_⟩:=ho
   generalize l2[k+j]=c at *
   obtain ⟨cn,ci,ct⟩:=c
   simp only at o1 o2 hv
   subst o1 o2 hv
   rfl
 ·rw [hr,hm0,List.append_assoc]
theorem Uw (p:Nat) (s rest:List UInt8) (n:Int) (most:Nat) (w:World) (h:n=(most:Int)) (hs:s.length≤maxLen) (hm:most≤1000000) (hp:qv w p s rest) :
  Calls Tryz.prog 139 #[.pointer (some ⟨p,0,none⟩),.int .i64 n] w (Gt (fun n:Nat=>n≤most) uB (fun n=>.int .i64 (n:Int)) p s rest w):=by
 subst h
 exact Ku p s rest most w hs hm hp
theorem XY {w0 w2 w3:World} {p n ty sz:Nat} {s r:List UInt8} {v:Value} {xs:List Value} (hrd:qv w2 p s r) (hp:p < w0.heap.size) (hG:w0.grownBy w2 (some p)) (hown:w2.ownsRow w0.heap.size ty sz v n xs)
  (hgr:w2.grownBy w3 v.ownBlock):qv w3 p s r∧w0.grownBy w3 (some p):=by
 have hlt:=xD hrd
 have hne:some p≠v.ownBlock:=by
  intro h
  have:=(hown.lt p h.symm).1
  omega
 obtain ⟨at_,h1,h2,h3⟩:=hrd
 exact ⟨⟨at_,(hgr.block p hlt hne).trans h1,h2,h3⟩,JM hG hgr (fun k hk=>(hown.lt k hk).1)⟩
theorem Ta (g p count:Nat) (s rest:List UInt8) (w:World) (hs:s.length≤maxLen) (hc:count≤60) (hp:qv w p s rest) :
  Calls Tryz.prog 150 #[numC g,.pointer (some ⟨p,0,none⟩),.int .i64 (count:Int)] w (Xk 3 QY (Id count) (fun l=>jW 2 l l.length) p s rest w):=by
 obtain ⟨i0,hi,hz0,hz1,hz2⟩:=info_parts Tryz.infoInt
 have Hs:=hid hs
 have Hp:=hid hp
 have hplt:=xD hp
 clear hs hp
 go_enter Tryz.func150,Tryz.ntmps150
 go_wp2
 obtain ⟨hb0,hs0,hc0⟩:=Ja w #[.slice (some ⟨g,0,none⟩) 3 3,fnV 151,fnV 152,fnV 153,fnV 154,fnV 155,fnV 156] 205
 have hc1:_=some (fnV 156):=hc0 6
 have Hc:=hid hc1
 have Hp0:=hid (qH Hp.out hb0 hplt)
 have Hb0:=hid hb0
 have hs1:=Nat.lt_of_lt_of_eq (Nat.lt_succ_self w.heap.size) hs0.symm
 have hplt0:=Nat.lt_of_lt_of_le hplt hb0.size
 clear hc0 hc1 hb0 hs0
 generalize w.alloc _=w0 at *
 go_loopg [7] count (fun gk v wr=>∃ (acc:List CellB) (r:List UInt8),acc.length+gk=count∧(∀ c ∈ acc,okI c)∧wr.ownsRow w0.heap.size 3 1 v acc.length (QY acc)∧qv wr p s r∧w0.grownBy wr (some p)∧SA (Id count) rest acc r)
 case atStart=>exact ⟨[],rest,Nat.zero_add _,(fun c h=>zZ h),World.ownsRow_nil _ _ _ _,Hp0.out,jU _ _,AU _ _⟩
 case round =>
  obtain ⟨acc,r,hal,hok,hown,hrd,hg,hleft⟩:=hrel
  have Hal:=hid hal
  have Hok:=hid hok
  have Hleft:=hid hleft
  have Hg:=hid hg
  have hln:=NU hown wr
  have hln1:acc.length≤count:=by omega
  clear hok hleft hal
  by_cases hlt:acc.length < count
  ·have hi1:(acc.length:Int) < (count:Int):=by omega
   have hcf0:=(hg.cell_far ⟨w.heap.size,6,none⟩ hs1 (by intro h;simp at h;omega)).trans Hc.out
   have Hcf0:=hid hcf0
   clear hg hcf0
   go_wp2_with fail
   refine (Uw p s r _ (count - acc.length) _ (by omega) Hs.out (by omega) hrd).mono ?_
   rintro e w2 ⟨hg2,⟨rfl,hno⟩|⟨n,r2,hn,rfl,hrd2,hu⟩⟩
   ·go_wp2
    refine ⟨rfl,jf (jG (jU w _) Hb0.out) (jf Hg.out hg2),.inl ⟨rfl,fun l2 q hl2 h=>?_⟩⟩
    obtain ⟨rr,v,m,k1,k2,k3,k4,_⟩:=KA Hleft.out hlt l2 q hl2 h
    exact hno rr _ k2 k4
   ·have Hu:=hid hu
    have hn1:n≤count - acc.length:=hn
    have hown2:=zX hown hplt0 hg2
    have hG2:=jf Hg.out hg2
    have Hcf2:Hid (w2.cell? ⟨w.heap.size,6,none⟩=some (fnV 156)):=(hg2.cell_far ⟨w.heap.size,6,none⟩ (Nat.lt_of_lt_of_le hs1 Hg.out.size) (by intro h;simp at h;omega)).trans Hcf0.out
    clear hown hrd hu hg2 hln
    by_cases hn0:0 < n
    ·have hn0i:(0:Int) < (n:Int):=by omega
     have hcf2:=Hcf2.out
     go_wp2_with fail
     refine (qe _).mono ?_
     rintro e w2' ⟨rfl,rfl⟩
     go_wp2_with fail
     refine (KL p s r2 0 _ Hs.out ⟨by decide,by decide⟩ hrd2).mono ?_
     rintro e w3 ⟨hg3,⟨rfl,hno⟩|⟨x,r3,hx,rfl,hrd3,hu3⟩⟩
     ·go_wp2
      refine ⟨rfl,jf (jG (jU w _) Hb0.out) (jf hG2 hg3),.inl ⟨rfl,fun l2 q hl2 h=>?_⟩⟩
      obtain ⟨rr,v,m,k1,k2,k3,k4,_⟩:=KA Hleft.out hlt l2 q hl2 h
      obtain ⟨e1,e2⟩:=Hu.out rr _ k2 k4
      exact hno v m k3 (by show _=zB (wrap64 (v - 0))++m;rw [VS v k3.1 k3.2];exact e2.symm)
     ·have Hu3:=hid hu3
      have Hx:=hid hx
      have hown3:=zX hown2 hplt0 hg3
      have hG3:=jf hG2 hg3
      clear hown2 hrd2 hu3 hg3 hG2 hcf2 hx
      go_wp2_with fail
      refine (Lg x w3.heap.size 1 n _ (by omega) (World.cell?_alloc_mark ..)).mono ?_
      rintro e w4 ⟨g4,rfl,hb4,hB4⟩
      have hB4':Below w3.heap.size w3 w4:=xE hB4
      have hown4:=ju hown3 hB4'
      have hrd4:=qH hrd3 hB4' (xD hrd3)
      have hG4:=jG hG3 hB4'
      have HN4:=hid (World.news_of_block hb4)
      clear hB4 hB4' hown3 hrd3 hG3 hb4
      go_wp2_with (at_builtin;refine wpList_append_own _ rfl (.tmp 29) (.tmp 33) 22 rfl w0.heap.size 3 i0 (.int .i64 0) 1 8 Tryz.underlying22 hi hz0 hz1 hz2 rfl (by decide) _ _ _ rfl hown4 ⟨g4,0,none⟩ n n (List.replicate n (.int .i64 x)) rfl ?c0 ?c1 ?c2 ?c3 ?c4 ?c5 ?_)
      case c0=>simp
      case c1=>intro j u hj;exact HN4.out j u (by simpa using hj)
      case c2=>intro u hu;rw [List.mem_replicate] at hu;rw [hu.2];rfl
      case c3=>unfold maxLen;omega
      case c4=>omega
      case c5=>have:=hG4.size;omega
      intro v5 w5 hown5 hgr5 _
      have HR:=hid (XY hrd4 hplt0 hG4 hown4 hgr5)
      have HO5:=hid hown5
      have HX:Hid (QY (acc++List.replicate n ⟨false,x,[]⟩)=QY acc++List.replicate n (.int .i64 x)):=by simp [Hid,QY]
      have HLN:Hid ((acc++List.replicate n (⟨false,x,[]⟩:CellB)).length=acc.length+n):=by simp [Hid]
      clear hown4 hown5 hgr5 hG4 hrd4 HN4
      go_wp2
      go_roundg (count - acc.length - n)
      case measure=>have:=Hal.out;omega
      case rel =>
       refine ⟨acc++List.replicate n ⟨false,x,[]⟩,r3,?_,?_,?_,HR.out.1,HR.out.2,?_⟩
       ·rw [HLN.out];omega
       ·intro c hc
        rcases List.mem_append.1 hc with h|h
        ·exact Hok.out c h
        ·rw [List.mem_replicate] at h;rw [h.2];exact ⟨rfl,rfl,Hx.out⟩
       ·rw [HX.out,HLN.out];exact HO5.out
       ·intro l2 q hl2 h
        obtain ⟨rr,v,m,k1,k2,k3,k4,k5,k6,k7⟩:=KA Hleft.out hlt l2 q hl2 h
        obtain ⟨e1,e2⟩:=Hu.out rr _ k2 k4
        obtain ⟨e3,e4⟩:=Hu3.out v m k3 (by show _=zB (wrap64 (v - 0))++m;rw [VS v k3.1 k3.2];exact e2.symm)
        subst e1 e3 e4
        rw [HLN.out]
        exact ⟨k5,k6,k7⟩
    ·have hn0i:decide ((0:Int) < (n:Int))=false:=by simp;omega
     go_wp2_with fail
     refine (qS _).mono ?_
     rintro e w2' ⟨rfl,rfl⟩
     go_wp2
     refine ⟨rfl,jf (jG (jU w _) Hb0.out) hG2,.inl ⟨rfl,fun l2 q hl2 h=>?_⟩⟩
     obtain ⟨rr,v,m,k1,k2,k3,k4,_⟩:=KA Hleft.out hlt l2 q hl2 h
     obtain ⟨e1,e2⟩:=Hu.out rr _ k2 k4
     omega
  ·have hke:acc.length=count:=by omega
   have hi1:decide ((acc.length:Int) < (count:Int))=false:=by simp;omega
   have Hke:=hid hke
   have Hown:=hid hown
   have Hrd:=hid hrd
   clear hg hown hrd hke
   go_wp2
   go_ret
   refine ⟨jf (jG (jU w _) Hb0.out) Hg.out,.inr ⟨acc,r,_,⟨Hke.out,Hok.out⟩,rfl,jS Hown.out Hb0.out.size,Hrd.out,fun l2 q hl2 h=>?_⟩⟩
   obtain ⟨e1,e2,e3⟩:=Hleft.out l2 q hl2 h
   rw [Hke.out,← hl2.1,List.take_length] at e1
   subst e1
   refine ⟨rfl,?_⟩
   have e4:jW 2 l2 l2.length++q=jW 2 l2 l2.length++r:=h.symm.trans e3
   exact List.append_cancel_left e4
end Go.Proofs.YthhpbhpfagoapabGreat
