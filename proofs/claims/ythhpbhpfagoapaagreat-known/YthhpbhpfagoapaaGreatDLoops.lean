import Derived.Test.YthhpbhpfagoapaaGreatDRead3
namespace Go.Proofs.YthhpbhpfagoapaaGreat
set_option linter.unusedVariables false
set_option linter.unusedSimpArgs false
set_option maxRecDepth 100000
set_option maxHeartbeats 16000000
open Go.RowKit
def okI (c:CellB):Prop:=c.null=false∧c.text=[]∧inI c.int
def okT (c:CellB):Prop:=c.null=false∧c.int=0∧c.text.length≤12
theorem nomatch_mem {c:CellB} {q:Prop} (h:c ∈ ([]:List CellB)):q:=by cases h
def encG (st:CellB→CellB→List UInt8):CellB→List CellB→List UInt8
 | _,[]=>[]
 | a,c :: l=>st a c++encG st c l
def lastOr:CellB→List CellB→CellB
 | a,[]=>a
 | _,c :: l=>lastOr c l
def eachStI (_ c:CellB):List UInt8:=bB c.int
def eachStT (_ c:CellB):List UInt8:=xB c.text
def stepStI (a c:CellB):List UInt8:=zB (wrap64 (c.int - a.int))
def stepStT (a c:CellB):List UInt8:=tStep a.text c.text
theorem lastOr_snoc (a:CellB) (l:List CellB) (c:CellB):lastOr a (l++[c])=c:=by
 induction l generalizing a with
 | nil=>rfl
 | cons d l ih=>exact ih d
theorem encG_append (st:CellB→CellB→List UInt8) (a:CellB) (l m:List CellB):encG st a (l++m)=encG st a l++encG st (lastOr a l) m:=by
 induction l generalizing a with
 | nil=>rfl
 | cons d l ih=>simp only [List.cons_append,encG,lastOr,ih,List.append_assoc]
theorem last_mem (a:CellB) (l:List CellB) (h:l≠[]):lastOr a l ∈ l:=by
 induction l generalizing a with
 | nil=>exact absurd rfl h
 | cons c l ih =>
  cases l with
  | nil=>simp [lastOr]
  | cons d l=>exact List.mem_cons_of_mem _ (ih c (by simp))
theorem last_inI {l:List CellB} (h:∀ c ∈ l,okI c):inI (lastOr cellD l).int:=by
 by_cases hl:l=[]
 ·subst hl;exact ⟨by decide,by decide⟩
 ·exact (h _ (last_mem cellD l hl)).2.2
theorem last_small {l:List CellB} (h:∀ c ∈ l,okT c):(lastOr cellD l).text.length≤12:=by
 by_cases hl:l=[]
 ·subst hl;decide
 ·exact (h _ (last_mem cellD l hl)).2.2
def Left (st:CellB→CellB→List UInt8) (dom:List CellB→Prop) (rest:List UInt8) (acc:List CellB) (r:List UInt8):Prop :=
 ∀ l2 q,dom l2→rest=encG st cellD l2++q→∃ l3,l2=acc++l3∧r=encG st (lastOr cellD acc) l3++q
theorem left_start (st:CellB→CellB→List UInt8) (dom:List CellB→Prop) (rest:List UInt8):Left st dom rest [] rest:=fun l2 q _ h=>⟨l2,rfl,h⟩
theorem left_next {st:CellB→CellB→List UInt8} {dom:List CellB→Prop} {rest r:List UInt8} {acc:List CellB} {k n:Nat} (h:Left st dom rest acc r) (hk:acc.length=k) (hlt:k < n) (hd:∀ l,dom l→l.length=n) :
  ∀ l2 q,dom l2→rest=encG st cellD l2++q→∃ c l4,l2=acc++c :: l4∧r=st (lastOr cellD acc) c++(encG st c l4++q):=by
 intro l2 q hl2 h2
 obtain ⟨l3,e1,e2⟩:=h l2 q hl2 h2
 cases l3 with
 | nil =>
  have:=hd l2 hl2
  rw [e1,List.append_nil] at this
  omega
 | cons c l4=>exact ⟨c,l4,e1,by rw [e2,encG,List.append_assoc]⟩
theorem left_more {st:CellB→CellB→List UInt8} {dom:List CellB→Prop} {ok:CellB→Prop} {rest r r2:List UInt8} {acc:List CellB} {k n:Nat} {x:CellB} (h:Left st dom rest acc r) (hk:acc.length=k) (hlt:k < n) (hd:∀ l,dom l→l.length=n)
  (hu:∀ c q,ok c→r=st (lastOr cellD acc) c++q→c=x∧q=r2) (hok:∀ l,dom l→∀ c ∈ l,ok c):Left st dom rest (acc++[x]) r2:=by
 intro l2 q hl2 h2
 obtain ⟨c,l4,e1,e2⟩:=left_next h hk hlt hd l2 q hl2 h2
 obtain ⟨rfl,e3⟩:=hu c _ (hok l2 hl2 c (by rw [e1];simp)) e2
 exact ⟨l4,by rw [e1];simp,by rw [← e3,lastOr_snoc]⟩
theorem left_end {st:CellB→CellB→List UInt8} {dom:List CellB→Prop} {rest r:List UInt8} {acc:List CellB} {n:Nat} (h:Left st dom rest acc r) (hk:acc.length=n) (hd:∀ l,dom l→l.length=n) :
  ∀ l2 q,dom l2→rest=encG st cellD l2++q→l2=acc∧q=r:=by
 intro l2 q hl2 h2
 obtain ⟨l3,e1,e2⟩:=h l2 q hl2 h2
 have:=hd l2 hl2
 rw [e1,List.length_append] at this
 have h3:l3=[]:=List.eq_nil_of_length_eq_zero (by omega)
 subst h3
 exact ⟨by rw [e1,List.append_nil],by rw [e2];rfl⟩
def ReadsRow (ty:TypeId) (row:List CellB→List Value) (dom:List CellB→Prop) (enc:List CellB→List UInt8) (p:Nat) (s rest:List UInt8) (w:World) (e:Ending) (w':World):Prop :=
 w.grownBy w' (some p)∧((e=gaveUp∧∀ l q,dom l→rest≠enc l++q)∨∃ l r v,dom l∧e=.returned v∧w'.ownsRow w.heap.size ty 1 v l.length (row l)∧RdAt w' p s r∧∀ l2 q,dom l2→rest=enc l2++q→l2=l∧q=r)
theorem rd_append {w0 w2 w3:World} {p n ty sz:Nat} {s r:List UInt8} {v:Value} {xs:List Value} {o:Obj} (hrd:RdAt w2 p s r) (hp:p < w0.heap.size) (hG:w0.grownBy w2 (some p)) (hown:w2.ownsRow w0.heap.size ty sz v n xs)
  (hgr:(w2.alloc o).grownBy w3 v.ownBlock):RdAt w3 p s r∧w0.grownBy w3 (some p):=by
 have hlt:=rd_lt hrd
 have hne:some p≠v.ownBlock:=by
  intro h
  have:=(hown.lt p h.symm).1
  omega
 obtain ⟨at_,h1,h2,h3⟩:=hrd
 refine ⟨⟨at_,?_,h2,h3⟩,grown_own (grown_alloc hG o) hgr (fun k hk=>(hown.lt k hk).1)⟩
 rw [hgr.block p (by simp;omega) hne]
 rw [← h1]
 exact ((Below.refl w2.heap.size w2).alloc (Nat.le_refl _) o).block p hlt
theorem readEachI (g p count:Nat) (s rest:List UInt8) (w:World) (hs:s.length≤maxLen) (hc:count≤60) (hp:RdAt w p s rest) :
  Calls Tryz.prog 182 #[numC g,.pointer (some ⟨p,0,none⟩),.int .i64 (count:Int)] w (ReadsRow 3 ints (fun l=>l.length=count∧∀ c ∈ l,okI c) (encG eachStI cellD) p s rest w):=by
 obtain ⟨i0,hi,hz0,hz1,hz2⟩:=info_parts Tryz.infoInt
 have Hs:=hid hs
 have Hp:=hid hp
 have hplt:=rd_lt hp
 clear hs hp
 go_enter Tryz.func182,Tryz.ntmps182
 go_wp2
 obtain ⟨hb0,hs0,hc0⟩:=boxed w #[.slice (some ⟨g,0,none⟩) 3 3,fnV 187,fnV 188,fnV 189,fnV 190,fnV 191,fnV 192] 215
 have hc1:_=some (fnV 190):=hc0 4
 have Hc:=hid hc1
 have Hp0:=hid (rd_below Hp.out hb0 hplt)
 have Hb0:=hid hb0
 have hs1:=Nat.lt_of_lt_of_eq (Nat.lt_succ_self w.heap.size) hs0.symm
 have hplt0:=Nat.lt_of_lt_of_le hplt hb0.size
 clear hc0 hc1 hb0 hs0
 generalize w.alloc _=w0 at *
 go_loopw [7,9] (fun v i wr=>∃ (k:Nat) (acc:List CellB) (r:List UInt8),k≤count∧i=.int .i64 (k:Int)∧acc.length=k∧(∀ c ∈ acc,okI c)∧wr.ownsRow w0.heap.size 3 1 v k (ints acc)∧RdAt wr p s r∧w0.grownBy wr (some p)∧Left eachStI (fun l=>l.length=count∧∀ c ∈ l,okI c) rest acc r)
  (fun _ i _=>count - (intOf i).toNat)
 case atStart=>exact ⟨0,[],rest,Nat.zero_le _,rfl,rfl,(fun c h=>nomatch_mem h),World.ownsRow_nil _ _ _ _,Hp0.out,grown_refl _ _,left_start _ _ _⟩
 case round =>
  obtain ⟨k,acc,r,hkc,rfl,hal,hok,hown,hrd,hg,hleft⟩:=hrel
  have Hal:=hid hal
  have Hok:=hid hok
  have Hleft:=hid hleft
  have Hg:=hid hg
  have Hah:Hid (inI (lastOr cellD acc).int):=last_inI hok
  clear hal hok hleft
  by_cases hlt:k < count
  ·have hcf:=(hg.cell_far ⟨w.heap.size,4,none⟩ hs1 (by intro h;simp at h;omega)).trans Hc.out
   clear hg
   go_wp2_with fail
   refine (eightR_any p s r _ Hs.out hrd).mono ?_
   rintro e w2 ⟨hg2,⟨rfl,hno⟩|⟨x,r2,hx,rfl,hrd2,hu⟩⟩
   ·go_wp2
    refine ⟨rfl,grown_trans (grown_below (grown_refl w _) Hb0.out) (grown_trans Hg.out hg2),.inl ⟨rfl,fun l2 q hl2 h=>?_⟩⟩
    obtain ⟨c,l4,hc4,h4⟩:=left_next Hleft.out Hal.out hlt (fun l h=>h.1) l2 q hl2 h
    exact hno c.int _ ((hl2.2 c (hc4 ▸ by simp)).2.2) h4
   ·have Hu:=hid hu
    have Hx:=hid hx
    have hown2:=keep_row hown hplt0 hg2
    have hG2:=grown_trans Hg.out hg2
    clear hown hrd hu hcf hg2 hx
    go_wp2_with (at_builtin;refine wpList_append_own _ rfl (.tmp 11) (.tmp 16) 82 rfl w0.heap.size 3 i0 (.int .i64 0) 1 8 Tryz.underlying82 hi hz0 hz1 hz2 rfl (by decide) _ _ _ rfl (hown2.alloc _) ⟨_,0,none⟩ 1 1 [.int .i64 x] rfl rfl ?c1 ?c2 ?c3 ?c4 ?c5 ?_)
    case c1=>exact cell_laid w2 #[.int .i64 x] 3
    case c2=>intro u hu;simp at hu;subst hu;rfl
    case c3=>unfold maxLen;omega
    case c4=>omega
    case c5=>have:=hG2.size;simp;omega
    intro v3 w3 hown3 hgr3 _
    have HR:=hid (rd_append hrd2 hplt0 hG2 hown2 hgr3)
    have HO3:=hid hown3
    clear hown2 hown3 hgr3 hG2 hrd2
    go_wp2
    go_roundw
    case rel=>exact ⟨k+1,acc++[⟨false,x,[]⟩],r2,by omega,by go_num,by simp [Hal.out],fun c hc=>(List.mem_append.1 hc).elim (Hok.out c) (fun h=>by simp only [List.mem_cons,List.not_mem_nil,or_false] at h;subst h;exact ⟨rfl,rfl,Hx.out⟩),by rw [show ints (acc++[⟨false,x,[]⟩])=ints acc++[.int .i64 x] by simp [ints]];exact HO3.out,HR.out.1,HR.out.2,left_more Hleft.out Hal.out hlt (fun l h=>h.1) (fun c q hc h=>by
     obtain ⟨e1,e2⟩:=Hu.out c.int q hc.2.2 h
     refine ⟨?_,e2⟩
     obtain ⟨cn,ci,ct⟩:=c
     obtain ⟨o1,o2,o3⟩:=hc
     simp only at o1 o2 e1
     subst o1 o2 e1
     rfl) (fun l h=>h.2)⟩
    case measure=>simp [intOf];omega
  ·have hke:k=count:=by omega
   subst hke
   have Hown:=hid hown
   have Hrd:=hid hrd
   clear hg hown hrd
   go_wp2
   go_ret
   refine ⟨grown_trans (grown_below (grown_refl w _) Hb0.out) Hg.out,.inr ⟨acc,r,_,⟨Hal.out,Hok.out⟩,rfl,?_,Hrd.out,left_end Hleft.out Hal.out (fun l h=>h.1)⟩⟩
   rw [Hal.out]
   exact ownsRow_base Hown.out Hb0.out.size
theorem readEachT (g p count:Nat) (s rest:List UInt8) (w:World) (hs:s.length≤maxLen) (hc:count≤60) (hp:RdAt w p s rest) :
  Calls Tryz.prog 197 #[txtC g,.pointer (some ⟨p,0,none⟩),.int .i64 (count:Int)] w (ReadsRow 9 strsT (fun l=>l.length=count∧∀ c ∈ l,okT c) (encG eachStT cellD) p s rest w):=by
 obtain ⟨i0,hi,hz0,hz1,hz2⟩:=info_parts Tryz.infoStr
 have Hs:=hid hs
 have Hp:=hid hp
 have hplt:=rd_lt hp
 clear hs hp
 go_enter Tryz.func197,Tryz.ntmps197
 go_wp2
 obtain ⟨hb0,hs0,hc0⟩:=boxed w #[.slice (some ⟨g,0,none⟩) 3 3,fnV 202,fnV 203,fnV 204,fnV 205,fnV 206,fnV 207] 225
 have hc1:_=some (fnV 205):=hc0 4
 have Hc:=hid hc1
 have Hp0:=hid (rd_below Hp.out hb0 hplt)
 have Hb0:=hid hb0
 have hs1:=Nat.lt_of_lt_of_eq (Nat.lt_succ_self w.heap.size) hs0.symm
 have hplt0:=Nat.lt_of_lt_of_le hplt hb0.size
 clear hc0 hc1 hb0 hs0
 generalize w.alloc _=w0 at *
 go_loopw [7,9] (fun v i wr=>∃ (k:Nat) (acc:List CellB) (r:List UInt8),k≤count∧i=.int .i64 (k:Int)∧acc.length=k∧(∀ c ∈ acc,okT c)∧wr.ownsRow w0.heap.size 9 1 v k (strsT acc)∧RdAt wr p s r∧w0.grownBy wr (some p)∧Left eachStT (fun l=>l.length=count∧∀ c ∈ l,okT c) rest acc r)
  (fun _ i _=>count - (intOf i).toNat)
 case atStart=>exact ⟨0,[],rest,Nat.zero_le _,rfl,rfl,(fun c h=>nomatch_mem h),World.ownsRow_nil _ _ _ _,Hp0.out,grown_refl _ _,left_start _ _ _⟩
 case round =>
  obtain ⟨k,acc,r,hkc,rfl,hal,hok,hown,hrd,hg,hleft⟩:=hrel
  have Hal:=hid hal
  have Hok:=hid hok
  have Hleft:=hid hleft
  have Hg:=hid hg
  have Hah:Hid ((lastOr cellD acc).text.length≤12):=last_small hok
  clear hal hok hleft
  by_cases hlt:k < count
  ·have hcf:=(hg.cell_far ⟨w.heap.size,4,none⟩ hs1 (by intro h;simp at h;omega)).trans Hc.out
   clear hg
   go_wp2_with fail
   refine (readText_any p s r _ Hs.out hrd).mono ?_
   rintro e w2 ⟨hg2,⟨rfl,hno⟩|⟨x,r2,hx,rfl,hrd2,hu⟩⟩
   ·go_wp2
    refine ⟨rfl,grown_trans (grown_below (grown_refl w _) Hb0.out) (grown_trans Hg.out hg2),.inl ⟨rfl,fun l2 q hl2 h=>?_⟩⟩
    obtain ⟨c,l4,hc4,h4⟩:=left_next Hleft.out Hal.out hlt (fun l h=>h.1) l2 q hl2 h
    exact hno c.text _ ((hl2.2 c (hc4 ▸ by simp)).2.2) h4
   ·have Hu:=hid hu
    have Hx:=hid hx
    have hown2:=keep_row hown hplt0 hg2
    have hG2:=grown_trans Hg.out hg2
    clear hown hrd hu hcf hg2 hx
    go_wp2_with (at_builtin;refine wpList_append_own _ rfl (.tmp 11) (.tmp 16) 71 rfl w0.heap.size 9 i0 (.string ⟨#[]⟩) 1 16 Tryz.underlying71 hi hz0 hz1 hz2 rfl (by decide) _ _ _ rfl (hown2.alloc _) ⟨_,0,none⟩ 1 1 [strB x] rfl rfl ?c1 ?c2 ?c3 ?c4 ?c5 ?_)
    case c1=>exact cell_laid w2 #[strB x] 9
    case c2=>intro u hu;simp at hu;subst hu;rfl
    case c3=>unfold maxLen;omega
    case c4=>omega
    case c5=>have:=hG2.size;simp;omega
    intro v3 w3 hown3 hgr3 _
    have HR:=hid (rd_append hrd2 hplt0 hG2 hown2 hgr3)
    have HO3:=hid hown3
    clear hown2 hown3 hgr3 hG2 hrd2
    go_wp2
    go_roundw
    case rel=>exact ⟨k+1,acc++[⟨false,0,x⟩],r2,by omega,by go_num,by simp [Hal.out],fun c hc=>(List.mem_append.1 hc).elim (Hok.out c) (fun h=>by simp only [List.mem_cons,List.not_mem_nil,or_false] at h;subst h;exact ⟨rfl,rfl,Hx.out⟩),by rw [show strsT (acc++[⟨false,0,x⟩])=strsT acc++[strB x] by simp [strsT,strs,texts]];exact HO3.out,HR.out.1,HR.out.2,left_more Hleft.out Hal.out hlt (fun l h=>h.1) (fun c q hc h=>by
     obtain ⟨e1,e2⟩:=Hu.out c.text q hc.2.2 h
     refine ⟨?_,e2⟩
     obtain ⟨cn,ci,ct⟩:=c
     obtain ⟨o1,o2,o3⟩:=hc
     simp only at o1 o2 e1
     subst o1 o2 e1
     rfl) (fun l h=>h.2)⟩
    case measure=>simp [intOf];omega
  ·have hke:k=count:=by omega
   subst hke
   have Hown:=hid hown
   have Hrd:=hid hrd
   clear hg hown hrd
   go_wp2
   go_ret
   refine ⟨grown_trans (grown_below (grown_refl w _) Hb0.out) Hg.out,.inr ⟨acc,r,_,⟨Hal.out,Hok.out⟩,rfl,?_,Hrd.out,left_end Hleft.out Hal.out (fun l h=>h.1)⟩⟩
   rw [Hal.out]
   exact ownsRow_base Hown.out Hb0.out.size
theorem readStepsI (g p count:Nat) (s rest:List UInt8) (w:World) (hs:s.length≤maxLen) (hc:count≤60) (hp:RdAt w p s rest) :
  Calls Tryz.prog 184 #[numC g,.pointer (some ⟨p,0,none⟩),.int .i64 (count:Int)] w (ReadsRow 3 ints (fun l=>l.length=count∧∀ c ∈ l,okI c) (encG stepStI cellD) p s rest w):=by
 obtain ⟨i0,hi,hz0,hz1,hz2⟩:=info_parts Tryz.infoInt
 have Hs:=hid hs
 have Hp:=hid hp
 have hplt:=rd_lt hp
 clear hs hp
 go_enter Tryz.func184,Tryz.ntmps184
 go_wp2
 obtain ⟨hb0,hs0,hc0⟩:=boxed w #[.slice (some ⟨g,0,none⟩) 3 3,fnV 187,fnV 188,fnV 189,fnV 190,fnV 191,fnV 192] 215
 have hc1:_=some (fnV 192):=hc0 6
 have Hc:=hid hc1
 have Hp0:=hid (rd_below Hp.out hb0 hplt)
 have Hb0:=hid hb0
 have hs1:=Nat.lt_of_lt_of_eq (Nat.lt_succ_self w.heap.size) hs0.symm
 have hplt0:=Nat.lt_of_lt_of_le hplt hb0.size
 clear hc0 hc1 hb0 hs0
 generalize w.alloc _=w0 at *
 go_loopw [7,8,10] (fun v u i wr=>∃ (k:Nat) (acc:List CellB) (r:List UInt8),k≤count∧i=.int .i64 (k:Int)∧u=.int .i64 (lastOr cellD acc).int∧acc.length=k∧(∀ c ∈ acc,okI c)∧wr.ownsRow w0.heap.size 3 1 v k (ints acc)∧RdAt wr p s r∧w0.grownBy wr (some p)∧Left stepStI (fun l=>l.length=count∧∀ c ∈ l,okI c) rest acc r)
  (fun _ _ i _=>count - (intOf i).toNat)
 case atStart=>exact ⟨0,[],rest,Nat.zero_le _,rfl,rfl,rfl,(fun c h=>nomatch_mem h),World.ownsRow_nil _ _ _ _,Hp0.out,grown_refl _ _,left_start _ _ _⟩
 case round =>
  obtain ⟨k,acc,r,hkc,rfl,rfl,hal,hok,hown,hrd,hg,hleft⟩:=hrel
  have Hal:=hid hal
  have Hok:=hid hok
  have Hleft:=hid hleft
  have Hg:=hid hg
  have Hah:Hid (inI (lastOr cellD acc).int):=last_inI hok
  clear hal hok hleft
  by_cases hlt:k < count
  ·have hcf:=(hg.cell_far ⟨w.heap.size,6,none⟩ hs1 (by intro h;simp at h;omega)).trans Hc.out
   clear hg
   go_wp2_with fail
   refine (readNumStep_any p s r (lastOr cellD acc).int _ Hs.out (Hah.out) hrd).mono ?_
   rintro e w2 ⟨hg2,⟨rfl,hno⟩|⟨x,r2,hx,rfl,hrd2,hu⟩⟩
   ·go_wp2
    refine ⟨rfl,grown_trans (grown_below (grown_refl w _) Hb0.out) (grown_trans Hg.out hg2),.inl ⟨rfl,fun l2 q hl2 h=>?_⟩⟩
    obtain ⟨c,l4,hc4,h4⟩:=left_next Hleft.out Hal.out hlt (fun l h=>h.1) l2 q hl2 h
    exact hno c.int _ ((hl2.2 c (hc4 ▸ by simp)).2.2) h4
   ·have Hu:=hid hu
    have Hx:=hid hx
    have hown2:=keep_row hown hplt0 hg2
    have hG2:=grown_trans Hg.out hg2
    clear hown hrd hu hcf hg2 hx
    go_wp2_with (at_builtin;refine wpList_append_own _ rfl (.tmp 17) (.tmp 19) 82 rfl w0.heap.size 3 i0 (.int .i64 0) 1 8 Tryz.underlying82 hi hz0 hz1 hz2 rfl (by decide) _ _ _ rfl (hown2.alloc _) ⟨_,0,none⟩ 1 1 [.int .i64 x] rfl rfl ?c1 ?c2 ?c3 ?c4 ?c5 ?_)
    case c1=>exact cell_laid w2 #[.int .i64 x] 3
    case c2=>intro u hu;simp at hu;subst hu;rfl
    case c3=>unfold maxLen;omega
    case c4=>omega
    case c5=>have:=hG2.size;simp;omega
    intro v3 w3 hown3 hgr3 _
    have HR:=hid (rd_append hrd2 hplt0 hG2 hown2 hgr3)
    have HO3:=hid hown3
    clear hown2 hown3 hgr3 hG2 hrd2
    go_wp2
    go_roundw
    case rel=>exact ⟨k+1,acc++[⟨false,x,[]⟩],r2,by omega,by go_num,by rw [lastOr_snoc],by simp [Hal.out],fun c hc=>(List.mem_append.1 hc).elim (Hok.out c) (fun h=>by simp only [List.mem_cons,List.not_mem_nil,or_false] at h;subst h;exact ⟨rfl,rfl,Hx.out⟩),by rw [show ints (acc++[⟨false,x,[]⟩])=ints acc++[.int .i64 x] by simp [ints]];exact HO3.out,HR.out.1,HR.out.2,left_more Hleft.out Hal.out hlt (fun l h=>h.1) (fun c q hc h=>by
     obtain ⟨e1,e2⟩:=Hu.out c.int q hc.2.2 h
     refine ⟨?_,e2⟩
     obtain ⟨cn,ci,ct⟩:=c
     obtain ⟨o1,o2,o3⟩:=hc
     simp only at o1 o2 e1
     subst o1 o2 e1
     rfl) (fun l h=>h.2)⟩
    case measure=>simp [intOf];omega
  ·have hke:k=count:=by omega
   subst hke
   have Hown:=hid hown
   have Hrd:=hid hrd
   clear hg hown hrd
   go_wp2
   go_ret
   refine ⟨grown_trans (grown_below (grown_refl w _) Hb0.out) Hg.out,.inr ⟨acc,r,_,⟨Hal.out,Hok.out⟩,rfl,?_,Hrd.out,left_end Hleft.out Hal.out (fun l h=>h.1)⟩⟩
   rw [Hal.out]
   exact ownsRow_base Hown.out Hb0.out.size
theorem readStepsT (g p count:Nat) (s rest:List UInt8) (w:World) (hs:s.length≤maxLen) (hc:count≤60) (hp:RdAt w p s rest) :
  Calls Tryz.prog 201 #[txtC g,.pointer (some ⟨p,0,none⟩),.int .i64 (count:Int)] w (ReadsRow 9 strsT (fun l=>l.length=count∧∀ c ∈ l,okT c) (encG stepStT cellD) p s rest w):=by
 obtain ⟨i0,hi,hz0,hz1,hz2⟩:=info_parts Tryz.infoStr
 have Hs:=hid hs
 have Hp:=hid hp
 have hplt:=rd_lt hp
 clear hs hp
 go_enter Tryz.func201,Tryz.ntmps201
 go_wp2
 obtain ⟨hb0,hs0,hc0⟩:=boxed w #[.slice (some ⟨g,0,none⟩) 3 3,fnV 202,fnV 203,fnV 204,fnV 205,fnV 206,fnV 207] 225
 have hc1:_=some (fnV 207):=hc0 6
 have Hc:=hid hc1
 have Hp0:=hid (rd_below Hp.out hb0 hplt)
 have Hb0:=hid hb0
 have hs1:=Nat.lt_of_lt_of_eq (Nat.lt_succ_self w.heap.size) hs0.symm
 have hplt0:=Nat.lt_of_lt_of_le hplt hb0.size
 clear hc0 hc1 hb0 hs0
 generalize w.alloc _=w0 at *
 go_loopw [7,8,10] (fun v u i wr=>∃ (k:Nat) (acc:List CellB) (r:List UInt8),k≤count∧i=.int .i64 (k:Int)∧u=strB (lastOr cellD acc).text∧acc.length=k∧(∀ c ∈ acc,okT c)∧wr.ownsRow w0.heap.size 9 1 v k (strsT acc)∧RdAt wr p s r∧w0.grownBy wr (some p)∧Left stepStT (fun l=>l.length=count∧∀ c ∈ l,okT c) rest acc r)
  (fun _ _ i _=>count - (intOf i).toNat)
 case atStart=>exact ⟨0,[],rest,Nat.zero_le _,rfl,rfl,rfl,(fun c h=>nomatch_mem h),World.ownsRow_nil _ _ _ _,Hp0.out,grown_refl _ _,left_start _ _ _⟩
 case round =>
  obtain ⟨k,acc,r,hkc,rfl,rfl,hal,hok,hown,hrd,hg,hleft⟩:=hrel
  have Hal:=hid hal
  have Hok:=hid hok
  have Hleft:=hid hleft
  have Hg:=hid hg
  have Hah:Hid ((lastOr cellD acc).text.length≤12):=last_small hok
  clear hal hok hleft
  by_cases hlt:k < count
  ·have hcf:=(hg.cell_far ⟨w.heap.size,6,none⟩ hs1 (by intro h;simp at h;omega)).trans Hc.out
   clear hg
   go_wp2_with fail
   refine (readTextStep_any p s r (lastOr cellD acc).text _ Hs.out (Hah.out) hrd).mono ?_
   rintro e w2 ⟨hg2,⟨rfl,hno⟩|⟨x,r2,hx,rfl,hrd2,hu⟩⟩
   ·go_wp2
    refine ⟨rfl,grown_trans (grown_below (grown_refl w _) Hb0.out) (grown_trans Hg.out hg2),.inl ⟨rfl,fun l2 q hl2 h=>?_⟩⟩
    obtain ⟨c,l4,hc4,h4⟩:=left_next Hleft.out Hal.out hlt (fun l h=>h.1) l2 q hl2 h
    exact hno c.text _ ((hl2.2 c (hc4 ▸ by simp)).2.2) h4
   ·have Hu:=hid hu
    have Hx:=hid hx
    have hown2:=keep_row hown hplt0 hg2
    have hG2:=grown_trans Hg.out hg2
    clear hown hrd hu hcf hg2 hx
    go_wp2_with (at_builtin;refine wpList_append_own _ rfl (.tmp 17) (.tmp 19) 71 rfl w0.heap.size 9 i0 (.string ⟨#[]⟩) 1 16 Tryz.underlying71 hi hz0 hz1 hz2 rfl (by decide) _ _ _ rfl (hown2.alloc _) ⟨_,0,none⟩ 1 1 [strB x] rfl rfl ?c1 ?c2 ?c3 ?c4 ?c5 ?_)
    case c1=>exact cell_laid w2 #[strB x] 9
    case c2=>intro u hu;simp at hu;subst hu;rfl
    case c3=>unfold maxLen;omega
    case c4=>omega
    case c5=>have:=hG2.size;simp;omega
    intro v3 w3 hown3 hgr3 _
    have HR:=hid (rd_append hrd2 hplt0 hG2 hown2 hgr3)
    have HO3:=hid hown3
    clear hown2 hown3 hgr3 hG2 hrd2
    go_wp2
    go_roundw
    case rel=>exact ⟨k+1,acc++[⟨false,0,x⟩],r2,by omega,by go_num,by rw [lastOr_snoc],by simp [Hal.out],fun c hc=>(List.mem_append.1 hc).elim (Hok.out c) (fun h=>by simp only [List.mem_cons,List.not_mem_nil,or_false] at h;subst h;exact ⟨rfl,rfl,Hx.out⟩),by rw [show strsT (acc++[⟨false,0,x⟩])=strsT acc++[strB x] by simp [strsT,strs,texts]];exact HO3.out,HR.out.1,HR.out.2,left_more Hleft.out Hal.out hlt (fun l h=>h.1) (fun c q hc h=>by
     obtain ⟨e1,e2⟩:=Hu.out c.text q hc.2.2 h
     refine ⟨?_,e2⟩
     obtain ⟨cn,ci,ct⟩:=c
     obtain ⟨o1,o2,o3⟩:=hc
     simp only at o1 o2 e1
     subst o1 o2 e1
     rfl) (fun l h=>h.2)⟩
    case measure=>simp [intOf];omega
  ·have hke:k=count:=by omega
   subst hke
   have Hown:=hid hown
   have Hrd:=hid hrd
   clear hg hown hrd
   go_wp2
   go_ret
   refine ⟨grown_trans (grown_below (grown_refl w _) Hb0.out) Hg.out,.inr ⟨acc,r,_,⟨Hal.out,Hok.out⟩,rfl,?_,Hrd.out,left_end Hleft.out Hal.out (fun l h=>h.1)⟩⟩
   rw [Hal.out]
   exact ownsRow_base Hown.out Hb0.out.size
end Go.Proofs.YthhpbhpfagoapaaGreat
