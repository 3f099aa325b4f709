import Derived.Test.YthhpbhpfagoapaaGreatJAX
import Derived.Deep.LoopGhost
import Derived.Test.YthhpbhpfagoapaaGreatJAU
namespace Go.Proofs.YthhpbhpfagoapaaGreat
set_option linter.unusedVariables false
set_option linter.unusedSimpArgs false
set_option maxRecDepth 100000
set_option maxHeartbeats 16000000
open Go.RowKit
section
def okI (c:CellB):Prop:=c.null=false∧c.text=[]∧inI c.int
def okT (c:CellB):Prop:=c.null=false∧c.int=0∧c.text.length≤12
theorem zU {c:CellB} {q:Prop} (h:c ∈ ([]:List CellB)):q:=by cases h
def Zl (st:CellB→CellB→List UInt8):CellB→List CellB→List UInt8
 | _,[]=>[]
 | a,c :: l=>st a c++Zl st c l
def zL:CellB→List CellB→CellB
 | a,[]=>a
 | _,c :: l=>zL c l
def GA (_ c:CellB):List UInt8:=bB c.int
def XX (_ c:CellB):List UInt8:=xB c.text
def GL (a c:CellB):List UInt8:=zB (wrap64 (c.int - a.int))
def KL (a c:CellB):List UInt8:=GV a.text c.text
theorem XY (a:CellB) (l:List CellB) (c:CellB):zL a (l++[c])=c:=by
 induction l generalizing a with
 | nil=>rfl
 | cons d l ih=>exact ih d
theorem Iv (st:CellB→CellB→List UInt8) (a:CellB) (l m:List CellB):Zl st a (l++m)=Zl st a l++Zl st (zL a l) m:=by
 induction l generalizing a with
 | nil=>rfl
 | cons d l ih=>simp only [List.cons_append,Zl,zL,ih,List.append_assoc]
theorem Eu (a:CellB) (l:List CellB) (h:l≠[]):zL a l ∈ l:=by
 induction l generalizing a with
 | nil=>exact absurd rfl h
 | cons c l ih =>
  cases l with
  | nil=>simp [zL]
  | cons d l=>exact List.mem_cons_of_mem _ (ih c (by simp))
theorem IO {l:List CellB} (h:∀ c ∈ l,okI c):inI (zL qz l).int:=by
 by_cases hl:l=[]
 ·subst hl;exact ⟨by decide,by decide⟩
 ·exact (h _ (Eu qz l hl)).2.2
theorem Nl {l:List CellB} (h:∀ c ∈ l,okT c):(zL qz l).text.length≤12:=by
 by_cases hl:l=[]
 ·subst hl;decide
 ·exact (h _ (Eu qz l hl)).2.2
def Yt (st:CellB→CellB→List UInt8) (dom:List CellB→Prop) (rest:List UInt8) (acc:List CellB) (r:List UInt8):Prop :=
 ∀ l2 q,dom l2→rest=Zl st qz l2++q→∃ l3,l2=acc++l3∧r=Zl st (zL qz acc) l3++q
theorem ZK (st:CellB→CellB→List UInt8) (dom:List CellB→Prop) (rest:List UInt8):Yt st dom rest [] rest:=fun l2 q _ h=>⟨l2,rfl,h⟩
theorem Zn {st:CellB→CellB→List UInt8} {dom:List CellB→Prop} {rest r:List UInt8} {acc:List CellB} {k n:Nat} (h:Yt st dom rest acc r) (hk:acc.length=k) (hlt:k < n) (hd:∀ l,dom l→l.length=n) :
  ∀ l2 q,dom l2→rest=Zl st qz l2++q→∃ c l4,l2=acc++c :: l4∧r=st (zL qz acc) c++(Zl st c l4++q):=by
 intro l2 q hl2 h2
 obtain ⟨l3,e1,e2⟩:=h l2 q hl2 h2
 cases l3 with
 | nil =>
  have:=hd l2 hl2
  rw [e1,List.append_nil] at this
  omega
 | cons c l4=>exact ⟨c,l4,e1,by rw [e2,Zl,List.append_assoc]⟩
theorem KG {st:CellB→CellB→List UInt8} {dom:List CellB→Prop} {ok:CellB→Prop} {rest r r2:List UInt8} {acc:List CellB} {k n:Nat} {x:CellB} (h:Yt st dom rest acc r) (hk:acc.length=k) (hlt:k < n) (hd:∀ l,dom l→l.length=n)
  (hu:∀ c q,ok c→r=st (zL qz acc) c++q→c=x∧q=r2) (hok:∀ l,dom l→∀ c ∈ l,ok c):Yt st dom rest (acc++[x]) r2:=by
 intro l2 q hl2 h2
 obtain ⟨c,l4,e1,e2⟩:=Zn h hk hlt hd l2 q hl2 h2
 obtain ⟨rfl,e3⟩:=hu c _ (hok l2 hl2 c (by rw [e1];simp)) e2
 exact ⟨l4,by rw [e1];simp,by rw [← e3,XY]⟩
theorem UF {st:CellB→CellB→List UInt8} {dom:List CellB→Prop} {rest r:List UInt8} {acc:List CellB} {n:Nat} (h:Yt st dom rest acc r) (hk:acc.length=n) (hd:∀ l,dom l→l.length=n) :
  ∀ l2 q,dom l2→rest=Zl st qz l2++q→l2=acc∧q=r:=by
 intro l2 q hl2 h2
 obtain ⟨l3,e1,e2⟩:=h l2 q hl2 h2
 have:=hd l2 hl2
 rw [e1,List.length_append] at this
 have h3:l3=[]:=List.eq_nil_of_length_eq_zero (by omega)
 subst h3
 exact ⟨by rw [e1,List.append_nil],by rw [e2];rfl⟩
def Xa (ty:TypeId) (row:List CellB→List Value) (dom:List CellB→Prop) (enc:List CellB→List UInt8) (p:Nat) (s rest:List UInt8) (w:World) (e:Ending) (w':World):Prop :=
 w.grownBy w' (some p)∧((e=gaveUp∧∀ l q,dom l→rest≠enc l++q)∨∃ l r v,dom l∧e=.returned v∧w'.ownsRow w.heap.size ty 1 v l.length (row l)∧qp w' p s r∧∀ l2 q,dom l2→rest=enc l2++q→l2=l∧q=r)
theorem Xu {w0 w2 w3:World} {p n ty sz:Nat} {s r:List UInt8} {v:Value} {xs:List Value} {o:Obj} (hrd:qp w2 p s r) (hp:p < w0.heap.size) (hG:w0.grownBy w2 (some p)) (hown:w2.ownsRow w0.heap.size ty sz v n xs)
  (hgr:(w2.alloc o).grownBy w3 v.ownBlock):qp w3 p s r∧w0.grownBy w3 (some p):=by
 have hlt:=xh hrd
 have hne:some p≠v.ownBlock:=by
  intro h
  have:=(hown.lt p h.symm).1
  omega
 obtain ⟨at_,h1,h2,h3⟩:=hrd
 refine ⟨⟨at_,?_,h2,h3⟩,zo (xT hG o) hgr (fun k hk=>(hown.lt k hk).1)⟩
 rw [hgr.block p (by simp;omega) hne]
 rw [← h1]
 exact ((Below.refl w2.heap.size w2).alloc (Nat.le_refl _) o).block p hlt
theorem Ch (g p count:Nat) (s rest:List UInt8) (w:World) (hs:s.length≤maxLen) (hc:count≤60) (hp:qp w p s rest) :
  Calls Tryz.prog 182 #[numC g,.pointer (some ⟨p,0,none⟩),.int .i64 (count:Int)] w (Xa 3 QE (fun l=>l.length=count∧∀ c ∈ l,okI c) (Zl GA qz) p s rest w):=by
 obtain ⟨i0,hi,hz0,hz1,hz2⟩:=info_parts Tryz.infoInt
 have Hs:=hid hs
 have Hp:=hid hp
 have hplt:=xh hp
 clear hs hp
 go_enter Tryz.func182,Tryz.ntmps182
 go_wp2
 obtain ⟨hb0,hs0,hc0⟩:=zV w #[.slice (some ⟨g,0,none⟩) 3 3,fnV 187,fnV 188,fnV 189,fnV 190,fnV 191,fnV 192] 215
 have hc1:_=some (fnV 190):=hc0 4
 have Hc:=hid hc1
 have Hp0:=hid (qA Hp.out hb0 hplt)
 have Hb0:=hid hb0
 have hs1:=Nat.lt_of_lt_of_eq (Nat.lt_succ_self w.heap.size) hs0.symm
 have hplt0:=Nat.lt_of_lt_of_le hplt hb0.size
 clear hc0 hc1 hb0 hs0
 generalize w.alloc _=w0 at *
 go_loopw [7,9] (fun v i wr=>∃ (k:Nat) (acc:List CellB) (r:List UInt8),k≤count∧i=.int .i64 (k:Int)∧acc.length=k∧(∀ c ∈ acc,okI c)∧wr.ownsRow w0.heap.size 3 1 v k (QE acc)∧qp wr p s r∧w0.grownBy wr (some p)∧Yt GA (fun l=>l.length=count∧∀ c ∈ l,okI c) rest acc r)
  (fun _ i _=>count - (intOf i).toNat)
 case atStart=>exact ⟨0,[],rest,Nat.zero_le _,rfl,rfl,(fun c h=>zU h),World.ownsRow_nil _ _ _ _,Hp0.out,jL _ _,ZK _ _ _⟩
 case round =>
  obtain ⟨k,acc,r,hkc,rfl,hal,hok,hown,hrd,hg,hleft⟩:=hrel
  have Hal:=hid hal
  have Hok:=hid hok
  have Hleft:=hid hleft
  have Hg:=hid hg
  have Hah:Hid (inI (zL qz acc).int):=IO hok
  clear hal hok hleft
  by_cases hlt:k < count
  ·have hcf:=(hg.cell_far ⟨w.heap.size,4,none⟩ hs1 (by intro h;simp at h;omega)).trans Hc.out
   clear hg
   go_wp2_with fail
   refine (Ao p s r _ Hs.out hrd).mono ?_
   rintro e w2 ⟨hg2,⟨rfl,hno⟩|⟨x,r2,hx,rfl,hrd2,hu⟩⟩
   ·go_wp2
    refine ⟨rfl,ja (jz (jL w _) Hb0.out) (ja Hg.out hg2),.inl ⟨rfl,fun l2 q hl2 h=>?_⟩⟩
    obtain ⟨c,l4,hc4,h4⟩:=Zn Hleft.out Hal.out hlt (fun l h=>h.1) l2 q hl2 h
    exact hno c.int _ ((hl2.2 c (hc4 ▸ by simp)).2.2) h4
   ·have Hu:=hid hu
    have Hx:=hid hx
    have hown2:=qS hown hplt0 hg2
    have hG2:=ja Hg.out hg2
    clear hown hrd hu hcf hg2 hx
    go_wp2_with (at_builtin;refine wpList_append_own _ rfl (.tmp 11) (.tmp 16) 82 rfl w0.heap.size 3 i0 (.int .i64 0) 1 8 Tryz.underlying82 hi hz0 hz1 hz2 rfl (by decide) _ _ _ rfl (hown2.alloc _) ⟨_,0,none⟩ 1 1 [.int .i64 x] rfl rfl ?c1 ?c2 ?c3 ?c4 ?c5 ?_)
    case c1=>exact qj w2 #[.int .i64 x] 3
    case c2=>intro u hu;simp at hu;subst hu;rfl
    case c3=>unfold maxLen;omega
    case c4=>omega
    case c5=>have:=hG2.size;simp;omega
    intro v3 w3 hown3 hgr3 _
    have HR:=hid (Xu hrd2 hplt0 hG2 hown2 hgr3)
    have HO3:=hid hown3
    clear hown2 hown3 hgr3 hG2 hrd2
    go_wp2
    go_roundw
    case rel=>exact ⟨k+1,acc++[⟨false,x,[]⟩],r2,by omega,by go_num,by simp [Hal.out],fun c hc=>(List.mem_append.1 hc).elim (Hok.out c) (fun h=>by simp only [List.mem_cons,List.not_mem_nil,or_false] at h;subst h;exact ⟨rfl,rfl,Hx.out⟩),by rw [show QE (acc++[⟨false,x,[]⟩])=QE acc++[.int .i64 x] by simp [QE]];exact HO3.out,HR.out.1,HR.out.2,KG Hleft.out Hal.out hlt (fun l h=>h.1) (fun c q hc h=>by
     obtain ⟨e1,e2⟩:=Hu.out c.int q hc.2.2 h
     refine ⟨?_,e2⟩
     obtain ⟨cn,ci,ct⟩:=c
     obtain ⟨o1,o2,o3⟩:=hc
     simp only at o1 o2 e1
     subst o1 o2 e1
     rfl) (fun l h=>h.2)⟩
    case measure=>simp [intOf];omega
  ·have hke:k=count:=by omega
   subst hke
   have Hown:=hid hown
   have Hrd:=hid hrd
   clear hg hown hrd
   go_wp2
   go_ret
   refine ⟨ja (jz (jL w _) Hb0.out) Hg.out,.inr ⟨acc,r,_,⟨Hal.out,Hok.out⟩,rfl,?_,Hrd.out,UF Hleft.out Hal.out (fun l h=>h.1)⟩⟩
   rw [Hal.out]
   exact jy Hown.out Hb0.out.size
theorem RG (g p count:Nat) (s rest:List UInt8) (w:World) (hs:s.length≤maxLen) (hc:count≤60) (hp:qp w p s rest) :
  Calls Tryz.prog 197 #[txtC g,.pointer (some ⟨p,0,none⟩),.int .i64 (count:Int)] w (Xa 9 Jt (fun l=>l.length=count∧∀ c ∈ l,okT c) (Zl XX qz) p s rest w):=by
 obtain ⟨i0,hi,hz0,hz1,hz2⟩:=info_parts Tryz.infoStr
 have Hs:=hid hs
 have Hp:=hid hp
 have hplt:=xh hp
 clear hs hp
 go_enter Tryz.func197,Tryz.ntmps197
 go_wp2
 obtain ⟨hb0,hs0,hc0⟩:=zV w #[.slice (some ⟨g,0,none⟩) 3 3,fnV 202,fnV 203,fnV 204,fnV 205,fnV 206,fnV 207] 225
 have hc1:_=some (fnV 205):=hc0 4
 have Hc:=hid hc1
 have Hp0:=hid (qA Hp.out hb0 hplt)
 have Hb0:=hid hb0
 have hs1:=Nat.lt_of_lt_of_eq (Nat.lt_succ_self w.heap.size) hs0.symm
 have hplt0:=Nat.lt_of_lt_of_le hplt hb0.size
 clear hc0 hc1 hb0 hs0
 generalize w.alloc _=w0 at *
 go_loopw [7,9] (fun v i wr=>∃ (k:Nat) (acc:List CellB) (r:List UInt8),k≤count∧i=.int .i64 (k:Int)∧acc.length=k∧(∀ c ∈ acc,okT c)∧wr.ownsRow w0.heap.size 9 1 v k (Jt acc)∧qp wr p s r∧w0.grownBy wr (some p)∧Yt XX (fun l=>l.length=count∧∀ c ∈ l,okT c) rest acc r)
  (fun _ i _=>count - (intOf i).toNat)
 case atStart=>exact ⟨0,[],rest,Nat.zero_le _,rfl,rfl,(fun c h=>zU h),World.ownsRow_nil _ _ _ _,Hp0.out,jL _ _,ZK _ _ _⟩
 case round =>
  obtain ⟨k,acc,r,hkc,rfl,hal,hok,hown,hrd,hg,hleft⟩:=hrel
  have Hal:=hid hal
  have Hok:=hid hok
  have Hleft:=hid hleft
  have Hg:=hid hg
  have Hah:Hid ((zL qz acc).text.length≤12):=Nl hok
  clear hal hok hleft
  by_cases hlt:k < count
  ·have hcf:=(hg.cell_far ⟨w.heap.size,4,none⟩ hs1 (by intro h;simp at h;omega)).trans Hc.out
   clear hg
   go_wp2_with fail
   refine (YS p s r _ Hs.out hrd).mono ?_
   rintro e w2 ⟨hg2,⟨rfl,hno⟩|⟨x,r2,hx,rfl,hrd2,hu⟩⟩
   ·go_wp2
    refine ⟨rfl,ja (jz (jL w _) Hb0.out) (ja Hg.out hg2),.inl ⟨rfl,fun l2 q hl2 h=>?_⟩⟩
    obtain ⟨c,l4,hc4,h4⟩:=Zn Hleft.out Hal.out hlt (fun l h=>h.1) l2 q hl2 h
    exact hno c.text _ ((hl2.2 c (hc4 ▸ by simp)).2.2) h4
   ·have Hu:=hid hu
    have Hx:=hid hx
    have hown2:=qS hown hplt0 hg2
    have hG2:=ja Hg.out hg2
    clear hown hrd hu hcf hg2 hx
    go_wp2_with (at_builtin;refine wpList_append_own _ rfl (.tmp 11) (.tmp 16) 71 rfl w0.heap.size 9 i0 (.string ⟨#[]⟩) 1 16 Tryz.underlying71 hi hz0 hz1 hz2 rfl (by decide) _ _ _ rfl (hown2.alloc _) ⟨_,0,none⟩ 1 1 [strB x] rfl rfl ?c1 ?c2 ?c3 ?c4 ?c5 ?_)
    case c1=>exact qj w2 #[strB x] 9
    case c2=>intro u hu;simp at hu;subst hu;rfl
    case c3=>unfold maxLen;omega
    case c4=>omega
    case c5=>have:=hG2.size;simp;omega
    intro v3 w3 hown3 hgr3 _
    have HR:=hid (Xu hrd2 hplt0 hG2 hown2 hgr3)
    have HO3:=hid hown3
    clear hown2 hown3 hgr3 hG2 hrd2
    go_wp2
    go_roundw
    case rel=>exact ⟨k+1,acc++[⟨false,0,x⟩],r2,by omega,by go_num,by simp [Hal.out],fun c hc=>(List.mem_append.1 hc).elim (Hok.out c) (fun h=>by simp only [List.mem_cons,List.not_mem_nil,or_false] at h;subst h;exact ⟨rfl,rfl,Hx.out⟩),by rw [show Jt (acc++[⟨false,0,x⟩])=Jt acc++[strB x] by simp [Jt,zz,texts]];exact HO3.out,HR.out.1,HR.out.2,KG Hleft.out Hal.out hlt (fun l h=>h.1) (fun c q hc h=>by
     obtain ⟨e1,e2⟩:=Hu.out c.text q hc.2.2 h
     refine ⟨?_,e2⟩
     obtain ⟨cn,ci,ct⟩:=c
     obtain ⟨o1,o2,o3⟩:=hc
     simp only at o1 o2 e1
     subst o1 o2 e1
     rfl) (fun l h=>h.2)⟩
    case measure=>simp [intOf];omega
  ·have hke:k=count:=by omega
   subst hke
   have Hown:=hid hown
   have Hrd:=hid hrd
   clear hg hown hrd
   go_wp2
   go_ret
   refine ⟨ja (jz (jL w _) Hb0.out) Hg.out,.inr ⟨acc,r,_,⟨Hal.out,Hok.out⟩,rfl,?_,Hrd.out,UF Hleft.out Hal.out (fun l h=>h.1)⟩⟩
   rw [Hal.out]
   exact jy Hown.out Hb0.out.size
theorem Du (g p count:Nat) (s rest:List UInt8) (w:World) (hs:s.length≤maxLen) (hc:count≤60) (hp:qp w p s rest) :
  Calls Tryz.prog 184 #[numC g,.pointer (some ⟨p,0,none⟩),.int .i64 (count:Int)] w (Xa 3 QE (fun l=>l.length=count∧∀ c ∈ l,okI c) (Zl GL qz) p s rest w):=by
 obtain ⟨i0,hi,hz0,hz1,hz2⟩:=info_parts Tryz.infoInt
 have Hs:=hid hs
 have Hp:=hid hp
 have hplt:=xh hp
 clear hs hp
 go_enter Tryz.func184,Tryz.ntmps184
 go_wp2
 obtain ⟨hb0,hs0,hc0⟩:=zV w #[.slice (some ⟨g,0,none⟩) 3 3,fnV 187,fnV 188,fnV 189,fnV 190,fnV 191,fnV 192] 215
 have hc1:_=some (fnV 192):=hc0 6
 have Hc:=hid hc1
 have Hp0:=hid (qA Hp.out hb0 hplt)
 have Hb0:=hid hb0
 have hs1:=Nat.lt_of_lt_of_eq (Nat.lt_succ_self w.heap.size) hs0.symm
 have hplt0:=Nat.lt_of_lt_of_le hplt hb0.size
 clear hc0 hc1 hb0 hs0
 generalize w.alloc _=w0 at *
 go_loopw [7,8,10] (fun v u i wr=>∃ (k:Nat) (acc:List CellB) (r:List UInt8),k≤count∧i=.int .i64 (k:Int)∧u=.int .i64 (zL qz acc).int∧acc.length=k∧(∀ c ∈ acc,okI c)∧wr.ownsRow w0.heap.size 3 1 v k (QE acc)∧qp wr p s r∧w0.grownBy wr (some p)∧Yt GL (fun l=>l.length=count∧∀ c ∈ l,okI c) rest acc r)
  (fun _ _ i _=>count - (intOf i).toNat)
 case atStart=>exact ⟨0,[],rest,Nat.zero_le _,rfl,rfl,rfl,(fun c h=>zU h),World.ownsRow_nil _ _ _ _,Hp0.out,jL _ _,ZK _ _ _⟩
 case round =>
  obtain ⟨k,acc,r,hkc,rfl,rfl,hal,hok,hown,hrd,hg,hleft⟩:=hrel
  have Hal:=hid hal
  have Hok:=hid hok
  have Hleft:=hid hleft
  have Hg:=hid hg
  have Hah:Hid (inI (zL qz acc).int):=IO hok
  clear hal hok hleft
  by_cases hlt:k < count
  ·have hcf:=(hg.cell_far ⟨w.heap.size,6,none⟩ hs1 (by intro h;simp at h;omega)).trans Hc.out
   clear hg
   go_wp2_with fail
   refine (ZY p s r (zL qz acc).int _ Hs.out (Hah.out) hrd).mono ?_
   rintro e w2 ⟨hg2,⟨rfl,hno⟩|⟨x,r2,hx,rfl,hrd2,hu⟩⟩
   ·go_wp2
    refine ⟨rfl,ja (jz (jL w _) Hb0.out) (ja Hg.out hg2),.inl ⟨rfl,fun l2 q hl2 h=>?_⟩⟩
    obtain ⟨c,l4,hc4,h4⟩:=Zn Hleft.out Hal.out hlt (fun l h=>h.1) l2 q hl2 h
    exact hno c.int _ ((hl2.2 c (hc4 ▸ by simp)).2.2) h4
   ·have Hu:=hid hu
    have Hx:=hid hx
    have hown2:=qS hown hplt0 hg2
    have hG2:=ja Hg.out hg2
    clear hown hrd hu hcf hg2 hx
    go_wp2_with (at_builtin;refine wpList_append_own _ rfl (.tmp 17) (.tmp 19) 82 rfl w0.heap.size 3 i0 (.int .i64 0) 1 8 Tryz.underlying82 hi hz0 hz1 hz2 rfl (by decide) _ _ _ rfl (hown2.alloc _) ⟨_,0,none⟩ 1 1 [.int .i64 x] rfl rfl ?c1 ?c2 ?c3 ?c4 ?c5 ?_)
    case c1=>exact qj w2 #[.int .i64 x] 3
    case c2=>intro u hu;simp at hu;subst hu;rfl
    case c3=>unfold maxLen;omega
    case c4=>omega
    case c5=>have:=hG2.size;simp;omega
    intro v3 w3 hown3 hgr3 _
    have HR:=hid (Xu hrd2 hplt0 hG2 hown2 hgr3)
    have HO3:=hid hown3
    clear hown2 hown3 hgr3 hG2 hrd2
    go_wp2
    go_roundw
    case rel=>exact ⟨k+1,acc++[⟨false,x,[]⟩],r2,by omega,by go_num,by rw [XY],by simp [Hal.out],fun c hc=>(List.mem_append.1 hc).elim (Hok.out c) (fun h=>by simp only [List.mem_cons,List.not_mem_nil,or_false] at h;subst h;exact ⟨rfl,rfl,Hx.out⟩),by rw [show QE (acc++[⟨false,x,[]⟩])=QE acc++[.int .i64 x] by simp [QE]];exact HO3.out,HR.out.1,HR.out.2,KG Hleft.out Hal.out hlt (fun l h=>h.1) (fun c q hc h=>by
     obtain ⟨e1,e2⟩:=Hu.out c.int q hc.2.2 h
     refine ⟨?_,e2⟩
     obtain ⟨cn,ci,ct⟩:=c
     obtain ⟨o1,o2,o3⟩:=hc
     simp only at o1 o2 e1
     subst o1 o2 e1
     rfl) (fun l h=>h.2)⟩
    case measure=>simp [intOf];omega
  ·have hke:k=count:=by omega
   subst hke
   have Hown:=hid hown
   have Hrd:=hid hrd
   clear hg hown hrd
   go_wp2
   go_ret
   refine ⟨ja (jz (jL w _) Hb0.out) Hg.out,.inr ⟨acc,r,_,⟨Hal.out,Hok.out⟩,rfl,?_,Hrd.out,UF Hleft.out Hal.out (fun l h=>h.1)⟩⟩
   rw [Hal.out]
   exact jy Hown.out Hb0.out.size
theorem Ap (g p count:Nat) (s rest:List UInt8) (w:World) (hs:s.length≤maxLen) (hc:count≤60) (hp:qp w p s rest) :
  Calls Tryz.prog 201 #[txtC g,.pointer (some ⟨p,0,none⟩),.int .i64 (count:Int)] w (Xa 9 Jt (fun l=>l.length=count∧∀ c ∈ l,okT c) (Zl KL qz) p s rest w):=by
 obtain ⟨i0,hi,hz0,hz1,hz2⟩:=info_parts Tryz.infoStr
 have Hs:=hid hs
 have Hp:=hid hp
 have hplt:=xh hp
 clear hs hp
 go_enter Tryz.func201,Tryz.ntmps201
 go_wp2
 obtain ⟨hb0,hs0,hc0⟩:=zV w #[.slice (some ⟨g,0,none⟩) 3 3,fnV 202,fnV 203,fnV 204,fnV 205,fnV 206,fnV 207] 225
 have hc1:_=some (fnV 207):=hc0 6
 have Hc:=hid hc1
 have Hp0:=hid (qA Hp.out hb0 hplt)
 have Hb0:=hid hb0
 have hs1:=Nat.lt_of_lt_of_eq (Nat.lt_succ_self w.heap.size) hs0.symm
 have hplt0:=Nat.lt_of_lt_of_le hplt hb0.size
 clear hc0 hc1 hb0 hs0
 generalize w.alloc _=w0 at *
 go_loopw [7,8,10] (fun v u i wr=>∃ (k:Nat) (acc:List CellB) (r:List UInt8),k≤count∧i=.int .i64 (k:Int)∧u=strB (zL qz acc).text∧acc.length=k∧(∀ c ∈ acc,okT c)∧wr.ownsRow w0.heap.size 9 1 v k (Jt acc)∧qp wr p s r∧w0.grownBy wr (some p)∧Yt KL (fun l=>l.length=count∧∀ c ∈ l,okT c) rest acc r)
  (fun _ _ i _=>count - (intOf i).toNat)
 case atStart=>exact ⟨0,[],rest,Nat.zero_le _,rfl,rfl,rfl,(fun c h=>zU h),World.ownsRow_nil _ _ _ _,Hp0.out,jL _ _,ZK _ _ _⟩
 case round =>
  obtain ⟨k,acc,r,hkc,rfl,rfl,hal,hok,hown,hrd,hg,hleft⟩:=hrel
  have Hal:=hid hal
  have Hok:=hid hok
  have Hleft:=hid hleft
  have Hg:=hid hg
  have Hah:Hid ((zL qz acc).text.length≤12):=Nl hok
  clear hal hok hleft
  by_cases hlt:k < count
  ·have hcf:=(hg.cell_far ⟨w.heap.size,6,none⟩ hs1 (by intro h;simp at h;omega)).trans Hc.out
   clear hg
   go_wp2_with fail
   refine (VE p s r (zL qz acc).text _ Hs.out (Hah.out) hrd).mono ?_
   rintro e w2 ⟨hg2,⟨rfl,hno⟩|⟨x,r2,hx,rfl,hrd2,hu⟩⟩
   ·go_wp2
    refine ⟨rfl,ja (jz (jL w _) Hb0.out) (ja Hg.out hg2),.inl ⟨rfl,fun l2 q hl2 h=>?_⟩⟩
    obtain ⟨c,l4,hc4,h4⟩:=Zn Hleft.out Hal.out hlt (fun l h=>h.1) l2 q hl2 h
    exact hno c.text _ ((hl2.2 c (hc4 ▸ by simp)).2.2) h4
   ·have Hu:=hid hu
    have Hx:=hid hx
    have hown2:=qS hown hplt0 hg2
    have hG2:=ja Hg.out hg2
    clear hown hrd hu hcf hg2 hx
    go_wp2_with (at_builtin;refine wpList_append_own _ rfl (.tmp 17) (.tmp 19) 71 rfl w0.heap.size 9 i0 (.string ⟨#[]⟩) 1 16 Tryz.underlying71 hi hz0 hz1 hz2 rfl (by decide) _ _ _ rfl (hown2.alloc _) ⟨_,0,none⟩ 1 1 [strB x] rfl rfl ?c1 ?c2 ?c3 ?c4 ?c5 ?_)
    case c1=>exact qj w2 #[strB x] 9
    case c2=>intro u hu;simp at hu;subst hu;rfl
    case c3=>unfold maxLen;omega
    case c4=>omega
    case c5=>have:=hG2.size;simp;omega
    intro v3 w3 hown3 hgr3 _
    have HR:=hid (Xu hrd2 hplt0 hG2 hown2 hgr3)
    have HO3:=hid hown3
    clear hown2 hown3 hgr3 hG2 hrd2
    go_wp2
    go_roundw
    case rel=>exact ⟨k+1,acc++[⟨false,0,x⟩],r2,by omega,by go_num,by rw [XY],by simp [Hal.out],fun c hc=>(List.mem_append.1 hc).elim (Hok.out c) (fun h=>by simp only [List.mem_cons,List.not_mem_nil,or_false] at h;subst h;exact ⟨rfl,rfl,Hx.out⟩),by rw [show Jt (acc++[⟨false,0,x⟩])=Jt acc++[strB x] by simp [Jt,zz,texts]];exact HO3.out,HR.out.1,HR.out.2,KG Hleft.out Hal.out hlt (fun l h=>h.1) (fun c q hc h=>by
     obtain ⟨e1,e2⟩:=Hu.out c.text q hc.2.2 h
     refine ⟨?_,e2⟩
     obtain ⟨cn,ci,ct⟩:=c
     obtain ⟨o1,o2,o3⟩:=hc
     simp only at o1 o2 e1
     subst o1 o2 e1
     rfl) (fun l h=>h.2)⟩
    case measure=>simp [intOf];omega
  ·have hke:k=count:=by omega
   subst hke
   have Hown:=hid hown
   have Hrd:=hid hrd
   clear hg hown hrd
   go_wp2
   go_ret
   refine ⟨ja (jz (jL w _) Hb0.out) Hg.out,.inr ⟨acc,r,_,⟨Hal.out,Hok.out⟩,rfl,?_,Hrd.out,UF Hleft.out Hal.out (fun l h=>h.1)⟩⟩
   rw [Hal.out]
   exact jy Hown.out Hb0.out.size
end
section
theorem VY (n:Nat) (l:List CellB) (a b:Nat):∃ m,js n l (a+b)=js n l a++m:=by
 induction b with
 | zero=>exact ⟨[],by simp⟩
 | succ b ih =>
  obtain ⟨m,hm⟩:=ih
  exact ⟨m++qG n l (a+b),by rw [← Nat.add_assoc,js,hm,List.append_assoc]⟩
def TM (dom:List CellB→Prop) (rest:List UInt8) (acc:List CellB) (r:List UInt8):Prop :=
 ∀ l2 q,dom l2→rest=js 2 l2 l2.length++q→l2.take acc.length=acc∧II l2 acc.length∧rest=js 2 l2 acc.length++r
theorem IW (dom:List CellB→Prop) (rest:List UInt8):TM dom rest [] rest:=fun l2 q _ h=>⟨rfl,.inl rfl,rfl⟩
def YA (count:Nat) (l:List CellB):Prop:=l.length=count∧∀ c ∈ l,okI c
theorem ZE {count:Nat} {rest r:List UInt8} {acc:List CellB} (h:TM (YA count) rest acc r) (hlt:acc.length < count) (l2:List CellB) (q:List UInt8) (hd:YA count l2) (hr:rest=js 2 l2 l2.length++q) :
  ∃ (rr:Nat) (v:Int) (m:List UInt8),0 < rr∧rr≤count - acc.length∧inI v∧r=uB rr++(zB v++m)∧l2.take (acc.length+rr)=acc++List.replicate rr ⟨false,v,[]⟩∧II l2 (acc.length+rr)∧rest=js 2 l2 (acc.length+rr)++m:=by
 obtain ⟨h1,h2,h3⟩:=h l2 q hd hr
 have hk:acc.length < l2.length:=by rw [hd.1];exact hlt
 generalize hkk:acc.length=k at *
 have hs:=Np l2 k hk h2
 have hp:=GB l2 k hk
 have hle:=UV (l2[k]).int (l2.drop k)
 rw [List.length_drop] at hle
 have hend:=IK l2 k hk
 have hval:=GC l2 k
 generalize hrr:zZ (l2[k]).int (l2.drop k)=rr at *
 have hs1:=hs rr (by omega) (Nat.le_refl _)
 obtain ⟨m0,hm0⟩:=VY 2 l2 (k+rr) (l2.length - (k+rr))
 rw [show k+rr+(l2.length - (k+rr))=l2.length by omega] at hm0
 have hokk:=hd.2 l2[k] (List.getElem_mem hk)
 refine ⟨rr,(l2[k]).int,m0++q,by omega,by rw [← hd.1];omega,hokk.2.2,?_,?_,hend,?_⟩
 ·have e1:js 2 l2 k++r=js 2 l2 k++(uB rr++(zB (l2[k]).int++(m0++q))):=by
   rw [← h3,hr,hm0,hs1];simp only [List.append_assoc]
  exact List.append_cancel_left e1
 ·have e2:l2.take (k+rr)=l2.take k++(l2.drop k).take rr:=by rw [List.take_add]
  rw [e2,h1]
  congr 1
  apply List.ext_getElem
  ·rw [List.length_take,List.length_drop,List.length_replicate];omega
  ·intro j hj1 hj2
   rw [List.length_replicate] at hj2
   rw [List.getElem_take,List.getElem_drop,List.getElem_replicate]
   have hv:=hval j hk (by rw [hrr];exact hj2)
   rw [jY l2 (k+j) (by omega)] at hv
   have ho:=hd.2 l2[k+j] (List.getElem_mem _)
   obtain ⟨o1,o2,_⟩:=ho
   generalize l2[k+j]=c at *
   obtain ⟨cn,ci,ct⟩:=c
   simp only at o1 o2 hv
   subst o1 o2 hv
   rfl
 ·rw [hr,hm0,List.append_assoc]
theorem KF (p:Nat) (s rest:List UInt8) (n:Int) (most:Nat) (w:World) (h:n=(most:Int)) (hs:s.length≤maxLen) (hm:most≤1000000) (hp:qp w p s rest) :
  Calls Tryz.prog 242 #[.pointer (some ⟨p,0,none⟩),.int .i64 n] w (UJ (fun n:Nat=>n≤most) uB (fun n=>.int .i64 (n:Int)) p s rest w):=by
 subst h
 exact ZH p s rest most w hs hm hp
theorem Xy {w0 w2 w3:World} {p n ty sz:Nat} {s r:List UInt8} {v:Value} {xs:List Value} (hrd:qp w2 p s r) (hp:p < w0.heap.size) (hG:w0.grownBy w2 (some p)) (hown:w2.ownsRow w0.heap.size ty sz v n xs)
  (hgr:w2.grownBy w3 v.ownBlock):qp w3 p s r∧w0.grownBy w3 (some p):=by
 have hlt:=xh hrd
 have hne:some p≠v.ownBlock:=by
  intro h
  have:=(hown.lt p h.symm).1
  omega
 obtain ⟨at_,h1,h2,h3⟩:=hrd
 exact ⟨⟨at_,(hgr.block p hlt hne).trans h1,h2,h3⟩,zo hG hgr (fun k hk=>(hown.lt k hk).1)⟩
theorem CE (g p count:Nat) (s rest:List UInt8) (w:World) (hs:s.length≤maxLen) (hc:count≤60) (hp:qp w p s rest) :
  Calls Tryz.prog 186 #[numC g,.pointer (some ⟨p,0,none⟩),.int .i64 (count:Int)] w (Xa 3 QE (YA count) (fun l=>js 2 l l.length) p s rest w):=by
 obtain ⟨i0,hi,hz0,hz1,hz2⟩:=info_parts Tryz.infoInt
 have Hs:=hid hs
 have Hp:=hid hp
 have hplt:=xh hp
 clear hs hp
 go_enter Tryz.func186,Tryz.ntmps186
 go_wp2
 obtain ⟨hb0,hs0,hc0⟩:=zV w #[.slice (some ⟨g,0,none⟩) 3 3,fnV 187,fnV 188,fnV 189,fnV 190,fnV 191,fnV 192] 215
 have hc1:_=some (fnV 192):=hc0 6
 have Hc:=hid hc1
 have Hp0:=hid (qA Hp.out hb0 hplt)
 have Hb0:=hid hb0
 have hs1:=Nat.lt_of_lt_of_eq (Nat.lt_succ_self w.heap.size) hs0.symm
 have hplt0:=Nat.lt_of_lt_of_le hplt hb0.size
 clear hc0 hc1 hb0 hs0
 generalize w.alloc _=w0 at *
 go_loopg [7] count (fun gk v wr=>∃ (acc:List CellB) (r:List UInt8),acc.length+gk=count∧(∀ c ∈ acc,okI c)∧wr.ownsRow w0.heap.size 3 1 v acc.length (QE acc)∧qp wr p s r∧w0.grownBy wr (some p)∧TM (YA count) rest acc r)
 case atStart=>exact ⟨[],rest,Nat.zero_add _,(fun c h=>zU h),World.ownsRow_nil _ _ _ _,Hp0.out,jL _ _,IW _ _⟩
 case round =>
  obtain ⟨acc,r,hal,hok,hown,hrd,hg,hleft⟩:=hrel
  have Hal:=hid hal
  have Hok:=hid hok
  have Hleft:=hid hleft
  have Hg:=hid hg
  have hln:=Nj hown wr
  have hln1:acc.length≤count:=by omega
  clear hok hleft hal
  by_cases hlt:acc.length < count
  ·have hi1:(acc.length:Int) < (count:Int):=by omega
   have hcf0:=(hg.cell_far ⟨w.heap.size,6,none⟩ hs1 (by intro h;simp at h;omega)).trans Hc.out
   have Hcf0:=hid hcf0
   clear hg hcf0
   go_wp2_with fail
   refine (KF p s r _ (count - acc.length) _ (by omega) Hs.out (by omega) hrd).mono ?_
   rintro e w2 ⟨hg2,⟨rfl,hno⟩|⟨n,r2,hn,rfl,hrd2,hu⟩⟩
   ·go_wp2
    refine ⟨rfl,ja (jz (jL w _) Hb0.out) (ja Hg.out hg2),.inl ⟨rfl,fun l2 q hl2 h=>?_⟩⟩
    obtain ⟨rr,v,m,k1,k2,k3,k4,_⟩:=ZE Hleft.out hlt l2 q hl2 h
    exact hno rr _ k2 k4
   ·have Hu:=hid hu
    have hn1:n≤count - acc.length:=hn
    have hown2:=qS hown hplt0 hg2
    have hG2:=ja Hg.out hg2
    have Hcf2:Hid (w2.cell? ⟨w.heap.size,6,none⟩=some (fnV 192)):=(hg2.cell_far ⟨w.heap.size,6,none⟩ (Nat.lt_of_lt_of_le hs1 Hg.out.size) (by intro h;simp at h;omega)).trans Hcf0.out
    clear hown hrd hu hg2 hln
    by_cases hn0:0 < n
    ·have hn0i:(0:Int) < (n:Int):=by omega
     have hcf2:=Hcf2.out
     go_wp2_with fail
     refine (jX _).mono ?_
     rintro e w2' ⟨rfl,rfl⟩
     go_wp2_with fail
     refine (ZY p s r2 0 _ Hs.out ⟨by decide,by decide⟩ hrd2).mono ?_
     rintro e w3 ⟨hg3,⟨rfl,hno⟩|⟨x,r3,hx,rfl,hrd3,hu3⟩⟩
     ·go_wp2
      refine ⟨rfl,ja (jz (jL w _) Hb0.out) (ja hG2 hg3),.inl ⟨rfl,fun l2 q hl2 h=>?_⟩⟩
      obtain ⟨rr,v,m,k1,k2,k3,k4,_⟩:=ZE Hleft.out hlt l2 q hl2 h
      obtain ⟨e1,e2⟩:=Hu.out rr _ k2 k4
      exact hno v m k3 (by show _=zB (wrap64 (v - 0))++m;rw [Vz v k3.1 k3.2];exact e2.symm)
     ·have Hu3:=hid hu3
      have Hx:=hid hx
      have hown3:=qS hown2 hplt0 hg3
      have hG3:=ja hG2 hg3
      clear hown2 hrd2 hu3 hg3 hG2 hcf2 hx
      go_wp2_with fail
      refine (Sm x w3.heap.size 1 n _ (by omega) (World.cell?_alloc_mark ..)).mono ?_
      rintro e w4 ⟨g4,rfl,hb4,hB4⟩
      have hB4':Below w3.heap.size w3 w4:=zy hB4
      have hown4:=jH hown3 hB4'
      have hrd4:=qA hrd3 hB4' (xh hrd3)
      have hG4:=jz hG3 hB4'
      have HN4:=hid (World.news_of_block hb4)
      clear hB4 hB4' hown3 hrd3 hG3 hb4
      go_wp2_with (at_builtin;refine wpList_append_own _ rfl (.tmp 29) (.tmp 33) 82 rfl w0.heap.size 3 i0 (.int .i64 0) 1 8 Tryz.underlying82 hi hz0 hz1 hz2 rfl (by decide) _ _ _ rfl hown4 ⟨g4,0,none⟩ n n (List.replicate n (.int .i64 x)) rfl ?c0 ?c1 ?c2 ?c3 ?c4 ?c5 ?_)
      case c0=>simp
      case c1=>intro j u hj;exact HN4.out j u (by simpa using hj)
      case c2=>intro u hu;rw [List.mem_replicate] at hu;rw [hu.2];rfl
      case c3=>unfold maxLen;omega
      case c4=>omega
      case c5=>have:=hG4.size;omega
      intro v5 w5 hown5 hgr5 _
      have HR:=hid (Xy hrd4 hplt0 hG4 hown4 hgr5)
      have HO5:=hid hown5
      have HX:Hid (QE (acc++List.replicate n ⟨false,x,[]⟩)=QE acc++List.replicate n (.int .i64 x)):=by simp [Hid,QE]
      have HLN:Hid ((acc++List.replicate n (⟨false,x,[]⟩:CellB)).length=acc.length+n):=by simp [Hid]
      clear hown4 hown5 hgr5 hG4 hrd4 HN4
      go_wp2
      go_roundg (count - acc.length - n)
      case measure=>have:=Hal.out;omega
      case rel =>
       refine ⟨acc++List.replicate n ⟨false,x,[]⟩,r3,?_,?_,?_,HR.out.1,HR.out.2,?_⟩
       ·rw [HLN.out];omega
       ·intro c hc
        rcases List.mem_append.1 hc with h|h
        ·exact Hok.out c h
        ·rw [List.mem_replicate] at h;rw [h.2];exact ⟨rfl,rfl,Hx.out⟩
       ·rw [HX.out,HLN.out];exact HO5.out
       ·intro l2 q hl2 h
        obtain ⟨rr,v,m,k1,k2,k3,k4,k5,k6,k7⟩:=ZE Hleft.out hlt l2 q hl2 h
        obtain ⟨e1,e2⟩:=Hu.out rr _ k2 k4
        obtain ⟨e3,e4⟩:=Hu3.out v m k3 (by show _=zB (wrap64 (v - 0))++m;rw [Vz v k3.1 k3.2];exact e2.symm)
        subst e1 e3 e4
        rw [HLN.out]
        exact ⟨k5,k6,k7⟩
    ·have hn0i:decide ((0:Int) < (n:Int))=false:=by simp;omega
     go_wp2_with fail
     refine (qM _).mono ?_
     rintro e w2' ⟨rfl,rfl⟩
     go_wp2
     refine ⟨rfl,ja (jz (jL w _) Hb0.out) hG2,.inl ⟨rfl,fun l2 q hl2 h=>?_⟩⟩
     obtain ⟨rr,v,m,k1,k2,k3,k4,_⟩:=ZE Hleft.out hlt l2 q hl2 h
     obtain ⟨e1,e2⟩:=Hu.out rr _ k2 k4
     omega
  ·have hke:acc.length=count:=by omega
   have hi1:decide ((acc.length:Int) < (count:Int))=false:=by simp;omega
   have Hke:=hid hke
   have Hown:=hid hown
   have Hrd:=hid hrd
   clear hg hown hrd hke
   go_wp2
   go_ret
   refine ⟨ja (jz (jL w _) Hb0.out) Hg.out,.inr ⟨acc,r,_,⟨Hke.out,Hok.out⟩,rfl,jy Hown.out Hb0.out.size,Hrd.out,fun l2 q hl2 h=>?_⟩⟩
   obtain ⟨e1,e2,e3⟩:=Hleft.out l2 q hl2 h
   rw [Hke.out,← hl2.1,List.take_length] at e1
   subst e1
   refine ⟨rfl,?_⟩
   have e4:js 2 l2 l2.length++q=js 2 l2 l2.length++r:=h.symm.trans e3
   exact List.append_cancel_left e4
end
section
structure SmallC (c:ColB):Prop where
 name:c.name.length≤8
 kind:c.kind=0∨c.kind=1
 key:0≤c.key∧c.key≤9
 cells:c.cells=[]
def Ib (c:ColB):List Value:=[strB c.name,.int .i64 c.kind,.int .i64 c.key,.slice none 0 0]
def zK (t:List ColB):List Value:=t.flatMap Ib
theorem Ud (t:List ColB) (c:ColB):zK (t++[c])=zK t++[strB c.name,.int .i64 c.kind,.int .i64 c.key,.slice none 0 0]:=by simp [zK,Ib]
theorem Tryz.infoColumnX:(Tryz.prog.info? 61).map (fun i=>(i.zero,i.size,i.bytes))=some (some (.agg #[.string ⟨#[]⟩,.int .i64 0,.int .i64 0,.slice none 0 0]),4,56):=by kernel_rfl
theorem TL {a b:ColB} (ha:SmallC a) (hb:SmallC b) (h:QX a=QX b):a=b:=by
 simp only [QX,Prod.mk.injEq] at h
 obtain ⟨h1,h2,h3⟩:=h
 have:=ha.kind
 have:=hb.kind
 have:=ha.key
 have:=hb.key
 have h4:a.kind=b.kind:=by omega
 have h5:a.key=b.key:=by omega
 have h6:=ha.cells
 have h7:=hb.cells
 cases a;cases b;simp_all
theorem RV:∀ {a b:List ColB},(∀ c ∈ a,SmallC c)→(∀ c ∈ b,SmallC c)→a.map QX=b.map QX→a=b:=by
 intro a
 induction a with
 | nil=>intro b _ _ h;cases b with
  | nil=>rfl
  | cons x l=>simp at h
 | cons x l ih =>
  intro b ha hb h
  cases b with
  | nil=>simp at h
  | cons y m =>
   simp only [List.map_cons,List.cons.injEq] at h
   rw [TL (ha x (by simp)) (hb y (by simp)) h.1,ih (fun c hc=>ha c (List.mem_cons_of_mem _ hc)) (fun c hc=>hb c (List.mem_cons_of_mem _ hc)) h.2]
theorem XQ {t:List ColB} (h:jU t=true) (hb:∀ c ∈ t,c.cells=[]):∀ c ∈ t,SmallC c:=by
 intro c hc
 obtain ⟨k,hk,rfl⟩:=List.mem_iff_getElem.1 hc
 simp only [jU,Bool.and_eq_true] at h
 obtain ⟨a,b,c,d⟩:=QB (QP h.1 (Nat.le_refl _) k hk).1
 exact ⟨(Nq a).2,b,⟨c,d⟩,hb _ (List.getElem_mem hk)⟩
theorem Cb {a t:List ColB} {r q:List UInt8} (hl:a.length < t.length) (ha:∀ c ∈ a,SmallC c) (ht:∀ c ∈ t,SmallC c) (h:a.flatMap jT++r=t.flatMap jT++q):∃ c t2,SmallC c∧r=jT c++t2:=by
 have e:t.flatMap jT++q=(t.take a.length).flatMap jT++((t.drop a.length).flatMap jT++q):=by
  rw [← List.append_assoc,← List.flatMap_append,List.take_append_drop]
 rw [e] at h
 obtain ⟨_,h2⟩:=Kl a (t.take a.length) _ _ (by rw [List.length_take];omega) h
 rw [List.drop_eq_getElem_cons hl,List.flatMap_cons,List.append_assoc] at h2
 exact ⟨t[a.length],_,ht _ (List.getElem_mem hl),h2⟩
theorem IF {a t:List ColB} {r q:List UInt8} (hl:a.length=t.length) (ha:∀ c ∈ a,SmallC c) (ht:∀ c ∈ t,SmallC c) (h:a.flatMap jT++r=t.flatMap jT++q):a=t∧r=q:=by
 obtain ⟨h1,h2⟩:=Kl a t _ _ hl h
 exact ⟨RV ha ht h1,h2⟩
theorem VC {w:World} {base n:Nat} {v:Value} {t:List ColB} (h:w.ownsRow base 61 4 v n (zK t)) (hn:t.length=n) (ht:∀ c ∈ t,SmallC c):∃ a cap,v=.slice a n cap∧n≤cap∧LiesT w a t:=by
 subst hn
 have hok:∀ c ∈ t,Pj c:=fun c hc=>by
  have:=ht c hc
  have h1:=this.name
  have h2:=this.kind
  have h3:=this.key
  exact ⟨by unfold maxLen;omega,⟨by omega,by omega⟩,by omega,by omega⟩
 rcases h.2 with ⟨rfl,h0⟩|⟨g,cap,cur,rfl,_,_,hcap,_⟩
 ·exact ⟨none,0,by rw [h0],by omega,hok,fun hne=>absurd (List.eq_nil_of_length_eq_zero (by omega)) hne⟩
 ·refine ⟨_,cap,rfl,hcap,hok,fun _=>⟨g,0,rfl,(h.lt g rfl).2,fun j hj=>?_⟩⟩
  have hf:=Xj Ib 4 (fun _=>rfl) t j
  simp only [Nat.zero_add]
  refine ⟨?_,?_,?_,.slice none 0 0,?_,?_⟩
  ·rw [h.cellAt (j*4) (by omega)];exact hf 0 hj (by omega)
  ·rw [h.cellAt (j*4+1) (by omega)];exact hf 1 hj (by omega)
  ·rw [h.cellAt (j*4+2) (by omega)];exact hf 2 hj (by omega)
  ·rw [h.cellAt (j*4+3) (by omega)];exact hf 3 hj (by omega)
  ·rw [(ht _ (List.getElem_mem hj)).cells]
   exact ⟨none,0,rfl,Nat.zero_le _,⟨fun c hc=>by simp at hc,fun hne=>absurd rfl hne⟩,by simp⟩
theorem jw {w w':World} {base:Nat} {e:TypeId} {size:Nat} {v:Value} {n:Nat} {xs:List Value} (h:w.ownsRow base e size v n xs) (hb:Below w.heap.size w w'):w'.ownsRow base e size v n xs:=by
 refine ⟨h.1,?_⟩
 rcases h.2 with hn|⟨g,cap,cur,rfl,hb',hg,rest⟩
 ·exact .inl hn
 ·exact .inr ⟨g,cap,cur,rfl,hb',(hb.block g (Array.getElem?_eq_some_iff.1 hg).1).trans hg,rest⟩
theorem xf (w:World) (C:Array Value) (t:TypeId) {G:Nat} (hG:G=w.heap.size):∀ (j:Nat) (u:Value),C.toList[j]?=some u→(w.alloc (.cells C t)).cell? ((⟨G,0,none⟩:Addr).add j)=some u:=by
 subst hG
 exact qj w C t
theorem Dq (a:Option Addr) (cap n:Nat) (t:List ColB) (w:World) (hn:t.length=n) (hm:n≤maxLen) (hcap:n≤cap) (hl:LiesT w a t) :
  Calls Tryz.prog 212 #[.slice a n cap] w fun e w'=>e=.returned (.bool (jU t))∧Below w.heap.size w w':=by
 subst hn
 exact Id a cap t w hm hcap hl
def LG (p:Nat) (s rest:List UInt8) (w:World) (e:Ending) (w':World):Prop :=
 w.grownBy w' (some p)∧((e=gaveUp∧∀ (t:List ColB) (q:List UInt8),jU t=true→(∀ c ∈ t,c.cells=[])→rest≠uB t.length++(t.flatMap jT++q)) ∨
  ∃ (t:List ColB) (v:Value) (r:List UInt8),jU t=true∧(∀ c ∈ t,SmallC c)∧e=.returned v∧w'.ownsRow w.heap.size 61 4 v t.length (zK t)∧qp w' p s r∧rest=uB t.length++(t.flatMap jT++r))
theorem Gu (p:Nat) (s rest:List UInt8) (w:World) (hs:s.length≤maxLen) (hp:qp w p s rest) :
  Calls Tryz.prog 269 #[.pointer (some ⟨p,0,none⟩)] w (LG p s rest w):=by
 obtain ⟨i0,hi,hz0,hz1,hz2⟩:=info_parts Tryz.infoColumnX
 have Hs:=hid hs
 have Hp:=hid hp
 have hplt:=xh hp
 clear hs hp
 go_enter Tryz.func269,Tryz.ntmps269
 go_wp2_with fail
 refine (zH p s rest 6 w Hs.out (by omega) Hp.out).mono ?_
 rintro e w1 ⟨hg1,⟨rfl,hno⟩|⟨n,r0,hn,rfl,hrd1,hr0⟩⟩
 ·have Hno:=hid hno
  clear hno
  go_wp2
  refine ⟨rfl,hg1,.inl ⟨rfl,fun t q ht hb h=>Hno.out t.length _ ?_ h⟩⟩
  simp only [jU,Bool.and_eq_true,decide_eq_true_eq] at ht
  exact ht.2.2
 have hn6:n≤6:=hn
 have HR0:=hid hr0
 have HG1:=hid hg1
 have Hrd1:=hid hrd1
 have HLEN:Hid (∀ (t:List ColB) (q:List UInt8),jU t=true→rest=uB t.length++(t.flatMap jT++q)→t.length=n∧r0=t.flatMap jT++q):=by
  intro t q ht h
  rw [hr0] at h
  obtain ⟨h1,h2⟩:=xA _ _ _ _ h
  exact ⟨h1.symm,h2⟩
 clear hr0 hg1 hrd1 hn
 go_wp2
 go_loopw [3,7] (fun v i wr=>∃ (k:Nat) (tk:List ColB) (rk:List UInt8),k≤n∧i=.int .i64 (k:Int)∧tk.length=k∧(∀ c ∈ tk,SmallC c)∧wr.ownsRow w.heap.size 61 4 v k (zK tk)∧qp wr p s rk∧w.grownBy wr (some p)∧r0=tk.flatMap jT++rk) (fun _ i _=>n - (intOf i).toNat)
 case atStart=>exact ⟨0,[],r0,Nat.zero_le _,rfl,rfl,(fun c h=>by cases h),World.ownsRow_nil _ _ _ _,Hrd1.out,HG1.out,rfl⟩
 case round =>
  obtain ⟨k,tk,rk,hkn,rfl,hal,hok,hown,hrd,hg,hrk⟩:=hrel
  have Hal:=hid hal
  have Hok:=hid hok
  have Hrk:=hid hrk
  clear hal hok hrk
  by_cases hlt:k < n
  ·have HNX:Hid ((∀ (c:ColB) q,SmallC c→rk≠jT c++q)→∀ (t:List ColB) (q:List UInt8),jU t=true→(∀ c ∈ t,c.cells=[])→rest≠uB t.length++(t.flatMap jT++q)):=by
    intro hno t q ht hb h
    obtain ⟨h1,h2⟩:=HLEN.out t q ht h
    rw [Hrk.out] at h2
    obtain ⟨c,t2,hc,h3⟩:=Cb (by have:=Hal.out;omega) Hok.out (XQ ht hb) h2
    exact hno c t2 hc h3
   go_wp2_with fail
   refine (MK p s rk 8 _ Hs.out (by omega) hrd).mono ?_
   rintro e w2 ⟨hg2,⟨rfl,hno⟩|⟨nm,r2,hnm,rfl,hrd2,hr2⟩⟩
   ·have HN:=hid (HNX.out (fun c q hc h=>hno c.name (uB c.kind.toNat++(uB c.key.toNat++q)) hc.name (by rw [h];simp only [jT,List.append_assoc])))
    have HG:=hid (ja hg hg2)
    clear hno hg2 hg hown hrd
    go_wp2
    exact ⟨rfl,HG.out,.inl ⟨rfl,HN.out⟩⟩
   have hown2:=qS hown hplt hg2
   have hG2:=ja hg hg2
   have Hr2:=hid hr2
   have hnm8:nm.length≤8:=hnm
   clear hown hg hg2 hrd hr2 hnm
   go_wp2_with fail
   refine (zH p s r2 1 _ Hs.out (by omega) hrd2).mono ?_
   rintro e w3 ⟨hg3,⟨rfl,hno⟩|⟨kd,r3,hkd,rfl,hrd3,hr3⟩⟩
   ·have HN:=hid (HNX.out (fun c q hc h=>by
     rw [Hr2.out] at h
     simp only [jT,List.append_assoc] at h
     obtain ⟨_,h5⟩:=Nz h
     exact hno c.kind.toNat _ (by have:=hc.kind;show _≤1;omega) h5))
    have HG:=hid (ja hG2 hg3)
    clear hno hg3 hG2 hown2 hrd2
    go_wp2
    exact ⟨rfl,HG.out,.inl ⟨rfl,HN.out⟩⟩
   have hown3:=qS hown2 hplt hg3
   have hG3:=ja hG2 hg3
   have Hr3:=hid hr3
   have hkd1:kd≤1:=hkd
   clear hown2 hG2 hg3 hrd2 hr3 hkd
   go_wp2_with fail
   refine (zH p s r3 9 _ Hs.out (by omega) hrd3).mono ?_
   rintro e w4 ⟨hg4,⟨rfl,hno⟩|⟨ky,r4,hky,rfl,hrd4,hr4⟩⟩
   ·have HN:=hid (HNX.out (fun c q hc h=>by
     rw [Hr2.out] at h
     simp only [jT,List.append_assoc] at h
     obtain ⟨_,h5⟩:=Nz h
     rw [Hr3.out] at h5
     obtain ⟨_,h6⟩:=xA _ _ _ _ h5
     exact hno c.key.toNat _ (by have:=hc.key;show _≤9;omega) h6))
    have HG:=hid (ja hG3 hg4)
    clear hno hg4 hG3 hown3 hrd3
    go_wp2
    exact ⟨rfl,HG.out,.inl ⟨rfl,HN.out⟩⟩
   have hown4:=qS hown3 hplt hg4
   have hG4:=ja hG3 hg4
   have Hr4:=hid hr4
   have hky9:ky≤9:=hky
   have hsz4:=hG4.size
   clear hown3 hG3 hg4 hrd3 hr4 hky
   have hownA:=hown4.alloc (.cells #[strB nm,.int .i64 (kd:Int),.int .i64 (ky:Int),.slice none 0 0] 61)
   have hrdA:=qA hrd4 ((Below.refl _ _).alloc (Nat.le_refl _) (.cells #[strB nm,.int .i64 (kd:Int),.int .i64 (ky:Int),.slice none 0 0] 61)) (xh hrd4)
   have hGA:=xT hG4 (.cells #[strB nm,.int .i64 (kd:Int),.int .i64 (ky:Int),.slice none 0 0] 61)
   go_wp2_with (at_builtin;refine wpList_append_own _ rfl (.tmp 16) (.tmp 18) 22 rfl w.heap.size 61 i0 (.agg #[.string ⟨#[]⟩,.int .i64 0,.int .i64 0,.slice none 0 0]) 4 56 Tryz.underlying22 hi hz0 hz1 hz2 rfl (by decide) _ _ _ rfl (hownA.alloc _) ⟨_,0,none⟩ 1 1 [strB nm,.int .i64 (kd:Int),.int .i64 (ky:Int),.slice none 0 0] rfl rfl ?c1 ?c2 ?c3 ?c4 ?c5 ?_)
   case c1=>exact xf (w4.alloc _) #[strB nm,.int .i64 (kd:Int),.int .i64 (ky:Int),.slice none 0 0] 61 (by simp)
   case c2=>intro u hu;simp at hu;rcases hu with rfl|rfl|rfl|rfl<;>rfl
   case c3=>unfold maxLen;omega
   case c4=>omega
   case c5=>simp;omega
   intro v5 w5 hown5 hgr5 _
   have HR:=hid (Xu hrdA hplt hGA hownA hgr5)
   have HO5:=hid hown5
   clear hown4 hownA hown5 hgr5 hG4 hGA hrdA hrd4
   go_wp2
   go_roundw
   case rel =>
    refine ⟨k+1,tk++[⟨nm,kd,ky,[]⟩],r4,by omega,by go_num,by simp [Hal.out],?_,by rw [Ud];exact HO5.out,HR.out.1,HR.out.2,?_⟩
    ·intro c hc
     rcases List.mem_append.1 hc with h|h
     ·exact Hok.out c h
     ·simp only [List.mem_cons,List.not_mem_nil,or_false] at h
      subst h
      exact ⟨hnm8,by simp only;omega,⟨by simp only;omega,by simp only;omega⟩,rfl⟩
    ·rw [Hrk.out,Hr2.out,Hr3.out,Hr4.out,List.flatMap_append]
     simp [jT]
   case measure=>simp [intOf];omega
  ·have hke:k=n:=by omega
   subst hke
   have HG:=hid hg
   have Hrd:=hid hrd
   have HOW:=hid hown
   obtain ⟨a,cap,rfl,hcap,hlies⟩:=VC hown Hal.out Hok.out
   have Hlies:=hid hlies
   clear hown hlies hrd hg
   go_wp2_with fail
   refine (Dq a cap k tk _ Hal.out (by unfold maxLen;omega) hcap Hlies.out).mono ?_
   rintro e w6 ⟨rfl,hb6⟩
   have HB6:=hid hb6
   clear hb6
   cases hh:jU tk with
   | true =>
    have Hh:=hid hh
    clear hh
    go_wp2_with fail
    refine (jX _).mono ?_
    rintro e w7 ⟨rfl,rfl⟩
    go_wp2
    go_ret
    refine ⟨jz HG.out HB6.out,.inr ⟨tk,_,rk,Hh.out,Hok.out,rfl,?_,qA Hrd.out HB6.out (xh Hrd.out),?_⟩⟩
    ·rw [Hal.out]
     exact jw HOW.out HB6.out
    ·rw [HR0.out,Hrk.out,Hal.out]
   | false =>
    have HN:Hid (∀ (t:List ColB) (q:List UInt8),jU t=true→(∀ c ∈ t,c.cells=[])→rest≠uB t.length++(t.flatMap jT++q)):=by
     intro t q ht hb h
     obtain ⟨h1,h2⟩:=HLEN.out t q ht h
     rw [Hrk.out] at h2
     obtain ⟨h3,_⟩:=IF (by rw [Hal.out,h1]) Hok.out (XQ ht hb) h2
     rw [h3,ht] at hh
     cases hh
    clear hh
    go_wp2_with fail
    refine (qM _).mono ?_
    rintro e w7 ⟨rfl,rfl⟩
    go_wp2
    exact ⟨rfl,jz HG.out HB6.out,.inl ⟨rfl,HN.out⟩⟩
end
end Go.Proofs.YthhpbhpfagoapaaGreat
