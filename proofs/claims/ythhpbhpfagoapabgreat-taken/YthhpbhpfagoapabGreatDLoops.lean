import Derived.Test.YthhpbhpfagoapabGreatDRead3
namespace Go.Proofs.YthhpbhpfagoapabGreat
set_option linter.unusedVariables false
set_option linter.unusedSimpArgs false
set_option maxRecDepth 100000
set_option maxHeartbeats 16000000
open Go.RowKit
def okI (c:CellB):Prop:=c.null=false∧c.text=[]∧inI c.int
def okT (c:CellB):Prop:=c.null=false∧c.int=0∧c.text.length≤12
theorem zZ {c:CellB} {q:Prop} (h:c ∈ ([]:List CellB)):q:=by cases h
def ZS (st:CellB→CellB→List UInt8):CellB→List CellB→List UInt8
 | _,[]=>[]
 | a,c :: l=>st a c++ZS st c l
def zT:CellB→List CellB→CellB
 | a,[]=>a
 | _,c :: l=>zT c l
def Nj (_ c:CellB):List UInt8:=bB c.int
def Zu (_ c:CellB):List UInt8:=xB c.text
def Nc (a c:CellB):List UInt8:=zB (wrap64 (c.int - a.int))
def UC (a c:CellB):List UInt8:=NT a.text c.text
theorem Zy (a:CellB) (l:List CellB) (c:CellB):zT a (l++[c])=c:=by
 induction l generalizing a with
 | nil=>rfl
 | cons d l ih=>exact ih d
theorem Av (st:CellB→CellB→List UInt8) (a:CellB) (l m:List CellB):ZS st a (l++m)=ZS st a l++ZS st (zT a l) m:=by
 induction l generalizing a with
 | nil=>rfl
 | cons d l ih=>simp only [List.cons_append,ZS,zT,ih,List.append_assoc]
theorem Aq (a:CellB) (l:List CellB) (h:l≠[]):zT a l ∈ l:=by
 induction l generalizing a with
 | nil=>exact absurd rfl h
 | cons c l ih =>
  cases l with
  | nil=>simp [zT]
  | cons d l=>exact List.mem_cons_of_mem _ (ih c (by simp))
theorem Dm {l:List CellB} (h:∀ c ∈ l,okI c):inI (zT xx l).int:=by
 by_cases hl:l=[]
 ·subst hl;exact ⟨by decide,by decide⟩
 ·exact (h _ (Aq xx l hl)).2.2
theorem NJ {l:List CellB} (h:∀ c ∈ l,okT c):(zT xx l).text.length≤12:=by
 by_cases hl:l=[]
 ·subst hl;decide
 ·exact (h _ (Aq xx l hl)).2.2
def EA (st:CellB→CellB→List UInt8) (dom:List CellB→Prop) (rest:List UInt8) (acc:List CellB) (r:List UInt8):Prop :=
 ∀ l2 q,dom l2→rest=ZS st xx l2++q→∃ l3,l2=acc++l3∧r=ZS st (zT xx acc) l3++q
theorem Kl (st:CellB→CellB→List UInt8) (dom:List CellB→Prop) (rest:List UInt8):EA st dom rest [] rest:=fun l2 q _ h=>⟨l2,rfl,h⟩
theorem Kd {st:CellB→CellB→List UInt8} {dom:List CellB→Prop} {rest r:List UInt8} {acc:List CellB} {k n:Nat} (h:EA st dom rest acc r) (hk:acc.length=k) (hlt:k < n) (hd:∀ l,dom l→l.length=n) :
  ∀ l2 q,dom l2→rest=ZS st xx l2++q→∃ c l4,l2=acc++c :: l4∧r=st (zT xx acc) c++(ZS st c l4++q):=by
 intro l2 q hl2 h2
 obtain ⟨l3,e1,e2⟩:=h l2 q hl2 h2
 cases l3 with
 | nil =>
  have:=hd l2 hl2
  rw [e1,List.append_nil] at this
  omega
 | cons c l4=>exact ⟨c,l4,e1,by rw [e2,ZS,List.append_assoc]⟩
theorem Um {st:CellB→CellB→List UInt8} {dom:List CellB→Prop} {ok:CellB→Prop} {rest r r2:List UInt8} {acc:List CellB} {k n:Nat} {x:CellB} (h:EA st dom rest acc r) (hk:acc.length=k) (hlt:k < n) (hd:∀ l,dom l→l.length=n)
  (hu:∀ c q,ok c→r=st (zT xx acc) c++q→c=x∧q=r2) (hok:∀ l,dom l→∀ c ∈ l,ok c):EA st dom rest (acc++[x]) r2:=by
 intro l2 q hl2 h2
 obtain ⟨c,l4,e1,e2⟩:=Kd h hk hlt hd l2 q hl2 h2
 obtain ⟨rfl,e3⟩:=hu c _ (hok l2 hl2 c (by rw [e1];simp)) e2
 exact ⟨l4,by rw [e1];simp,by rw [← e3,Zy]⟩
theorem Vx {st:CellB→CellB→List UInt8} {dom:List CellB→Prop} {rest r:List UInt8} {acc:List CellB} {n:Nat} (h:EA st dom rest acc r) (hk:acc.length=n) (hd:∀ l,dom l→l.length=n) :
  ∀ l2 q,dom l2→rest=ZS st xx l2++q→l2=acc∧q=r:=by
 intro l2 q hl2 h2
 obtain ⟨l3,e1,e2⟩:=h l2 q hl2 h2
 have:=hd l2 hl2
 rw [e1,List.length_append] at this
 have h3:l3=[]:=List.eq_nil_of_length_eq_zero (by omega)
 subst h3
 exact ⟨by rw [e1,List.append_nil],by rw [e2];rfl⟩
def Xk (ty:TypeId) (row:List CellB→List Value) (dom:List CellB→Prop) (enc:List CellB→List UInt8) (p:Nat) (s rest:List UInt8) (w:World) (e:Ending) (w':World):Prop :=
 w.grownBy w' (some p)∧((e=gaveUp∧∀ l q,dom l→rest≠enc l++q)∨∃ l r v,dom l∧e=.returned v∧w'.ownsRow w.heap.size ty 1 v l.length (row l)∧qv w' p s r∧∀ l2 q,dom l2→rest=enc l2++q→l2=l∧q=r)
theorem XM {w0 w2 w3:World} {p n ty sz:Nat} {s r:List UInt8} {v:Value} {xs:List Value} {o:Obj} (hrd:qv w2 p s r) (hp:p < w0.heap.size) (hG:w0.grownBy w2 (some p)) (hown:w2.ownsRow w0.heap.size ty sz v n xs)
  (hgr:(w2.alloc o).grownBy w3 v.ownBlock):qv w3 p s r∧w0.grownBy w3 (some p):=by
 have hlt:=xD hrd
 have hne:some p≠v.ownBlock:=by
  intro h
  have:=(hown.lt p h.symm).1
  omega
 obtain ⟨at_,h1,h2,h3⟩:=hrd
 refine ⟨⟨at_,?_,h2,h3⟩,JM (Ua hG o) hgr (fun k hk=>(hown.lt k hk).1)⟩
 rw [hgr.block p (by simp;omega) hne]
 rw [← h1]
 exact ((Below.refl w2.heap.size w2).alloc (Nat.le_refl _) o).block p hlt
theorem TQ (g p count:Nat) (s rest:List UInt8) (w:World) (hs:s.length≤maxLen) (hc:count≤60) (hp:qv w p s rest) :
  Calls Tryz.prog 146 #[numC g,.pointer (some ⟨p,0,none⟩),.int .i64 (count:Int)] w (Xk 3 QY (fun l=>l.length=count∧∀ c ∈ l,okI c) (ZS Nj xx) p s rest w):=by
 obtain ⟨i0,hi,hz0,hz1,hz2⟩:=info_parts Tryz.infoInt
 have Hs:=hid hs
 have Hp:=hid hp
 have hplt:=xD hp
 clear hs hp
 go_enter Tryz.func146,Tryz.ntmps146
 go_wp2
 obtain ⟨hb0,hs0,hc0⟩:=Ja w #[.slice (some ⟨g,0,none⟩) 3 3,fnV 151,fnV 152,fnV 153,fnV 154,fnV 155,fnV 156] 205
 have hc1:_=some (fnV 154):=hc0 4
 have Hc:=hid hc1
 have Hp0:=hid (qH Hp.out hb0 hplt)
 have Hb0:=hid hb0
 have hs1:=Nat.lt_of_lt_of_eq (Nat.lt_succ_self w.heap.size) hs0.symm
 have hplt0:=Nat.lt_of_lt_of_le hplt hb0.size
 clear hc0 hc1 hb0 hs0
 generalize w.alloc _=w0 at *
 go_loopw [7,9] (fun v i wr=>∃ (k:Nat) (acc:List CellB) (r:List UInt8),k≤count∧i=.int .i64 (k:Int)∧acc.length=k∧(∀ c ∈ acc,okI c)∧wr.ownsRow w0.heap.size 3 1 v k (QY acc)∧qv wr p s r∧w0.grownBy wr (some p)∧EA Nj (fun l=>l.length=count∧∀ c ∈ l,okI c) rest acc r)
  (fun _ i _=>count - (intOf i).toNat)
 case atStart=>exact ⟨0,[],rest,Nat.zero_le _,rfl,rfl,(fun c h=>zZ h),World.ownsRow_nil _ _ _ _,Hp0.out,jU _ _,Kl _ _ _⟩
 case round =>
  obtain ⟨k,acc,r,hkc,rfl,hal,hok,hown,hrd,hg,hleft⟩:=hrel
  have Hal:=hid hal
  have Hok:=hid hok
  have Hleft:=hid hleft
  have Hg:=hid hg
  have Hah:Hid (inI (zT xx acc).int):=Dm hok
  clear hal hok hleft
  by_cases hlt:k < count
  ·have hcf:=(hg.cell_far ⟨w.heap.size,4,none⟩ hs1 (by intro h;simp at h;omega)).trans Hc.out
   clear hg
   go_wp2_with fail
   refine (Dv p s r _ Hs.out hrd).mono ?_
   rintro e w2 ⟨hg2,⟨rfl,hno⟩|⟨x,r2,hx,rfl,hrd2,hu⟩⟩
   ·go_wp2
    refine ⟨rfl,jf (jG (jU w _) Hb0.out) (jf Hg.out hg2),.inl ⟨rfl,fun l2 q hl2 h=>?_⟩⟩
    obtain ⟨c,l4,hc4,h4⟩:=Kd Hleft.out Hal.out hlt (fun l h=>h.1) l2 q hl2 h
    exact hno c.int _ ((hl2.2 c (hc4 ▸ by simp)).2.2) h4
   ·have Hu:=hid hu
    have Hx:=hid hx
    have hown2:=zX hown hplt0 hg2
    have hG2:=jf Hg.out hg2
    clear hown hrd hu hcf hg2 hx
    go_wp2_with (at_builtin;refine wpList_append_own _ rfl (.tmp 11) (.tmp 16) 22 rfl w0.heap.size 3 i0 (.int .i64 0) 1 8 Tryz.underlying22 hi hz0 hz1 hz2 rfl (by decide) _ _ _ rfl (hown2.alloc _) ⟨_,0,none⟩ 1 1 [.int .i64 x] rfl rfl ?c1 ?c2 ?c3 ?c4 ?c5 ?_)
    case c1=>exact qC w2 #[.int .i64 x] 3
    case c2=>intro u hu;simp at hu;subst hu;rfl
    case c3=>unfold maxLen;omega
    case c4=>omega
    case c5=>have:=hG2.size;simp;omega
    intro v3 w3 hown3 hgr3 _
    have HR:=hid (XM hrd2 hplt0 hG2 hown2 hgr3)
    have HO3:=hid hown3
    clear hown2 hown3 hgr3 hG2 hrd2
    go_wp2
    go_roundw
    case rel=>exact ⟨k+1,acc++[⟨false,x,[]⟩],r2,by omega,by go_num,by simp [Hal.out],fun c hc=>(List.mem_append.1 hc).elim (Hok.out c) (fun h=>by simp only [List.mem_cons,List.not_mem_nil,or_false] at h;subst h;exact ⟨rfl,rfl,Hx.out⟩),by rw [show QY (acc++[⟨false,x,[]⟩])=QY acc++[.int .i64 x] by simp [QY]];exact HO3.out,HR.out.1,HR.out.2,Um Hleft.out Hal.out hlt (fun l h=>h.1) (fun c q hc h=>by
     obtain ⟨e1,e2⟩:=Hu.out c.int q hc.2.2 h
     refine ⟨?_,e2⟩
     obtain ⟨cn,ci,ct⟩:=c
     obtain ⟨o1,o2,o3⟩:=hc
     simp only at o1 o2 e1
     subst o1 o2 e1
     rfl) (fun l h=>h.2)⟩
    case measure=>simp [intOf];omega
  ·have hke:k=count:=by omega
   subst hke
   have Hown:=hid hown
   have Hrd:=hid hrd
   clear hg hown hrd
   go_wp2
   go_ret
   refine ⟨jf (jG (jU w _) Hb0.out) Hg.out,.inr ⟨acc,r,_,⟨Hal.out,Hok.out⟩,rfl,?_,Hrd.out,Vx Hleft.out Hal.out (fun l h=>h.1)⟩⟩
   rw [Hal.out]
   exact jS Hown.out Hb0.out.size
theorem Yq (g p count:Nat) (s rest:List UInt8) (w:World) (hs:s.length≤maxLen) (hc:count≤60) (hp:qv w p s rest) :
  Calls Tryz.prog 160 #[txtC g,.pointer (some ⟨p,0,none⟩),.int .i64 (count:Int)] w (Xk 9 JB (fun l=>l.length=count∧∀ c ∈ l,okT c) (ZS Zu xx) p s rest w):=by
 obtain ⟨i0,hi,hz0,hz1,hz2⟩:=info_parts Tryz.infoStr
 have Hs:=hid hs
 have Hp:=hid hp
 have hplt:=xD hp
 clear hs hp
 go_enter Tryz.func160,Tryz.ntmps160
 go_wp2
 obtain ⟨hb0,hs0,hc0⟩:=Ja w #[.slice (some ⟨g,0,none⟩) 3 3,fnV 165,fnV 166,fnV 115,fnV 167,fnV 168,fnV 169] 214
 have hc1:_=some (fnV 167):=hc0 4
 have Hc:=hid hc1
 have Hp0:=hid (qH Hp.out hb0 hplt)
 have Hb0:=hid hb0
 have hs1:=Nat.lt_of_lt_of_eq (Nat.lt_succ_self w.heap.size) hs0.symm
 have hplt0:=Nat.lt_of_lt_of_le hplt hb0.size
 clear hc0 hc1 hb0 hs0
 generalize w.alloc _=w0 at *
 go_loopw [7,9] (fun v i wr=>∃ (k:Nat) (acc:List CellB) (r:List UInt8),k≤count∧i=.int .i64 (k:Int)∧acc.length=k∧(∀ c ∈ acc,okT c)∧wr.ownsRow w0.heap.size 9 1 v k (JB acc)∧qv wr p s r∧w0.grownBy wr (some p)∧EA Zu (fun l=>l.length=count∧∀ c ∈ l,okT c) rest acc r)
  (fun _ i _=>count - (intOf i).toNat)
 case atStart=>exact ⟨0,[],rest,Nat.zero_le _,rfl,rfl,(fun c h=>zZ h),World.ownsRow_nil _ _ _ _,Hp0.out,jU _ _,Kl _ _ _⟩
 case round =>
  obtain ⟨k,acc,r,hkc,rfl,hal,hok,hown,hrd,hg,hleft⟩:=hrel
  have Hal:=hid hal
  have Hok:=hid hok
  have Hleft:=hid hleft
  have Hg:=hid hg
  have Hah:Hid ((zT xx acc).text.length≤12):=NJ hok
  clear hal hok hleft
  by_cases hlt:k < count
  ·have hcf:=(hg.cell_far ⟨w.heap.size,4,none⟩ hs1 (by intro h;simp at h;omega)).trans Hc.out
   clear hg
   go_wp2_with fail
   refine (EK p s r _ Hs.out hrd).mono ?_
   rintro e w2 ⟨hg2,⟨rfl,hno⟩|⟨x,r2,hx,rfl,hrd2,hu⟩⟩
   ·go_wp2
    refine ⟨rfl,jf (jG (jU w _) Hb0.out) (jf Hg.out hg2),.inl ⟨rfl,fun l2 q hl2 h=>?_⟩⟩
    obtain ⟨c,l4,hc4,h4⟩:=Kd Hleft.out Hal.out hlt (fun l h=>h.1) l2 q hl2 h
    exact hno c.text _ ((hl2.2 c (hc4 ▸ by simp)).2.2) h4
   ·have Hu:=hid hu
    have Hx:=hid hx
    have hown2:=zX hown hplt0 hg2
    have hG2:=jf Hg.out hg2
    clear hown hrd hu hcf hg2 hx
    go_wp2_with (at_builtin;refine wpList_append_own _ rfl (.tmp 11) (.tmp 16) 163 rfl w0.heap.size 9 i0 (.string ⟨#[]⟩) 1 16 Tryz.underlying163 hi hz0 hz1 hz2 rfl (by decide) _ _ _ rfl (hown2.alloc _) ⟨_,0,none⟩ 1 1 [strB x] rfl rfl ?c1 ?c2 ?c3 ?c4 ?c5 ?_)
    case c1=>exact qC w2 #[strB x] 9
    case c2=>intro u hu;simp at hu;subst hu;rfl
    case c3=>unfold maxLen;omega
    case c4=>omega
    case c5=>have:=hG2.size;simp;omega
    intro v3 w3 hown3 hgr3 _
    have HR:=hid (XM hrd2 hplt0 hG2 hown2 hgr3)
    have HO3:=hid hown3
    clear hown2 hown3 hgr3 hG2 hrd2
    go_wp2
    go_roundw
    case rel=>exact ⟨k+1,acc++[⟨false,0,x⟩],r2,by omega,by go_num,by simp [Hal.out],fun c hc=>(List.mem_append.1 hc).elim (Hok.out c) (fun h=>by simp only [List.mem_cons,List.not_mem_nil,or_false] at h;subst h;exact ⟨rfl,rfl,Hx.out⟩),by rw [show JB (acc++[⟨false,0,x⟩])=JB acc++[strB x] by simp [JB,zl,Zi]];exact HO3.out,HR.out.1,HR.out.2,Um Hleft.out Hal.out hlt (fun l h=>h.1) (fun c q hc h=>by
     obtain ⟨e1,e2⟩:=Hu.out c.text q hc.2.2 h
     refine ⟨?_,e2⟩
     obtain ⟨cn,ci,ct⟩:=c
     obtain ⟨o1,o2,o3⟩:=hc
     simp only at o1 o2 e1
     subst o1 o2 e1
     rfl) (fun l h=>h.2)⟩
    case measure=>simp [intOf];omega
  ·have hke:k=count:=by omega
   subst hke
   have Hown:=hid hown
   have Hrd:=hid hrd
   clear hg hown hrd
   go_wp2
   go_ret
   refine ⟨jf (jG (jU w _) Hb0.out) Hg.out,.inr ⟨acc,r,_,⟨Hal.out,Hok.out⟩,rfl,?_,Hrd.out,Vx Hleft.out Hal.out (fun l h=>h.1)⟩⟩
   rw [Hal.out]
   exact jS Hown.out Hb0.out.size
theorem DS (g p count:Nat) (s rest:List UInt8) (w:World) (hs:s.length≤maxLen) (hc:count≤60) (hp:qv w p s rest) :
  Calls Tryz.prog 148 #[numC g,.pointer (some ⟨p,0,none⟩),.int .i64 (count:Int)] w (Xk 3 QY (fun l=>l.length=count∧∀ c ∈ l,okI c) (ZS Nc xx) p s rest w):=by
 obtain ⟨i0,hi,hz0,hz1,hz2⟩:=info_parts Tryz.infoInt
 have Hs:=hid hs
 have Hp:=hid hp
 have hplt:=xD hp
 clear hs hp
 go_enter Tryz.func148,Tryz.ntmps148
 go_wp2
 obtain ⟨hb0,hs0,hc0⟩:=Ja w #[.slice (some ⟨g,0,none⟩) 3 3,fnV 151,fnV 152,fnV 153,fnV 154,fnV 155,fnV 156] 205
 have hc1:_=some (fnV 156):=hc0 6
 have Hc:=hid hc1
 have Hp0:=hid (qH Hp.out hb0 hplt)
 have Hb0:=hid hb0
 have hs1:=Nat.lt_of_lt_of_eq (Nat.lt_succ_self w.heap.size) hs0.symm
 have hplt0:=Nat.lt_of_lt_of_le hplt hb0.size
 clear hc0 hc1 hb0 hs0
 generalize w.alloc _=w0 at *
 go_loopw [7,8,10] (fun v u i wr=>∃ (k:Nat) (acc:List CellB) (r:List UInt8),k≤count∧i=.int .i64 (k:Int)∧u=.int .i64 (zT xx acc).int∧acc.length=k∧(∀ c ∈ acc,okI c)∧wr.ownsRow w0.heap.size 3 1 v k (QY acc)∧qv wr p s r∧w0.grownBy wr (some p)∧EA Nc (fun l=>l.length=count∧∀ c ∈ l,okI c) rest acc r)
  (fun _ _ i _=>count - (intOf i).toNat)
 case atStart=>exact ⟨0,[],rest,Nat.zero_le _,rfl,rfl,rfl,(fun c h=>zZ h),World.ownsRow_nil _ _ _ _,Hp0.out,jU _ _,Kl _ _ _⟩
 case round =>
  obtain ⟨k,acc,r,hkc,rfl,rfl,hal,hok,hown,hrd,hg,hleft⟩:=hrel
  have Hal:=hid hal
  have Hok:=hid hok
  have Hleft:=hid hleft
  have Hg:=hid hg
  have Hah:Hid (inI (zT xx acc).int):=Dm hok
  clear hal hok hleft
  by_cases hlt:k < count
  ·have hcf:=(hg.cell_far ⟨w.heap.size,6,none⟩ hs1 (by intro h;simp at h;omega)).trans Hc.out
   clear hg
   go_wp2_with fail
   refine (KL p s r (zT xx acc).int _ Hs.out (Hah.out) hrd).mono ?_
   rintro e w2 ⟨hg2,⟨rfl,hno⟩|⟨x,r2,hx,rfl,hrd2,hu⟩⟩
   ·go_wp2
    refine ⟨rfl,jf (jG (jU w _) Hb0.out) (jf Hg.out hg2),.inl ⟨rfl,fun l2 q hl2 h=>?_⟩⟩
    obtain ⟨c,l4,hc4,h4⟩:=Kd Hleft.out Hal.out hlt (fun l h=>h.1) l2 q hl2 h
    exact hno c.int _ ((hl2.2 c (hc4 ▸ by simp)).2.2) h4
   ·have Hu:=hid hu
    have Hx:=hid hx
    have hown2:=zX hown hplt0 hg2
    have hG2:=jf Hg.out hg2
    clear hown hrd hu hcf hg2 hx
    go_wp2_with (at_builtin;refine wpList_append_own _ rfl (.tmp 17) (.tmp 19) 22 rfl w0.heap.size 3 i0 (.int .i64 0) 1 8 Tryz.underlying22 hi hz0 hz1 hz2 rfl (by decide) _ _ _ rfl (hown2.alloc _) ⟨_,0,none⟩ 1 1 [.int .i64 x] rfl rfl ?c1 ?c2 ?c3 ?c4 ?c5 ?_)
    case c1=>exact qC w2 #[.int .i64 x] 3
    case c2=>intro u hu;simp at hu;subst hu;rfl
    case c3=>unfold maxLen;omega
    case c4=>omega
    case c5=>have:=hG2.size;simp;omega
    intro v3 w3 hown3 hgr3 _
    have HR:=hid (XM hrd2 hplt0 hG2 hown2 hgr3)
    have HO3:=hid hown3
    clear hown2 hown3 hgr3 hG2 hrd2
    go_wp2
    go_roundw
    case rel=>exact ⟨k+1,acc++[⟨false,x,[]⟩],r2,by omega,by go_num,by rw [Zy],by simp [Hal.out],fun c hc=>(List.mem_append.1 hc).elim (Hok.out c) (fun h=>by simp only [List.mem_cons,List.not_mem_nil,or_false] at h;subst h;exact ⟨rfl,rfl,Hx.out⟩),by rw [show QY (acc++[⟨false,x,[]⟩])=QY acc++[.int .i64 x] by simp [QY]];exact HO3.out,HR.out.1,HR.out.2,Um Hleft.out Hal.out hlt (fun l h=>h.1) (fun c q hc h=>by
     obtain ⟨e1,e2⟩:=Hu.out c.int q hc.2.2 h
     refine ⟨?_,e2⟩
     obtain ⟨cn,ci,ct⟩:=c
     obtain ⟨o1,o2,o3⟩:=hc
     simp only at o1 o2 e1
     subst o1 o2 e1
     rfl) (fun l h=>h.2)⟩
    case measure=>simp [intOf];omega
  ·have hke:k=count:=by omega
   subst hke
   have Hown:=hid hown
   have Hrd:=hid hrd
   clear hg hown hrd
   go_wp2
   go_ret
   refine ⟨jf (jG (jU w _) Hb0.out) Hg.out,.inr ⟨acc,r,_,⟨Hal.out,Hok.out⟩,rfl,?_,Hrd.out,Vx Hleft.out Hal.out (fun l h=>h.1)⟩⟩
   rw [Hal.out]
   exact jS Hown.out Hb0.out.size
theorem MP (g p count:Nat) (s rest:List UInt8) (w:World) (hs:s.length≤maxLen) (hc:count≤60) (hp:qv w p s rest) :
  Calls Tryz.prog 164 #[txtC g,.pointer (some ⟨p,0,none⟩),.int .i64 (count:Int)] w (Xk 9 JB (fun l=>l.length=count∧∀ c ∈ l,okT c) (ZS UC xx) p s rest w):=by
 obtain ⟨i0,hi,hz0,hz1,hz2⟩:=info_parts Tryz.infoStr
 have Hs:=hid hs
 have Hp:=hid hp
 have hplt:=xD hp
 clear hs hp
 go_enter Tryz.func164,Tryz.ntmps164
 go_wp2
 obtain ⟨hb0,hs0,hc0⟩:=Ja w #[.slice (some ⟨g,0,none⟩) 3 3,fnV 165,fnV 166,fnV 115,fnV 167,fnV 168,fnV 169] 214
 have hc1:_=some (fnV 169):=hc0 6
 have Hc:=hid hc1
 have Hp0:=hid (qH Hp.out hb0 hplt)
 have Hb0:=hid hb0
 have hs1:=Nat.lt_of_lt_of_eq (Nat.lt_succ_self w.heap.size) hs0.symm
 have hplt0:=Nat.lt_of_lt_of_le hplt hb0.size
 clear hc0 hc1 hb0 hs0
 generalize w.alloc _=w0 at *
 go_loopw [7,8,10] (fun v u i wr=>∃ (k:Nat) (acc:List CellB) (r:List UInt8),k≤count∧i=.int .i64 (k:Int)∧u=strB (zT xx acc).text∧acc.length=k∧(∀ c ∈ acc,okT c)∧wr.ownsRow w0.heap.size 9 1 v k (JB acc)∧qv wr p s r∧w0.grownBy wr (some p)∧EA UC (fun l=>l.length=count∧∀ c ∈ l,okT c) rest acc r)
  (fun _ _ i _=>count - (intOf i).toNat)
 case atStart=>exact ⟨0,[],rest,Nat.zero_le _,rfl,rfl,rfl,(fun c h=>zZ h),World.ownsRow_nil _ _ _ _,Hp0.out,jU _ _,Kl _ _ _⟩
 case round =>
  obtain ⟨k,acc,r,hkc,rfl,rfl,hal,hok,hown,hrd,hg,hleft⟩:=hrel
  have Hal:=hid hal
  have Hok:=hid hok
  have Hleft:=hid hleft
  have Hg:=hid hg
  have Hah:Hid ((zT xx acc).text.length≤12):=NJ hok
  clear hal hok hleft
  by_cases hlt:k < count
  ·have hcf:=(hg.cell_far ⟨w.heap.size,6,none⟩ hs1 (by intro h;simp at h;omega)).trans Hc.out
   clear hg
   go_wp2_with fail
   refine (VO p s r (zT xx acc).text _ Hs.out (Hah.out) hrd).mono ?_
   rintro e w2 ⟨hg2,⟨rfl,hno⟩|⟨x,r2,hx,rfl,hrd2,hu⟩⟩
   ·go_wp2
    refine ⟨rfl,jf (jG (jU w _) Hb0.out) (jf Hg.out hg2),.inl ⟨rfl,fun l2 q hl2 h=>?_⟩⟩
    obtain ⟨c,l4,hc4,h4⟩:=Kd Hleft.out Hal.out hlt (fun l h=>h.1) l2 q hl2 h
    exact hno c.text _ ((hl2.2 c (hc4 ▸ by simp)).2.2) h4
   ·have Hu:=hid hu
    have Hx:=hid hx
    have hown2:=zX hown hplt0 hg2
    have hG2:=jf Hg.out hg2
    clear hown hrd hu hcf hg2 hx
    go_wp2_with (at_builtin;refine wpList_append_own _ rfl (.tmp 17) (.tmp 19) 163 rfl w0.heap.size 9 i0 (.string ⟨#[]⟩) 1 16 Tryz.underlying163 hi hz0 hz1 hz2 rfl (by decide) _ _ _ rfl (hown2.alloc _) ⟨_,0,none⟩ 1 1 [strB x] rfl rfl ?c1 ?c2 ?c3 ?c4 ?c5 ?_)
    case c1=>exact qC w2 #[strB x] 9
    case c2=>intro u hu;simp at hu;subst hu;rfl
    case c3=>unfold maxLen;omega
    case c4=>omega
    case c5=>have:=hG2.size;simp;omega
    intro v3 w3 hown3 hgr3 _
    have HR:=hid (XM hrd2 hplt0 hG2 hown2 hgr3)
    have HO3:=hid hown3
    clear hown2 hown3 hgr3 hG2 hrd2
    go_wp2
    go_roundw
    case rel=>exact ⟨k+1,acc++[⟨false,0,x⟩],r2,by omega,by go_num,by rw [Zy],by simp [Hal.out],fun c hc=>(List.mem_append.1 hc).elim (Hok.out c) (fun h=>by simp only [List.mem_cons,List.not_mem_nil,or_false] at h;subst h;exact ⟨rfl,rfl,Hx.out⟩),by rw [show JB (acc++[⟨false,0,x⟩])=JB acc++[strB x] by simp [JB,zl,Zi]];exact HO3.out,HR.out.1,HR.out.2,Um Hleft.out Hal.out hlt (fun l h=>h.1) (fun c q hc h=>by
     obtain ⟨e1,e2⟩:=Hu.out c.text q hc.2.2 h
     refine ⟨?_,e2⟩
     obtain ⟨cn,ci,ct⟩:=c
     obtain ⟨o1,o2,o3⟩:=hc
     simp only at o1 o2 e1
     subst o1 o2 e1
     rfl) (fun l h=>h.2)⟩
    case measure=>simp [intOf];omega
  ·have hke:k=count:=by omega
   subst hke
   have Hown:=hid hown
   have Hrd:=hid hrd
   clear hg hown hrd
   go_wp2
   go_ret
   refine ⟨jf (jG (jU w _) Hb0.out) Hg.out,.inr ⟨acc,r,_,⟨Hal.out,Hok.out⟩,rfl,?_,Hrd.out,Vx Hleft.out Hal.out (fun l h=>h.1)⟩⟩
   rw [Hal.out]
   exact jS Hown.out Hb0.out.size
end Go.Proofs.YthhpbhpfagoapabGreat
