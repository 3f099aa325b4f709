import Derived.Test.YthhpbhpfagoapaaGreatRTk
import Derived.Test.YthhpbhpfagoapaaGreatJAE
namespace Go.Proofs.YthhpbhpfagoapaaGreat
set_option linter.unusedVariables false
set_option linter.unusedSimpArgs false
set_option maxRecDepth 100000
set_option maxHeartbeats 16000000
open Go.RowKit
section
def leN:List UInt8→Nat
 | []=>0
 | c :: l=>c.toNat+256*leN l
theorem PD (l:List UInt8):leN l < 256 ^ l.length:=by
 induction l with
 | nil=>simp [leN]
 | cons c l ih =>
  have:=c.toNat_lt
  simp only [leN,List.length_cons,Nat.pow_succ]
  omega
theorem Tj (l:List UInt8) (c:UInt8):leN (l++[c])=leN l+256 ^ l.length*c.toNat:=by
 induction l with
 | nil=>simp [leN]
 | cons d l ih =>
  simp only [List.cons_append,leN,ih,List.length_cons,Nat.pow_succ]
  rw [Nat.mul_add,Nat.mul_comm (256 ^ l.length) 256,Nat.mul_assoc]
  omega
theorem Sf (l:List UInt8) (h:l.length≤8):AL l=leN l:=by
 induction l with
 | nil=>rfl
 | cons c l ih =>
  have h1:=PD l
  have h2:=c.toNat_lt
  simp only [List.length_cons] at h
  have h3:256 ^ l.length≤256 ^ 7:=Nat.pow_le_pow_right (by decide) (by omega)
  have h4:256 ^ 7=72057594037927936:=by decide
  simp only [AL,leN,ih (by omega)]
  omega
theorem YY (k:Nat):256 ^ k=2 ^ (8*k):=by rw [show 256=2 ^ 8 from rfl,← Nat.pow_mul]
theorem LF (acc c k:Nat) (hacc:acc < 256 ^ k) (hk:k≤7) (hc:c < 256) :
  bits .or .u64 (acc:Int) (IntKind.u64.wrap ((c:Int)*2 ^ (8*k)))=((acc+256 ^ k*c:Nat):Int):=by
 have h3:256 ^ k≤256 ^ 7:=Nat.pow_le_pow_right (by decide) hk
 have h4:256 ^ 7=72057594037927936:=by decide
 have hx:256 ^ k*c≤72057594037927936*255:=Nat.mul_le_mul (by omega) (by omega)
 have hw:IntKind.u64.wrap ((c:Int)*2 ^ (8*k))=((2 ^ (8*k)*c:Nat):Int):=by
  rw [IntKind.wrap_u64]
  have e:((c:Int)*2 ^ (8*k))=((2 ^ (8*k)*c:Nat):Int):=by
   rw [Int.mul_comm];simp
  rw [e]
  rw [YY] at hx
  generalize 2 ^ (8*k)*c=q at *
  omega
 rw [hw,u64_or_nat _ _ (by omega) (by rw [← YY];omega),YY]
 rw [YY] at hacc
 rw [Nat.or_comm,← Nat.two_pow_add_eq_or_of_lt hacc]
 congr 1
 omega
theorem LR (b:Int) (hb:inI b):wrap64 (leN (bB b):Int)=b:=by
 have h:=SK b [] hb.1 hb.2
 have hl:=ZD b
 unfold bR at h
 rw [List.append_nil] at h
 have ht:xz 8 (some (bB b))=(bB b,some []):=by
  rw [KR (by omega) (by omega)]
  simp [List.take_of_length_le,List.drop_of_length_le,hl]
 rw [ht] at h
 simp only [Prod.mk.injEq] at h
 rw [← Sf (bB b) (by omega)]
 exact h.1
theorem Dd (p:Nat) (s rest:List UInt8) (w:World) (hs:s.length≤maxLen) (hp:qp w p s rest) :
  Calls Tryz.prog 190 #[.pointer (some ⟨p,0,none⟩)] w (VW inI bB (fun v=>.int .i64 v) p s rest w):=by
 have Hs:=hid hs
 have Hp:=hid hp
 clear hs hp
 go_enter Tryz.func190,Tryz.ntmps190
 go_wp2
 go_loopw [3,5] (fun n i wr=>∃ (k:Nat) (cs r:List UInt8),k≤8∧i=.int .i64 (k:Int)∧cs.length=k∧rest=cs++r∧n=.int .u64 (leN cs:Int)∧qp wr p s r∧w.grownBy wr (some p)) (fun _ i _=>8 - (intOf i).toNat)
 case atStart=>exact ⟨0,[],rest,by omega,rfl,rfl,rfl,rfl,Hp.out,jK _ _⟩
 case round =>
  obtain ⟨k,cs,r,hk,rfl,hcs,hrest,rfl,hrd,hg⟩:=hrel
  have Hcs:=hid hcs
  have Hrest:=hid hrest
  have Hg:=hid hg
  have hle:=PD cs
  rw [hcs] at hle
  clear hcs hrest hg
  by_cases hk8:k < 8
  ·go_wp2_with fail
   refine (XF p s r _ Hs.out hrd).mono ?_
   rintro e w2 ⟨hg2,⟨rfl,rfl⟩|⟨c,r2,rfl,rfl,hrd2⟩⟩
   ·go_wp2
    refine ⟨rfl,jd Hg.out hg2,.inl ⟨rfl,fun a q ha h=>?_⟩⟩
    have h1:=congrArg List.length (Hrest.out.symm.trans h)
    have h2:=ZD a
    have h3:=Hcs.out
    simp only [List.length_append,List.length_nil] at h1
    omega
   ·have hct:=c.toNat_lt
    have ho:=LF (leN cs) c.toNat k hle (by omega) (by omega)
    have HG2:=hid (jd Hg.out hg2)
    have Hrd2:=hid hrd2
    have HSN:Hid (leN (cs++[c])=leN cs+256 ^ k*c.toNat):=by
     show _=_
     rw [Tj,Hcs.out]
    clear hrd hrd2 hg2
    generalize leN cs=acc at *
    go_wp2_with fail
    go_roundw
    case rel=>exact ⟨k+1,cs++[c],r2,by omega,by go_num,by simp [Hcs.out],by rw [Hrest.out];simp,by simp [HSN.out],Hrd2.out,HG2.out⟩
    case measure=>simp [intOf];omega
  ·have hk9:k=8:=by omega
   subst hk9
   have hle2:leN cs < 18446744073709551616:=Nat.lt_of_lt_of_le hle (by decide)
   have Hrd:=hid hrd
   clear hrd hle
   go_wp2
   go_ret
   refine ⟨Hg.out,.inr ⟨wrap64 (leN cs:Int),r,Gr _,rfl,Hrd.out,fun b q hb h=>?_⟩⟩
   have h1:=Hrest.out.symm.trans h
   have h2:=List.append_inj h1 (by rw [Hcs.out,ZD])
   rw [h2.1,LR b hb]
   exact ⟨rfl,h2.2.symm⟩
theorem Sn (s:List UInt8) (b:Nat):(⟨s.toArray⟩:ByteArray).extract 0 b=⟨(s.take b).toArray⟩:=by
 rw [UO];simp
def GC (a t:List UInt8):List UInt8:=uB (jJ a t)++xB (t.drop (jJ a t))
theorem EP (a t:List UInt8):a.take (jJ a t)=t.take (jJ a t):=by
 induction a generalizing t with
 | nil=>simp [jJ]
 | cons x a ih =>
  cases t with
  | nil=>simp [jJ]
  | cons y t =>
   simp only [jJ]
   by_cases h:x=y
   ·rw [if_pos h,List.take_succ_cons,List.take_succ_cons,ih t,h]
   ·simp [h]
theorem Vf (p:Nat) (s rest a:List UInt8) (w:World) (hs:s.length≤maxLen) (ha:a.length≤12) (hp:qp w p s rest) :
  Calls Tryz.prog 207 #[.pointer (some ⟨p,0,none⟩),strB a] w (VW (fun t:List UInt8=>t.length≤12) (GC a) strB p s rest w):=by
 have Hs:=hid hs
 have Hp:=hid hp
 have hz:=jP a
 clear hs hp
 go_enter Tryz.func207,Tryz.ntmps207
 go_wp2_with fail
 refine (ZO p s rest a.length _ Hs.out (by omega) Hp.out).mono ?_
 rintro e w1 ⟨hg,⟨rfl,hno⟩|⟨n,r,hn,rfl,hrd,hu⟩⟩
 ·go_wp2
  refine ⟨rfl,hg,.inl ⟨rfl,fun t q ht h=>hno (jJ a t) (xB (t.drop (jJ a t))++q) (Jg a t).1 (by rw [h,GC,List.append_assoc])⟩⟩
 ·have Hu:=hid hu
  have Hrd:=hid hrd
  clear hu hrd
  have hn1:n≤a.length:=hn
  have hi0:(0:Int)≤(n:Int):=by omega
  have hi1:(n:Int)≤(a.length:Int):=by omega
  have hst:=Sn a n
  have hsub:IntKind.i64.wrap ((12:Int) - (n:Int))=((12 - n:Nat):Int):=by rw [IntKind.wrap_i64];omega
  have HL:Hid ((a.take n).length=n):=by show _=_;rw [List.length_take];omega
  generalize hT:a.take n=T at *
  have HT:=hid hT
  clear hT
  go_wp2_with fail
  refine wp_region_held_drew (S:=fun w'=>True) (by kernel_rfl) trivial (fun hHeld=>?_)
  refine tk 0 (strB a) ?_
  refine tk 1 (.int .i64 (n:Int)) ?_
  refine tk 2 (strB T) ?_
  refine tk 3 (.pointer (some ⟨p,0,none⟩)) ?_
  refine tk 4 (.int .i64 (n:Int)) ?_
  refine tk 5 (.int .i64 ((12 - n:Nat):Int)) ?_
  simp only [jA,jB,jC,Act.put,jD,jE,jF]
  refine rd 6 (fun K hK=>?_)
  simp only [jA,jB,jC]
  go_simp
  go_at_call 247
  refine (RM p s r (12 - n) _ Hs.out (by omega) (show qp w1.drew p s r from Hrd.out)).mono ?_
  rintro e w2 ⟨hg2,⟨rfl,hno⟩|⟨t,r2,ht,rfl,hrd2,hu2⟩⟩
  ·have hg3:=jd hg (jG hg2)
   refine ⟨rfl,hg3,.inl ⟨rfl,fun u q hu h=>?_⟩⟩
   obtain ⟨h1,h2⟩:=Hu.out (jJ a u) (xB (u.drop (jJ a u))++q) (Jg a u).1 (by rw [h,GC,List.append_assoc])
   subst h1
   exact hno (u.drop (jJ a u)) q (by show _≤_;rw [List.length_drop];have:u.length≤12:=hu;omega) h2.symm
  ·have hg3:=jd hg (jG hg2)
   have HG3:=hid hg3
   have Hrd2:=hid hrd2
   have Hu2:=hid hu2
   have ht1:t.length≤12 - n:=ht
   have hplt:=xh hrd2
   clear hg2 hg3 hrd2 hu2
   try go_wp2_with fail
   refine hK.out _ _ trivial (fun hHeld=>?_)
   clear hK K
   try simp only [jA,jB,jC,Act.put,jD,jE,jF]
   refine rd 7 (fun K hK=>?_)
   simp only [jA,jB,jC]
   go_simp
   try go_wp2_with fail
   refine hK.out _ _ trivial (fun hHeld=>?_)
   clear hK K
   try simp only [jA,jB,jC,Act.put,jD,jE,jF]
   refine rd 8 (fun K hK=>?_)
   simp only [jA,jB,jC]
   go_simp
   go_at_call 194
   refine (ED [T,t] #[strB T,strB t] 2 _ _ (heap_alloc_new w2 _) rfl rfl (by decide) (by have:=HL.out;simp;omega)).mono ?_
   rintro e w4 ⟨rfl,hb4⟩
   have hb4':Below w2.heap.size w2 w4:=xk hb4
   try go_wp2_with fail
   refine hK.out _ _ trivial (fun hHeld=>?_)
   clear hK K
   try simp only [jA,jB,jC,Act.put,jD,jE,jF]
   refine rd 9 (fun K hK=>?_)
   simp only [jA,jB,jC]
   go_simp
   try go_wp2_with fail
   refine hK.out _ _ trivial (fun hHeld=>?_)
   clear hK K
   try simp only [jA,jB,jC,Act.put,jD,jE,jF]
   refine wpAnyH_done (by kernel_rfl) ?_ _
   have HF:=hid (qy Hrd2.out hb4' hplt)
   have HG:=hid (jw HG3.out hb4')
   clear hb4 hb4'
   go_wp2
   go_ret
   refine ⟨HG.out,.inr ⟨T++t,r2,?_,qT (by simp),HF.out,fun u q hu h=>?_⟩⟩
   ·show (T++t).length≤12
    rw [List.length_append,HL.out];omega
   ·obtain ⟨h1,h2⟩:=Hu.out (jJ a u) (xB (u.drop (jJ a u))++q) (Jg a u).1 (by rw [h,GC,List.append_assoc])
    subst h1
    obtain ⟨h3,h4⟩:=Hu2.out (u.drop (jJ a u)) q (by show _≤_;rw [List.length_drop];have:u.length≤12:=hu;omega) h2.symm
    refine ⟨?_,h4⟩
    rw [← HT.out,EP,← h3,List.take_append_drop]
end
section
def okI (c:CellB):Prop:=c.null=false∧c.text=[]∧inI c.int
def okT (c:CellB):Prop:=c.null=false∧c.int=0∧c.text.length≤12
theorem zy {c:CellB} {q:Prop} (h:c ∈ ([]:List CellB)):q:=by cases h
def Zl (st:CellB→CellB→List UInt8):CellB→List CellB→List UInt8
 | _,[]=>[]
 | a,c :: l=>st a c++Zl st c l
def zt:CellB→List CellB→CellB
 | a,[]=>a
 | _,c :: l=>zt c l
def Gy (_ c:CellB):List UInt8:=bB c.int
def XV (_ c:CellB):List UInt8:=xB c.text
def Gn (a c:CellB):List UInt8:=zB (wrap64 (c.int - a.int))
def KK (a c:CellB):List UInt8:=GC a.text c.text
theorem XX (a:CellB) (l:List CellB) (c:CellB):zt a (l++[c])=c:=by
 induction l generalizing a with
 | nil=>rfl
 | cons d l ih=>exact ih d
theorem Eu (st:CellB→CellB→List UInt8) (a:CellB) (l m:List CellB):Zl st a (l++m)=Zl st a l++Zl st (zt a l) m:=by
 induction l generalizing a with
 | nil=>rfl
 | cons d l ih=>simp only [List.cons_append,Zl,zt,ih,List.append_assoc]
theorem In (a:CellB) (l:List CellB) (h:l≠[]):zt a l ∈ l:=by
 induction l generalizing a with
 | nil=>exact absurd rfl h
 | cons c l ih =>
  cases l with
  | nil=>simp [zt]
  | cons d l=>exact List.mem_cons_of_mem _ (ih c (by simp))
theorem Ep {l:List CellB} (h:∀ c ∈ l,okI c):inI (zt xb l).int:=by
 by_cases hl:l=[]
 ·subst hl;exact ⟨by decide,by decide⟩
 ·exact (h _ (In xb l hl)).2.2
theorem Ns {l:List CellB} (h:∀ c ∈ l,okT c):(zt xb l).text.length≤12:=by
 by_cases hl:l=[]
 ·subst hl;decide
 ·exact (h _ (In xb l hl)).2.2
def YV (st:CellB→CellB→List UInt8) (dom:List CellB→Prop) (rest:List UInt8) (acc:List CellB) (r:List UInt8):Prop :=
 ∀ l2 q,dom l2→rest=Zl st xb l2++q→∃ l3,l2=acc++l3∧r=Zl st (zt xb acc) l3++q
theorem ZR (st:CellB→CellB→List UInt8) (dom:List CellB→Prop) (rest:List UInt8):YV st dom rest [] rest:=fun l2 q _ h=>⟨l2,rfl,h⟩
theorem ZB {st:CellB→CellB→List UInt8} {dom:List CellB→Prop} {rest r:List UInt8} {acc:List CellB} {k n:Nat} (h:YV st dom rest acc r) (hk:acc.length=k) (hlt:k < n) (hd:∀ l,dom l→l.length=n) :
  ∀ l2 q,dom l2→rest=Zl st xb l2++q→∃ c l4,l2=acc++c :: l4∧r=st (zt xb acc) c++(Zl st c l4++q):=by
 intro l2 q hl2 h2
 obtain ⟨l3,e1,e2⟩:=h l2 q hl2 h2
 cases l3 with
 | nil =>
  have:=hd l2 hl2
  rw [e1,List.append_nil] at this
  omega
 | cons c l4=>exact ⟨c,l4,e1,by rw [e2,Zl,List.append_assoc]⟩
theorem KO {st:CellB→CellB→List UInt8} {dom:List CellB→Prop} {ok:CellB→Prop} {rest r r2:List UInt8} {acc:List CellB} {k n:Nat} {x:CellB} (h:YV st dom rest acc r) (hk:acc.length=k) (hlt:k < n) (hd:∀ l,dom l→l.length=n)
  (hu:∀ c q,ok c→r=st (zt xb acc) c++q→c=x∧q=r2) (hok:∀ l,dom l→∀ c ∈ l,ok c):YV st dom rest (acc++[x]) r2:=by
 intro l2 q hl2 h2
 obtain ⟨c,l4,e1,e2⟩:=ZB h hk hlt hd l2 q hl2 h2
 obtain ⟨rfl,e3⟩:=hu c _ (hok l2 hl2 c (by rw [e1];simp)) e2
 exact ⟨l4,by rw [e1];simp,by rw [← e3,XX]⟩
theorem UH {st:CellB→CellB→List UInt8} {dom:List CellB→Prop} {rest r:List UInt8} {acc:List CellB} {n:Nat} (h:YV st dom rest acc r) (hk:acc.length=n) (hd:∀ l,dom l→l.length=n) :
  ∀ l2 q,dom l2→rest=Zl st xb l2++q→l2=acc∧q=r:=by
 intro l2 q hl2 h2
 obtain ⟨l3,e1,e2⟩:=h l2 q hl2 h2
 have:=hd l2 hl2
 rw [e1,List.length_append] at this
 have h3:l3=[]:=List.eq_nil_of_length_eq_zero (by omega)
 subst h3
 exact ⟨by rw [e1,List.append_nil],by rw [e2];rfl⟩
def QS (ty:TypeId) (row:List CellB→List Value) (dom:List CellB→Prop) (enc:List CellB→List UInt8) (p:Nat) (s rest:List UInt8) (w:World) (e:Ending) (w':World):Prop :=
 w.grownBy w' (some p)∧((e=gaveUp∧∀ l q,dom l→rest≠enc l++q)∨∃ l r v,dom l∧e=.returned v∧w'.ownsRow w.heap.size ty 1 v l.length (row l)∧qp w' p s r∧∀ l2 q,dom l2→rest=enc l2++q→l2=l∧q=r)
theorem Xk {w0 w2 w3:World} {p n ty sz:Nat} {s r:List UInt8} {v:Value} {xs:List Value} {o:Obj} (hrd:qp w2 p s r) (hp:p < w0.heap.size) (hG:w0.grownBy w2 (some p)) (hown:w2.ownsRow w0.heap.size ty sz v n xs)
  (hgr:(w2.alloc o).grownBy w3 v.ownBlock):qp w3 p s r∧w0.grownBy w3 (some p):=by
 have hlt:=xh hrd
 have hne:some p≠v.ownBlock:=by
  intro h
  have:=(hown.lt p h.symm).1
  omega
 obtain ⟨at_,h1,h2,h3⟩:=hrd
 refine ⟨⟨at_,?_,h2,h3⟩,Jr (Kz hG o) hgr (fun k hk=>(hown.lt k hk).1)⟩
 rw [hgr.block p (by simp;omega) hne]
 rw [← h1]
 exact ((Below.refl w2.heap.size w2).alloc (Nat.le_refl _) o).block p hlt
theorem Mr (g p count:Nat) (s rest:List UInt8) (w:World) (hs:s.length≤maxLen) (hc:count≤60) (hp:qp w p s rest) :
  Calls Tryz.prog 182 #[numC g,.pointer (some ⟨p,0,none⟩),.int .i64 (count:Int)] w (QS 3 Qx (fun l=>l.length=count∧∀ c ∈ l,okI c) (Zl Gy xb) p s rest w):=by
 obtain ⟨i0,hi,hz0,hz1,hz2⟩:=info_parts Tryz.infoInt
 have Hs:=hid hs
 have Hp:=hid hp
 have hplt:=xh hp
 clear hs hp
 go_enter Tryz.func182,Tryz.ntmps182
 go_wp2
 obtain ⟨hb0,hs0,hc0⟩:=zx w #[.slice (some ⟨g,0,none⟩) 3 3,fnV 187,fnV 188,fnV 189,fnV 190,fnV 191,fnV 192] 215
 have hc1:_=some (fnV 190):=hc0 4
 have Hc:=hid hc1
 have Hp0:=hid (qy Hp.out hb0 hplt)
 have Hb0:=hid hb0
 have hs1:=Nat.lt_of_lt_of_eq (Nat.lt_succ_self w.heap.size) hs0.symm
 have hplt0:=Nat.lt_of_lt_of_le hplt hb0.size
 clear hc0 hc1 hb0 hs0
 generalize w.alloc _=w0 at *
 go_loopw [7,9] (fun v i wr=>∃ (k:Nat) (acc:List CellB) (r:List UInt8),k≤count∧i=.int .i64 (k:Int)∧acc.length=k∧(∀ c ∈ acc,okI c)∧wr.ownsRow w0.heap.size 3 1 v k (Qx acc)∧qp wr p s r∧w0.grownBy wr (some p)∧YV Gy (fun l=>l.length=count∧∀ c ∈ l,okI c) rest acc r)
  (fun _ i _=>count - (intOf i).toNat)
 case atStart=>exact ⟨0,[],rest,Nat.zero_le _,rfl,rfl,(fun c h=>zy h),World.ownsRow_nil _ _ _ _,Hp0.out,jK _ _,ZR _ _ _⟩
 case round =>
  obtain ⟨k,acc,r,hkc,rfl,hal,hok,hown,hrd,hg,hleft⟩:=hrel
  have Hal:=hid hal
  have Hok:=hid hok
  have Hleft:=hid hleft
  have Hg:=hid hg
  have Hah:Hid (inI (zt xb acc).int):=Ep hok
  clear hal hok hleft
  by_cases hlt:k < count
  ·have hcf:=(hg.cell_far ⟨w.heap.size,4,none⟩ hs1 (by intro h;simp at h;omega)).trans Hc.out
   clear hg
   go_wp2_with fail
   refine (Dd p s r _ Hs.out hrd).mono ?_
   rintro e w2 ⟨hg2,⟨rfl,hno⟩|⟨x,r2,hx,rfl,hrd2,hu⟩⟩
   ·go_wp2
    refine ⟨rfl,jd (jw (jK w _) Hb0.out) (jd Hg.out hg2),.inl ⟨rfl,fun l2 q hl2 h=>?_⟩⟩
    obtain ⟨c,l4,hc4,h4⟩:=ZB Hleft.out Hal.out hlt (fun l h=>h.1) l2 q hl2 h
    exact hno c.int _ ((hl2.2 c (hc4 ▸ by simp)).2.2) h4
   ·have Hu:=hid hu
    have Hx:=hid hx
    have hown2:=zw hown hplt0 hg2
    have hG2:=jd Hg.out hg2
    clear hown hrd hu hcf hg2 hx
    go_wp2_with (at_builtin;refine wpList_append_own _ rfl (.tmp 11) (.tmp 16) 82 rfl w0.heap.size 3 i0 (.int .i64 0) 1 8 Tryz.underlying82 hi hz0 hz1 hz2 rfl (by decide) _ _ _ rfl (hown2.alloc _) ⟨_,0,none⟩ 1 1 [.int .i64 x] rfl rfl ?c1 ?c2 ?c3 ?c4 ?c5 ?_)
    case c1=>exact qx w2 #[.int .i64 x] 3
    case c2=>intro u hu;simp at hu;subst hu;rfl
    case c3=>unfold maxLen;omega
    case c4=>omega
    case c5=>have:=hG2.size;simp;omega
    intro v3 w3 hown3 hgr3 _
    have HR:=hid (Xk hrd2 hplt0 hG2 hown2 hgr3)
    have HO3:=hid hown3
    clear hown2 hown3 hgr3 hG2 hrd2
    go_wp2
    go_roundw
    case rel=>exact ⟨k+1,acc++[⟨false,x,[]⟩],r2,by omega,by go_num,by simp [Hal.out],fun c hc=>(List.mem_append.1 hc).elim (Hok.out c) (fun h=>by simp only [List.mem_cons,List.not_mem_nil,or_false] at h;subst h;exact ⟨rfl,rfl,Hx.out⟩),by rw [show Qx (acc++[⟨false,x,[]⟩])=Qx acc++[.int .i64 x] by simp [Qx]];exact HO3.out,HR.out.1,HR.out.2,KO Hleft.out Hal.out hlt (fun l h=>h.1) (fun c q hc h=>by
     obtain ⟨e1,e2⟩:=Hu.out c.int q hc.2.2 h
     refine ⟨?_,e2⟩
     obtain ⟨cn,ci,ct⟩:=c
     obtain ⟨o1,o2,o3⟩:=hc
     simp only at o1 o2 e1
     subst o1 o2 e1
     rfl) (fun l h=>h.2)⟩
    case measure=>simp [intOf];omega
  ·have hke:k=count:=by omega
   subst hke
   have Hown:=hid hown
   have Hrd:=hid hrd
   clear hg hown hrd
   go_wp2
   go_ret
   refine ⟨jd (jw (jK w _) Hb0.out) Hg.out,.inr ⟨acc,r,_,⟨Hal.out,Hok.out⟩,rfl,?_,Hrd.out,UH Hleft.out Hal.out (fun l h=>h.1)⟩⟩
   rw [Hal.out]
   exact jI Hown.out Hb0.out.size
theorem RQ (g p count:Nat) (s rest:List UInt8) (w:World) (hs:s.length≤maxLen) (hc:count≤60) (hp:qp w p s rest) :
  Calls Tryz.prog 197 #[txtC g,.pointer (some ⟨p,0,none⟩),.int .i64 (count:Int)] w (QS 9 Ji (fun l=>l.length=count∧∀ c ∈ l,okT c) (Zl XV xb) p s rest w):=by
 obtain ⟨i0,hi,hz0,hz1,hz2⟩:=info_parts Tryz.infoStr
 have Hs:=hid hs
 have Hp:=hid hp
 have hplt:=xh hp
 clear hs hp
 go_enter Tryz.func197,Tryz.ntmps197
 go_wp2
 obtain ⟨hb0,hs0,hc0⟩:=zx w #[.slice (some ⟨g,0,none⟩) 3 3,fnV 202,fnV 203,fnV 204,fnV 205,fnV 206,fnV 207] 225
 have hc1:_=some (fnV 205):=hc0 4
 have Hc:=hid hc1
 have Hp0:=hid (qy Hp.out hb0 hplt)
 have Hb0:=hid hb0
 have hs1:=Nat.lt_of_lt_of_eq (Nat.lt_succ_self w.heap.size) hs0.symm
 have hplt0:=Nat.lt_of_lt_of_le hplt hb0.size
 clear hc0 hc1 hb0 hs0
 generalize w.alloc _=w0 at *
 go_loopw [7,9] (fun v i wr=>∃ (k:Nat) (acc:List CellB) (r:List UInt8),k≤count∧i=.int .i64 (k:Int)∧acc.length=k∧(∀ c ∈ acc,okT c)∧wr.ownsRow w0.heap.size 9 1 v k (Ji acc)∧qp wr p s r∧w0.grownBy wr (some p)∧YV XV (fun l=>l.length=count∧∀ c ∈ l,okT c) rest acc r)
  (fun _ i _=>count - (intOf i).toNat)
 case atStart=>exact ⟨0,[],rest,Nat.zero_le _,rfl,rfl,(fun c h=>zy h),World.ownsRow_nil _ _ _ _,Hp0.out,jK _ _,ZR _ _ _⟩
 case round =>
  obtain ⟨k,acc,r,hkc,rfl,hal,hok,hown,hrd,hg,hleft⟩:=hrel
  have Hal:=hid hal
  have Hok:=hid hok
  have Hleft:=hid hleft
  have Hg:=hid hg
  have Hah:Hid ((zt xb acc).text.length≤12):=Ns hok
  clear hal hok hleft
  by_cases hlt:k < count
  ·have hcf:=(hg.cell_far ⟨w.heap.size,4,none⟩ hs1 (by intro h;simp at h;omega)).trans Hc.out
   clear hg
   go_wp2_with fail
   refine (YI p s r _ Hs.out hrd).mono ?_
   rintro e w2 ⟨hg2,⟨rfl,hno⟩|⟨x,r2,hx,rfl,hrd2,hu⟩⟩
   ·go_wp2
    refine ⟨rfl,jd (jw (jK w _) Hb0.out) (jd Hg.out hg2),.inl ⟨rfl,fun l2 q hl2 h=>?_⟩⟩
    obtain ⟨c,l4,hc4,h4⟩:=ZB Hleft.out Hal.out hlt (fun l h=>h.1) l2 q hl2 h
    exact hno c.text _ ((hl2.2 c (hc4 ▸ by simp)).2.2) h4
   ·have Hu:=hid hu
    have Hx:=hid hx
    have hown2:=zw hown hplt0 hg2
    have hG2:=jd Hg.out hg2
    clear hown hrd hu hcf hg2 hx
    go_wp2_with (at_builtin;refine wpList_append_own _ rfl (.tmp 11) (.tmp 16) 71 rfl w0.heap.size 9 i0 (.string ⟨#[]⟩) 1 16 Tryz.underlying71 hi hz0 hz1 hz2 rfl (by decide) _ _ _ rfl (hown2.alloc _) ⟨_,0,none⟩ 1 1 [strB x] rfl rfl ?c1 ?c2 ?c3 ?c4 ?c5 ?_)
    case c1=>exact qx w2 #[strB x] 9
    case c2=>intro u hu;simp at hu;subst hu;rfl
    case c3=>unfold maxLen;omega
    case c4=>omega
    case c5=>have:=hG2.size;simp;omega
    intro v3 w3 hown3 hgr3 _
    have HR:=hid (Xk hrd2 hplt0 hG2 hown2 hgr3)
    have HO3:=hid hown3
    clear hown2 hown3 hgr3 hG2 hrd2
    go_wp2
    go_roundw
    case rel=>exact ⟨k+1,acc++[⟨false,0,x⟩],r2,by omega,by go_num,by simp [Hal.out],fun c hc=>(List.mem_append.1 hc).elim (Hok.out c) (fun h=>by simp only [List.mem_cons,List.not_mem_nil,or_false] at h;subst h;exact ⟨rfl,rfl,Hx.out⟩),by rw [show Ji (acc++[⟨false,0,x⟩])=Ji acc++[strB x] by simp [Ji,xT,Xv]];exact HO3.out,HR.out.1,HR.out.2,KO Hleft.out Hal.out hlt (fun l h=>h.1) (fun c q hc h=>by
     obtain ⟨e1,e2⟩:=Hu.out c.text q hc.2.2 h
     refine ⟨?_,e2⟩
     obtain ⟨cn,ci,ct⟩:=c
     obtain ⟨o1,o2,o3⟩:=hc
     simp only at o1 o2 e1
     subst o1 o2 e1
     rfl) (fun l h=>h.2)⟩
    case measure=>simp [intOf];omega
  ·have hke:k=count:=by omega
   subst hke
   have Hown:=hid hown
   have Hrd:=hid hrd
   clear hg hown hrd
   go_wp2
   go_ret
   refine ⟨jd (jw (jK w _) Hb0.out) Hg.out,.inr ⟨acc,r,_,⟨Hal.out,Hok.out⟩,rfl,?_,Hrd.out,UH Hleft.out Hal.out (fun l h=>h.1)⟩⟩
   rw [Hal.out]
   exact jI Hown.out Hb0.out.size
theorem AK (g p count:Nat) (s rest:List UInt8) (w:World) (hs:s.length≤maxLen) (hc:count≤60) (hp:qp w p s rest) :
  Calls Tryz.prog 184 #[numC g,.pointer (some ⟨p,0,none⟩),.int .i64 (count:Int)] w (QS 3 Qx (fun l=>l.length=count∧∀ c ∈ l,okI c) (Zl Gn xb) p s rest w):=by
 obtain ⟨i0,hi,hz0,hz1,hz2⟩:=info_parts Tryz.infoInt
 have Hs:=hid hs
 have Hp:=hid hp
 have hplt:=xh hp
 clear hs hp
 go_enter Tryz.func184,Tryz.ntmps184
 go_wp2
 obtain ⟨hb0,hs0,hc0⟩:=zx w #[.slice (some ⟨g,0,none⟩) 3 3,fnV 187,fnV 188,fnV 189,fnV 190,fnV 191,fnV 192] 215
 have hc1:_=some (fnV 192):=hc0 6
 have Hc:=hid hc1
 have Hp0:=hid (qy Hp.out hb0 hplt)
 have Hb0:=hid hb0
 have hs1:=Nat.lt_of_lt_of_eq (Nat.lt_succ_self w.heap.size) hs0.symm
 have hplt0:=Nat.lt_of_lt_of_le hplt hb0.size
 clear hc0 hc1 hb0 hs0
 generalize w.alloc _=w0 at *
 go_loopw [7,8,10] (fun v u i wr=>∃ (k:Nat) (acc:List CellB) (r:List UInt8),k≤count∧i=.int .i64 (k:Int)∧u=.int .i64 (zt xb acc).int∧acc.length=k∧(∀ c ∈ acc,okI c)∧wr.ownsRow w0.heap.size 3 1 v k (Qx acc)∧qp wr p s r∧w0.grownBy wr (some p)∧YV Gn (fun l=>l.length=count∧∀ c ∈ l,okI c) rest acc r)
  (fun _ _ i _=>count - (intOf i).toNat)
 case atStart=>exact ⟨0,[],rest,Nat.zero_le _,rfl,rfl,rfl,(fun c h=>zy h),World.ownsRow_nil _ _ _ _,Hp0.out,jK _ _,ZR _ _ _⟩
 case round =>
  obtain ⟨k,acc,r,hkc,rfl,rfl,hal,hok,hown,hrd,hg,hleft⟩:=hrel
  have Hal:=hid hal
  have Hok:=hid hok
  have Hleft:=hid hleft
  have Hg:=hid hg
  have Hah:Hid (inI (zt xb acc).int):=Ep hok
  clear hal hok hleft
  by_cases hlt:k < count
  ·have hcf:=(hg.cell_far ⟨w.heap.size,6,none⟩ hs1 (by intro h;simp at h;omega)).trans Hc.out
   clear hg
   go_wp2_with fail
   refine (Kg p s r (zt xb acc).int _ Hs.out (Hah.out) hrd).mono ?_
   rintro e w2 ⟨hg2,⟨rfl,hno⟩|⟨x,r2,hx,rfl,hrd2,hu⟩⟩
   ·go_wp2
    refine ⟨rfl,jd (jw (jK w _) Hb0.out) (jd Hg.out hg2),.inl ⟨rfl,fun l2 q hl2 h=>?_⟩⟩
    obtain ⟨c,l4,hc4,h4⟩:=ZB Hleft.out Hal.out hlt (fun l h=>h.1) l2 q hl2 h
    exact hno c.int _ ((hl2.2 c (hc4 ▸ by simp)).2.2) h4
   ·have Hu:=hid hu
    have Hx:=hid hx
    have hown2:=zw hown hplt0 hg2
    have hG2:=jd Hg.out hg2
    clear hown hrd hu hcf hg2 hx
    go_wp2_with (at_builtin;refine wpList_append_own _ rfl (.tmp 17) (.tmp 19) 82 rfl w0.heap.size 3 i0 (.int .i64 0) 1 8 Tryz.underlying82 hi hz0 hz1 hz2 rfl (by decide) _ _ _ rfl (hown2.alloc _) ⟨_,0,none⟩ 1 1 [.int .i64 x] rfl rfl ?c1 ?c2 ?c3 ?c4 ?c5 ?_)
    case c1=>exact qx w2 #[.int .i64 x] 3
    case c2=>intro u hu;simp at hu;subst hu;rfl
    case c3=>unfold maxLen;omega
    case c4=>omega
    case c5=>have:=hG2.size;simp;omega
    intro v3 w3 hown3 hgr3 _
    have HR:=hid (Xk hrd2 hplt0 hG2 hown2 hgr3)
    have HO3:=hid hown3
    clear hown2 hown3 hgr3 hG2 hrd2
    go_wp2
    go_roundw
    case rel=>exact ⟨k+1,acc++[⟨false,x,[]⟩],r2,by omega,by go_num,by rw [XX],by simp [Hal.out],fun c hc=>(List.mem_append.1 hc).elim (Hok.out c) (fun h=>by simp only [List.mem_cons,List.not_mem_nil,or_false] at h;subst h;exact ⟨rfl,rfl,Hx.out⟩),by rw [show Qx (acc++[⟨false,x,[]⟩])=Qx acc++[.int .i64 x] by simp [Qx]];exact HO3.out,HR.out.1,HR.out.2,KO Hleft.out Hal.out hlt (fun l h=>h.1) (fun c q hc h=>by
     obtain ⟨e1,e2⟩:=Hu.out c.int q hc.2.2 h
     refine ⟨?_,e2⟩
     obtain ⟨cn,ci,ct⟩:=c
     obtain ⟨o1,o2,o3⟩:=hc
     simp only at o1 o2 e1
     subst o1 o2 e1
     rfl) (fun l h=>h.2)⟩
    case measure=>simp [intOf];omega
  ·have hke:k=count:=by omega
   subst hke
   have Hown:=hid hown
   have Hrd:=hid hrd
   clear hg hown hrd
   go_wp2
   go_ret
   refine ⟨jd (jw (jK w _) Hb0.out) Hg.out,.inr ⟨acc,r,_,⟨Hal.out,Hok.out⟩,rfl,?_,Hrd.out,UH Hleft.out Hal.out (fun l h=>h.1)⟩⟩
   rw [Hal.out]
   exact jI Hown.out Hb0.out.size
theorem Di (g p count:Nat) (s rest:List UInt8) (w:World) (hs:s.length≤maxLen) (hc:count≤60) (hp:qp w p s rest) :
  Calls Tryz.prog 201 #[txtC g,.pointer (some ⟨p,0,none⟩),.int .i64 (count:Int)] w (QS 9 Ji (fun l=>l.length=count∧∀ c ∈ l,okT c) (Zl KK xb) p s rest w):=by
 obtain ⟨i0,hi,hz0,hz1,hz2⟩:=info_parts Tryz.infoStr
 have Hs:=hid hs
 have Hp:=hid hp
 have hplt:=xh hp
 clear hs hp
 go_enter Tryz.func201,Tryz.ntmps201
 go_wp2
 obtain ⟨hb0,hs0,hc0⟩:=zx w #[.slice (some ⟨g,0,none⟩) 3 3,fnV 202,fnV 203,fnV 204,fnV 205,fnV 206,fnV 207] 225
 have hc1:_=some (fnV 207):=hc0 6
 have Hc:=hid hc1
 have Hp0:=hid (qy Hp.out hb0 hplt)
 have Hb0:=hid hb0
 have hs1:=Nat.lt_of_lt_of_eq (Nat.lt_succ_self w.heap.size) hs0.symm
 have hplt0:=Nat.lt_of_lt_of_le hplt hb0.size
 clear hc0 hc1 hb0 hs0
 generalize w.alloc _=w0 at *
 go_loopw [7,8,10] (fun v u i wr=>∃ (k:Nat) (acc:List CellB) (r:List UInt8),k≤count∧i=.int .i64 (k:Int)∧u=strB (zt xb acc).text∧acc.length=k∧(∀ c ∈ acc,okT c)∧wr.ownsRow w0.heap.size 9 1 v k (Ji acc)∧qp wr p s r∧w0.grownBy wr (some p)∧YV KK (fun l=>l.length=count∧∀ c ∈ l,okT c) rest acc r)
  (fun _ _ i _=>count - (intOf i).toNat)
 case atStart=>exact ⟨0,[],rest,Nat.zero_le _,rfl,rfl,rfl,(fun c h=>zy h),World.ownsRow_nil _ _ _ _,Hp0.out,jK _ _,ZR _ _ _⟩
 case round =>
  obtain ⟨k,acc,r,hkc,rfl,rfl,hal,hok,hown,hrd,hg,hleft⟩:=hrel
  have Hal:=hid hal
  have Hok:=hid hok
  have Hleft:=hid hleft
  have Hg:=hid hg
  have Hah:Hid ((zt xb acc).text.length≤12):=Ns hok
  clear hal hok hleft
  by_cases hlt:k < count
  ·have hcf:=(hg.cell_far ⟨w.heap.size,6,none⟩ hs1 (by intro h;simp at h;omega)).trans Hc.out
   clear hg
   go_wp2_with fail
   refine (Vf p s r (zt xb acc).text _ Hs.out (Hah.out) hrd).mono ?_
   rintro e w2 ⟨hg2,⟨rfl,hno⟩|⟨x,r2,hx,rfl,hrd2,hu⟩⟩
   ·go_wp2
    refine ⟨rfl,jd (jw (jK w _) Hb0.out) (jd Hg.out hg2),.inl ⟨rfl,fun l2 q hl2 h=>?_⟩⟩
    obtain ⟨c,l4,hc4,h4⟩:=ZB Hleft.out Hal.out hlt (fun l h=>h.1) l2 q hl2 h
    exact hno c.text _ ((hl2.2 c (hc4 ▸ by simp)).2.2) h4
   ·have Hu:=hid hu
    have Hx:=hid hx
    have hown2:=zw hown hplt0 hg2
    have hG2:=jd Hg.out hg2
    clear hown hrd hu hcf hg2 hx
    go_wp2_with (at_builtin;refine wpList_append_own _ rfl (.tmp 17) (.tmp 19) 71 rfl w0.heap.size 9 i0 (.string ⟨#[]⟩) 1 16 Tryz.underlying71 hi hz0 hz1 hz2 rfl (by decide) _ _ _ rfl (hown2.alloc _) ⟨_,0,none⟩ 1 1 [strB x] rfl rfl ?c1 ?c2 ?c3 ?c4 ?c5 ?_)
    case c1=>exact qx w2 #[strB x] 9
    case c2=>intro u hu;simp at hu;subst hu;rfl
    case c3=>unfold maxLen;omega
    case c4=>omega
    case c5=>have:=hG2.size;simp;omega
    intro v3 w3 hown3 hgr3 _
    have HR:=hid (Xk hrd2 hplt0 hG2 hown2 hgr3)
    have HO3:=hid hown3
    clear hown2 hown3 hgr3 hG2 hrd2
    go_wp2
    go_roundw
    case rel=>exact ⟨k+1,acc++[⟨false,0,x⟩],r2,by omega,by go_num,by rw [XX],by simp [Hal.out],fun c hc=>(List.mem_append.1 hc).elim (Hok.out c) (fun h=>by simp only [List.mem_cons,List.not_mem_nil,or_false] at h;subst h;exact ⟨rfl,rfl,Hx.out⟩),by rw [show Ji (acc++[⟨false,0,x⟩])=Ji acc++[strB x] by simp [Ji,xT,Xv]];exact HO3.out,HR.out.1,HR.out.2,KO Hleft.out Hal.out hlt (fun l h=>h.1) (fun c q hc h=>by
     obtain ⟨e1,e2⟩:=Hu.out c.text q hc.2.2 h
     refine ⟨?_,e2⟩
     obtain ⟨cn,ci,ct⟩:=c
     obtain ⟨o1,o2,o3⟩:=hc
     simp only at o1 o2 e1
     subst o1 o2 e1
     rfl) (fun l h=>h.2)⟩
    case measure=>simp [intOf];omega
  ·have hke:k=count:=by omega
   subst hke
   have Hown:=hid hown
   have Hrd:=hid hrd
   clear hg hown hrd
   go_wp2
   go_ret
   refine ⟨jd (jw (jK w _) Hb0.out) Hg.out,.inr ⟨acc,r,_,⟨Hal.out,Hok.out⟩,rfl,?_,Hrd.out,UH Hleft.out Hal.out (fun l h=>h.1)⟩⟩
   rw [Hal.out]
   exact jI Hown.out Hb0.out.size
end
end Go.Proofs.YthhpbhpfagoapaaGreat
