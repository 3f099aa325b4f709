import Derived.Test.YthhpbhpfagoapabGreatRTk
import Derived.Test.YthhpbhpfagoapabGreatJAD
import Derived.Laws.CopyOwn
import Derived.Deep.RegionLaw
import Derived.Deep.LoopGhost
namespace Go.Proofs.YthhpbhpfagoapabGreat
set_option linter.unusedVariables false
set_option linter.unusedSimpArgs false
set_option maxRecDepth 100000
set_option maxHeartbeats 16000000
open Go.RowKit
section
def leN:List UInt8→Nat
 | []=>0
 | c :: l=>c.toNat+256*leN l
theorem LF (l:List UInt8):leN l < 256 ^ l.length:=by
 induction l with
 | nil=>simp [leN]
 | cons c l ih =>
  have:=c.toNat_lt
  simp only [leN,List.length_cons,Nat.pow_succ]
  omega
theorem SU (l:List UInt8) (c:UInt8):leN (l++[c])=leN l+256 ^ l.length*c.toNat:=by
 induction l with
 | nil=>simp [leN]
 | cons d l ih =>
  simp only [List.cons_append,leN,ih,List.length_cons,Nat.pow_succ]
  rw [Nat.mul_add,Nat.mul_comm (256 ^ l.length) 256,Nat.mul_assoc]
  omega
theorem Bx (l:List UInt8) (h:l.length≤8):Cm l=leN l:=by
 induction l with
 | nil=>rfl
 | cons c l ih =>
  have h1:=LF l
  have h2:=c.toNat_lt
  simp only [List.length_cons] at h
  have h3:256 ^ l.length≤256 ^ 7:=Nat.pow_le_pow_right (by decide) (by omega)
  have h4:256 ^ 7=72057594037927936:=by decide
  simp only [Cm,leN,ih (by omega)]
  omega
theorem Ig (k:Nat):256 ^ k=2 ^ (8*k):=by rw [show 256=2 ^ 8 from rfl,← Nat.pow_mul]
theorem FU (acc c k:Nat) (hacc:acc < 256 ^ k) (hk:k≤7) (hc:c < 256) :
  bits .or .u64 (acc:Int) (IntKind.u64.wrap ((c:Int)*2 ^ (8*k)))=((acc+256 ^ k*c:Nat):Int):=by
 have h3:256 ^ k≤256 ^ 7:=Nat.pow_le_pow_right (by decide) hk
 have h4:256 ^ 7=72057594037927936:=by decide
 have hx:256 ^ k*c≤72057594037927936*255:=Nat.mul_le_mul (by omega) (by omega)
 have hw:IntKind.u64.wrap ((c:Int)*2 ^ (8*k))=((2 ^ (8*k)*c:Nat):Int):=by
  rw [IntKind.wrap_u64]
  have e:((c:Int)*2 ^ (8*k))=((2 ^ (8*k)*c:Nat):Int):=by
   rw [Int.mul_comm];simp
  rw [e]
  rw [Ig] at hx
  generalize 2 ^ (8*k)*c=q at *
  omega
 rw [hw,u64_or_nat _ _ (by omega) (by rw [← Ig];omega),Ig]
 rw [Ig] at hacc
 rw [Nat.or_comm,← Nat.two_pow_add_eq_or_of_lt hacc]
 congr 1
 omega
theorem FY (b:Int) (hb:inI b):wrap64 (leN (bB b):Int)=b:=by
 have h:=BZ b [] hb.1 hb.2
 have hl:=Kl b
 unfold bR at h
 rw [List.append_nil] at h
 have ht:xU 8 (some (bB b))=(bB b,some []):=by
  rw [UG (by omega) (by omega)]
  simp [List.take_of_length_le,List.drop_of_length_le,hl]
 rw [ht] at h
 simp only [Prod.mk.injEq] at h
 rw [← Bx (bB b) (by omega)]
 exact h.1
theorem DP (p:Nat) (s rest:List UInt8) (w:World) (hs:s.length≤maxLen) (hp:qy w p s rest) :
  Calls Tryz.prog 154 #[.pointer (some ⟨p,0,none⟩)] w (GQ inI bB (fun v=>.int .i64 v) p s rest w):=by
 have Hs:=hid hs
 have Hp:=hid hp
 clear hs hp
 go_enter Tryz.func154,Tryz.ntmps154
 go_wp2
 go_loopw [3,5] (fun n i wr=>∃ (k:Nat) (cs r:List UInt8),k≤8∧i=.int .i64 (k:Int)∧cs.length=k∧rest=cs++r∧n=.int .u64 (leN cs:Int)∧qy wr p s r∧w.grownBy wr (some p)) (fun _ i _=>8 - (intOf i).toNat)
 case atStart=>exact ⟨0,[],rest,by omega,rfl,rfl,rfl,rfl,Hp.out,jU _ _⟩
 case round =>
  obtain ⟨k,cs,r,hk,rfl,hcs,hrest,rfl,hrd,hg⟩:=hrel
  have Hcs:=hid hcs
  have Hrest:=hid hrest
  have Hg:=hid hg
  have hle:=LF cs
  rw [hcs] at hle
  clear hcs hrest hg
  by_cases hk8:k < 8
  ·go_wp2_with fail
   refine (Zg p s r _ Hs.out hrd).mono ?_
   rintro e w2 ⟨hg2,⟨rfl,rfl⟩|⟨c,r2,rfl,rfl,hrd2⟩⟩
   ·go_wp2
    refine ⟨rfl,jg Hg.out hg2,.inl ⟨rfl,fun a q ha h=>?_⟩⟩
    have h1:=congrArg List.length (Hrest.out.symm.trans h)
    have h2:=Kl a
    have h3:=Hcs.out
    simp only [List.length_append,List.length_nil] at h1
    omega
   ·have hct:=c.toNat_lt
    have ho:=FU (leN cs) c.toNat k hle (by omega) (by omega)
    have HG2:=hid (jg Hg.out hg2)
    have Hrd2:=hid hrd2
    have HSN:Hid (leN (cs++[c])=leN cs+256 ^ k*c.toNat):=by
     show _=_
     rw [SU,Hcs.out]
    clear hrd hrd2 hg2
    generalize leN cs=acc at *
    go_wp2_with fail
    go_roundw
    case rel=>exact ⟨k+1,cs++[c],r2,by omega,by go_num,by simp [Hcs.out],by rw [Hrest.out];simp,by simp [HSN.out],Hrd2.out,HG2.out⟩
    case measure=>simp [intOf];omega
  ·have hk9:k=8:=by omega
   subst hk9
   have hle2:leN cs < 18446744073709551616:=Nat.lt_of_lt_of_le hle (by decide)
   have Hrd:=hid hrd
   clear hrd hle
   go_wp2
   go_ret
   refine ⟨Hg.out,.inr ⟨wrap64 (leN cs:Int),r,Ny _,rfl,Hrd.out,fun b q hb h=>?_⟩⟩
   have h1:=Hrest.out.symm.trans h
   have h2:=List.append_inj h1 (by rw [Hcs.out,Kl])
   rw [h2.1,FY b hb]
   exact ⟨rfl,h2.2.symm⟩
theorem CT (s:List UInt8) (b:Nat):(⟨s.toArray⟩:ByteArray).extract 0 b=⟨(s.take b).toArray⟩:=by
 rw [KO];simp
def Rr (a t:List UInt8):List UInt8:=uB (jT a t)++xB (t.drop (jT a t))
theorem AJ (a t:List UInt8):a.take (jT a t)=t.take (jT a t):=by
 induction a generalizing t with
 | nil=>simp [jT]
 | cons x a ih =>
  cases t with
  | nil=>simp [jT]
  | cons y t =>
   simp only [jT]
   by_cases h:x=y
   ·rw [if_pos h,List.take_succ_cons,List.take_succ_cons,ih t,h]
   ·simp [h]
theorem Gh (p:Nat) (s rest a:List UInt8) (w:World) (hs:s.length≤maxLen) (ha:a.length≤12) (hp:qy w p s rest) :
  Calls Tryz.prog 169 #[.pointer (some ⟨p,0,none⟩),strB a] w (GQ (fun t:List UInt8=>t.length≤12) (Rr a) strB p s rest w):=by
 have Hs:=hid hs
 have Hp:=hid hp
 have hz:=jM a
 clear hs hp
 go_enter Tryz.func169,Tryz.ntmps169
 go_wp2_with fail
 refine (Kz p s rest a.length _ Hs.out (by omega) Hp.out).mono ?_
 rintro e w1 ⟨hg,⟨rfl,hno⟩|⟨n,r,hn,rfl,hrd,hu⟩⟩
 ·go_wp2
  refine ⟨rfl,hg,.inl ⟨rfl,fun t q ht h=>hno (jT a t) (xB (t.drop (jT a t))++q) (JB a t).1 (by rw [h,Rr,List.append_assoc])⟩⟩
 ·have Hu:=hid hu
  have Hrd:=hid hrd
  clear hu hrd
  have hn1:n≤a.length:=hn
  have hi0:(0:Int)≤(n:Int):=by omega
  have hi1:(n:Int)≤(a.length:Int):=by omega
  have hst:=CT a n
  have hsub:IntKind.i64.wrap ((12:Int) - (n:Int))=((12 - n:Nat):Int):=by rw [IntKind.wrap_i64];omega
  have HL:Hid ((a.take n).length=n):=by show _=_;rw [List.length_take];omega
  generalize hT:a.take n=T at *
  have HT:=hid hT
  clear hT
  go_wp2_with fail
  refine wp_region_held_drew (S:=fun w'=>True) (by kernel_rfl) trivial (fun hHeld=>?_)
  refine tk 0 (strB a) ?_
  refine tk 1 (.int .i64 (n:Int)) ?_
  refine tk 2 (strB T) ?_
  refine tk 3 (.pointer (some ⟨p,0,none⟩)) ?_
  refine tk 4 (.int .i64 (n:Int)) ?_
  refine tk 5 (.int .i64 ((12 - n:Nat):Int)) ?_
  simp only [jA,jB,jC,Act.put,jD,jE,jF]
  refine rd 6 (fun K hK=>?_)
  simp only [jA,jB,jC]
  go_simp
  go_at_call 172
  refine (YX p s r (12 - n) _ Hs.out (by omega) (show qy w1.drew p s r from Hrd.out)).mono ?_
  rintro e w2 ⟨hg2,⟨rfl,hno⟩|⟨t,r2,ht,rfl,hrd2,hu2⟩⟩
  ·have hg3:=jg hg (jP hg2)
   refine ⟨rfl,hg3,.inl ⟨rfl,fun u q hu h=>?_⟩⟩
   obtain ⟨h1,h2⟩:=Hu.out (jT a u) (xB (u.drop (jT a u))++q) (JB a u).1 (by rw [h,Rr,List.append_assoc])
   subst h1
   exact hno (u.drop (jT a u)) q (by show _≤_;rw [List.length_drop];have:u.length≤12:=hu;omega) h2.symm
  ·have hg3:=jg hg (jP hg2)
   have HG3:=hid hg3
   have Hrd2:=hid hrd2
   have Hu2:=hid hu2
   have ht1:t.length≤12 - n:=ht
   have hplt:=xF hrd2
   clear hg2 hg3 hrd2 hu2
   try go_wp2_with fail
   refine hK.out _ _ trivial (fun hHeld=>?_)
   clear hK K
   try simp only [jA,jB,jC,Act.put,jD,jE,jF]
   refine rd 7 (fun K hK=>?_)
   simp only [jA,jB,jC]
   go_simp
   try go_wp2_with fail
   refine hK.out _ _ trivial (fun hHeld=>?_)
   clear hK K
   try simp only [jA,jB,jC,Act.put,jD,jE,jF]
   refine rd 8 (fun K hK=>?_)
   simp only [jA,jB,jC]
   go_simp
   go_at_call 93
   refine (AW [T,t] #[strB T,strB t] 2 _ _ (heap_alloc_new w2 _) rfl rfl (by decide) (by have:=HL.out;simp;omega)).mono ?_
   rintro e w4 ⟨rfl,hb4⟩
   have hb4':Below w2.heap.size w2 w4:=xG hb4
   try go_wp2_with fail
   refine hK.out _ _ trivial (fun hHeld=>?_)
   clear hK K
   try simp only [jA,jB,jC,Act.put,jD,jE,jF]
   refine rd 9 (fun K hK=>?_)
   simp only [jA,jB,jC]
   go_simp
   try go_wp2_with fail
   refine hK.out _ _ trivial (fun hHeld=>?_)
   clear hK K
   try simp only [jA,jB,jC,Act.put,jD,jE,jF]
   refine wpAnyH_done (by kernel_rfl) ?_ _
   have HF:=hid (qJ Hrd2.out hb4' hplt)
   have HG:=hid (jG HG3.out hb4')
   clear hb4 hb4'
   go_wp2
   go_ret
   refine ⟨HG.out,.inr ⟨T++t,r2,?_,xj (by simp),HF.out,fun u q hu h=>?_⟩⟩
   ·show (T++t).length≤12
    rw [List.length_append,HL.out];omega
   ·obtain ⟨h1,h2⟩:=Hu.out (jT a u) (xB (u.drop (jT a u))++q) (JB a u).1 (by rw [h,Rr,List.append_assoc])
    subst h1
    obtain ⟨h3,h4⟩:=Hu2.out (u.drop (jT a u)) q (by show _≤_;rw [List.length_drop];have:u.length≤12:=hu;omega) h2.symm
    refine ⟨?_,h4⟩
    rw [← HT.out,AJ,← h3,List.take_append_drop]
end
section
def okI (c:CellB):Prop:=c.null=false∧c.text=[]∧inI c.int
def okT (c:CellB):Prop:=c.null=false∧c.int=0∧c.text.length≤12
theorem Jc {c:CellB} {q:Prop} (h:c ∈ ([]:List CellB)):q:=by cases h
def ZS (st:CellB→CellB→List UInt8):CellB→List CellB→List UInt8
 | _,[]=>[]
 | a,c :: l=>st a c++ZS st c l
def zS:CellB→List CellB→CellB
 | a,[]=>a
 | _,c :: l=>zS c l
def Nt (_ c:CellB):List UInt8:=bB c.int
def ZA (_ c:CellB):List UInt8:=xB c.text
def Nw (a c:CellB):List UInt8:=zB (wrap64 (c.int - a.int))
def UA (a c:CellB):List UInt8:=Rr a.text c.text
theorem ZL (a:CellB) (l:List CellB) (c:CellB):zS a (l++[c])=c:=by
 induction l generalizing a with
 | nil=>rfl
 | cons d l ih=>exact ih d
theorem Am (st:CellB→CellB→List UInt8) (a:CellB) (l m:List CellB):ZS st a (l++m)=ZS st a l++ZS st (zS a l) m:=by
 induction l generalizing a with
 | nil=>rfl
 | cons d l ih=>simp only [List.cons_append,ZS,zS,ih,List.append_assoc]
theorem DG (a:CellB) (l:List CellB) (h:l≠[]):zS a l ∈ l:=by
 induction l generalizing a with
 | nil=>exact absurd rfl h
 | cons c l ih =>
  cases l with
  | nil=>simp [zS]
  | cons d l=>exact List.mem_cons_of_mem _ (ih c (by simp))
theorem Dq {l:List CellB} (h:∀ c ∈ l,okI c):inI (zS xA l).int:=by
 by_cases hl:l=[]
 ·subst hl;exact ⟨by decide,by decide⟩
 ·exact (h _ (DG xA l hl)).2.2
theorem NM {l:List CellB} (h:∀ c ∈ l,okT c):(zS xA l).text.length≤12:=by
 by_cases hl:l=[]
 ·subst hl;decide
 ·exact (h _ (DG xA l hl)).2.2
def Ew (st:CellB→CellB→List UInt8) (dom:List CellB→Prop) (rest:List UInt8) (acc:List CellB) (r:List UInt8):Prop :=
 ∀ l2 q,dom l2→rest=ZS st xA l2++q→∃ l3,l2=acc++l3∧r=ZS st (zS xA acc) l3++q
theorem KM (st:CellB→CellB→List UInt8) (dom:List CellB→Prop) (rest:List UInt8):Ew st dom rest [] rest:=fun l2 q _ h=>⟨l2,rfl,h⟩
theorem Ks {st:CellB→CellB→List UInt8} {dom:List CellB→Prop} {rest r:List UInt8} {acc:List CellB} {k n:Nat} (h:Ew st dom rest acc r) (hk:acc.length=k) (hlt:k < n) (hd:∀ l,dom l→l.length=n) :
  ∀ l2 q,dom l2→rest=ZS st xA l2++q→∃ c l4,l2=acc++c :: l4∧r=st (zS xA acc) c++(ZS st c l4++q):=by
 intro l2 q hl2 h2
 obtain ⟨l3,e1,e2⟩:=h l2 q hl2 h2
 cases l3 with
 | nil =>
  have:=hd l2 hl2
  rw [e1,List.append_nil] at this
  omega
 | cons c l4=>exact ⟨c,l4,e1,by rw [e2,ZS,List.append_assoc]⟩
theorem UI {st:CellB→CellB→List UInt8} {dom:List CellB→Prop} {ok:CellB→Prop} {rest r r2:List UInt8} {acc:List CellB} {k n:Nat} {x:CellB} (h:Ew st dom rest acc r) (hk:acc.length=k) (hlt:k < n) (hd:∀ l,dom l→l.length=n)
  (hu:∀ c q,ok c→r=st (zS xA acc) c++q→c=x∧q=r2) (hok:∀ l,dom l→∀ c ∈ l,ok c):Ew st dom rest (acc++[x]) r2:=by
 intro l2 q hl2 h2
 obtain ⟨c,l4,e1,e2⟩:=Ks h hk hlt hd l2 q hl2 h2
 obtain ⟨rfl,e3⟩:=hu c _ (hok l2 hl2 c (by rw [e1];simp)) e2
 exact ⟨l4,by rw [e1];simp,by rw [← e3,ZL]⟩
theorem VV {st:CellB→CellB→List UInt8} {dom:List CellB→Prop} {rest r:List UInt8} {acc:List CellB} {n:Nat} (h:Ew st dom rest acc r) (hk:acc.length=n) (hd:∀ l,dom l→l.length=n) :
  ∀ l2 q,dom l2→rest=ZS st xA l2++q→l2=acc∧q=r:=by
 intro l2 q hl2 h2
 obtain ⟨l3,e1,e2⟩:=h l2 q hl2 h2
 have:=hd l2 hl2
 rw [e1,List.length_append] at this
 have h3:l3=[]:=List.eq_nil_of_length_eq_zero (by omega)
 subst h3
 exact ⟨by rw [e1,List.append_nil],by rw [e2];rfl⟩
def Xu (ty:TypeId) (row:List CellB→List Value) (dom:List CellB→Prop) (enc:List CellB→List UInt8) (p:Nat) (s rest:List UInt8) (w:World) (e:Ending) (w':World):Prop :=
 w.grownBy w' (some p)∧((e=gaveUp∧∀ l q,dom l→rest≠enc l++q)∨∃ l r v,dom l∧e=.returned v∧w'.ownsRow w.heap.size ty 1 v l.length (row l)∧qy w' p s r∧∀ l2 q,dom l2→rest=enc l2++q→l2=l∧q=r)
theorem XV {w0 w2 w3:World} {p n ty sz:Nat} {s r:List UInt8} {v:Value} {xs:List Value} {o:Obj} (hrd:qy w2 p s r) (hp:p < w0.heap.size) (hG:w0.grownBy w2 (some p)) (hown:w2.ownsRow w0.heap.size ty sz v n xs)
  (hgr:(w2.alloc o).grownBy w3 v.ownBlock):qy w3 p s r∧w0.grownBy w3 (some p):=by
 have hlt:=xF hrd
 have hne:some p≠v.ownBlock:=by
  intro h
  have:=(hown.lt p h.symm).1
  omega
 obtain ⟨at_,h1,h2,h3⟩:=hrd
 refine ⟨⟨at_,?_,h2,h3⟩,JQ (Us hG o) hgr (fun k hk=>(hown.lt k hk).1)⟩
 rw [hgr.block p (by simp;omega) hne]
 rw [← h1]
 exact ((Below.refl w2.heap.size w2).alloc (Nat.le_refl _) o).block p hlt
theorem Sm (g p count:Nat) (s rest:List UInt8) (w:World) (hs:s.length≤maxLen) (hc:count≤60) (hp:qy w p s rest) :
  Calls Tryz.prog 146 #[numC g,.pointer (some ⟨p,0,none⟩),.int .i64 (count:Int)] w (Xu 3 Xe (fun l=>l.length=count∧∀ c ∈ l,okI c) (ZS Nt xA) p s rest w):=by
 obtain ⟨i0,hi,hz0,hz1,hz2⟩:=info_parts Tryz.infoInt
 have Hs:=hid hs
 have Hp:=hid hp
 have hplt:=xF hp
 clear hs hp
 go_enter Tryz.func146,Tryz.ntmps146
 go_wp2
 obtain ⟨hb0,hs0,hc0⟩:=Ja w #[.slice (some ⟨g,0,none⟩) 3 3,fnV 151,fnV 152,fnV 153,fnV 154,fnV 155,fnV 156] 205
 have hc1:_=some (fnV 154):=hc0 4
 have Hc:=hid hc1
 have Hp0:=hid (qJ Hp.out hb0 hplt)
 have Hb0:=hid hb0
 have hs1:=Nat.lt_of_lt_of_eq (Nat.lt_succ_self w.heap.size) hs0.symm
 have hplt0:=Nat.lt_of_lt_of_le hplt hb0.size
 clear hc0 hc1 hb0 hs0
 generalize w.alloc _=w0 at *
 go_loopw [7,9] (fun v i wr=>∃ (k:Nat) (acc:List CellB) (r:List UInt8),k≤count∧i=.int .i64 (k:Int)∧acc.length=k∧(∀ c ∈ acc,okI c)∧wr.ownsRow w0.heap.size 3 1 v k (Xe acc)∧qy wr p s r∧w0.grownBy wr (some p)∧Ew Nt (fun l=>l.length=count∧∀ c ∈ l,okI c) rest acc r)
  (fun _ i _=>count - (intOf i).toNat)
 case atStart=>exact ⟨0,[],rest,Nat.zero_le _,rfl,rfl,(fun c h=>Jc h),World.ownsRow_nil _ _ _ _,Hp0.out,jU _ _,KM _ _ _⟩
 case round =>
  obtain ⟨k,acc,r,hkc,rfl,hal,hok,hown,hrd,hg,hleft⟩:=hrel
  have Hal:=hid hal
  have Hok:=hid hok
  have Hleft:=hid hleft
  have Hg:=hid hg
  have Hah:Hid (inI (zS xA acc).int):=Dq hok
  clear hal hok hleft
  by_cases hlt:k < count
  ·have hcf:=(hg.cell_far ⟨w.heap.size,4,none⟩ hs1 (by intro h;simp at h;omega)).trans Hc.out
   clear hg
   go_wp2_with fail
   refine (DP p s r _ Hs.out hrd).mono ?_
   rintro e w2 ⟨hg2,⟨rfl,hno⟩|⟨x,r2,hx,rfl,hrd2,hu⟩⟩
   ·go_wp2
    refine ⟨rfl,jg (jG (jU w _) Hb0.out) (jg Hg.out hg2),.inl ⟨rfl,fun l2 q hl2 h=>?_⟩⟩
    obtain ⟨c,l4,hc4,h4⟩:=Ks Hleft.out Hal.out hlt (fun l h=>h.1) l2 q hl2 h
    exact hno c.int _ ((hl2.2 c (hc4 ▸ by simp)).2.2) h4
   ·have Hu:=hid hu
    have Hx:=hid hx
    have hown2:=zT hown hplt0 hg2
    have hG2:=jg Hg.out hg2
    clear hown hrd hu hcf hg2 hx
    go_wp2_with (at_builtin;refine wpList_append_own _ rfl (.tmp 11) (.tmp 16) 22 rfl w0.heap.size 3 i0 (.int .i64 0) 1 8 Tryz.underlying22 hi hz0 hz1 hz2 rfl (by decide) _ _ _ rfl (hown2.alloc _) ⟨_,0,none⟩ 1 1 [.int .i64 x] rfl rfl ?c1 ?c2 ?c3 ?c4 ?c5 ?_)
    case c1=>exact qE w2 #[.int .i64 x] 3
    case c2=>intro u hu;simp at hu;subst hu;rfl
    case c3=>unfold maxLen;omega
    case c4=>omega
    case c5=>have:=hG2.size;simp;omega
    intro v3 w3 hown3 hgr3 _
    have HR:=hid (XV hrd2 hplt0 hG2 hown2 hgr3)
    have HO3:=hid hown3
    clear hown2 hown3 hgr3 hG2 hrd2
    go_wp2
    go_roundw
    case rel=>exact ⟨k+1,acc++[⟨false,x,[]⟩],r2,by omega,by go_num,by simp [Hal.out],fun c hc=>(List.mem_append.1 hc).elim (Hok.out c) (fun h=>by simp only [List.mem_cons,List.not_mem_nil,or_false] at h;subst h;exact ⟨rfl,rfl,Hx.out⟩),by rw [show Xe (acc++[⟨false,x,[]⟩])=Xe acc++[.int .i64 x] by simp [Xe]];exact HO3.out,HR.out.1,HR.out.2,UI Hleft.out Hal.out hlt (fun l h=>h.1) (fun c q hc h=>by
     obtain ⟨e1,e2⟩:=Hu.out c.int q hc.2.2 h
     refine ⟨?_,e2⟩
     obtain ⟨cn,ci,ct⟩:=c
     obtain ⟨o1,o2,o3⟩:=hc
     simp only at o1 o2 e1
     subst o1 o2 e1
     rfl) (fun l h=>h.2)⟩
    case measure=>simp [intOf];omega
  ·have hke:k=count:=by omega
   subst hke
   have Hown:=hid hown
   have Hrd:=hid hrd
   clear hg hown hrd
   go_wp2
   go_ret
   refine ⟨jg (jG (jU w _) Hb0.out) Hg.out,.inr ⟨acc,r,_,⟨Hal.out,Hok.out⟩,rfl,?_,Hrd.out,VV Hleft.out Hal.out (fun l h=>h.1)⟩⟩
   rw [Hal.out]
   exact jS Hown.out Hb0.out.size
theorem Et (g p count:Nat) (s rest:List UInt8) (w:World) (hs:s.length≤maxLen) (hc:count≤60) (hp:qy w p s rest) :
  Calls Tryz.prog 160 #[txtC g,.pointer (some ⟨p,0,none⟩),.int .i64 (count:Int)] w (Xu 9 JI (fun l=>l.length=count∧∀ c ∈ l,okT c) (ZS ZA xA) p s rest w):=by
 obtain ⟨i0,hi,hz0,hz1,hz2⟩:=info_parts Tryz.infoStr
 have Hs:=hid hs
 have Hp:=hid hp
 have hplt:=xF hp
 clear hs hp
 go_enter Tryz.func160,Tryz.ntmps160
 go_wp2
 obtain ⟨hb0,hs0,hc0⟩:=Ja w #[.slice (some ⟨g,0,none⟩) 3 3,fnV 165,fnV 166,fnV 115,fnV 167,fnV 168,fnV 169] 214
 have hc1:_=some (fnV 167):=hc0 4
 have Hc:=hid hc1
 have Hp0:=hid (qJ Hp.out hb0 hplt)
 have Hb0:=hid hb0
 have hs1:=Nat.lt_of_lt_of_eq (Nat.lt_succ_self w.heap.size) hs0.symm
 have hplt0:=Nat.lt_of_lt_of_le hplt hb0.size
 clear hc0 hc1 hb0 hs0
 generalize w.alloc _=w0 at *
 go_loopw [7,9] (fun v i wr=>∃ (k:Nat) (acc:List CellB) (r:List UInt8),k≤count∧i=.int .i64 (k:Int)∧acc.length=k∧(∀ c ∈ acc,okT c)∧wr.ownsRow w0.heap.size 9 1 v k (JI acc)∧qy wr p s r∧w0.grownBy wr (some p)∧Ew ZA (fun l=>l.length=count∧∀ c ∈ l,okT c) rest acc r)
  (fun _ i _=>count - (intOf i).toNat)
 case atStart=>exact ⟨0,[],rest,Nat.zero_le _,rfl,rfl,(fun c h=>Jc h),World.ownsRow_nil _ _ _ _,Hp0.out,jU _ _,KM _ _ _⟩
 case round =>
  obtain ⟨k,acc,r,hkc,rfl,hal,hok,hown,hrd,hg,hleft⟩:=hrel
  have Hal:=hid hal
  have Hok:=hid hok
  have Hleft:=hid hleft
  have Hg:=hid hg
  have Hah:Hid ((zS xA acc).text.length≤12):=NM hok
  clear hal hok hleft
  by_cases hlt:k < count
  ·have hcf:=(hg.cell_far ⟨w.heap.size,4,none⟩ hs1 (by intro h;simp at h;omega)).trans Hc.out
   clear hg
   go_wp2_with fail
   refine (Ih p s r _ Hs.out hrd).mono ?_
   rintro e w2 ⟨hg2,⟨rfl,hno⟩|⟨x,r2,hx,rfl,hrd2,hu⟩⟩
   ·go_wp2
    refine ⟨rfl,jg (jG (jU w _) Hb0.out) (jg Hg.out hg2),.inl ⟨rfl,fun l2 q hl2 h=>?_⟩⟩
    obtain ⟨c,l4,hc4,h4⟩:=Ks Hleft.out Hal.out hlt (fun l h=>h.1) l2 q hl2 h
    exact hno c.text _ ((hl2.2 c (hc4 ▸ by simp)).2.2) h4
   ·have Hu:=hid hu
    have Hx:=hid hx
    have hown2:=zT hown hplt0 hg2
    have hG2:=jg Hg.out hg2
    clear hown hrd hu hcf hg2 hx
    go_wp2_with (at_builtin;refine wpList_append_own _ rfl (.tmp 11) (.tmp 16) 163 rfl w0.heap.size 9 i0 (.string ⟨#[]⟩) 1 16 Tryz.underlying163 hi hz0 hz1 hz2 rfl (by decide) _ _ _ rfl (hown2.alloc _) ⟨_,0,none⟩ 1 1 [strB x] rfl rfl ?c1 ?c2 ?c3 ?c4 ?c5 ?_)
    case c1=>exact qE w2 #[strB x] 9
    case c2=>intro u hu;simp at hu;subst hu;rfl
    case c3=>unfold maxLen;omega
    case c4=>omega
    case c5=>have:=hG2.size;simp;omega
    intro v3 w3 hown3 hgr3 _
    have HR:=hid (XV hrd2 hplt0 hG2 hown2 hgr3)
    have HO3:=hid hown3
    clear hown2 hown3 hgr3 hG2 hrd2
    go_wp2
    go_roundw
    case rel=>exact ⟨k+1,acc++[⟨false,0,x⟩],r2,by omega,by go_num,by simp [Hal.out],fun c hc=>(List.mem_append.1 hc).elim (Hok.out c) (fun h=>by simp only [List.mem_cons,List.not_mem_nil,or_false] at h;subst h;exact ⟨rfl,rfl,Hx.out⟩),by rw [show JI (acc++[⟨false,0,x⟩])=JI acc++[strB x] by simp [JI,zl,Zs]];exact HO3.out,HR.out.1,HR.out.2,UI Hleft.out Hal.out hlt (fun l h=>h.1) (fun c q hc h=>by
     obtain ⟨e1,e2⟩:=Hu.out c.text q hc.2.2 h
     refine ⟨?_,e2⟩
     obtain ⟨cn,ci,ct⟩:=c
     obtain ⟨o1,o2,o3⟩:=hc
     simp only at o1 o2 e1
     subst o1 o2 e1
     rfl) (fun l h=>h.2)⟩
    case measure=>simp [intOf];omega
  ·have hke:k=count:=by omega
   subst hke
   have Hown:=hid hown
   have Hrd:=hid hrd
   clear hg hown hrd
   go_wp2
   go_ret
   refine ⟨jg (jG (jU w _) Hb0.out) Hg.out,.inr ⟨acc,r,_,⟨Hal.out,Hok.out⟩,rfl,?_,Hrd.out,VV Hleft.out Hal.out (fun l h=>h.1)⟩⟩
   rw [Hal.out]
   exact jS Hown.out Hb0.out.size
theorem Ck (g p count:Nat) (s rest:List UInt8) (w:World) (hs:s.length≤maxLen) (hc:count≤60) (hp:qy w p s rest) :
  Calls Tryz.prog 148 #[numC g,.pointer (some ⟨p,0,none⟩),.int .i64 (count:Int)] w (Xu 3 Xe (fun l=>l.length=count∧∀ c ∈ l,okI c) (ZS Nw xA) p s rest w):=by
 obtain ⟨i0,hi,hz0,hz1,hz2⟩:=info_parts Tryz.infoInt
 have Hs:=hid hs
 have Hp:=hid hp
 have hplt:=xF hp
 clear hs hp
 go_enter Tryz.func148,Tryz.ntmps148
 go_wp2
 obtain ⟨hb0,hs0,hc0⟩:=Ja w #[.slice (some ⟨g,0,none⟩) 3 3,fnV 151,fnV 152,fnV 153,fnV 154,fnV 155,fnV 156] 205
 have hc1:_=some (fnV 156):=hc0 6
 have Hc:=hid hc1
 have Hp0:=hid (qJ Hp.out hb0 hplt)
 have Hb0:=hid hb0
 have hs1:=Nat.lt_of_lt_of_eq (Nat.lt_succ_self w.heap.size) hs0.symm
 have hplt0:=Nat.lt_of_lt_of_le hplt hb0.size
 clear hc0 hc1 hb0 hs0
 generalize w.alloc _=w0 at *
 go_loopw [7,8,10] (fun v u i wr=>∃ (k:Nat) (acc:List CellB) (r:List UInt8),k≤count∧i=.int .i64 (k:Int)∧u=.int .i64 (zS xA acc).int∧acc.length=k∧(∀ c ∈ acc,okI c)∧wr.ownsRow w0.heap.size 3 1 v k (Xe acc)∧qy wr p s r∧w0.grownBy wr (some p)∧Ew Nw (fun l=>l.length=count∧∀ c ∈ l,okI c) rest acc r)
  (fun _ _ i _=>count - (intOf i).toNat)
 case atStart=>exact ⟨0,[],rest,Nat.zero_le _,rfl,rfl,rfl,(fun c h=>Jc h),World.ownsRow_nil _ _ _ _,Hp0.out,jU _ _,KM _ _ _⟩
 case round =>
  obtain ⟨k,acc,r,hkc,rfl,rfl,hal,hok,hown,hrd,hg,hleft⟩:=hrel
  have Hal:=hid hal
  have Hok:=hid hok
  have Hleft:=hid hleft
  have Hg:=hid hg
  have Hah:Hid (inI (zS xA acc).int):=Dq hok
  clear hal hok hleft
  by_cases hlt:k < count
  ·have hcf:=(hg.cell_far ⟨w.heap.size,6,none⟩ hs1 (by intro h;simp at h;omega)).trans Hc.out
   clear hg
   go_wp2_with fail
   refine (KY p s r (zS xA acc).int _ Hs.out (Hah.out) hrd).mono ?_
   rintro e w2 ⟨hg2,⟨rfl,hno⟩|⟨x,r2,hx,rfl,hrd2,hu⟩⟩
   ·go_wp2
    refine ⟨rfl,jg (jG (jU w _) Hb0.out) (jg Hg.out hg2),.inl ⟨rfl,fun l2 q hl2 h=>?_⟩⟩
    obtain ⟨c,l4,hc4,h4⟩:=Ks Hleft.out Hal.out hlt (fun l h=>h.1) l2 q hl2 h
    exact hno c.int _ ((hl2.2 c (hc4 ▸ by simp)).2.2) h4
   ·have Hu:=hid hu
    have Hx:=hid hx
    have hown2:=zT hown hplt0 hg2
    have hG2:=jg Hg.out hg2
    clear hown hrd hu hcf hg2 hx
    go_wp2_with (at_builtin;refine wpList_append_own _ rfl (.tmp 17) (.tmp 19) 22 rfl w0.heap.size 3 i0 (.int .i64 0) 1 8 Tryz.underlying22 hi hz0 hz1 hz2 rfl (by decide) _ _ _ rfl (hown2.alloc _) ⟨_,0,none⟩ 1 1 [.int .i64 x] rfl rfl ?c1 ?c2 ?c3 ?c4 ?c5 ?_)
    case c1=>exact qE w2 #[.int .i64 x] 3
    case c2=>intro u hu;simp at hu;subst hu;rfl
    case c3=>unfold maxLen;omega
    case c4=>omega
    case c5=>have:=hG2.size;simp;omega
    intro v3 w3 hown3 hgr3 _
    have HR:=hid (XV hrd2 hplt0 hG2 hown2 hgr3)
    have HO3:=hid hown3
    clear hown2 hown3 hgr3 hG2 hrd2
    go_wp2
    go_roundw
    case rel=>exact ⟨k+1,acc++[⟨false,x,[]⟩],r2,by omega,by go_num,by rw [ZL],by simp [Hal.out],fun c hc=>(List.mem_append.1 hc).elim (Hok.out c) (fun h=>by simp only [List.mem_cons,List.not_mem_nil,or_false] at h;subst h;exact ⟨rfl,rfl,Hx.out⟩),by rw [show Xe (acc++[⟨false,x,[]⟩])=Xe acc++[.int .i64 x] by simp [Xe]];exact HO3.out,HR.out.1,HR.out.2,UI Hleft.out Hal.out hlt (fun l h=>h.1) (fun c q hc h=>by
     obtain ⟨e1,e2⟩:=Hu.out c.int q hc.2.2 h
     refine ⟨?_,e2⟩
     obtain ⟨cn,ci,ct⟩:=c
     obtain ⟨o1,o2,o3⟩:=hc
     simp only at o1 o2 e1
     subst o1 o2 e1
     rfl) (fun l h=>h.2)⟩
    case measure=>simp [intOf];omega
  ·have hke:k=count:=by omega
   subst hke
   have Hown:=hid hown
   have Hrd:=hid hrd
   clear hg hown hrd
   go_wp2
   go_ret
   refine ⟨jg (jG (jU w _) Hb0.out) Hg.out,.inr ⟨acc,r,_,⟨Hal.out,Hok.out⟩,rfl,?_,Hrd.out,VV Hleft.out Hal.out (fun l h=>h.1)⟩⟩
   rw [Hal.out]
   exact jS Hown.out Hb0.out.size
theorem CF (g p count:Nat) (s rest:List UInt8) (w:World) (hs:s.length≤maxLen) (hc:count≤60) (hp:qy w p s rest) :
  Calls Tryz.prog 164 #[txtC g,.pointer (some ⟨p,0,none⟩),.int .i64 (count:Int)] w (Xu 9 JI (fun l=>l.length=count∧∀ c ∈ l,okT c) (ZS UA xA) p s rest w):=by
 obtain ⟨i0,hi,hz0,hz1,hz2⟩:=info_parts Tryz.infoStr
 have Hs:=hid hs
 have Hp:=hid hp
 have hplt:=xF hp
 clear hs hp
 go_enter Tryz.func164,Tryz.ntmps164
 go_wp2
 obtain ⟨hb0,hs0,hc0⟩:=Ja w #[.slice (some ⟨g,0,none⟩) 3 3,fnV 165,fnV 166,fnV 115,fnV 167,fnV 168,fnV 169] 214
 have hc1:_=some (fnV 169):=hc0 6
 have Hc:=hid hc1
 have Hp0:=hid (qJ Hp.out hb0 hplt)
 have Hb0:=hid hb0
 have hs1:=Nat.lt_of_lt_of_eq (Nat.lt_succ_self w.heap.size) hs0.symm
 have hplt0:=Nat.lt_of_lt_of_le hplt hb0.size
 clear hc0 hc1 hb0 hs0
 generalize w.alloc _=w0 at *
 go_loopw [7,8,10] (fun v u i wr=>∃ (k:Nat) (acc:List CellB) (r:List UInt8),k≤count∧i=.int .i64 (k:Int)∧u=strB (zS xA acc).text∧acc.length=k∧(∀ c ∈ acc,okT c)∧wr.ownsRow w0.heap.size 9 1 v k (JI acc)∧qy wr p s r∧w0.grownBy wr (some p)∧Ew UA (fun l=>l.length=count∧∀ c ∈ l,okT c) rest acc r)
  (fun _ _ i _=>count - (intOf i).toNat)
 case atStart=>exact ⟨0,[],rest,Nat.zero_le _,rfl,rfl,rfl,(fun c h=>Jc h),World.ownsRow_nil _ _ _ _,Hp0.out,jU _ _,KM _ _ _⟩
 case round =>
  obtain ⟨k,acc,r,hkc,rfl,rfl,hal,hok,hown,hrd,hg,hleft⟩:=hrel
  have Hal:=hid hal
  have Hok:=hid hok
  have Hleft:=hid hleft
  have Hg:=hid hg
  have Hah:Hid ((zS xA acc).text.length≤12):=NM hok
  clear hal hok hleft
  by_cases hlt:k < count
  ·have hcf:=(hg.cell_far ⟨w.heap.size,6,none⟩ hs1 (by intro h;simp at h;omega)).trans Hc.out
   clear hg
   go_wp2_with fail
   refine (Gh p s r (zS xA acc).text _ Hs.out (Hah.out) hrd).mono ?_
   rintro e w2 ⟨hg2,⟨rfl,hno⟩|⟨x,r2,hx,rfl,hrd2,hu⟩⟩
   ·go_wp2
    refine ⟨rfl,jg (jG (jU w _) Hb0.out) (jg Hg.out hg2),.inl ⟨rfl,fun l2 q hl2 h=>?_⟩⟩
    obtain ⟨c,l4,hc4,h4⟩:=Ks Hleft.out Hal.out hlt (fun l h=>h.1) l2 q hl2 h
    exact hno c.text _ ((hl2.2 c (hc4 ▸ by simp)).2.2) h4
   ·have Hu:=hid hu
    have Hx:=hid hx
    have hown2:=zT hown hplt0 hg2
    have hG2:=jg Hg.out hg2
    clear hown hrd hu hcf hg2 hx
    go_wp2_with (at_builtin;refine wpList_append_own _ rfl (.tmp 17) (.tmp 19) 163 rfl w0.heap.size 9 i0 (.string ⟨#[]⟩) 1 16 Tryz.underlying163 hi hz0 hz1 hz2 rfl (by decide) _ _ _ rfl (hown2.alloc _) ⟨_,0,none⟩ 1 1 [strB x] rfl rfl ?c1 ?c2 ?c3 ?c4 ?c5 ?_)
    case c1=>exact qE w2 #[strB x] 9
    case c2=>intro u hu;simp at hu;subst hu;rfl
    case c3=>unfold maxLen;omega
    case c4=>omega
    case c5=>have:=hG2.size;simp;omega
    intro v3 w3 hown3 hgr3 _
    have HR:=hid (XV hrd2 hplt0 hG2 hown2 hgr3)
    have HO3:=hid hown3
    clear hown2 hown3 hgr3 hG2 hrd2
    go_wp2
    go_roundw
    case rel=>exact ⟨k+1,acc++[⟨false,0,x⟩],r2,by omega,by go_num,by rw [ZL],by simp [Hal.out],fun c hc=>(List.mem_append.1 hc).elim (Hok.out c) (fun h=>by simp only [List.mem_cons,List.not_mem_nil,or_false] at h;subst h;exact ⟨rfl,rfl,Hx.out⟩),by rw [show JI (acc++[⟨false,0,x⟩])=JI acc++[strB x] by simp [JI,zl,Zs]];exact HO3.out,HR.out.1,HR.out.2,UI Hleft.out Hal.out hlt (fun l h=>h.1) (fun c q hc h=>by
     obtain ⟨e1,e2⟩:=Hu.out c.text q hc.2.2 h
     refine ⟨?_,e2⟩
     obtain ⟨cn,ci,ct⟩:=c
     obtain ⟨o1,o2,o3⟩:=hc
     simp only at o1 o2 e1
     subst o1 o2 e1
     rfl) (fun l h=>h.2)⟩
    case measure=>simp [intOf];omega
  ·have hke:k=count:=by omega
   subst hke
   have Hown:=hid hown
   have Hrd:=hid hrd
   clear hg hown hrd
   go_wp2
   go_ret
   refine ⟨jg (jG (jU w _) Hb0.out) Hg.out,.inr ⟨acc,r,_,⟨Hal.out,Hok.out⟩,rfl,?_,Hrd.out,VV Hleft.out Hal.out (fun l h=>h.1)⟩⟩
   rw [Hal.out]
   exact jS Hown.out Hb0.out.size
end
section
theorem Tryz.infoBool:(Tryz.prog.info? 4).map (fun i=>(i.zero,i.size,i.bytes))=some (some (.bool false),1,1):=by kernel_rfl
theorem Ll (n:Nat) (h:n < 4294967296):bits .and .u64 (n:Int) 4294967295=(n:Int):=by
 have h1:=u64_and_nat n 4294967295 (by omega) (by decide)
 have h2:n &&& 4294967295=n:=by
  rw [show 4294967295=2 ^ 32 - 1 by decide,Nat.and_two_pow_sub_one_eq_mod]
  omega
 rw [h2] at h1
 exact h1
theorem Tv (n:Nat) (w:World) (h:n≤60) :
  Calls Tryz.prog 188 #[.int .u64 1,.int .u64 (n:Int)] w fun e w'=>e=.returned (.tuple #[.int .u64 0,.int .u64 (n:Int)])∧w'=w:=by
 have h1:=Ll n (by omega)
 have h2:bits .and .u64 1 4294967295=1:=Ll 1 (by omega)
 have h3:(n:Int) / 4294967296=0:=by omega
 have h4:bits .and .u64 0 4294967295=0:=Ll 0 (by omega)
 go_enter Tryz.func188,Tryz.ntmps188
 go_wp2
 go_ret2
 exact ⟨rfl,rfl⟩
theorem Pg {w:World} {base e g N:Nat} {xs:List Value} (h:w.ownsRow base e 1 (.slice (some ⟨g,0,none⟩) N N) N xs):w.heap[g]?=some (.cells xs.toArray e (0,0)):=by
 rcases h.2 with ⟨h1,_⟩|⟨g',cap,cur,h1,_,h3,_,_,h6,h7⟩
 ·cases h1
 ·simp only [Value.slice.injEq,Option.some.injEq,Addr.mk.injEq,and_true] at h1
  obtain ⟨rfl,_,rfl⟩:=h1
  rw [h3]
  have:cur.toList=xs:=by
   rw [← h7,List.take_of_length_le]
   simp [h6]
  rw [← this]
theorem MJ (N n k:Nat) (v z:Value) (h:n+k≤N):splice (List.replicate n v++List.replicate (N - n) z) n (List.replicate k v)=List.replicate (n+k) v++List.replicate (N - (n+k)) z:=by
 unfold splice
 rw [List.take_append_of_le_length (by simp),List.take_of_length_le (by simp),List.length_replicate,List.drop_append,List.drop_of_length_le (by simp),List.length_replicate]
 rw [List.nil_append,List.drop_replicate,← List.append_assoc,List.replicate_append_replicate]
 congr 2
 omega
def KZ (N n:Nat) (v z:Value):List Value:=List.replicate n v++List.replicate (N - n) z
theorem ZQ (N n k:Nat) (v z:Value) (h:n+k≤N):splice (KZ N n v z) n (List.replicate k v)=KZ N (n+k) v z:=MJ N n k v z h
theorem Zx (N n:Nat) (v z:Value) (h:n≤N):(KZ N n v z).length=N:=by simp [KZ];omega
theorem YW (N:Nat) (v z:Value):KZ N N v z=List.replicate N v:=by simp [KZ]
theorem AQ {w:World} {g N n k:Nat} {v z:Value} {t:TypeId} (h:w.heap[g]?=some (.cells (KZ N n v z).toArray t (0,0))) (hk:k≤n):∀ j u,(List.replicate k v)[j]?=some u→w.cell? ((⟨g,0,none⟩:Addr).add j)=some u:=by
 intro j u hj
 have hadd:(⟨g,0,none⟩:Addr).add j=⟨g,j,none⟩:=by unfold Addr.add;split<;>simp_all
 have hlt:j < k:=by
  rcases Nat.lt_or_ge j k with h1|h1
  ·exact h1
  ·rw [List.getElem?_eq_none (by simp;omega)] at hj;cases hj
 rw [List.getElem?_replicate,if_pos hlt] at hj
 rw [hadd,cell_of_row w g j _ t (0,0) h,← hj]
 simp only [KZ,List.getElem?_toArray]
 rw [List.getElem?_append_left (by simp;omega),List.getElem?_replicate,if_pos (by omega)]
theorem KB {w:World} {base e g N:Nat} {z v:Value} (h:w.ownsRow base e 1 (.slice (some ⟨g,0,none⟩) N N) N (madeCells z.cells (N*1)).toList) (hz:z.cells=#[z]) :
  w.heap[g]?=some (.cells (KZ N 0 v z).toArray e (0,0)):=by
 have h1:=Pg h
 rw [hz,toList_madeCells_one] at h1
 simpa [KZ] using h1
theorem Tg (n:Nat) (w:World) (h:n≤60) :
  Calls Tryz.prog 186 #[.int .u64 1,.int .u64 (n:Int)] w fun e w'=>e=.returned (.tuple #[.int .u64 0,.int .u64 (n:Int)])∧w'=w:=by
 go_enter Tryz.func186,Tryz.ntmps186
 go_wp2_with fail
 refine (Tv n _ h).mono ?_
 rintro e w1 ⟨rfl,rfl⟩
 go_wp2
 go_ret2
 exact ⟨rfl,rfl⟩
theorem Bo (x:Int) (G cap N:Nat) (w:World) (hN:N≤60) (hG:w.cell? ⟨G,0,none⟩=some (.int .i64 x)) :
  Calls Tryz.prog 177 #[.slice (some ⟨G,0,none⟩) 1 cap,.int .i64 (N:Int)] w fun e w'=>∃ g,e=.returned (.slice (some ⟨g,0,none⟩) N N)∧w'.heap[g]?=some (.cells (List.replicate N (.int .i64 x)).toArray 3 (0,0))∧Below w.heap.size w w':=by
 obtain ⟨i0,hi,hz0,hz1,hz2⟩:=info_parts Tryz.infoInt
 have hsz:(Tryz.prog.info? 3).map (·.size)=some 1:=by rw [hi];simp [hz1]
 have HG:=hid hG
 have hGlt:=World.block_lt_of_cell? w _ hG
 have hw1:IntKind.u64.wrap (N:Int)=(N:Int):=VN (by omega) (by omega)
 have hw2:IntKind.i64.wrap (N:Int)=(N:Int):=UJ (by omega) (by omega)
 clear hG
 go_enter Tryz.func177,Tryz.ntmps177
 go_wp2_with fail
 refine (Tg N _ hN).mono ?_
 rintro e w1 ⟨rfl,rfl⟩
 have HG1:=HG
 by_cases hN0:N=0
 ·subst hN0
  go_wp2_with (first
   | (at_make;refine wpList_make_full _ rfl (.tmp 29) (.tmp 29) 22 rfl w1.heap.size 3 i0 (.int .i64 0) 1 Tryz.underlying22 hi hz0 hz1 .i64 .i64 _ _ 0 rfl rfl rfl rfl (by rw [hz2];omega) (by unfold maxLen;omega) (Nat.le_refl _) ?_;intro w3 hown hgr;have hgb:=KB (v:=.int .i64 x) hown rfl;have hB3:Below w1.heap.size w1 w3:=(Below.refl _ _).grown hgr (Nat.le_refl _) (fun _ h=>by cases h);clear hown hgr)
   | (refine wpList_copy_splice rfl (.tmp 31) (.tmp 32) 22 22 rfl 3 Tryz.underlying22 hsz _ _ _ _ _ _ rfl rfl w1.heap.size 0 _ 3 hgb [] (by simp) (fun h=>by simp at h) (by simp) (fun _ h=>by cases h) w1.heap.size w1 hB3 (Nat.le_refl _) ?_;intro w4 hg4 hb4))
  go_loopw [8] (fun i wr=>i=.int .i64 0∧wr=w4) (fun _ _=>0)
  case atStart=>exact ⟨rfl,rfl⟩
  case round =>
   obtain ⟨rfl,rfl⟩:=hrel
   go_wp2
   go_ret
   exact ⟨w1.heap.size,rfl,by simpa [splice,KZ] using hg4.out,hb4⟩
 ·have hN1:1≤N:=by omega
  have hmin:Nat.min 1 N=1:=Nat.min_eq_left hN1
  have HN0:=hid hN0
  clear hN0
  go_wp2_with (first
   | (at_make;refine wpList_make_full _ rfl (.tmp 29) (.tmp 29) 22 rfl w1.heap.size 3 i0 (.int .i64 0) 1 Tryz.underlying22 hi hz0 hz1 .i64 .i64 _ _ N rfl rfl rfl rfl (by rw [hz2];omega) (by unfold maxLen;omega) (Nat.le_refl _) ?_;intro w3 hown hgr;have hgb:=KB (v:=.int .i64 x) hown rfl;have hB3:Below w1.heap.size w1 w3:=(Below.refl _ _).grown hgr (Nat.le_refl _) (fun _ h=>by cases h);clear hown hgr)
   | (refine wpList_copy_splice rfl (.tmp 31) (.tmp 32) 22 22 rfl 3 Tryz.underlying22 hsz _ _ _ _ _ _ rfl rfl w1.heap.size 0 _ 3 hgb (List.replicate 1 (.int .i64 x)) ?c0 ?c1 ?c2 ?c3 w1.heap.size w1 hB3 (Nat.le_refl _) ?_))
  case c0=>rw [List.length_replicate];exact hmin.symm
  case c1 =>
   intro j v hj
   cases j with
   | zero =>
    simp at hj
    subst hj
    exact (hB3.cell (p:=⟨G,0,none⟩) hGlt).trans HG.out
   | succ j=>simp at hj
  case c2=>rw [Zx _ _ _ _ (by omega)];simp;omega
  case c3=>intro v hv;simp at hv;subst hv;rfl
  intro w4 hg4 hb4
  have HB4:Hid (w4.heap[w1.heap.size]?=some (.cells (KZ N 1 (.int .i64 x) (.int .i64 0)).toArray 3 (0,0))):=by
   have h2:=ZQ N 0 1 (.int .i64 x) (.int .i64 0) (by omega)
   have h1:=hg4.out
   simp only [List.replicate_one,Nat.zero_add] at h1 h2
   rw [h2] at h1
   exact h1
  clear hgb hB3 hg4 hmin
  go_wp2_with fail
  go_loopw [8] (fun i wr=>∃ n:Nat,1≤n∧n≤N∧i=.int .i64 (n:Int)∧Hid (wr.heap[w1.heap.size]?=some (.cells (KZ N n (.int .i64 x) (.int .i64 0)).toArray 3 (0,0)))∧Below w1.heap.size w1 wr) (fun i _=>N - (intOf i).toNat)
  case atStart=>exact ⟨1,Nat.le_refl _,hN1,rfl,HB4,hb4⟩
  case round =>
   clear HB4 hb4
   obtain ⟨n,hn1,hnN,rfl,HB,hB⟩:=hrel
   by_cases hlt:n < N
   ·have hk0:(0:Int)≤(n:Int):=by omega
    have hk1:(n:Int)≤(N:Int):=by omega
    have hki:(n:Int) < (N:Int):=by omega
    go_wp2_with fail
    have hNn:¬ N=n:=by omega
    have hmk:Nat.min n (N - n)≤n:=Nat.min_le_left _ _
    have hmk0:Nat.min n (N - n)≤N - n:=Nat.min_le_right _ _
    have hmk2:n+Nat.min n (N - n)≤N:=by omega
    have hmk3:1≤Nat.min n (N - n):=Nat.le_min.2 ⟨hn1,by omega⟩
    have HC:=hid (AQ (k:=Nat.min n (N - n)) HB.out hmk)
    generalize hmm:Nat.min n (N - n)=m at *
    have Hmm:=hid hmm
    clear hmm
    refine wp_region_held_drew (S:=fun w'=>True) (by kernel_rfl) trivial (fun hHeld=>?_)
    refine tk 0 (.int .i64 (n:Int)) ?_
    refine tk 1 (.slice (some ⟨w1.heap.size,0,none⟩) N N) ?_
    refine tk 2 (.int .i64 (n:Int)) ?_
    refine tk 3 (.slice (some ⟨w1.heap.size,n,none⟩) (N - n) (N - n)) ?_
    refine tk 4 (.slice (some ⟨w1.heap.size,0,none⟩) N N) ?_
    refine tk 5 (.int .i64 (n:Int)) ?_
    refine tk 6 (.slice (some ⟨w1.heap.size,0,none⟩) n N) ?_
    simp only [jA,jB,jC,Act.put,jD,jE,jF]
    refine rd 7 (fun K hK=>?_)
    refine step_copy_splice (w:=wr.drew) (by rfl) (.tmp 41) (.tmp 44) 22 22 (by rfl) 3 Tryz.underlying22 hsz _ _ _ _ _ _ (by rfl) (by rfl) w1.heap.size n _ 3 HB.out (List.replicate m (.int .i64 x)) (by rw [List.length_replicate];exact Hmm.out.symm) (fun _=>⟨rfl,_,rfl,HC.out⟩) (by rw [Zx _ _ _ _ (by omega),List.length_replicate];exact hmk2) (fun u hu=>by rw [List.mem_replicate] at hu;rw [hu.2];rfl) w1.heap.size w1 (show Below w1.heap.size w1 wr.drew from below_drewN hB 1) (Nat.le_refl _) ?_
    intro w5 hg5 hb5
    have HB5:Hid (w5.heap[w1.heap.size]?=some (.cells (KZ N (n+m) (.int .i64 x) (.int .i64 0)).toArray 3 (0,0))):=by
     have h1:=hg5.out
     rw [ZQ N n m _ _ hmk2] at h1
     exact h1
    rw [List.length_replicate]
    clear hg5
    try go_wp2_with fail
    refine hK.out _ _ trivial (fun hHeld=>?_)
    clear hK K
    try simp only [jA,jB,jC,Act.put,jD,jE,jF]
    refine rd 8 (fun K hK=>?_)
    simp only [jA,jB,jC]
    go_simp
    try go_wp2_with fail
    refine hK.out _ _ trivial (fun hHeld=>?_)
    clear hK K
    try simp only [jA,jB,jC,Act.put,jD,jE,jF]
    refine rd 9 (fun K hK=>?_)
    simp only [jA,jB,jC]
    go_simp
    try go_wp2_with fail
    refine hK.out _ _ trivial (fun hHeld=>?_)
    clear hK K
    try simp only [jA,jB,jC,Act.put,jD,jE,jF]
    refine wpAnyH_done (by kernel_rfl) ?_ _
    have hwn:IntKind.i64.wrap ((n:Int)+(m:Int))=((n+m:Nat):Int):=by rw [IntKind.wrap_i64];omega
    rw [hwn]
    clear hwn
    go_wp2_with fail
    go_roundw
    case rel=>exact ⟨n+m,by omega,hmk2,rfl,HB5,hb5⟩
    case measure=>simp [intOf];omega
   ·have hne:n=N:=by omega
    subst hne
    have hki:decide ((n:Int) < (n:Int))=false:=by simp
    go_wp2
    go_ret
    exact ⟨w1.heap.size,rfl,by have:=HB.out;rw [YW] at this;exact this,hB⟩
theorem Nu (x:Bool) (G cap N:Nat) (w:World) (hN:N≤60) (hG:w.cell? ⟨G,0,none⟩=some (.bool x)) :
  Calls Tryz.prog 181 #[.slice (some ⟨G,0,none⟩) 1 cap,.int .i64 (N:Int)] w fun e w'=>∃ g,e=.returned (.slice (some ⟨g,0,none⟩) N N)∧w'.heap[g]?=some (.cells (List.replicate N (.bool x)).toArray 4 (0,0))∧Below w.heap.size w w':=by
 obtain ⟨i0,hi,hz0,hz1,hz2⟩:=info_parts Tryz.infoBool
 have hsz:(Tryz.prog.info? 4).map (·.size)=some 1:=by rw [hi];simp [hz1]
 have HG:=hid hG
 have hGlt:=World.block_lt_of_cell? w _ hG
 have hw1:IntKind.u64.wrap (N:Int)=(N:Int):=VN (by omega) (by omega)
 have hw2:IntKind.i64.wrap (N:Int)=(N:Int):=UJ (by omega) (by omega)
 clear hG
 go_enter Tryz.func181,Tryz.ntmps181
 go_wp2_with fail
 refine (Tg N _ hN).mono ?_
 rintro e w1 ⟨rfl,rfl⟩
 have HG1:=HG
 by_cases hN0:N=0
 ·subst hN0
  go_wp2_with (first
   | (at_make;refine wpList_make_full _ rfl (.tmp 29) (.tmp 29) 237 rfl w1.heap.size 4 i0 (.bool false) 1 Tryz.underlying237 hi hz0 hz1 .i64 .i64 _ _ 0 rfl rfl rfl rfl (by rw [hz2];omega) (by unfold maxLen;omega) (Nat.le_refl _) ?_;intro w3 hown hgr;have hgb:=KB (v:=.bool x) hown rfl;have hB3:Below w1.heap.size w1 w3:=(Below.refl _ _).grown hgr (Nat.le_refl _) (fun _ h=>by cases h);clear hown hgr)
   | (refine wpList_copy_splice rfl (.tmp 31) (.tmp 32) 237 237 rfl 4 Tryz.underlying237 hsz _ _ _ _ _ _ rfl rfl w1.heap.size 0 _ 4 hgb [] (by simp) (fun h=>by simp at h) (by simp) (fun _ h=>by cases h) w1.heap.size w1 hB3 (Nat.le_refl _) ?_;intro w4 hg4 hb4))
  go_loopw [8] (fun i wr=>i=.int .i64 0∧wr=w4) (fun _ _=>0)
  case atStart=>exact ⟨rfl,rfl⟩
  case round =>
   obtain ⟨rfl,rfl⟩:=hrel
   go_wp2
   go_ret
   exact ⟨w1.heap.size,rfl,by simpa [splice,KZ] using hg4.out,hb4⟩
 ·have hN1:1≤N:=by omega
  have hmin:Nat.min 1 N=1:=Nat.min_eq_left hN1
  have HN0:=hid hN0
  clear hN0
  go_wp2_with (first
   | (at_make;refine wpList_make_full _ rfl (.tmp 29) (.tmp 29) 237 rfl w1.heap.size 4 i0 (.bool false) 1 Tryz.underlying237 hi hz0 hz1 .i64 .i64 _ _ N rfl rfl rfl rfl (by rw [hz2];omega) (by unfold maxLen;omega) (Nat.le_refl _) ?_;intro w3 hown hgr;have hgb:=KB (v:=.bool x) hown rfl;have hB3:Below w1.heap.size w1 w3:=(Below.refl _ _).grown hgr (Nat.le_refl _) (fun _ h=>by cases h);clear hown hgr)
   | (refine wpList_copy_splice rfl (.tmp 31) (.tmp 32) 237 237 rfl 4 Tryz.underlying237 hsz _ _ _ _ _ _ rfl rfl w1.heap.size 0 _ 4 hgb (List.replicate 1 (.bool x)) ?c0 ?c1 ?c2 ?c3 w1.heap.size w1 hB3 (Nat.le_refl _) ?_))
  case c0=>rw [List.length_replicate];exact hmin.symm
  case c1 =>
   intro j v hj
   cases j with
   | zero =>
    simp at hj
    subst hj
    exact (hB3.cell (p:=⟨G,0,none⟩) hGlt).trans HG.out
   | succ j=>simp at hj
  case c2=>rw [Zx _ _ _ _ (by omega)];simp;omega
  case c3=>intro v hv;simp at hv;subst hv;rfl
  intro w4 hg4 hb4
  have HB4:Hid (w4.heap[w1.heap.size]?=some (.cells (KZ N 1 (.bool x) (.bool false)).toArray 4 (0,0))):=by
   have h2:=ZQ N 0 1 (.bool x) (.bool false) (by omega)
   have h1:=hg4.out
   simp only [List.replicate_one,Nat.zero_add] at h1 h2
   rw [h2] at h1
   exact h1
  clear hgb hB3 hg4 hmin
  go_wp2_with fail
  go_loopw [8] (fun i wr=>∃ n:Nat,1≤n∧n≤N∧i=.int .i64 (n:Int)∧Hid (wr.heap[w1.heap.size]?=some (.cells (KZ N n (.bool x) (.bool false)).toArray 4 (0,0)))∧Below w1.heap.size w1 wr) (fun i _=>N - (intOf i).toNat)
  case atStart=>exact ⟨1,Nat.le_refl _,hN1,rfl,HB4,hb4⟩
  case round =>
   clear HB4 hb4
   obtain ⟨n,hn1,hnN,rfl,HB,hB⟩:=hrel
   by_cases hlt:n < N
   ·have hk0:(0:Int)≤(n:Int):=by omega
    have hk1:(n:Int)≤(N:Int):=by omega
    have hki:(n:Int) < (N:Int):=by omega
    go_wp2_with fail
    have hNn:¬ N=n:=by omega
    have hmk:Nat.min n (N - n)≤n:=Nat.min_le_left _ _
    have hmk0:Nat.min n (N - n)≤N - n:=Nat.min_le_right _ _
    have hmk2:n+Nat.min n (N - n)≤N:=by omega
    have hmk3:1≤Nat.min n (N - n):=Nat.le_min.2 ⟨hn1,by omega⟩
    have HC:=hid (AQ (k:=Nat.min n (N - n)) HB.out hmk)
    generalize hmm:Nat.min n (N - n)=m at *
    have Hmm:=hid hmm
    clear hmm
    refine wp_region_held_drew (S:=fun w'=>True) (by kernel_rfl) trivial (fun hHeld=>?_)
    refine tk 0 (.int .i64 (n:Int)) ?_
    refine tk 1 (.slice (some ⟨w1.heap.size,0,none⟩) N N) ?_
    refine tk 2 (.int .i64 (n:Int)) ?_
    refine tk 3 (.slice (some ⟨w1.heap.size,n,none⟩) (N - n) (N - n)) ?_
    refine tk 4 (.slice (some ⟨w1.heap.size,0,none⟩) N N) ?_
    refine tk 5 (.int .i64 (n:Int)) ?_
    refine tk 6 (.slice (some ⟨w1.heap.size,0,none⟩) n N) ?_
    simp only [jA,jB,jC,Act.put,jD,jE,jF]
    refine rd 7 (fun K hK=>?_)
    refine step_copy_splice (w:=wr.drew) (by rfl) (.tmp 41) (.tmp 44) 237 237 (by rfl) 4 Tryz.underlying237 hsz _ _ _ _ _ _ (by rfl) (by rfl) w1.heap.size n _ 4 HB.out (List.replicate m (.bool x)) (by rw [List.length_replicate];exact Hmm.out.symm) (fun _=>⟨rfl,_,rfl,HC.out⟩) (by rw [Zx _ _ _ _ (by omega),List.length_replicate];exact hmk2) (fun u hu=>by rw [List.mem_replicate] at hu;rw [hu.2];rfl) w1.heap.size w1 (show Below w1.heap.size w1 wr.drew from below_drewN hB 1) (Nat.le_refl _) ?_
    intro w5 hg5 hb5
    have HB5:Hid (w5.heap[w1.heap.size]?=some (.cells (KZ N (n+m) (.bool x) (.bool false)).toArray 4 (0,0))):=by
     have h1:=hg5.out
     rw [ZQ N n m _ _ hmk2] at h1
     exact h1
    rw [List.length_replicate]
    clear hg5
    try go_wp2_with fail
    refine hK.out _ _ trivial (fun hHeld=>?_)
    clear hK K
    try simp only [jA,jB,jC,Act.put,jD,jE,jF]
    refine rd 8 (fun K hK=>?_)
    simp only [jA,jB,jC]
    go_simp
    try go_wp2_with fail
    refine hK.out _ _ trivial (fun hHeld=>?_)
    clear hK K
    try simp only [jA,jB,jC,Act.put,jD,jE,jF]
    refine rd 9 (fun K hK=>?_)
    simp only [jA,jB,jC]
    go_simp
    try go_wp2_with fail
    refine hK.out _ _ trivial (fun hHeld=>?_)
    clear hK K
    try simp only [jA,jB,jC,Act.put,jD,jE,jF]
    refine wpAnyH_done (by kernel_rfl) ?_ _
    have hwn:IntKind.i64.wrap ((n:Int)+(m:Int))=((n+m:Nat):Int):=by rw [IntKind.wrap_i64];omega
    rw [hwn]
    clear hwn
    go_wp2_with fail
    go_roundw
    case rel=>exact ⟨n+m,by omega,hmk2,rfl,HB5,hb5⟩
    case measure=>simp [intOf];omega
   ·have hne:n=N:=by omega
    subst hne
    have hki:decide ((n:Int) < (n:Int))=false:=by simp
    go_wp2
    go_ret
    exact ⟨w1.heap.size,rfl,by have:=HB.out;rw [YW] at this;exact this,hB⟩
end
section
theorem GL (n:Nat) (l:List CellB) (a b:Nat):∃ m,jW n l (a+b)=jW n l a++m:=by
 induction b with
 | zero=>exact ⟨[],by simp⟩
 | succ b ih =>
  obtain ⟨m,hm⟩:=ih
  exact ⟨m++xM n l (a+b),by rw [← Nat.add_assoc,jW,hm,List.append_assoc]⟩
def Ln (dom:List CellB→Prop) (rest:List UInt8) (acc:List CellB) (r:List UInt8):Prop :=
 ∀ l2 q,dom l2→rest=jW 2 l2 l2.length++q→l2.take acc.length=acc∧AN l2 acc.length∧rest=jW 2 l2 acc.length++r
theorem IZ (dom:List CellB→Prop) (rest:List UInt8):Ln dom rest [] rest:=fun l2 q _ h=>⟨rfl,.inl rfl,rfl⟩
def EI (count:Nat) (l:List CellB):Prop:=l.length=count∧∀ c ∈ l,okI c
theorem KF {count:Nat} {rest r:List UInt8} {acc:List CellB} (h:Ln (EI count) rest acc r) (hlt:acc.length < count) (l2:List CellB) (q:List UInt8) (hd:EI count l2) (hr:rest=jW 2 l2 l2.length++q) :
  ∃ (rr:Nat) (v:Int) (m:List UInt8),0 < rr∧rr≤count - acc.length∧inI v∧r=uB rr++(zB v++m)∧l2.take (acc.length+rr)=acc++List.replicate rr ⟨false,v,[]⟩∧AN l2 (acc.length+rr)∧rest=jW 2 l2 (acc.length+rr)++m:=by
 obtain ⟨h1,h2,h3⟩:=h l2 q hd hr
 have hk:acc.length < l2.length:=by rw [hd.1];exact hlt
 generalize hkk:acc.length=k at *
 have hs:=Yj l2 k hk h2
 have hp:=Ns l2 k hk
 have hle:=NG (l2[k]).int (l2.drop k)
 rw [List.length_drop] at hle
 have hend:=DJ l2 k hk
 have hval:=ND l2 k
 generalize hrr:Jz (l2[k]).int (l2.drop k)=rr at *
 have hs1:=hs rr (by omega) (Nat.le_refl _)
 obtain ⟨m0,hm0⟩:=GL 2 l2 (k+rr) (l2.length - (k+rr))
 rw [show k+rr+(l2.length - (k+rr))=l2.length by omega] at hm0
 have hokk:=hd.2 l2[k] (List.getElem_mem hk)
 refine ⟨rr,(l2[k]).int,m0++q,by omega,by rw [← hd.1];omega,hokk.2.2,?_,?_,hend,?_⟩
 ·have e1:jW 2 l2 k++r=jW 2 l2 k++(uB rr++(zB (l2[k]).int++(m0++q))):=by
   rw [← h3,hr,hm0,hs1];simp only [List.append_assoc]
  exact List.append_cancel_left e1
 ·have e2:l2.take (k+rr)=l2.take k++(l2.drop k).take rr:=by rw [List.take_add]
  rw [e2,h1]
  congr 1
  apply List.ext_getElem
  ·rw [List.length_take,List.length_drop,List.length_replicate];omega
  ·intro j hj1 hj2
   rw [List.length_replicate] at hj2
   rw [List.getElem_take,List.getElem_drop,List.getElem_replicate]
   have hv:=hval j hk (by rw [hrr];exact hj2)
   rw [qN l2 (k+j) (by omega)] at hv
   have ho:=hd.2 l2[k+j] (List.getElem_mem _)
   obtain ⟨o1,o2,_⟩:=ho
   generalize l2[k+j]=c at *
   obtain ⟨cn,ci,ct⟩:=c
   simp only at o1 o2 hv
   subst o1 o2 hv
   rfl
 ·rw [hr,hm0,List.append_assoc]
theorem UB (p:Nat) (s rest:List UInt8) (n:Int) (most:Nat) (w:World) (h:n=(most:Int)) (hs:s.length≤maxLen) (hm:most≤1000000) (hp:qy w p s rest) :
  Calls Tryz.prog 139 #[.pointer (some ⟨p,0,none⟩),.int .i64 n] w (GQ (fun n:Nat=>n≤most) uB (fun n=>.int .i64 (n:Int)) p s rest w):=by
 subst h
 exact Kz p s rest most w hs hm hp
theorem Zw {w0 w2 w3:World} {p n ty sz:Nat} {s r:List UInt8} {v:Value} {xs:List Value} (hrd:qy w2 p s r) (hp:p < w0.heap.size) (hG:w0.grownBy w2 (some p)) (hown:w2.ownsRow w0.heap.size ty sz v n xs)
  (hgr:w2.grownBy w3 v.ownBlock):qy w3 p s r∧w0.grownBy w3 (some p):=by
 have hlt:=xF hrd
 have hne:some p≠v.ownBlock:=by
  intro h
  have:=(hown.lt p h.symm).1
  omega
 obtain ⟨at_,h1,h2,h3⟩:=hrd
 exact ⟨⟨at_,(hgr.block p hlt hne).trans h1,h2,h3⟩,JQ hG hgr (fun k hk=>(hown.lt k hk).1)⟩
theorem Ps (g p count:Nat) (s rest:List UInt8) (w:World) (hs:s.length≤maxLen) (hc:count≤60) (hp:qy w p s rest) :
  Calls Tryz.prog 150 #[numC g,.pointer (some ⟨p,0,none⟩),.int .i64 (count:Int)] w (Xu 3 Xe (EI count) (fun l=>jW 2 l l.length) p s rest w):=by
 obtain ⟨i0,hi,hz0,hz1,hz2⟩:=info_parts Tryz.infoInt
 have Hs:=hid hs
 have Hp:=hid hp
 have hplt:=xF hp
 clear hs hp
 go_enter Tryz.func150,Tryz.ntmps150
 go_wp2
 obtain ⟨hb0,hs0,hc0⟩:=Ja w #[.slice (some ⟨g,0,none⟩) 3 3,fnV 151,fnV 152,fnV 153,fnV 154,fnV 155,fnV 156] 205
 have hc1:_=some (fnV 156):=hc0 6
 have Hc:=hid hc1
 have Hp0:=hid (qJ Hp.out hb0 hplt)
 have Hb0:=hid hb0
 have hs1:=Nat.lt_of_lt_of_eq (Nat.lt_succ_self w.heap.size) hs0.symm
 have hplt0:=Nat.lt_of_lt_of_le hplt hb0.size
 clear hc0 hc1 hb0 hs0
 generalize w.alloc _=w0 at *
 go_loopg [7] count (fun gk v wr=>∃ (acc:List CellB) (r:List UInt8),acc.length+gk=count∧(∀ c ∈ acc,okI c)∧wr.ownsRow w0.heap.size 3 1 v acc.length (Xe acc)∧qy wr p s r∧w0.grownBy wr (some p)∧Ln (EI count) rest acc r)
 case atStart=>exact ⟨[],rest,Nat.zero_add _,(fun c h=>Jc h),World.ownsRow_nil _ _ _ _,Hp0.out,jU _ _,IZ _ _⟩
 case round =>
  obtain ⟨acc,r,hal,hok,hown,hrd,hg,hleft⟩:=hrel
  have Hal:=hid hal
  have Hok:=hid hok
  have Hleft:=hid hleft
  have Hg:=hid hg
  have hln:=Yk hown wr
  have hln1:acc.length≤count:=by omega
  clear hok hleft hal
  by_cases hlt:acc.length < count
  ·have hi1:(acc.length:Int) < (count:Int):=by omega
   have hcf0:=(hg.cell_far ⟨w.heap.size,6,none⟩ hs1 (by intro h;simp at h;omega)).trans Hc.out
   have Hcf0:=hid hcf0
   clear hg hcf0
   go_wp2_with fail
   refine (UB p s r _ (count - acc.length) _ (by omega) Hs.out (by omega) hrd).mono ?_
   rintro e w2 ⟨hg2,⟨rfl,hno⟩|⟨n,r2,hn,rfl,hrd2,hu⟩⟩
   ·go_wp2
    refine ⟨rfl,jg (jG (jU w _) Hb0.out) (jg Hg.out hg2),.inl ⟨rfl,fun l2 q hl2 h=>?_⟩⟩
    obtain ⟨rr,v,m,k1,k2,k3,k4,_⟩:=KF Hleft.out hlt l2 q hl2 h
    exact hno rr _ k2 k4
   ·have Hu:=hid hu
    have hn1:n≤count - acc.length:=hn
    have hown2:=zT hown hplt0 hg2
    have hG2:=jg Hg.out hg2
    have Hcf2:Hid (w2.cell? ⟨w.heap.size,6,none⟩=some (fnV 156)):=(hg2.cell_far ⟨w.heap.size,6,none⟩ (Nat.lt_of_lt_of_le hs1 Hg.out.size) (by intro h;simp at h;omega)).trans Hcf0.out
    clear hown hrd hu hg2 hln
    by_cases hn0:0 < n
    ·have hn0i:(0:Int) < (n:Int):=by omega
     have hcf2:=Hcf2.out
     go_wp2_with fail
     refine (qh _).mono ?_
     rintro e w2' ⟨rfl,rfl⟩
     go_wp2_with fail
     refine (KY p s r2 0 _ Hs.out ⟨by decide,by decide⟩ hrd2).mono ?_
     rintro e w3 ⟨hg3,⟨rfl,hno⟩|⟨x,r3,hx,rfl,hrd3,hu3⟩⟩
     ·go_wp2
      refine ⟨rfl,jg (jG (jU w _) Hb0.out) (jg hG2 hg3),.inl ⟨rfl,fun l2 q hl2 h=>?_⟩⟩
      obtain ⟨rr,v,m,k1,k2,k3,k4,_⟩:=KF Hleft.out hlt l2 q hl2 h
      obtain ⟨e1,e2⟩:=Hu.out rr _ k2 k4
      exact hno v m k3 (by show _=zB (wrap64 (v - 0))++m;rw [Ge v k3.1 k3.2];exact e2.symm)
     ·have Hu3:=hid hu3
      have Hx:=hid hx
      have hown3:=zT hown2 hplt0 hg3
      have hG3:=jg hG2 hg3
      clear hown2 hrd2 hu3 hg3 hG2 hcf2 hx
      go_wp2_with fail
      refine (Bo x w3.heap.size 1 n _ (by omega) (World.cell?_alloc_mark ..)).mono ?_
      rintro e w4 ⟨g4,rfl,hb4,hB4⟩
      have hB4':Below w3.heap.size w3 w4:=xG hB4
      have hown4:=ju hown3 hB4'
      have hrd4:=qJ hrd3 hB4' (xF hrd3)
      have hG4:=jG hG3 hB4'
      have HN4:=hid (World.news_of_block hb4)
      clear hB4 hB4' hown3 hrd3 hG3 hb4
      go_wp2_with (at_builtin;refine wpList_append_own _ rfl (.tmp 29) (.tmp 33) 22 rfl w0.heap.size 3 i0 (.int .i64 0) 1 8 Tryz.underlying22 hi hz0 hz1 hz2 rfl (by decide) _ _ _ rfl hown4 ⟨g4,0,none⟩ n n (List.replicate n (.int .i64 x)) rfl ?c0 ?c1 ?c2 ?c3 ?c4 ?c5 ?_)
      case c0=>simp
      case c1=>intro j u hj;exact HN4.out j u (by simpa using hj)
      case c2=>intro u hu;rw [List.mem_replicate] at hu;rw [hu.2];rfl
      case c3=>unfold maxLen;omega
      case c4=>omega
      case c5=>have:=hG4.size;omega
      intro v5 w5 hown5 hgr5 _
      have HR:=hid (Zw hrd4 hplt0 hG4 hown4 hgr5)
      have HO5:=hid hown5
      have HX:Hid (Xe (acc++List.replicate n ⟨false,x,[]⟩)=Xe acc++List.replicate n (.int .i64 x)):=by simp [Hid,Xe]
      have HLN:Hid ((acc++List.replicate n (⟨false,x,[]⟩:CellB)).length=acc.length+n):=by simp [Hid]
      clear hown4 hown5 hgr5 hG4 hrd4 HN4
      go_wp2
      go_roundg (count - acc.length - n)
      case measure=>have:=Hal.out;omega
      case rel =>
       refine ⟨acc++List.replicate n ⟨false,x,[]⟩,r3,?_,?_,?_,HR.out.1,HR.out.2,?_⟩
       ·rw [HLN.out];omega
       ·intro c hc
        rcases List.mem_append.1 hc with h|h
        ·exact Hok.out c h
        ·rw [List.mem_replicate] at h;rw [h.2];exact ⟨rfl,rfl,Hx.out⟩
       ·rw [HX.out,HLN.out];exact HO5.out
       ·intro l2 q hl2 h
        obtain ⟨rr,v,m,k1,k2,k3,k4,k5,k6,k7⟩:=KF Hleft.out hlt l2 q hl2 h
        obtain ⟨e1,e2⟩:=Hu.out rr _ k2 k4
        obtain ⟨e3,e4⟩:=Hu3.out v m k3 (by show _=zB (wrap64 (v - 0))++m;rw [Ge v k3.1 k3.2];exact e2.symm)
        subst e1 e3 e4
        rw [HLN.out]
        exact ⟨k5,k6,k7⟩
    ·have hn0i:decide ((0:Int) < (n:Int))=false:=by simp;omega
     go_wp2_with fail
     refine (qU _).mono ?_
     rintro e w2' ⟨rfl,rfl⟩
     go_wp2
     refine ⟨rfl,jg (jG (jU w _) Hb0.out) hG2,.inl ⟨rfl,fun l2 q hl2 h=>?_⟩⟩
     obtain ⟨rr,v,m,k1,k2,k3,k4,_⟩:=KF Hleft.out hlt l2 q hl2 h
     obtain ⟨e1,e2⟩:=Hu.out rr _ k2 k4
     omega
  ·have hke:acc.length=count:=by omega
   have hi1:decide ((acc.length:Int) < (count:Int))=false:=by simp;omega
   have Hke:=hid hke
   have Hown:=hid hown
   have Hrd:=hid hrd
   clear hg hown hrd hke
   go_wp2
   go_ret
   refine ⟨jg (jG (jU w _) Hb0.out) Hg.out,.inr ⟨acc,r,_,⟨Hke.out,Hok.out⟩,rfl,jS Hown.out Hb0.out.size,Hrd.out,fun l2 q hl2 h=>?_⟩⟩
   obtain ⟨e1,e2,e3⟩:=Hleft.out l2 q hl2 h
   rw [Hke.out,← hl2.1,List.take_length] at e1
   subst e1
   refine ⟨rfl,?_⟩
   have e4:jW 2 l2 l2.length++q=jW 2 l2 l2.length++r:=h.symm.trans e3
   exact List.append_cancel_left e4
end
end Go.Proofs.YthhpbhpfagoapabGreat
