import Derived.Test.YthhpbhpfagoapaaGreatJAA
import Derived.Test.YthhpbhpfagoapaaGreatRTk
import Derived.Test.YthhpbhpfagoapaaGreatJAG
import Derived.Laws.CopyOwn
import Derived.Deep.RegionLaw
import Derived.Deep.LoopGhost
namespace Go.Proofs.YthhpbhpfagoapaaGreat
set_option linter.unusedVariables false
set_option linter.unusedSimpArgs false
set_option maxRecDepth 100000
set_option maxHeartbeats 16000000
open Go.RowKit
section
def leN:List UInt8→Nat
 | []=>0
 | c :: l=>c.toNat+256*leN l
theorem PT (l:List UInt8):leN l < 256 ^ l.length:=by
 induction l with
 | nil=>simp [leN]
 | cons c l ih =>
  have:=c.toNat_lt
  simp only [leN,aH,Nat.pow_succ]
  omega
theorem Pc (l:List UInt8) (c:UInt8):leN (l++[c])=leN l+256 ^ l.length*c.toNat:=by
 induction l with
 | nil=>simp [leN]
 | cons d l ih =>
  simp only [aK,leN,ih,aH,Nat.pow_succ]
  rw [Nat.mul_add,Nat.mul_comm (256 ^ l.length) 256,Nat.mul_assoc]
  omega
theorem La (l:List UInt8) (h:l.length≤8):UH l=leN l:=by
 induction l with
 | nil=>rfl
 | cons c l ih =>
  have h1:=PT l
  have h2:=c.toNat_lt
  simp only [aH] at h
  have h3:256 ^ l.length≤256 ^ 7:=Nat.pow_le_pow_right (by decide) (by omega)
  have h4:256 ^ 7=72057594037927936:=by decide
  simp only [UH,leN,ih (by omega)]
  omega
theorem YS (k:Nat):256 ^ k=2 ^ (8*k):=by rw [show 256=2 ^ 8 from rfl,← Nat.pow_mul]
theorem BW (acc c k:Nat) (hacc:acc < 256 ^ k) (hk:k≤7) (hc:c < 256) :
  bits .or .u64 (acc:Int) (IntKind.u64.wrap ((c:Int)*2 ^ (8*k)))=((acc+256 ^ k*c:Nat):Int):=by
 have h3:256 ^ k≤256 ^ 7:=Nat.pow_le_pow_right (by decide) hk
 have h4:256 ^ 7=72057594037927936:=by decide
 have hx:256 ^ k*c≤72057594037927936*255:=bx (by omega) (by omega)
 have hw:IntKind.u64.wrap ((c:Int)*2 ^ (8*k))=((2 ^ (8*k)*c:Nat):Int):=by
  rw [IntKind.wrap_u64]
  have e:((c:Int)*2 ^ (8*k))=((2 ^ (8*k)*c:Nat):Int):=by
   rw [Int.mul_comm];simp
  rw [e]
  rw [YS] at hx
  generalize 2 ^ (8*k)*c=q at *
  omega
 rw [hw,u64_or_nat _ _ (by omega) (by rw [← YS];omega),YS]
 rw [YS] at hacc
 rw [Nat.or_comm,← db hacc]
 congr 1
 omega
theorem BG (b:Int) (hb:inI b):wrap64 (leN (bB b):Int)=b:=by
 have h:=LI b [] hb.1 hb.2
 have hl:=XF b
 unfold bR at h
 rw [aB] at h
 have ht:qk 8 (some (bB b))=(bB b,some []):=by
  rw [Ja (by omega) (by omega)]
  simp [aC,List.drop_of_length_le,hl]
 rw [ht] at h
 simp only [bV] at h
 rw [← La (bB b) (by omega)]
 exact h.1
theorem AT (p:Nat) (s rest:List UInt8) (w:World) (hs:s.length≤maxLen) (hp:qz w p s rest) :
  Calls Tryz.prog 190 #[.pointer (some ⟨p,0,none⟩)] w (Vp inI bB (fun v=>.int .i64 v) p s rest w):=by
 have Hs:=hid hs
 have Hp:=hid hp
 clear hs hp
 go_enter Tryz.func190,Tryz.ntmps190
 go_wp2
 go_loopw [3,5] (fun n i wr=>∃ (k:Nat) (cs r:List UInt8),k≤8∧i=.int .i64 (k:Int)∧cs.length=k∧rest=cs++r∧n=.int .u64 (leN cs:Int)∧qz wr p s r∧w.grownBy wr (some p)) (fun _ i _=>8 - (intOf i).toNat)
 case atStart=>exact ⟨0,[],rest,by omega,rfl,rfl,rfl,rfl,Hp.out,jS _ _⟩
 case round =>
  obtain ⟨k,cs,r,hk,rfl,hcs,hrest,rfl,hrd,hg⟩:=hrel
  have Hcs:=hid hcs
  have Hrest:=hid hrest
  have Hg:=hid hg
  have hle:=PT cs
  rw [hcs] at hle
  clear hcs hrest hg
  by_cases hk8:k < 8
  ·go_wp2_with fail
   refine (XP p s r _ Hs.out hrd).mono ?_
   rintro e w2 ⟨hg2,⟨rfl,rfl⟩|⟨c,r2,rfl,rfl,hrd2⟩⟩
   ·go_wp2
    refine ⟨rfl,ja Hg.out hg2,.inl ⟨rfl,fun a q ha h=>?_⟩⟩
    have h1:=aT List.length (Hrest.out.symm.trans h)
    have h2:=XF a
    have h3:=Hcs.out
    simp only [ab,aR] at h1
    omega
   ·have hct:=c.toNat_lt
    have ho:=BW (leN cs) c.toNat k hle (by omega) (by omega)
    have HG2:=hid (ja Hg.out hg2)
    have Hrd2:=hid hrd2
    have HSN:Hid (leN (cs++[c])=leN cs+256 ^ k*c.toNat):=by
     show _=_
     rw [Pc,Hcs.out]
    clear hrd hrd2 hg2
    generalize leN cs=acc at *
    go_wp2_with fail
    go_roundw
    case rel=>exact ⟨k+1,cs++[c],r2,by omega,by go_num,by simp [Hcs.out],by rw [Hrest.out];simp,by simp [HSN.out],Hrd2.out,HG2.out⟩
    case measure=>simp [intOf];omega
  ·have hk9:k=8:=by omega
   subst hk9
   have hle2:leN cs < 18446744073709551616:=aa hle (by decide)
   have Hrd:=hid hrd
   clear hrd hle
   go_wp2
   go_ret
   refine ⟨Hg.out,.inr ⟨wrap64 (leN cs:Int),r,Nj _,rfl,Hrd.out,fun b q hb h=>?_⟩⟩
   have h1:=Hrest.out.symm.trans h
   have h2:=aV h1 (by rw [Hcs.out,XF])
   rw [h2.1,BG b hb]
   exact ⟨rfl,h2.2.symm⟩
theorem Lt (s:List UInt8) (b:Nat):(⟨s.toArray⟩:ByteArray).extract 0 b=⟨(s.take b).toArray⟩:=by
 rw [Vc];simp
def Rx (a t:List UInt8):List UInt8:=uB (jN a t)++xB (t.drop (jN a t))
theorem Ab (a t:List UInt8):a.take (jN a t)=t.take (jN a t):=by
 induction a generalizing t with
 | nil=>simp [jN]
 | cons x a ih =>
  cases t with
  | nil=>simp [jN]
  | cons y t =>
   simp only [jN]
   by_cases h:x=y
   ·rw [aw h,b8,b8,ih t,h]
   ·simp [h]
theorem VN (p:Nat) (s rest a:List UInt8) (w:World) (hs:s.length≤maxLen) (ha:a.length≤12) (hp:qz w p s rest) :
  Calls Tryz.prog 207 #[.pointer (some ⟨p,0,none⟩),strB a] w (Vp (fun t:List UInt8=>t.length≤12) (Rx a) strB p s rest w):=by
 have Hs:=hid hs
 have Hp:=hid hp
 have hz:=jR a
 clear hs hp
 go_enter Tryz.func207,Tryz.ntmps207
 go_wp2_with fail
 refine (Kd p s rest a.length _ Hs.out (by omega) Hp.out).mono ?_
 rintro e w1 ⟨hg,⟨rfl,hno⟩|⟨n,r,hn,rfl,hrd,hu⟩⟩
 ·go_wp2
  refine ⟨rfl,hg,.inl ⟨rfl,fun t q ht h=>hno (jN a t) (xB (t.drop (jN a t))++q) (Jh a t).1 (by rw [h,Rx,af])⟩⟩
 ·have Hu:=hid hu
  have Hrd:=hid hrd
  clear hu hrd
  have hn1:n≤a.length:=hn
  have hi0:(0:Int)≤(n:Int):=by omega
  have hi1:(n:Int)≤(a.length:Int):=by omega
  have hst:=Lt a n
  have hsub:IntKind.i64.wrap ((12:Int) - (n:Int))=((12 - n:Nat):Int):=by rw [IntKind.wrap_i64];omega
  have HL:Hid ((a.take n).length=n):=by show _=_;rw [aq];omega
  generalize hT:a.take n=T at *
  have HT:=hid hT
  clear hT
  go_wp2_with fail
  refine wp_region_held_drew (S:=fun w'=>True) (by kernel_rfl) trivial (fun hHeld=>?_)
  refine tk 0 (strB a) ?_
  refine tk 1 (.int .i64 (n:Int)) ?_
  refine tk 2 (strB T) ?_
  refine tk 3 (.pointer (some ⟨p,0,none⟩)) ?_
  refine tk 4 (.int .i64 (n:Int)) ?_
  refine tk 5 (.int .i64 ((12 - n:Nat):Int)) ?_
  simp only [jA,jB,jC,Act.put,jD,jE,jF]
  refine rd 6 (fun K hK=>?_)
  simp only [jA,jB,jC]
  go_simp
  go_at_call 247
  refine (Ya p s r (12 - n) _ Hs.out (by omega) (show qz w1.drew p s r from Hrd.out)).mono ?_
  rintro e w2 ⟨hg2,⟨rfl,hno⟩|⟨t,r2,ht,rfl,hrd2,hu2⟩⟩
  ·have hg3:=ja hg (jz hg2)
   refine ⟨rfl,hg3,.inl ⟨rfl,fun u q hu h=>?_⟩⟩
   obtain ⟨h1,h2⟩:=Hu.out (jN a u) (xB (u.drop (jN a u))++q) (Jh a u).1 (by rw [h,Rx,af])
   subst h1
   exact hno (u.drop (jN a u)) q (by show _≤_;rw [an];have:u.length≤12:=hu;omega) h2.symm
  ·have hg3:=ja hg (jz hg2)
   have HG3:=hid hg3
   have Hrd2:=hid hrd2
   have Hu2:=hid hu2
   have ht1:t.length≤12 - n:=ht
   have hplt:=xp hrd2
   clear hg2 hg3 hrd2 hu2
   try go_wp2_with fail
   refine hK.out _ _ trivial (fun hHeld=>?_)
   clear hK K
   try simp only [jA,jB,jC,Act.put,jD,jE,jF]
   refine rd 7 (fun K hK=>?_)
   simp only [jA,jB,jC]
   go_simp
   try go_wp2_with fail
   refine hK.out _ _ trivial (fun hHeld=>?_)
   clear hK K
   try simp only [jA,jB,jC,Act.put,jD,jE,jF]
   refine rd 8 (fun K hK=>?_)
   simp only [jA,jB,jC]
   go_simp
   go_at_call 194
   refine (Aq [T,t] #[strB T,strB t] 2 _ _ (heap_alloc_new w2 _) rfl rfl (by decide) (by have:=HL.out;simp;omega)).mono ?_
   rintro e w4 ⟨rfl,hb4⟩
   have hb4':Below w2.heap.size w2 w4:=zM hb4
   try go_wp2_with fail
   refine hK.out _ _ trivial (fun hHeld=>?_)
   clear hK K
   try simp only [jA,jB,jC,Act.put,jD,jE,jF]
   refine rd 9 (fun K hK=>?_)
   simp only [jA,jB,jC]
   go_simp
   try go_wp2_with fail
   refine hK.out _ _ trivial (fun hHeld=>?_)
   clear hK K
   try simp only [jA,jB,jC,Act.put,jD,jE,jF]
   refine wpAnyH_done (by kernel_rfl) ?_ _
   have HF:=hid (qK Hrd2.out hb4' hplt)
   have HG:=hid (jH HG3.out hb4')
   clear hb4 hb4'
   go_wp2
   go_ret
   refine ⟨HG.out,.inr ⟨T++t,r2,?_,qC (by simp),HF.out,fun u q hu h=>?_⟩⟩
   ·show (T++t).length≤12
    rw [ab,HL.out];omega
   ·obtain ⟨h1,h2⟩:=Hu.out (jN a u) (xB (u.drop (jN a u))++q) (Jh a u).1 (by rw [h,Rx,af])
    subst h1
    obtain ⟨h3,h4⟩:=Hu2.out (u.drop (jN a u)) q (by show _≤_;rw [an];have:u.length≤12:=hu;omega) h2.symm
    refine ⟨?_,h4⟩
    rw [← HT.out,Ab,← h3,aD]
end
section
def okI (c:CellB):Prop:=c.null=false∧c.text=[]∧inI c.int
def okT (c:CellB):Prop:=c.null=false∧c.int=0∧c.text.length≤12
theorem Jf {c:CellB} {q:Prop} (h:c ∈ ([]:List CellB)):q:=by cases h
def Zz (st:CellB→CellB→List UInt8):CellB→List CellB→List UInt8
 | _,[]=>[]
 | a,c :: l=>st a c++Zz st c l
def zY:CellB→List CellB→CellB
 | a,[]=>a
 | _,c :: l=>zY c l
def Nh (_ c:CellB):List UInt8:=bB c.int
def Zm (_ c:CellB):List UInt8:=xB c.text
def Nl (a c:CellB):List UInt8:=zB (wrap64 (c.int - a.int))
def Ug (a c:CellB):List UInt8:=Rx a.text c.text
theorem Zo (a:CellB) (l:List CellB) (c:CellB):zY a (l++[c])=c:=by
 induction l generalizing a with
 | nil=>rfl
 | cons d l ih=>exact ih d
theorem IM (st:CellB→CellB→List UInt8) (a:CellB) (l m:List CellB):Zz st a (l++m)=Zz st a l++Zz st (zY a l) m:=by
 induction l generalizing a with
 | nil=>rfl
 | cons d l ih=>simp only [aK,Zz,zY,ih,af]
theorem Av (a:CellB) (l:List CellB) (h:l≠[]):zY a l ∈ l:=by
 induction l generalizing a with
 | nil=>exact absurd rfl h
 | cons c l ih =>
  cases l with
  | nil=>simp [zY]
  | cons d l=>exact aJ _ (ih c (by simp))
theorem Im {l:List CellB} (h:∀ c ∈ l,okI c):inI (zY qG l).int:=by
 by_cases hl:l=[]
 ·subst hl;exact ⟨by decide,by decide⟩
 ·exact (h _ (Av qG l hl)).2.2
theorem NY {l:List CellB} (h:∀ c ∈ l,okT c):(zY qG l).text.length≤12:=by
 by_cases hl:l=[]
 ·subst hl;decide
 ·exact (h _ (Av qG l hl)).2.2
def YW (st:CellB→CellB→List UInt8) (dom:List CellB→Prop) (rest:List UInt8) (acc:List CellB) (r:List UInt8):Prop :=
 ∀ l2 q,dom l2→rest=Zz st qG l2++q→∃ l3,l2=acc++l3∧r=Zz st (zY qG acc) l3++q
theorem Kp (st:CellB→CellB→List UInt8) (dom:List CellB→Prop) (rest:List UInt8):YW st dom rest [] rest:=fun l2 q _ h=>⟨l2,rfl,h⟩
theorem ZL {st:CellB→CellB→List UInt8} {dom:List CellB→Prop} {rest r:List UInt8} {acc:List CellB} {k n:Nat} (h:YW st dom rest acc r) (hk:acc.length=k) (hlt:k < n) (hd:∀ l,dom l→l.length=n) :
  ∀ l2 q,dom l2→rest=Zz st qG l2++q→∃ c l4,l2=acc++c :: l4∧r=st (zY qG acc) c++(Zz st c l4++q):=by
 intro l2 q hl2 h2
 obtain ⟨l3,e1,e2⟩:=h l2 q hl2 h2
 cases l3 with
 | nil =>
  have:=hd l2 hl2
  rw [e1,aB] at this
  omega
 | cons c l4=>exact ⟨c,l4,e1,by rw [e2,Zz,af]⟩
theorem KY {st:CellB→CellB→List UInt8} {dom:List CellB→Prop} {ok:CellB→Prop} {rest r r2:List UInt8} {acc:List CellB} {k n:Nat} {x:CellB} (h:YW st dom rest acc r) (hk:acc.length=k) (hlt:k < n) (hd:∀ l,dom l→l.length=n)
  (hu:∀ c q,ok c→r=st (zY qG acc) c++q→c=x∧q=r2) (hok:∀ l,dom l→∀ c ∈ l,ok c):YW st dom rest (acc++[x]) r2:=by
 intro l2 q hl2 h2
 obtain ⟨c,l4,e1,e2⟩:=ZL h hk hlt hd l2 q hl2 h2
 obtain ⟨rfl,e3⟩:=hu c _ (hok l2 hl2 c (by rw [e1];simp)) e2
 exact ⟨l4,by rw [e1];simp,by rw [← e3,Zo]⟩
theorem UT {st:CellB→CellB→List UInt8} {dom:List CellB→Prop} {rest r:List UInt8} {acc:List CellB} {n:Nat} (h:YW st dom rest acc r) (hk:acc.length=n) (hd:∀ l,dom l→l.length=n) :
  ∀ l2 q,dom l2→rest=Zz st qG l2++q→l2=acc∧q=r:=by
 intro l2 q hl2 h2
 obtain ⟨l3,e1,e2⟩:=h l2 q hl2 h2
 have:=hd l2 hl2
 rw [e1,ab] at this
 have h3:l3=[]:=ao (by omega)
 subst h3
 exact ⟨by rw [e1,aB],by rw [e2];rfl⟩
def Xp (ty:TypeId) (row:List CellB→List Value) (dom:List CellB→Prop) (enc:List CellB→List UInt8) (p:Nat) (s rest:List UInt8) (w:World) (e:Ending) (w':World):Prop :=
 w.grownBy w' (some p)∧((e=gaveUp∧∀ l q,dom l→rest≠enc l++q)∨∃ l r v,dom l∧e=.returned v∧w'.ownsRow w.heap.size ty 1 v l.length (row l)∧qz w' p s r∧∀ l2 q,dom l2→rest=enc l2++q→l2=l∧q=r)
theorem XG {w0 w2 w3:World} {p n ty sz:Nat} {s r:List UInt8} {v:Value} {xs:List Value} {o:Obj} (hrd:qz w2 p s r) (hp:p < w0.heap.size) (hG:w0.grownBy w2 (some p)) (hown:w2.ownsRow w0.heap.size ty sz v n xs)
  (hgr:(w2.alloc o).grownBy w3 v.ownBlock):qz w3 p s r∧w0.grownBy w3 (some p):=by
 have hlt:=xp hrd
 have hne:some p≠v.ownBlock:=by
  intro h
  have:=(hown.lt p h.symm).1
  omega
 obtain ⟨at_,h1,h2,h3⟩:=hrd
 refine ⟨⟨at_,?_,h2,h3⟩,zy (zj hG o) hgr (fun k hk=>(hown.lt k hk).1)⟩
 rw [hgr.block p (by simp;omega) hne]
 rw [← h1]
 exact ((Below.refl w2.heap.size w2).alloc (ae _) o).block p hlt
theorem Cj (g p count:Nat) (s rest:List UInt8) (w:World) (hs:s.length≤maxLen) (hc:count≤60) (hp:qz w p s rest) :
  Calls Tryz.prog 182 #[numC g,.pointer (some ⟨p,0,none⟩),.int .i64 (count:Int)] w (Xp 3 Xa (fun l=>l.length=count∧∀ c ∈ l,okI c) (Zz Nh qG) p s rest w):=by
 obtain ⟨i0,hi,hz0,hz1,hz2⟩:=info_parts Tryz.infoInt
 have Hs:=hid hs
 have Hp:=hid hp
 have hplt:=xp hp
 clear hs hp
 go_enter Tryz.func182,Tryz.ntmps182
 go_wp2
 obtain ⟨hb0,hs0,hc0⟩:=Jd w #[.slice (some ⟨g,0,none⟩) 3 3,fnV 187,fnV 188,fnV 189,fnV 190,fnV 191,fnV 192] 215
 have hc1:_=some (fnV 190):=hc0 4
 have Hc:=hid hc1
 have Hp0:=hid (qK Hp.out hb0 hplt)
 have Hb0:=hid hb0
 have hs1:=aI (aL w.heap.size) hs0.symm
 have hplt0:=aa hplt hb0.size
 clear hc0 hc1 hb0 hs0
 generalize w.alloc _=w0 at *
 go_loopw [7,9] (fun v i wr=>∃ (k:Nat) (acc:List CellB) (r:List UInt8),k≤count∧i=.int .i64 (k:Int)∧acc.length=k∧(∀ c ∈ acc,okI c)∧wr.ownsRow w0.heap.size 3 1 v k (Xa acc)∧qz wr p s r∧w0.grownBy wr (some p)∧YW Nh (fun l=>l.length=count∧∀ c ∈ l,okI c) rest acc r)
  (fun _ i _=>count - (intOf i).toNat)
 case atStart=>exact ⟨0,[],rest,ah _,rfl,rfl,(fun c h=>Jf h),World.ownsRow_nil _ _ _ _,Hp0.out,jS _ _,Kp _ _ _⟩
 case round =>
  obtain ⟨k,acc,r,hkc,rfl,hal,hok,hown,hrd,hg,hleft⟩:=hrel
  have Hal:=hid hal
  have Hok:=hid hok
  have Hleft:=hid hleft
  have Hg:=hid hg
  have Hah:Hid (inI (zY qG acc).int):=Im hok
  clear hal hok hleft
  by_cases hlt:k < count
  ·have hcf:=(hg.cell_far ⟨w.heap.size,4,none⟩ hs1 (by intro h;simp at h;omega)).trans Hc.out
   clear hg
   go_wp2_with fail
   refine (AT p s r _ Hs.out hrd).mono ?_
   rintro e w2 ⟨hg2,⟨rfl,hno⟩|⟨x,r2,hx,rfl,hrd2,hu⟩⟩
   ·go_wp2
    refine ⟨rfl,ja (jH (jS w _) Hb0.out) (ja Hg.out hg2),.inl ⟨rfl,fun l2 q hl2 h=>?_⟩⟩
    obtain ⟨c,l4,hc4,h4⟩:=ZL Hleft.out Hal.out hlt (fun l h=>h.1) l2 q hl2 h
    exact hno c.int _ ((hl2.2 c (hc4 ▸ by simp)).2.2) h4
   ·have Hu:=hid hu
    have Hx:=hid hx
    have hown2:=qZ hown hplt0 hg2
    have hG2:=ja Hg.out hg2
    clear hown hrd hu hcf hg2 hx
    go_wp2_with (at_builtin;refine wpList_append_own _ rfl (.tmp 11) (.tmp 16) 82 rfl w0.heap.size 3 i0 (.int .i64 0) 1 8 Tryz.underlying82 hi hz0 hz1 hz2 rfl (by decide) _ _ _ rfl (hown2.alloc _) ⟨_,0,none⟩ 1 1 [.int .i64 x] rfl rfl ?c1 ?c2 ?c3 ?c4 ?c5 ?_)
    case c1=>exact qq w2 #[.int .i64 x] 3
    case c2=>intro u hu;simp at hu;subst hu;rfl
    case c3=>unfold maxLen;omega
    case c4=>omega
    case c5=>have:=hG2.size;simp;omega
    intro v3 w3 hown3 hgr3 _
    have HR:=hid (XG hrd2 hplt0 hG2 hown2 hgr3)
    have HO3:=hid hown3
    clear hown2 hown3 hgr3 hG2 hrd2
    go_wp2
    go_roundw
    case rel=>exact ⟨k+1,acc++[⟨false,x,[]⟩],r2,by omega,by go_num,by simp [Hal.out],fun c hc=>(aM.1 hc).elim (Hok.out c) (fun h=>by simp only [ba,bs,cM] at h;subst h;exact ⟨rfl,rfl,Hx.out⟩),by rw [show Xa (acc++[⟨false,x,[]⟩])=Xa acc++[.int .i64 x] by simp [Xa]];exact HO3.out,HR.out.1,HR.out.2,KY Hleft.out Hal.out hlt (fun l h=>h.1) (fun c q hc h=>by
     obtain ⟨e1,e2⟩:=Hu.out c.int q hc.2.2 h
     refine ⟨?_,e2⟩
     obtain ⟨cn,ci,ct⟩:=c
     obtain ⟨o1,o2,o3⟩:=hc
     simp only at o1 o2 e1
     subst o1 o2 e1
     rfl) (fun l h=>h.2)⟩
    case measure=>simp [intOf];omega
  ·have hke:k=count:=by omega
   subst hke
   have Hown:=hid hown
   have Hrd:=hid hrd
   clear hg hown hrd
   go_wp2
   go_ret
   refine ⟨ja (jH (jS w _) Hb0.out) Hg.out,.inr ⟨acc,r,_,⟨Hal.out,Hok.out⟩,rfl,?_,Hrd.out,UT Hleft.out Hal.out (fun l h=>h.1)⟩⟩
   rw [Hal.out]
   exact jw Hown.out Hb0.out.size
theorem Yx (g p count:Nat) (s rest:List UInt8) (w:World) (hs:s.length≤maxLen) (hc:count≤60) (hp:qz w p s rest) :
  Calls Tryz.prog 197 #[txtC g,.pointer (some ⟨p,0,none⟩),.int .i64 (count:Int)] w (Xp 9 JI (fun l=>l.length=count∧∀ c ∈ l,okT c) (Zz Zm qG) p s rest w):=by
 obtain ⟨i0,hi,hz0,hz1,hz2⟩:=info_parts Tryz.infoStr
 have Hs:=hid hs
 have Hp:=hid hp
 have hplt:=xp hp
 clear hs hp
 go_enter Tryz.func197,Tryz.ntmps197
 go_wp2
 obtain ⟨hb0,hs0,hc0⟩:=Jd w #[.slice (some ⟨g,0,none⟩) 3 3,fnV 202,fnV 203,fnV 204,fnV 205,fnV 206,fnV 207] 225
 have hc1:_=some (fnV 205):=hc0 4
 have Hc:=hid hc1
 have Hp0:=hid (qK Hp.out hb0 hplt)
 have Hb0:=hid hb0
 have hs1:=aI (aL w.heap.size) hs0.symm
 have hplt0:=aa hplt hb0.size
 clear hc0 hc1 hb0 hs0
 generalize w.alloc _=w0 at *
 go_loopw [7,9] (fun v i wr=>∃ (k:Nat) (acc:List CellB) (r:List UInt8),k≤count∧i=.int .i64 (k:Int)∧acc.length=k∧(∀ c ∈ acc,okT c)∧wr.ownsRow w0.heap.size 9 1 v k (JI acc)∧qz wr p s r∧w0.grownBy wr (some p)∧YW Zm (fun l=>l.length=count∧∀ c ∈ l,okT c) rest acc r)
  (fun _ i _=>count - (intOf i).toNat)
 case atStart=>exact ⟨0,[],rest,ah _,rfl,rfl,(fun c h=>Jf h),World.ownsRow_nil _ _ _ _,Hp0.out,jS _ _,Kp _ _ _⟩
 case round =>
  obtain ⟨k,acc,r,hkc,rfl,hal,hok,hown,hrd,hg,hleft⟩:=hrel
  have Hal:=hid hal
  have Hok:=hid hok
  have Hleft:=hid hleft
  have Hg:=hid hg
  have Hah:Hid ((zY qG acc).text.length≤12):=NY hok
  clear hal hok hleft
  by_cases hlt:k < count
  ·have hcf:=(hg.cell_far ⟨w.heap.size,4,none⟩ hs1 (by intro h;simp at h;omega)).trans Hc.out
   clear hg
   go_wp2_with fail
   refine (EH p s r _ Hs.out hrd).mono ?_
   rintro e w2 ⟨hg2,⟨rfl,hno⟩|⟨x,r2,hx,rfl,hrd2,hu⟩⟩
   ·go_wp2
    refine ⟨rfl,ja (jH (jS w _) Hb0.out) (ja Hg.out hg2),.inl ⟨rfl,fun l2 q hl2 h=>?_⟩⟩
    obtain ⟨c,l4,hc4,h4⟩:=ZL Hleft.out Hal.out hlt (fun l h=>h.1) l2 q hl2 h
    exact hno c.text _ ((hl2.2 c (hc4 ▸ by simp)).2.2) h4
   ·have Hu:=hid hu
    have Hx:=hid hx
    have hown2:=qZ hown hplt0 hg2
    have hG2:=ja Hg.out hg2
    clear hown hrd hu hcf hg2 hx
    go_wp2_with (at_builtin;refine wpList_append_own _ rfl (.tmp 11) (.tmp 16) 71 rfl w0.heap.size 9 i0 (.string ⟨#[]⟩) 1 16 Tryz.underlying71 hi hz0 hz1 hz2 rfl (by decide) _ _ _ rfl (hown2.alloc _) ⟨_,0,none⟩ 1 1 [strB x] rfl rfl ?c1 ?c2 ?c3 ?c4 ?c5 ?_)
    case c1=>exact qq w2 #[strB x] 9
    case c2=>intro u hu;simp at hu;subst hu;rfl
    case c3=>unfold maxLen;omega
    case c4=>omega
    case c5=>have:=hG2.size;simp;omega
    intro v3 w3 hown3 hgr3 _
    have HR:=hid (XG hrd2 hplt0 hG2 hown2 hgr3)
    have HO3:=hid hown3
    clear hown2 hown3 hgr3 hG2 hrd2
    go_wp2
    go_roundw
    case rel=>exact ⟨k+1,acc++[⟨false,0,x⟩],r2,by omega,by go_num,by simp [Hal.out],fun c hc=>(aM.1 hc).elim (Hok.out c) (fun h=>by simp only [ba,bs,cM] at h;subst h;exact ⟨rfl,rfl,Hx.out⟩),by rw [show JI (acc++[⟨false,0,x⟩])=JI acc++[strB x] by simp [JI,zJ,XV]];exact HO3.out,HR.out.1,HR.out.2,KY Hleft.out Hal.out hlt (fun l h=>h.1) (fun c q hc h=>by
     obtain ⟨e1,e2⟩:=Hu.out c.text q hc.2.2 h
     refine ⟨?_,e2⟩
     obtain ⟨cn,ci,ct⟩:=c
     obtain ⟨o1,o2,o3⟩:=hc
     simp only at o1 o2 e1
     subst o1 o2 e1
     rfl) (fun l h=>h.2)⟩
    case measure=>simp [intOf];omega
  ·have hke:k=count:=by omega
   subst hke
   have Hown:=hid hown
   have Hrd:=hid hrd
   clear hg hown hrd
   go_wp2
   go_ret
   refine ⟨ja (jH (jS w _) Hb0.out) Hg.out,.inr ⟨acc,r,_,⟨Hal.out,Hok.out⟩,rfl,?_,Hrd.out,UT Hleft.out Hal.out (fun l h=>h.1)⟩⟩
   rw [Hal.out]
   exact jw Hown.out Hb0.out.size
theorem Da (g p count:Nat) (s rest:List UInt8) (w:World) (hs:s.length≤maxLen) (hc:count≤60) (hp:qz w p s rest) :
  Calls Tryz.prog 184 #[numC g,.pointer (some ⟨p,0,none⟩),.int .i64 (count:Int)] w (Xp 3 Xa (fun l=>l.length=count∧∀ c ∈ l,okI c) (Zz Nl qG) p s rest w):=by
 obtain ⟨i0,hi,hz0,hz1,hz2⟩:=info_parts Tryz.infoInt
 have Hs:=hid hs
 have Hp:=hid hp
 have hplt:=xp hp
 clear hs hp
 go_enter Tryz.func184,Tryz.ntmps184
 go_wp2
 obtain ⟨hb0,hs0,hc0⟩:=Jd w #[.slice (some ⟨g,0,none⟩) 3 3,fnV 187,fnV 188,fnV 189,fnV 190,fnV 191,fnV 192] 215
 have hc1:_=some (fnV 192):=hc0 6
 have Hc:=hid hc1
 have Hp0:=hid (qK Hp.out hb0 hplt)
 have Hb0:=hid hb0
 have hs1:=aI (aL w.heap.size) hs0.symm
 have hplt0:=aa hplt hb0.size
 clear hc0 hc1 hb0 hs0
 generalize w.alloc _=w0 at *
 go_loopw [7,8,10] (fun v u i wr=>∃ (k:Nat) (acc:List CellB) (r:List UInt8),k≤count∧i=.int .i64 (k:Int)∧u=.int .i64 (zY qG acc).int∧acc.length=k∧(∀ c ∈ acc,okI c)∧wr.ownsRow w0.heap.size 3 1 v k (Xa acc)∧qz wr p s r∧w0.grownBy wr (some p)∧YW Nl (fun l=>l.length=count∧∀ c ∈ l,okI c) rest acc r)
  (fun _ _ i _=>count - (intOf i).toNat)
 case atStart=>exact ⟨0,[],rest,ah _,rfl,rfl,rfl,(fun c h=>Jf h),World.ownsRow_nil _ _ _ _,Hp0.out,jS _ _,Kp _ _ _⟩
 case round =>
  obtain ⟨k,acc,r,hkc,rfl,rfl,hal,hok,hown,hrd,hg,hleft⟩:=hrel
  have Hal:=hid hal
  have Hok:=hid hok
  have Hleft:=hid hleft
  have Hg:=hid hg
  have Hah:Hid (inI (zY qG acc).int):=Im hok
  clear hal hok hleft
  by_cases hlt:k < count
  ·have hcf:=(hg.cell_far ⟨w.heap.size,6,none⟩ hs1 (by intro h;simp at h;omega)).trans Hc.out
   clear hg
   go_wp2_with fail
   refine (Kt p s r (zY qG acc).int _ Hs.out (Hah.out) hrd).mono ?_
   rintro e w2 ⟨hg2,⟨rfl,hno⟩|⟨x,r2,hx,rfl,hrd2,hu⟩⟩
   ·go_wp2
    refine ⟨rfl,ja (jH (jS w _) Hb0.out) (ja Hg.out hg2),.inl ⟨rfl,fun l2 q hl2 h=>?_⟩⟩
    obtain ⟨c,l4,hc4,h4⟩:=ZL Hleft.out Hal.out hlt (fun l h=>h.1) l2 q hl2 h
    exact hno c.int _ ((hl2.2 c (hc4 ▸ by simp)).2.2) h4
   ·have Hu:=hid hu
    have Hx:=hid hx
    have hown2:=qZ hown hplt0 hg2
    have hG2:=ja Hg.out hg2
    clear hown hrd hu hcf hg2 hx
    go_wp2_with (at_builtin;refine wpList_append_own _ rfl (.tmp 17) (.tmp 19) 82 rfl w0.heap.size 3 i0 (.int .i64 0) 1 8 Tryz.underlying82 hi hz0 hz1 hz2 rfl (by decide) _ _ _ rfl (hown2.alloc _) ⟨_,0,none⟩ 1 1 [.int .i64 x] rfl rfl ?c1 ?c2 ?c3 ?c4 ?c5 ?_)
    case c1=>exact qq w2 #[.int .i64 x] 3
    case c2=>intro u hu;simp at hu;subst hu;rfl
    case c3=>unfold maxLen;omega
    case c4=>omega
    case c5=>have:=hG2.size;simp;omega
    intro v3 w3 hown3 hgr3 _
    have HR:=hid (XG hrd2 hplt0 hG2 hown2 hgr3)
    have HO3:=hid hown3
    clear hown2 hown3 hgr3 hG2 hrd2
    go_wp2
    go_roundw
    case rel=>exact ⟨k+1,acc++[⟨false,x,[]⟩],r2,by omega,by go_num,by rw [Zo],by simp [Hal.out],fun c hc=>(aM.1 hc).elim (Hok.out c) (fun h=>by simp only [ba,bs,cM] at h;subst h;exact ⟨rfl,rfl,Hx.out⟩),by rw [show Xa (acc++[⟨false,x,[]⟩])=Xa acc++[.int .i64 x] by simp [Xa]];exact HO3.out,HR.out.1,HR.out.2,KY Hleft.out Hal.out hlt (fun l h=>h.1) (fun c q hc h=>by
     obtain ⟨e1,e2⟩:=Hu.out c.int q hc.2.2 h
     refine ⟨?_,e2⟩
     obtain ⟨cn,ci,ct⟩:=c
     obtain ⟨o1,o2,o3⟩:=hc
     simp only at o1 o2 e1
     subst o1 o2 e1
     rfl) (fun l h=>h.2)⟩
    case measure=>simp [intOf];omega
  ·have hke:k=count:=by omega
   subst hke
   have Hown:=hid hown
   have Hrd:=hid hrd
   clear hg hown hrd
   go_wp2
   go_ret
   refine ⟨ja (jH (jS w _) Hb0.out) Hg.out,.inr ⟨acc,r,_,⟨Hal.out,Hok.out⟩,rfl,?_,Hrd.out,UT Hleft.out Hal.out (fun l h=>h.1)⟩⟩
   rw [Hal.out]
   exact jw Hown.out Hb0.out.size
theorem DC (g p count:Nat) (s rest:List UInt8) (w:World) (hs:s.length≤maxLen) (hc:count≤60) (hp:qz w p s rest) :
  Calls Tryz.prog 201 #[txtC g,.pointer (some ⟨p,0,none⟩),.int .i64 (count:Int)] w (Xp 9 JI (fun l=>l.length=count∧∀ c ∈ l,okT c) (Zz Ug qG) p s rest w):=by
 obtain ⟨i0,hi,hz0,hz1,hz2⟩:=info_parts Tryz.infoStr
 have Hs:=hid hs
 have Hp:=hid hp
 have hplt:=xp hp
 clear hs hp
 go_enter Tryz.func201,Tryz.ntmps201
 go_wp2
 obtain ⟨hb0,hs0,hc0⟩:=Jd w #[.slice (some ⟨g,0,none⟩) 3 3,fnV 202,fnV 203,fnV 204,fnV 205,fnV 206,fnV 207] 225
 have hc1:_=some (fnV 207):=hc0 6
 have Hc:=hid hc1
 have Hp0:=hid (qK Hp.out hb0 hplt)
 have Hb0:=hid hb0
 have hs1:=aI (aL w.heap.size) hs0.symm
 have hplt0:=aa hplt hb0.size
 clear hc0 hc1 hb0 hs0
 generalize w.alloc _=w0 at *
 go_loopw [7,8,10] (fun v u i wr=>∃ (k:Nat) (acc:List CellB) (r:List UInt8),k≤count∧i=.int .i64 (k:Int)∧u=strB (zY qG acc).text∧acc.length=k∧(∀ c ∈ acc,okT c)∧wr.ownsRow w0.heap.size 9 1 v k (JI acc)∧qz wr p s r∧w0.grownBy wr (some p)∧YW Ug (fun l=>l.length=count∧∀ c ∈ l,okT c) rest acc r)
  (fun _ _ i _=>count - (intOf i).toNat)
 case atStart=>exact ⟨0,[],rest,ah _,rfl,rfl,rfl,(fun c h=>Jf h),World.ownsRow_nil _ _ _ _,Hp0.out,jS _ _,Kp _ _ _⟩
 case round =>
  obtain ⟨k,acc,r,hkc,rfl,rfl,hal,hok,hown,hrd,hg,hleft⟩:=hrel
  have Hal:=hid hal
  have Hok:=hid hok
  have Hleft:=hid hleft
  have Hg:=hid hg
  have Hah:Hid ((zY qG acc).text.length≤12):=NY hok
  clear hal hok hleft
  by_cases hlt:k < count
  ·have hcf:=(hg.cell_far ⟨w.heap.size,6,none⟩ hs1 (by intro h;simp at h;omega)).trans Hc.out
   clear hg
   go_wp2_with fail
   refine (VN p s r (zY qG acc).text _ Hs.out (Hah.out) hrd).mono ?_
   rintro e w2 ⟨hg2,⟨rfl,hno⟩|⟨x,r2,hx,rfl,hrd2,hu⟩⟩
   ·go_wp2
    refine ⟨rfl,ja (jH (jS w _) Hb0.out) (ja Hg.out hg2),.inl ⟨rfl,fun l2 q hl2 h=>?_⟩⟩
    obtain ⟨c,l4,hc4,h4⟩:=ZL Hleft.out Hal.out hlt (fun l h=>h.1) l2 q hl2 h
    exact hno c.text _ ((hl2.2 c (hc4 ▸ by simp)).2.2) h4
   ·have Hu:=hid hu
    have Hx:=hid hx
    have hown2:=qZ hown hplt0 hg2
    have hG2:=ja Hg.out hg2
    clear hown hrd hu hcf hg2 hx
    go_wp2_with (at_builtin;refine wpList_append_own _ rfl (.tmp 17) (.tmp 19) 71 rfl w0.heap.size 9 i0 (.string ⟨#[]⟩) 1 16 Tryz.underlying71 hi hz0 hz1 hz2 rfl (by decide) _ _ _ rfl (hown2.alloc _) ⟨_,0,none⟩ 1 1 [strB x] rfl rfl ?c1 ?c2 ?c3 ?c4 ?c5 ?_)
    case c1=>exact qq w2 #[strB x] 9
    case c2=>intro u hu;simp at hu;subst hu;rfl
    case c3=>unfold maxLen;omega
    case c4=>omega
    case c5=>have:=hG2.size;simp;omega
    intro v3 w3 hown3 hgr3 _
    have HR:=hid (XG hrd2 hplt0 hG2 hown2 hgr3)
    have HO3:=hid hown3
    clear hown2 hown3 hgr3 hG2 hrd2
    go_wp2
    go_roundw
    case rel=>exact ⟨k+1,acc++[⟨false,0,x⟩],r2,by omega,by go_num,by rw [Zo],by simp [Hal.out],fun c hc=>(aM.1 hc).elim (Hok.out c) (fun h=>by simp only [ba,bs,cM] at h;subst h;exact ⟨rfl,rfl,Hx.out⟩),by rw [show JI (acc++[⟨false,0,x⟩])=JI acc++[strB x] by simp [JI,zJ,XV]];exact HO3.out,HR.out.1,HR.out.2,KY Hleft.out Hal.out hlt (fun l h=>h.1) (fun c q hc h=>by
     obtain ⟨e1,e2⟩:=Hu.out c.text q hc.2.2 h
     refine ⟨?_,e2⟩
     obtain ⟨cn,ci,ct⟩:=c
     obtain ⟨o1,o2,o3⟩:=hc
     simp only at o1 o2 e1
     subst o1 o2 e1
     rfl) (fun l h=>h.2)⟩
    case measure=>simp [intOf];omega
  ·have hke:k=count:=by omega
   subst hke
   have Hown:=hid hown
   have Hrd:=hid hrd
   clear hg hown hrd
   go_wp2
   go_ret
   refine ⟨ja (jH (jS w _) Hb0.out) Hg.out,.inr ⟨acc,r,_,⟨Hal.out,Hok.out⟩,rfl,?_,Hrd.out,UT Hleft.out Hal.out (fun l h=>h.1)⟩⟩
   rw [Hal.out]
   exact jw Hown.out Hb0.out.size
end
section
theorem Tryz.infoBool:(Tryz.prog.info? 4).map (fun i=>(i.zero,i.size,i.bytes))=some (some (.bool false),1,1):=by kernel_rfl
theorem Ph (n:Nat) (h:n < 4294967296):bits .and .u64 (n:Int) 4294967295=(n:Int):=by
 have h1:=u64_and_nat n 4294967295 (by omega) (by decide)
 have h2:n &&& 4294967295=n:=by
  rw [show 4294967295=2 ^ 32 - 1 by decide,Nat.and_two_pow_sub_one_eq_mod]
  omega
 rw [h2] at h1
 exact h1
theorem TF (n:Nat) (w:World) (h:n≤60) :
  Calls Tryz.prog 273 #[.int .u64 1,.int .u64 (n:Int)] w fun e w'=>e=.returned (.tuple #[.int .u64 0,.int .u64 (n:Int)])∧w'=w:=by
 have h1:=Ph n (by omega)
 have h2:bits .and .u64 1 4294967295=1:=Ph 1 (by omega)
 have h3:(n:Int) / 4294967296=0:=by omega
 have h4:bits .and .u64 0 4294967295=0:=Ph 0 (by omega)
 go_enter Tryz.func273,Tryz.ntmps273
 go_wp2
 go_ret2
 exact ⟨rfl,rfl⟩
theorem Tt {w:World} {base e g N:Nat} {xs:List Value} (h:w.ownsRow base e 1 (.slice (some ⟨g,0,none⟩) N N) N xs):w.heap[g]?=some (.cells xs.toArray e (0,0)):=by
 rcases h.2 with ⟨h1,_⟩|⟨g',cap,cur,h1,_,h3,_,_,h6,h7⟩
 ·cases h1
 ·simp only [bF,aP,cy,cG] at h1
  obtain ⟨rfl,_,rfl⟩:=h1
  rw [h3]
  have:cur.toList=xs:=by
   rw [← h7,aC]
   simp [h6]
  rw [← this]
theorem DH (N n k:Nat) (v z:Value) (h:n+k≤N):splice (List.replicate n v++List.replicate (N - n) z) n (List.replicate k v)=List.replicate (n+k) v++List.replicate (N - (n+k)) z:=by
 unfold splice
 rw [cB (by simp),aC (by simp),aE,List.drop_append,List.drop_of_length_le (by simp),aE]
 rw [aX,List.drop_replicate,← af,List.replicate_append_replicate]
 congr 2
 omega
def Ku (N n:Nat) (v z:Value):List Value:=List.replicate n v++List.replicate (N - n) z
theorem Zl (N n k:Nat) (v z:Value) (h:n+k≤N):splice (Ku N n v z) n (List.replicate k v)=Ku N (n+k) v z:=DH N n k v z h
theorem Zc (N n:Nat) (v z:Value) (h:n≤N):(Ku N n v z).length=N:=by simp [Ku];omega
theorem Yb (N:Nat) (v z:Value):Ku N N v z=List.replicate N v:=by simp [Ku]
theorem Ai {w:World} {g N n k:Nat} {v z:Value} {t:TypeId} (h:w.heap[g]?=some (.cells (Ku N n v z).toArray t (0,0))) (hk:k≤n):∀ j u,(List.replicate k v)[j]?=some u→w.cell? ((⟨g,0,none⟩:Addr).add j)=some u:=by
 intro j u hj
 have hadd:(⟨g,0,none⟩:Addr).add j=⟨g,j,none⟩:=by unfold Addr.add;split<;>simp_all
 have hlt:j < k:=by
  rcases cR j k with h1|h1
  ·exact h1
  ·rw [cq (by simp;omega)] at hj;cases hj
 rw [List.getElem?_replicate,aw hlt] at hj
 rw [hadd,cell_of_row w g j _ t (0,0) h,← hj]
 simp only [Ku,bw]
 rw [bA (by simp;omega),List.getElem?_replicate,aw (by omega)]
theorem Ke {w:World} {base e g N:Nat} {z v:Value} (h:w.ownsRow base e 1 (.slice (some ⟨g,0,none⟩) N N) N (madeCells z.cells (N*1)).toList) (hz:z.cells=#[z]) :
  w.heap[g]?=some (.cells (Ku N 0 v z).toArray e (0,0)):=by
 have h1:=Tt h
 rw [hz,toList_madeCells_one] at h1
 simpa [Ku] using h1
theorem MP (n:Nat) (w:World) (h:n≤60) :
  Calls Tryz.prog 267 #[.int .u64 1,.int .u64 (n:Int)] w fun e w'=>e=.returned (.tuple #[.int .u64 0,.int .u64 (n:Int)])∧w'=w:=by
 go_enter Tryz.func267,Tryz.ntmps267
 go_wp2_with fail
 refine (TF n _ h).mono ?_
 rintro e w1 ⟨rfl,rfl⟩
 go_wp2
 go_ret2
 exact ⟨rfl,rfl⟩
theorem SK (x:Int) (G cap N:Nat) (w:World) (hN:N≤60) (hG:w.cell? ⟨G,0,none⟩=some (.int .i64 x)) :
  Calls Tryz.prog 243 #[.slice (some ⟨G,0,none⟩) 1 cap,.int .i64 (N:Int)] w fun e w'=>∃ g,e=.returned (.slice (some ⟨g,0,none⟩) N N)∧w'.heap[g]?=some (.cells (List.replicate N (.int .i64 x)).toArray 3 (0,0))∧Below w.heap.size w w':=by
 obtain ⟨i0,hi,hz0,hz1,hz2⟩:=info_parts Tryz.infoInt
 have hsz:(Tryz.prog.info? 3).map (·.size)=some 1:=by rw [hi];simp [hz1]
 have HG:=hid hG
 have hGlt:=aG w _ hG
 have hw1:IntKind.u64.wrap (N:Int)=(N:Int):=Jj (by omega) (by omega)
 have hw2:IntKind.i64.wrap (N:Int)=(N:Int):=Ub (by omega) (by omega)
 clear hG
 go_enter Tryz.func243,Tryz.ntmps243
 go_wp2_with fail
 refine (MP N _ hN).mono ?_
 rintro e w1 ⟨rfl,rfl⟩
 have HG1:=HG
 by_cases hN0:N=0
 ·subst hN0
  go_wp2_with (first
   | (at_make;refine wpList_make_full _ rfl (.tmp 29) (.tmp 29) 82 rfl w1.heap.size 3 i0 (.int .i64 0) 1 Tryz.underlying82 hi hz0 hz1 .i64 .i64 _ _ 0 rfl rfl rfl rfl (by rw [hz2];omega) (by unfold maxLen;omega) (ae _) ?_;intro w3 hown hgr;have hgb:=Ke (v:=.int .i64 x) hown rfl;have hB3:Below w1.heap.size w1 w3:=(Below.refl _ _).grown hgr (ae _) (fun _ h=>by cases h);clear hown hgr)
   | (refine wpList_copy_splice rfl (.tmp 31) (.tmp 32) 82 82 rfl 3 Tryz.underlying82 hsz _ _ _ _ _ _ rfl rfl w1.heap.size 0 _ 3 hgb [] (by simp) (fun h=>by simp at h) (by simp) (fun _ h=>by cases h) w1.heap.size w1 hB3 (ae _) ?_;intro w4 hg4 hb4))
  go_loopw [8] (fun i wr=>i=.int .i64 0∧wr=w4) (fun _ _=>0)
  case atStart=>exact ⟨rfl,rfl⟩
  case round =>
   obtain ⟨rfl,rfl⟩:=hrel
   go_wp2
   go_ret
   exact ⟨w1.heap.size,rfl,by simpa [splice,Ku] using hg4.out,hb4⟩
 ·have hN1:1≤N:=by omega
  have hmin:Nat.min 1 N=1:=cS hN1
  have HN0:=hid hN0
  clear hN0
  go_wp2_with (first
   | (at_make;refine wpList_make_full _ rfl (.tmp 29) (.tmp 29) 82 rfl w1.heap.size 3 i0 (.int .i64 0) 1 Tryz.underlying82 hi hz0 hz1 .i64 .i64 _ _ N rfl rfl rfl rfl (by rw [hz2];omega) (by unfold maxLen;omega) (ae _) ?_;intro w3 hown hgr;have hgb:=Ke (v:=.int .i64 x) hown rfl;have hB3:Below w1.heap.size w1 w3:=(Below.refl _ _).grown hgr (ae _) (fun _ h=>by cases h);clear hown hgr)
   | (refine wpList_copy_splice rfl (.tmp 31) (.tmp 32) 82 82 rfl 3 Tryz.underlying82 hsz _ _ _ _ _ _ rfl rfl w1.heap.size 0 _ 3 hgb (List.replicate 1 (.int .i64 x)) ?c0 ?c1 ?c2 ?c3 w1.heap.size w1 hB3 (ae _) ?_))
  case c0=>rw [aE];exact hmin.symm
  case c1 =>
   intro j v hj
   cases j with
   | zero =>
    simp at hj
    subst hj
    exact (hB3.cell (p:=⟨G,0,none⟩) hGlt).trans HG.out
   | succ j=>simp at hj
  case c2=>rw [Zc _ _ _ _ (by omega)];simp;omega
  case c3=>intro v hv;simp at hv;subst hv;rfl
  intro w4 hg4 hb4
  have HB4:Hid (w4.heap[w1.heap.size]?=some (.cells (Ku N 1 (.int .i64 x) (.int .i64 0)).toArray 3 (0,0))):=by
   have h2:=Zl N 0 1 (.int .i64 x) (.int .i64 0) (by omega)
   have h1:=hg4.out
   simp only [List.replicate_one,bK] at h1 h2
   rw [h2] at h1
   exact h1
  clear hgb hB3 hg4 hmin
  go_wp2_with fail
  go_loopw [8] (fun i wr=>∃ n:Nat,1≤n∧n≤N∧i=.int .i64 (n:Int)∧Hid (wr.heap[w1.heap.size]?=some (.cells (Ku N n (.int .i64 x) (.int .i64 0)).toArray 3 (0,0)))∧Below w1.heap.size w1 wr) (fun i _=>N - (intOf i).toNat)
  case atStart=>exact ⟨1,ae _,hN1,rfl,HB4,hb4⟩
  case round =>
   clear HB4 hb4
   obtain ⟨n,hn1,hnN,rfl,HB,hB⟩:=hrel
   by_cases hlt:n < N
   ·have hk0:(0:Int)≤(n:Int):=by omega
    have hk1:(n:Int)≤(N:Int):=by omega
    have hki:(n:Int) < (N:Int):=by omega
    go_wp2_with fail
    have hNn:¬ N=n:=by omega
    have hmk:Nat.min n (N - n)≤n:=Nat.min_le_left _ _
    have hmk0:Nat.min n (N - n)≤N - n:=Nat.min_le_right _ _
    have hmk2:n+Nat.min n (N - n)≤N:=by omega
    have hmk3:1≤Nat.min n (N - n):=Nat.le_min.2 ⟨hn1,by omega⟩
    have HC:=hid (Ai (k:=Nat.min n (N - n)) HB.out hmk)
    generalize hmm:Nat.min n (N - n)=m at *
    have Hmm:=hid hmm
    clear hmm
    refine wp_region_held_drew (S:=fun w'=>True) (by kernel_rfl) trivial (fun hHeld=>?_)
    refine tk 0 (.int .i64 (n:Int)) ?_
    refine tk 1 (.slice (some ⟨w1.heap.size,0,none⟩) N N) ?_
    refine tk 2 (.int .i64 (n:Int)) ?_
    refine tk 3 (.slice (some ⟨w1.heap.size,n,none⟩) (N - n) (N - n)) ?_
    refine tk 4 (.slice (some ⟨w1.heap.size,0,none⟩) N N) ?_
    refine tk 5 (.int .i64 (n:Int)) ?_
    refine tk 6 (.slice (some ⟨w1.heap.size,0,none⟩) n N) ?_
    simp only [jA,jB,jC,Act.put,jD,jE,jF]
    refine rd 7 (fun K hK=>?_)
    refine step_copy_splice (w:=wr.drew) (by rfl) (.tmp 41) (.tmp 44) 82 82 (by rfl) 3 Tryz.underlying82 hsz _ _ _ _ _ _ (by rfl) (by rfl) w1.heap.size n _ 3 HB.out (List.replicate m (.int .i64 x)) (by rw [aE];exact Hmm.out.symm) (fun _=>⟨rfl,_,rfl,HC.out⟩) (by rw [Zc _ _ _ _ (by omega),aE];exact hmk2) (fun u hu=>by rw [bC] at hu;rw [hu.2];rfl) w1.heap.size w1 (show Below w1.heap.size w1 wr.drew from below_drewN hB 1) (ae _) ?_
    intro w5 hg5 hb5
    have HB5:Hid (w5.heap[w1.heap.size]?=some (.cells (Ku N (n+m) (.int .i64 x) (.int .i64 0)).toArray 3 (0,0))):=by
     have h1:=hg5.out
     rw [Zl N n m _ _ hmk2] at h1
     exact h1
    rw [aE]
    clear hg5
    try go_wp2_with fail
    refine hK.out _ _ trivial (fun hHeld=>?_)
    clear hK K
    try simp only [jA,jB,jC,Act.put,jD,jE,jF]
    refine rd 8 (fun K hK=>?_)
    simp only [jA,jB,jC]
    go_simp
    try go_wp2_with fail
    refine hK.out _ _ trivial (fun hHeld=>?_)
    clear hK K
    try simp only [jA,jB,jC,Act.put,jD,jE,jF]
    refine rd 9 (fun K hK=>?_)
    simp only [jA,jB,jC]
    go_simp
    try go_wp2_with fail
    refine hK.out _ _ trivial (fun hHeld=>?_)
    clear hK K
    try simp only [jA,jB,jC,Act.put,jD,jE,jF]
    refine wpAnyH_done (by kernel_rfl) ?_ _
    have hwn:IntKind.i64.wrap ((n:Int)+(m:Int))=((n+m:Nat):Int):=by rw [IntKind.wrap_i64];omega
    rw [hwn]
    clear hwn
    go_wp2_with fail
    go_roundw
    case rel=>exact ⟨n+m,by omega,hmk2,rfl,HB5,hb5⟩
    case measure=>simp [intOf];omega
   ·have hne:n=N:=by omega
    subst hne
    have hki:decide ((n:Int) < (n:Int))=false:=by simp
    go_wp2
    go_ret
    exact ⟨w1.heap.size,rfl,by have:=HB.out;rw [Yb] at this;exact this,hB⟩
theorem Nk (x:Bool) (G cap N:Nat) (w:World) (hN:N≤60) (hG:w.cell? ⟨G,0,none⟩=some (.bool x)) :
  Calls Tryz.prog 249 #[.slice (some ⟨G,0,none⟩) 1 cap,.int .i64 (N:Int)] w fun e w'=>∃ g,e=.returned (.slice (some ⟨g,0,none⟩) N N)∧w'.heap[g]?=some (.cells (List.replicate N (.bool x)).toArray 4 (0,0))∧Below w.heap.size w w':=by
 obtain ⟨i0,hi,hz0,hz1,hz2⟩:=info_parts Tryz.infoBool
 have hsz:(Tryz.prog.info? 4).map (·.size)=some 1:=by rw [hi];simp [hz1]
 have HG:=hid hG
 have hGlt:=aG w _ hG
 have hw1:IntKind.u64.wrap (N:Int)=(N:Int):=Jj (by omega) (by omega)
 have hw2:IntKind.i64.wrap (N:Int)=(N:Int):=Ub (by omega) (by omega)
 clear hG
 go_enter Tryz.func249,Tryz.ntmps249
 go_wp2_with fail
 refine (MP N _ hN).mono ?_
 rintro e w1 ⟨rfl,rfl⟩
 have HG1:=HG
 by_cases hN0:N=0
 ·subst hN0
  go_wp2_with (first
   | (at_make;refine wpList_make_full _ rfl (.tmp 29) (.tmp 29) 282 rfl w1.heap.size 4 i0 (.bool false) 1 Tryz.underlying282 hi hz0 hz1 .i64 .i64 _ _ 0 rfl rfl rfl rfl (by rw [hz2];omega) (by unfold maxLen;omega) (ae _) ?_;intro w3 hown hgr;have hgb:=Ke (v:=.bool x) hown rfl;have hB3:Below w1.heap.size w1 w3:=(Below.refl _ _).grown hgr (ae _) (fun _ h=>by cases h);clear hown hgr)
   | (refine wpList_copy_splice rfl (.tmp 31) (.tmp 32) 282 282 rfl 4 Tryz.underlying282 hsz _ _ _ _ _ _ rfl rfl w1.heap.size 0 _ 4 hgb [] (by simp) (fun h=>by simp at h) (by simp) (fun _ h=>by cases h) w1.heap.size w1 hB3 (ae _) ?_;intro w4 hg4 hb4))
  go_loopw [8] (fun i wr=>i=.int .i64 0∧wr=w4) (fun _ _=>0)
  case atStart=>exact ⟨rfl,rfl⟩
  case round =>
   obtain ⟨rfl,rfl⟩:=hrel
   go_wp2
   go_ret
   exact ⟨w1.heap.size,rfl,by simpa [splice,Ku] using hg4.out,hb4⟩
 ·have hN1:1≤N:=by omega
  have hmin:Nat.min 1 N=1:=cS hN1
  have HN0:=hid hN0
  clear hN0
  go_wp2_with (first
   | (at_make;refine wpList_make_full _ rfl (.tmp 29) (.tmp 29) 282 rfl w1.heap.size 4 i0 (.bool false) 1 Tryz.underlying282 hi hz0 hz1 .i64 .i64 _ _ N rfl rfl rfl rfl (by rw [hz2];omega) (by unfold maxLen;omega) (ae _) ?_;intro w3 hown hgr;have hgb:=Ke (v:=.bool x) hown rfl;have hB3:Below w1.heap.size w1 w3:=(Below.refl _ _).grown hgr (ae _) (fun _ h=>by cases h);clear hown hgr)
   | (refine wpList_copy_splice rfl (.tmp 31) (.tmp 32) 282 282 rfl 4 Tryz.underlying282 hsz _ _ _ _ _ _ rfl rfl w1.heap.size 0 _ 4 hgb (List.replicate 1 (.bool x)) ?c0 ?c1 ?c2 ?c3 w1.heap.size w1 hB3 (ae _) ?_))
  case c0=>rw [aE];exact hmin.symm
  case c1 =>
   intro j v hj
   cases j with
   | zero =>
    simp at hj
    subst hj
    exact (hB3.cell (p:=⟨G,0,none⟩) hGlt).trans HG.out
   | succ j=>simp at hj
  case c2=>rw [Zc _ _ _ _ (by omega)];simp;omega
  case c3=>intro v hv;simp at hv;subst hv;rfl
  intro w4 hg4 hb4
  have HB4:Hid (w4.heap[w1.heap.size]?=some (.cells (Ku N 1 (.bool x) (.bool false)).toArray 4 (0,0))):=by
   have h2:=Zl N 0 1 (.bool x) (.bool false) (by omega)
   have h1:=hg4.out
   simp only [List.replicate_one,bK] at h1 h2
   rw [h2] at h1
   exact h1
  clear hgb hB3 hg4 hmin
  go_wp2_with fail
  go_loopw [8] (fun i wr=>∃ n:Nat,1≤n∧n≤N∧i=.int .i64 (n:Int)∧Hid (wr.heap[w1.heap.size]?=some (.cells (Ku N n (.bool x) (.bool false)).toArray 4 (0,0)))∧Below w1.heap.size w1 wr) (fun i _=>N - (intOf i).toNat)
  case atStart=>exact ⟨1,ae _,hN1,rfl,HB4,hb4⟩
  case round =>
   clear HB4 hb4
   obtain ⟨n,hn1,hnN,rfl,HB,hB⟩:=hrel
   by_cases hlt:n < N
   ·have hk0:(0:Int)≤(n:Int):=by omega
    have hk1:(n:Int)≤(N:Int):=by omega
    have hki:(n:Int) < (N:Int):=by omega
    go_wp2_with fail
    have hNn:¬ N=n:=by omega
    have hmk:Nat.min n (N - n)≤n:=Nat.min_le_left _ _
    have hmk0:Nat.min n (N - n)≤N - n:=Nat.min_le_right _ _
    have hmk2:n+Nat.min n (N - n)≤N:=by omega
    have hmk3:1≤Nat.min n (N - n):=Nat.le_min.2 ⟨hn1,by omega⟩
    have HC:=hid (Ai (k:=Nat.min n (N - n)) HB.out hmk)
    generalize hmm:Nat.min n (N - n)=m at *
    have Hmm:=hid hmm
    clear hmm
    refine wp_region_held_drew (S:=fun w'=>True) (by kernel_rfl) trivial (fun hHeld=>?_)
    refine tk 0 (.int .i64 (n:Int)) ?_
    refine tk 1 (.slice (some ⟨w1.heap.size,0,none⟩) N N) ?_
    refine tk 2 (.int .i64 (n:Int)) ?_
    refine tk 3 (.slice (some ⟨w1.heap.size,n,none⟩) (N - n) (N - n)) ?_
    refine tk 4 (.slice (some ⟨w1.heap.size,0,none⟩) N N) ?_
    refine tk 5 (.int .i64 (n:Int)) ?_
    refine tk 6 (.slice (some ⟨w1.heap.size,0,none⟩) n N) ?_
    simp only [jA,jB,jC,Act.put,jD,jE,jF]
    refine rd 7 (fun K hK=>?_)
    refine step_copy_splice (w:=wr.drew) (by rfl) (.tmp 41) (.tmp 44) 282 282 (by rfl) 4 Tryz.underlying282 hsz _ _ _ _ _ _ (by rfl) (by rfl) w1.heap.size n _ 4 HB.out (List.replicate m (.bool x)) (by rw [aE];exact Hmm.out.symm) (fun _=>⟨rfl,_,rfl,HC.out⟩) (by rw [Zc _ _ _ _ (by omega),aE];exact hmk2) (fun u hu=>by rw [bC] at hu;rw [hu.2];rfl) w1.heap.size w1 (show Below w1.heap.size w1 wr.drew from below_drewN hB 1) (ae _) ?_
    intro w5 hg5 hb5
    have HB5:Hid (w5.heap[w1.heap.size]?=some (.cells (Ku N (n+m) (.bool x) (.bool false)).toArray 4 (0,0))):=by
     have h1:=hg5.out
     rw [Zl N n m _ _ hmk2] at h1
     exact h1
    rw [aE]
    clear hg5
    try go_wp2_with fail
    refine hK.out _ _ trivial (fun hHeld=>?_)
    clear hK K
    try simp only [jA,jB,jC,Act.put,jD,jE,jF]
    refine rd 8 (fun K hK=>?_)
    simp only [jA,jB,jC]
    go_simp
    try go_wp2_with fail
    refine hK.out _ _ trivial (fun hHeld=>?_)
    clear hK K
    try simp only [jA,jB,jC,Act.put,jD,jE,jF]
    refine rd 9 (fun K hK=>?_)
    simp only [jA,jB,jC]
    go_simp
    try go_wp2_with fail
    refine hK.out _ _ trivial (fun hHeld=>?_)
    clear hK K
    try simp only [jA,jB,jC,Act.put,jD,jE,jF]
    refine wpAnyH_done (by kernel_rfl) ?_ _
    have hwn:IntKind.i64.wrap ((n:Int)+(m:Int))=((n+m:Nat):Int):=by rw [IntKind.wrap_i64];omega
    rw [hwn]
    clear hwn
    go_wp2_with fail
    go_roundw
    case rel=>exact ⟨n+m,by omega,hmk2,rfl,HB5,hb5⟩
    case measure=>simp [intOf];omega
   ·have hne:n=N:=by omega
    subst hne
    have hki:decide ((n:Int) < (n:Int))=false:=by simp
    go_wp2
    go_ret
    exact ⟨w1.heap.size,rfl,by have:=HB.out;rw [Yb] at this;exact this,hB⟩
end
section
theorem Gt (n:Nat) (l:List CellB) (a b:Nat):∃ m,js n l (a+b)=js n l a++m:=by
 induction b with
 | zero=>exact ⟨[],by simp⟩
 | succ b ih =>
  obtain ⟨m,hm⟩:=ih
  exact ⟨m++qN n l (a+b),by rw [← bI,js,hm,af]⟩
def PP (dom:List CellB→Prop) (rest:List UInt8) (acc:List CellB) (r:List UInt8):Prop :=
 ∀ l2 q,dom l2→rest=js 2 l2 l2.length++q→l2.take acc.length=acc∧AH l2 acc.length∧rest=js 2 l2 acc.length++r
theorem Ac (dom:List CellB→Prop) (rest:List UInt8):PP dom rest [] rest:=fun l2 q _ h=>⟨rfl,.inl rfl,rfl⟩
def EE (count:Nat) (l:List CellB):Prop:=l.length=count∧∀ c ∈ l,okI c
theorem Kn {count:Nat} {rest r:List UInt8} {acc:List CellB} (h:PP (EE count) rest acc r) (hlt:acc.length < count) (l2:List CellB) (q:List UInt8) (hd:EE count l2) (hr:rest=js 2 l2 l2.length++q) :
  ∃ (rr:Nat) (v:Int) (m:List UInt8),0 < rr∧rr≤count - acc.length∧inI v∧r=uB rr++(zB v++m)∧l2.take (acc.length+rr)=acc++List.replicate rr ⟨false,v,[]⟩∧AH l2 (acc.length+rr)∧rest=js 2 l2 (acc.length+rr)++m:=by
 obtain ⟨h1,h2,h3⟩:=h l2 q hd hr
 have hk:acc.length < l2.length:=by rw [hd.1];exact hlt
 generalize hkk:acc.length=k at *
 have hs:=Rb l2 k hk h2
 have hp:=Ni l2 k hk
 have hle:=UZ (l2[k]).int (l2.drop k)
 rw [an] at hle
 have hend:=At l2 k hk
 have hval:=Nt l2 k
 generalize hrr:Jm (l2[k]).int (l2.drop k)=rr at *
 have hs1:=hs rr (by omega) (ae _)
 obtain ⟨m0,hm0⟩:=Gt 2 l2 (k+rr) (l2.length - (k+rr))
 rw [show k+rr+(l2.length - (k+rr))=l2.length by omega] at hm0
 have hokk:=hd.2 l2[k] (al hk)
 refine ⟨rr,(l2[k]).int,m0++q,by omega,by rw [← hd.1];omega,hokk.2.2,?_,?_,hend,?_⟩
 ·have e1:js 2 l2 k++r=js 2 l2 k++(uB rr++(zB (l2[k]).int++(m0++q))):=by
   rw [← h3,hr,hm0,hs1];simp only [af]
  exact cE e1
 ·have e2:l2.take (k+rr)=l2.take k++(l2.drop k).take rr:=by rw [List.take_add]
  rw [e2,h1]
  congr 1
  apply cx
  ·rw [aq,an,aE];omega
  ·intro j hj1 hj2
   rw [aE] at hj2
   rw [cD,aZ,bY]
   have hv:=hval j hk (by rw [hrr];exact hj2)
   rw [qg l2 (k+j) (by omega)] at hv
   have ho:=hd.2 l2[k+j] (al _)
   obtain ⟨o1,o2,_⟩:=ho
   generalize l2[k+j]=c at *
   obtain ⟨cn,ci,ct⟩:=c
   simp only at o1 o2 hv
   subst o1 o2 hv
   rfl
 ·rw [hr,hm0,af]
theorem Ui (p:Nat) (s rest:List UInt8) (n:Int) (most:Nat) (w:World) (h:n=(most:Int)) (hs:s.length≤maxLen) (hm:most≤1000000) (hp:qz w p s rest) :
  Calls Tryz.prog 242 #[.pointer (some ⟨p,0,none⟩),.int .i64 n] w (Vp (fun n:Nat=>n≤most) uB (fun n=>.int .i64 (n:Int)) p s rest w):=by
 subst h
 exact Kd p s rest most w hs hm hp
theorem XZ {w0 w2 w3:World} {p n ty sz:Nat} {s r:List UInt8} {v:Value} {xs:List Value} (hrd:qz w2 p s r) (hp:p < w0.heap.size) (hG:w0.grownBy w2 (some p)) (hown:w2.ownsRow w0.heap.size ty sz v n xs)
  (hgr:w2.grownBy w3 v.ownBlock):qz w3 p s r∧w0.grownBy w3 (some p):=by
 have hlt:=xp hrd
 have hne:some p≠v.ownBlock:=by
  intro h
  have:=(hown.lt p h.symm).1
  omega
 obtain ⟨at_,h1,h2,h3⟩:=hrd
 exact ⟨⟨at_,(hgr.block p hlt hne).trans h1,h2,h3⟩,zy hG hgr (fun k hk=>(hown.lt k hk).1)⟩
theorem CO (g p count:Nat) (s rest:List UInt8) (w:World) (hs:s.length≤maxLen) (hc:count≤60) (hp:qz w p s rest) :
  Calls Tryz.prog 186 #[numC g,.pointer (some ⟨p,0,none⟩),.int .i64 (count:Int)] w (Xp 3 Xa (EE count) (fun l=>js 2 l l.length) p s rest w):=by
 obtain ⟨i0,hi,hz0,hz1,hz2⟩:=info_parts Tryz.infoInt
 have Hs:=hid hs
 have Hp:=hid hp
 have hplt:=xp hp
 clear hs hp
 go_enter Tryz.func186,Tryz.ntmps186
 go_wp2
 obtain ⟨hb0,hs0,hc0⟩:=Jd w #[.slice (some ⟨g,0,none⟩) 3 3,fnV 187,fnV 188,fnV 189,fnV 190,fnV 191,fnV 192] 215
 have hc1:_=some (fnV 192):=hc0 6
 have Hc:=hid hc1
 have Hp0:=hid (qK Hp.out hb0 hplt)
 have Hb0:=hid hb0
 have hs1:=aI (aL w.heap.size) hs0.symm
 have hplt0:=aa hplt hb0.size
 clear hc0 hc1 hb0 hs0
 generalize w.alloc _=w0 at *
 go_loopg [7] count (fun gk v wr=>∃ (acc:List CellB) (r:List UInt8),acc.length+gk=count∧(∀ c ∈ acc,okI c)∧wr.ownsRow w0.heap.size 3 1 v acc.length (Xa acc)∧qz wr p s r∧w0.grownBy wr (some p)∧PP (EE count) rest acc r)
 case atStart=>exact ⟨[],rest,bK _,(fun c h=>Jf h),World.ownsRow_nil _ _ _ _,Hp0.out,jS _ _,Ac _ _⟩
 case round =>
  obtain ⟨acc,r,hal,hok,hown,hrd,hg,hleft⟩:=hrel
  have Hal:=hid hal
  have Hok:=hid hok
  have Hleft:=hid hleft
  have Hg:=hid hg
  have hln:=Rw hown wr
  have hln1:acc.length≤count:=by omega
  clear hok hleft hal
  by_cases hlt:acc.length < count
  ·have hi1:(acc.length:Int) < (count:Int):=by omega
   have hcf0:=(hg.cell_far ⟨w.heap.size,6,none⟩ hs1 (by intro h;simp at h;omega)).trans Hc.out
   have Hcf0:=hid hcf0
   clear hg hcf0
   go_wp2_with fail
   refine (Ui p s r _ (count - acc.length) _ (by omega) Hs.out (by omega) hrd).mono ?_
   rintro e w2 ⟨hg2,⟨rfl,hno⟩|⟨n,r2,hn,rfl,hrd2,hu⟩⟩
   ·go_wp2
    refine ⟨rfl,ja (jH (jS w _) Hb0.out) (ja Hg.out hg2),.inl ⟨rfl,fun l2 q hl2 h=>?_⟩⟩
    obtain ⟨rr,v,m,k1,k2,k3,k4,_⟩:=Kn Hleft.out hlt l2 q hl2 h
    exact hno rr _ k2 k4
   ·have Hu:=hid hu
    have hn1:n≤count - acc.length:=hn
    have hown2:=qZ hown hplt0 hg2
    have hG2:=ja Hg.out hg2
    have Hcf2:Hid (w2.cell? ⟨w.heap.size,6,none⟩=some (fnV 192)):=(hg2.cell_far ⟨w.heap.size,6,none⟩ (aa hs1 Hg.out.size) (by intro h;simp at h;omega)).trans Hcf0.out
    clear hown hrd hu hg2 hln
    by_cases hn0:0 < n
    ·have hn0i:(0:Int) < (n:Int):=by omega
     have hcf2:=Hcf2.out
     go_wp2_with fail
     refine (qd _).mono ?_
     rintro e w2' ⟨rfl,rfl⟩
     go_wp2_with fail
     refine (Kt p s r2 0 _ Hs.out ⟨by decide,by decide⟩ hrd2).mono ?_
     rintro e w3 ⟨hg3,⟨rfl,hno⟩|⟨x,r3,hx,rfl,hrd3,hu3⟩⟩
     ·go_wp2
      refine ⟨rfl,ja (jH (jS w _) Hb0.out) (ja hG2 hg3),.inl ⟨rfl,fun l2 q hl2 h=>?_⟩⟩
      obtain ⟨rr,v,m,k1,k2,k3,k4,_⟩:=Kn Hleft.out hlt l2 q hl2 h
      obtain ⟨e1,e2⟩:=Hu.out rr _ k2 k4
      exact hno v m k3 (by show _=zB (wrap64 (v - 0))++m;rw [VT v k3.1 k3.2];exact e2.symm)
     ·have Hu3:=hid hu3
      have Hx:=hid hx
      have hown3:=qZ hown2 hplt0 hg3
      have hG3:=ja hG2 hg3
      clear hown2 hrd2 hu3 hg3 hG2 hcf2 hx
      go_wp2_with fail
      refine (SK x w3.heap.size 1 n _ (by omega) (World.cell?_alloc_mark ..)).mono ?_
      rintro e w4 ⟨g4,rfl,hb4,hB4⟩
      have hB4':Below w3.heap.size w3 w4:=zM hB4
      have hown4:=jL hown3 hB4'
      have hrd4:=qK hrd3 hB4' (xp hrd3)
      have hG4:=jH hG3 hB4'
      have HN4:=hid (World.news_of_block hb4)
      clear hB4 hB4' hown3 hrd3 hG3 hb4
      go_wp2_with (at_builtin;refine wpList_append_own _ rfl (.tmp 29) (.tmp 33) 82 rfl w0.heap.size 3 i0 (.int .i64 0) 1 8 Tryz.underlying82 hi hz0 hz1 hz2 rfl (by decide) _ _ _ rfl hown4 ⟨g4,0,none⟩ n n (List.replicate n (.int .i64 x)) rfl ?c0 ?c1 ?c2 ?c3 ?c4 ?c5 ?_)
      case c0=>simp
      case c1=>intro j u hj;exact HN4.out j u (by simpa using hj)
      case c2=>intro u hu;rw [bC] at hu;rw [hu.2];rfl
      case c3=>unfold maxLen;omega
      case c4=>omega
      case c5=>have:=hG4.size;omega
      intro v5 w5 hown5 hgr5 _
      have HR:=hid (XZ hrd4 hplt0 hG4 hown4 hgr5)
      have HO5:=hid hown5
      have HX:Hid (Xa (acc++List.replicate n ⟨false,x,[]⟩)=Xa acc++List.replicate n (.int .i64 x)):=by simp [Hid,Xa]
      have HLN:Hid ((acc++List.replicate n (⟨false,x,[]⟩:CellB)).length=acc.length+n):=by simp [Hid]
      clear hown4 hown5 hgr5 hG4 hrd4 HN4
      go_wp2
      go_roundg (count - acc.length - n)
      case measure=>have:=Hal.out;omega
      case rel =>
       refine ⟨acc++List.replicate n ⟨false,x,[]⟩,r3,?_,?_,?_,HR.out.1,HR.out.2,?_⟩
       ·rw [HLN.out];omega
       ·intro c hc
        rcases aM.1 hc with h|h
        ·exact Hok.out c h
        ·rw [bC] at h;rw [h.2];exact ⟨rfl,rfl,Hx.out⟩
       ·rw [HX.out,HLN.out];exact HO5.out
       ·intro l2 q hl2 h
        obtain ⟨rr,v,m,k1,k2,k3,k4,k5,k6,k7⟩:=Kn Hleft.out hlt l2 q hl2 h
        obtain ⟨e1,e2⟩:=Hu.out rr _ k2 k4
        obtain ⟨e3,e4⟩:=Hu3.out v m k3 (by show _=zB (wrap64 (v - 0))++m;rw [VT v k3.1 k3.2];exact e2.symm)
        subst e1 e3 e4
        rw [HLN.out]
        exact ⟨k5,k6,k7⟩
    ·have hn0i:decide ((0:Int) < (n:Int))=false:=by simp;omega
     go_wp2_with fail
     refine (qU _).mono ?_
     rintro e w2' ⟨rfl,rfl⟩
     go_wp2
     refine ⟨rfl,ja (jH (jS w _) Hb0.out) hG2,.inl ⟨rfl,fun l2 q hl2 h=>?_⟩⟩
     obtain ⟨rr,v,m,k1,k2,k3,k4,_⟩:=Kn Hleft.out hlt l2 q hl2 h
     obtain ⟨e1,e2⟩:=Hu.out rr _ k2 k4
     omega
  ·have hke:acc.length=count:=by omega
   have hi1:decide ((acc.length:Int) < (count:Int))=false:=by simp;omega
   have Hke:=hid hke
   have Hown:=hid hown
   have Hrd:=hid hrd
   clear hg hown hrd hke
   go_wp2
   go_ret
   refine ⟨ja (jH (jS w _) Hb0.out) Hg.out,.inr ⟨acc,r,_,⟨Hke.out,Hok.out⟩,rfl,jw Hown.out Hb0.out.size,Hrd.out,fun l2 q hl2 h=>?_⟩⟩
   obtain ⟨e1,e2,e3⟩:=Hleft.out l2 q hl2 h
   rw [Hke.out,← hl2.1,aF] at e1
   subst e1
   refine ⟨rfl,?_⟩
   have e4:js 2 l2 l2.length++q=js 2 l2 l2.length++r:=h.symm.trans e3
   exact cE e4
end
end Go.Proofs.YthhpbhpfagoapaaGreat
