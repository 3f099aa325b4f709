import Derived.Test.YthhpbhpfagoapabGreatJAY
import Derived.Test.YthhpbhpfagoapabGreatDReadRows
import Derived.Test.YthhpbhpfagoapabGreatRTk
import Derived.Test.YthhpbhpfagoapabGreatJAR
import Derived.Test.YthhpbhpfagoapabGreatJAT
import Derived.Deep.AppendLies
import Derived.Deep.RegionHeld3
import Derived.Deep.RegionLaw
namespace Go.Proofs.YthhpbhpfagoapabGreat
set_option linter.unusedVariables false
set_option linter.unusedSimpArgs false
set_option maxRecDepth 100000
set_option maxHeartbeats 16000000
open Go.RowKit
section
structure SmallC (c:ColB):Prop where
 name:c.name.length≤8
 kind:c.kind=0∨c.kind=1
 key:0≤c.key∧c.key≤9
 cells:c.cells=[]
def Sb (c:ColB):List Value:=[strB c.name,.int .i64 c.kind,.int .i64 c.key,.slice none 0 0]
def XU (t:List ColB):List Value:=t.flatMap Sb
theorem MN (t:List ColB) (c:ColB):XU (t++[c])=XU t++[strB c.name,.int .i64 c.kind,.int .i64 c.key,.slice none 0 0]:=by simp [XU,Sb]
theorem Tryz.infoColumnX:(Tryz.prog.info? 31).map (fun i=>(i.zero,i.size,i.bytes))=some (some (.agg #[.string ⟨#[]⟩,.int .i64 0,.int .i64 0,.slice none 0 0]),4,56):=by kernel_rfl
theorem Sv {a b:ColB} (ha:SmallC a) (hb:SmallC b) (h:Xp a=Xp b):a=b:=by
 simp only [Xp,Prod.mk.injEq] at h
 obtain ⟨h1,h2,h3⟩:=h
 have:=ha.kind
 have:=hb.kind
 have:=ha.key
 have:=hb.key
 have h4:a.kind=b.kind:=by omega
 have h5:a.key=b.key:=by omega
 have h6:=ha.cells
 have h7:=hb.cells
 cases a;cases b;simp_all
theorem Yl:∀ {a b:List ColB},(∀ c ∈ a,SmallC c)→(∀ c ∈ b,SmallC c)→a.map Xp=b.map Xp→a=b:=by
 intro a
 induction a with
 | nil=>intro b _ _ h;cases b with
  | nil=>rfl
  | cons x l=>simp at h
 | cons x l ih =>
  intro b ha hb h
  cases b with
  | nil=>simp at h
  | cons y m =>
   simp only [List.map_cons,List.cons.injEq] at h
   rw [Sv (ha x (by simp)) (hb y (by simp)) h.1,ih (fun c hc=>ha c (List.mem_cons_of_mem _ hc)) (fun c hc=>hb c (List.mem_cons_of_mem _ hc)) h.2]
theorem Qj {t:List ColB} (h:qc t=true) (hb:∀ c ∈ t,c.cells=[]):∀ c ∈ t,SmallC c:=by
 intro c hc
 obtain ⟨k,hk,rfl⟩:=List.mem_iff_getElem.1 hc
 simp only [qc,Bool.and_eq_true] at h
 obtain ⟨a,b,c,d⟩:=QP (Qd h.1 (Nat.le_refl _) k hk).1
 exact ⟨(KS a).2,b,⟨c,d⟩,hb _ (List.getElem_mem hk)⟩
theorem CR {a t:List ColB} {r q:List UInt8} (hl:a.length < t.length) (ha:∀ c ∈ a,SmallC c) (ht:∀ c ∈ t,SmallC c) (h:a.flatMap qn++r=t.flatMap qn++q):∃ c t2,SmallC c∧r=qn c++t2:=by
 have e:t.flatMap qn++q=(t.take a.length).flatMap qn++((t.drop a.length).flatMap qn++q):=by
  rw [← List.append_assoc,← List.flatMap_append,List.take_append_drop]
 rw [e] at h
 obtain ⟨_,h2⟩:=KX a (t.take a.length) _ _ (by rw [List.length_take];omega) h
 rw [List.drop_eq_getElem_cons hl,List.flatMap_cons,List.append_assoc] at h2
 exact ⟨t[a.length],_,ht _ (List.getElem_mem hl),h2⟩
theorem IU {a t:List ColB} {r q:List UInt8} (hl:a.length=t.length) (ha:∀ c ∈ a,SmallC c) (ht:∀ c ∈ t,SmallC c) (h:a.flatMap qn++r=t.flatMap qn++q):a=t∧r=q:=by
 obtain ⟨h1,h2⟩:=KX a t _ _ hl h
 exact ⟨Yl ha ht h1,h2⟩
theorem Tk {w:World} {base n:Nat} {v:Value} {t:List ColB} (h:w.ownsRow base 31 4 v n (XU t)) (hn:t.length=n) (ht:∀ c ∈ t,SmallC c):∃ a cap,v=.slice a n cap∧n≤cap∧LiesT w a t:=by
 subst hn
 have hok:∀ c ∈ t,Cg c:=fun c hc=>by
  have:=ht c hc
  have h1:=this.name
  have h2:=this.kind
  have h3:=this.key
  exact ⟨by unfold maxLen;omega,⟨by omega,by omega⟩,by omega,by omega⟩
 rcases h.2 with ⟨rfl,h0⟩|⟨g,cap,cur,rfl,_,_,hcap,_⟩
 ·exact ⟨none,0,by rw [h0],by omega,hok,fun hne=>absurd (List.eq_nil_of_length_eq_zero (by omega)) hne⟩
 ·refine ⟨_,cap,rfl,hcap,hok,fun _=>⟨g,0,rfl,(h.lt g rfl).2,fun j hj=>?_⟩⟩
  have hf:=Jt Sb 4 (fun _=>rfl) t j
  simp only [Nat.zero_add]
  refine ⟨?_,?_,?_,.slice none 0 0,?_,?_⟩
  ·rw [h.cellAt (j*4) (by omega)];exact hf 0 hj (by omega)
  ·rw [h.cellAt (j*4+1) (by omega)];exact hf 1 hj (by omega)
  ·rw [h.cellAt (j*4+2) (by omega)];exact hf 2 hj (by omega)
  ·rw [h.cellAt (j*4+3) (by omega)];exact hf 3 hj (by omega)
  ·rw [(ht _ (List.getElem_mem hj)).cells]
   exact ⟨none,0,rfl,Nat.zero_le _,⟨fun c hc=>by simp at hc,fun hne=>absurd rfl hne⟩,by simp⟩
theorem jN {w w':World} {base:Nat} {e:TypeId} {size:Nat} {v:Value} {n:Nat} {xs:List Value} (h:w.ownsRow base e size v n xs) (hb:Below w.heap.size w w'):w'.ownsRow base e size v n xs:=by
 refine ⟨h.1,?_⟩
 rcases h.2 with hn|⟨g,cap,cur,rfl,hb',hg,rest⟩
 ·exact .inl hn
 ·exact .inr ⟨g,cap,cur,rfl,hb',(hb.block g (Array.getElem?_eq_some_iff.1 hg).1).trans hg,rest⟩
theorem Vf (w:World) (C:Array Value) (t:TypeId) {G:Nat} (hG:G=w.heap.size):∀ (j:Nat) (u:Value),C.toList[j]?=some u→(w.alloc (.cells C t)).cell? ((⟨G,0,none⟩:Addr).add j)=some u:=by
 subst hG
 exact qC w C t
theorem Dq (a:Option Addr) (cap n:Nat) (t:List ColB) (w:World) (hn:t.length=n) (hm:n≤maxLen) (hcap:n≤cap) (hl:LiesT w a t) :
  Calls Tryz.prog 90 #[.slice a n cap] w fun e w'=>e=.returned (.bool (qc t))∧Below w.heap.size w w':=by
 subst hn
 exact GN a cap t w hm hcap hl
def BZ (p:Nat) (s rest:List UInt8) (w:World) (e:Ending) (w':World):Prop :=
 w.grownBy w' (some p)∧((e=gaveUp∧∀ (t:List ColB) (q:List UInt8),qc t=true→(∀ c ∈ t,c.cells=[])→rest≠uB t.length++(t.flatMap qn++q)) ∨
  ∃ (t:List ColB) (v:Value) (r:List UInt8),qc t=true∧(∀ c ∈ t,SmallC c)∧e=.returned v∧w'.ownsRow w.heap.size 31 4 v t.length (XU t)∧qv w' p s r∧rest=uB t.length++(t.flatMap qn++r))
theorem GW (p:Nat) (s rest:List UInt8) (w:World) (hs:s.length≤maxLen) (hp:qv w p s rest) :
  Calls Tryz.prog 140 #[.pointer (some ⟨p,0,none⟩)] w (BZ p s rest w):=by
 obtain ⟨i0,hi,hz0,hz1,hz2⟩:=info_parts Tryz.infoColumnX
 have Hs:=hid hs
 have Hp:=hid hp
 have hplt:=xD hp
 clear hs hp
 go_enter Tryz.func140,Tryz.ntmps140
 go_wp2_with fail
 refine (zK p s rest 6 w Hs.out (by omega) Hp.out).mono ?_
 rintro e w1 ⟨hg1,⟨rfl,hno⟩|⟨n,r0,hn,rfl,hrd1,hr0⟩⟩
 ·have Hno:=hid hno
  clear hno
  go_wp2
  refine ⟨rfl,hg1,.inl ⟨rfl,fun t q ht hb h=>Hno.out t.length _ ?_ h⟩⟩
  simp only [qc,Bool.and_eq_true,decide_eq_true_eq] at ht
  exact ht.2.2
 have hn6:n≤6:=hn
 have HR0:=hid hr0
 have HG1:=hid hg1
 have Hrd1:=hid hrd1
 have HLEN:Hid (∀ (t:List ColB) (q:List UInt8),qc t=true→rest=uB t.length++(t.flatMap qn++q)→t.length=n∧r0=t.flatMap qn++q):=by
  intro t q ht h
  rw [hr0] at h
  obtain ⟨h1,h2⟩:=xN _ _ _ _ h
  exact ⟨h1.symm,h2⟩
 clear hr0 hg1 hrd1 hn
 go_wp2
 go_loopw [3,7] (fun v i wr=>∃ (k:Nat) (tks:List ColB) (rk:List UInt8),k≤n∧i=.int .i64 (k:Int)∧tks.length=k∧(∀ c ∈ tks,SmallC c)∧wr.ownsRow w.heap.size 31 4 v k (XU tks)∧qv wr p s rk∧w.grownBy wr (some p)∧r0=tks.flatMap qn++rk) (fun _ i _=>n - (intOf i).toNat)
 case atStart=>exact ⟨0,[],r0,Nat.zero_le _,rfl,rfl,(fun c h=>by cases h),World.ownsRow_nil _ _ _ _,Hrd1.out,HG1.out,rfl⟩
 case round =>
  obtain ⟨k,tks,rk,hkn,rfl,hal,hok,hown,hrd,hg,hrk⟩:=hrel
  have Hal:=hid hal
  have Hok:=hid hok
  have Hrk:=hid hrk
  clear hal hok hrk
  by_cases hlt:k < n
  ·have HNX:Hid ((∀ (c:ColB) q,SmallC c→rk≠qn c++q)→∀ (t:List ColB) (q:List UInt8),qc t=true→(∀ c ∈ t,c.cells=[])→rest≠uB t.length++(t.flatMap qn++q)):=by
    intro hno t q ht hb h
    obtain ⟨h1,h2⟩:=HLEN.out t q ht h
    rw [Hrk.out] at h2
    obtain ⟨c,t2,hc,h3⟩:=CR (by have:=Hal.out;omega) Hok.out (Qj ht hb) h2
    exact hno c t2 hc h3
   go_wp2_with fail
   refine (Tf p s rk 8 _ Hs.out (by omega) hrd).mono ?_
   rintro e w2 ⟨hg2,⟨rfl,hno⟩|⟨nm,r2,hnm,rfl,hrd2,hr2⟩⟩
   ·have HN:=hid (HNX.out (fun c q hc h=>hno c.name (uB c.kind.toNat++(uB c.key.toNat++q)) hc.name (by rw [h];simp only [qn,List.append_assoc])))
    have HG:=hid (jf hg hg2)
    clear hno hg2 hg hown hrd
    go_wp2
    exact ⟨rfl,HG.out,.inl ⟨rfl,HN.out⟩⟩
   have hown2:=zX hown hplt hg2
   have hG2:=jf hg hg2
   have Hr2:=hid hr2
   have hnm8:nm.length≤8:=hnm
   clear hown hg hg2 hrd hr2 hnm
   go_wp2_with fail
   refine (zK p s r2 1 _ Hs.out (by omega) hrd2).mono ?_
   rintro e w3 ⟨hg3,⟨rfl,hno⟩|⟨kd,r3,hkd,rfl,hrd3,hr3⟩⟩
   ·have HN:=hid (HNX.out (fun c q hc h=>by
     rw [Hr2.out] at h
     simp only [qn,List.append_assoc] at h
     obtain ⟨_,h5⟩:=Vq h
     exact hno c.kind.toNat _ (by have:=hc.kind;show _≤1;omega) h5))
    have HG:=hid (jf hG2 hg3)
    clear hno hg3 hG2 hown2 hrd2
    go_wp2
    exact ⟨rfl,HG.out,.inl ⟨rfl,HN.out⟩⟩
   have hown3:=zX hown2 hplt hg3
   have hG3:=jf hG2 hg3
   have Hr3:=hid hr3
   have hkd1:kd≤1:=hkd
   clear hown2 hG2 hg3 hrd2 hr3 hkd
   go_wp2_with fail
   refine (zK p s r3 9 _ Hs.out (by omega) hrd3).mono ?_
   rintro e w4 ⟨hg4,⟨rfl,hno⟩|⟨ky,r4,hky,rfl,hrd4,hr4⟩⟩
   ·have HN:=hid (HNX.out (fun c q hc h=>by
     rw [Hr2.out] at h
     simp only [qn,List.append_assoc] at h
     obtain ⟨_,h5⟩:=Vq h
     rw [Hr3.out] at h5
     obtain ⟨_,h6⟩:=xN _ _ _ _ h5
     exact hno c.key.toNat _ (by have:=hc.key;show _≤9;omega) h6))
    have HG:=hid (jf hG3 hg4)
    clear hno hg4 hG3 hown3 hrd3
    go_wp2
    exact ⟨rfl,HG.out,.inl ⟨rfl,HN.out⟩⟩
   have hown4:=zX hown3 hplt hg4
   have hG4:=jf hG3 hg4
   have Hr4:=hid hr4
   have hky9:ky≤9:=hky
   have hsz4:=hG4.size
   clear hown3 hG3 hg4 hrd3 hr4 hky
   have hownA:=hown4.alloc (.cells #[strB nm,.int .i64 (kd:Int),.int .i64 (ky:Int),.slice none 0 0] 31)
   have hrdA:=qH hrd4 ((Below.refl _ _).alloc (Nat.le_refl _) (.cells #[strB nm,.int .i64 (kd:Int),.int .i64 (ky:Int),.slice none 0 0] 31)) (xD hrd4)
   have hGA:=Ua hG4 (.cells #[strB nm,.int .i64 (kd:Int),.int .i64 (ky:Int),.slice none 0 0] 31)
   go_wp2_with (at_builtin;refine wpList_append_own _ rfl (.tmp 16) (.tmp 18) 23 rfl w.heap.size 31 i0 (.agg #[.string ⟨#[]⟩,.int .i64 0,.int .i64 0,.slice none 0 0]) 4 56 Tryz.underlying23 hi hz0 hz1 hz2 rfl (by decide) _ _ _ rfl (hownA.alloc _) ⟨_,0,none⟩ 1 1 [strB nm,.int .i64 (kd:Int),.int .i64 (ky:Int),.slice none 0 0] rfl rfl ?c1 ?c2 ?c3 ?c4 ?c5 ?_)
   case c1=>exact Vf (w4.alloc _) #[strB nm,.int .i64 (kd:Int),.int .i64 (ky:Int),.slice none 0 0] 31 (by simp)
   case c2=>intro u hu;simp at hu;rcases hu with rfl|rfl|rfl|rfl<;>rfl
   case c3=>unfold maxLen;omega
   case c4=>omega
   case c5=>simp;omega
   intro v5 w5 hown5 hgr5 _
   have HR:=hid (XM hrdA hplt hGA hownA hgr5)
   have HO5:=hid hown5
   clear hown4 hownA hown5 hgr5 hG4 hGA hrdA hrd4
   go_wp2
   go_roundw
   case rel =>
    refine ⟨k+1,tks++[⟨nm,kd,ky,[]⟩],r4,by omega,by go_num,by simp [Hal.out],?_,by rw [MN];exact HO5.out,HR.out.1,HR.out.2,?_⟩
    ·intro c hc
     rcases List.mem_append.1 hc with h|h
     ·exact Hok.out c h
     ·simp only [List.mem_cons,List.not_mem_nil,or_false] at h
      subst h
      exact ⟨hnm8,by simp only;omega,⟨by simp only;omega,by simp only;omega⟩,rfl⟩
    ·rw [Hrk.out,Hr2.out,Hr3.out,Hr4.out,List.flatMap_append]
     simp [qn]
   case measure=>simp [intOf];omega
  ·have hke:k=n:=by omega
   subst hke
   have HG:=hid hg
   have Hrd:=hid hrd
   have HOW:=hid hown
   obtain ⟨a,cap,rfl,hcap,hlies⟩:=Tk hown Hal.out Hok.out
   have Hlies:=hid hlies
   clear hown hlies hrd hg
   go_wp2_with fail
   refine (Dq a cap k tks _ Hal.out (by unfold maxLen;omega) hcap Hlies.out).mono ?_
   rintro e w6 ⟨rfl,hb6⟩
   have HB6:=hid hb6
   clear hb6
   cases hh:qc tks with
   | true =>
    have Hh:=hid hh
    clear hh
    go_wp2_with fail
    refine (qe _).mono ?_
    rintro e w7 ⟨rfl,rfl⟩
    go_wp2
    go_ret
    refine ⟨jG HG.out HB6.out,.inr ⟨tks,_,rk,Hh.out,Hok.out,rfl,?_,qH Hrd.out HB6.out (xD Hrd.out),?_⟩⟩
    ·rw [Hal.out]
     exact jN HOW.out HB6.out
    ·rw [HR0.out,Hrk.out,Hal.out]
   | false =>
    have HN:Hid (∀ (t:List ColB) (q:List UInt8),qc t=true→(∀ c ∈ t,c.cells=[])→rest≠uB t.length++(t.flatMap qn++q)):=by
     intro t q ht hb h
     obtain ⟨h1,h2⟩:=HLEN.out t q ht h
     rw [Hrk.out] at h2
     obtain ⟨h3,_⟩:=IU (by rw [Hal.out,h1]) Hok.out (Qj ht hb) h2
     rw [h3,ht] at hh
     cases hh
    clear hh
    go_wp2_with fail
    refine (qS _).mono ?_
    rintro e w7 ⟨rfl,rfl⟩
    go_wp2
    exact ⟨rfl,jG HG.out HB6.out,.inl ⟨rfl,HN.out⟩⟩
end
section
structure FootOk (foot R:Nat) (p:PlanB) (t:List ColB) (pl:List Nat):Prop where
 rows:R≤60
 plan:qP p=true
 told:p.told=false
 foot:p.foot=(foot:Int)
 heads:qc t=true
 bare:∀ c ∈ t,c.cells=[]
 len:pl.length=jX R p.group.toNat*t.length
 small:∀ x ∈ pl,x≤65000
abbrev footV (R:Nat) (p:PlanB) (cv pv:Value):Value:=.agg #[.int .i64 (R:Int),.int .i64 p.group,.int .i64 p.page,.int .i64 p.foot,.bool p.told,cv,pv]
def Iw (text:List UInt8) (foot:Nat) (w:World) (e:Ending) (w':World):Prop :=
 Below w.heap.size w w'∧((e=gaveUp∧∀ R p t pl,FootOk foot R p t pl→text≠qo R p t pl) ∨
  ∃ R p t pl cv pv,FootOk foot R p t pl∧text=qo R p t pl∧(∀ c ∈ t,SmallC c)∧e=.returned (footV R p cv pv)∧w'.ownsRow w.heap.size 31 4 cv t.length (XU t)∧w'.ownsRow w.heap.size 3 1 pv pl.length (xG pl))
theorem MH (p:Nat) (s rest:List UInt8) (most x:Nat) (q:List UInt8) (w:World) (hs:s.length≤maxLen) (hm:most≤1000000) (hp:qv w p s rest) (hx:x≤most) (h:rest=uB x++q) :
  Calls Tryz.prog 139 #[.pointer (some ⟨p,0,none⟩),.int .i64 (most:Int)] w fun e w'=>e=.returned (.int .i64 (x:Int))∧qv w' p s q∧w.grownBy w' (some p):=by
 refine (zK p s rest most w hs hm hp).mono ?_
 rintro e w1 ⟨hg,⟨rfl,hno⟩|⟨n,r,hn,rfl,hrd,hr⟩⟩
 ·exact absurd h (hno x q hx)
 ·rw [hr] at h
  obtain ⟨h1,h2⟩:=xN _ _ _ _ h
  subst h1 h2
  exact ⟨rfl,hrd,hg⟩
theorem CK (p:Nat) (s rest:List UInt8) (most:Nat) (w:World) (hs:s.length≤maxLen) (hm:most≤1000000) (hp:qv w p s rest) (h:∀ x q,x≤most→rest≠uB x++q) :
  Calls Tryz.prog 139 #[.pointer (some ⟨p,0,none⟩),.int .i64 (most:Int)] w fun e w'=>e=gaveUp∧w.grownBy w' (some p):=by
 refine (zK p s rest most w hs hm hp).mono ?_
 rintro e w1 ⟨hg,⟨rfl,hno⟩|⟨n,r,hn,rfl,hrd,hr⟩⟩
 ·exact ⟨rfl,hg⟩
 ·exact absurd hr (h n r hn)
theorem JS {w:World} {q:Nat} {c0 c1 c2 c3 c4 c5 c6:Value} {t:TypeId} (h:w.heap[q]?=some (.cells #[c0,c1,c2,c3,c4,c5,c6] t (0,0))) :
  (w.cell? ⟨q,0,none⟩=some c0∧w.cell? ⟨q,1,none⟩=some c1∧w.cell? ⟨q,2,none⟩=some c2∧w.cell? ⟨q,3,none⟩=some c3∧w.cell? ⟨q,4,none⟩=some c4∧w.cell? ⟨q,5,none⟩=some c5∧w.cell? ⟨q,6,none⟩=some c6)∧(∀ j,w.frozen? ⟨q,j,none⟩=false) :=
 ⟨⟨by rw [jb h];rfl,by rw [jb h];rfl,by rw [jb h];rfl,by rw [jb h];rfl,by rw [jb h];rfl,by rw [jb h];rfl,by rw [jb h];rfl⟩,fun j=>frozen_of_row w q j _ t h⟩
theorem BM {w:World} {q:Nat} {c0 c1 c2 c3 c4 c5 c6 v:Value} {t:TypeId} (h:w.heap[q]?=some (.cells #[c0,c1,c2,c3,c4,c5,c6] t (0,0))):(w.setCell ⟨q,5,none⟩ v).heap[q]?=some (.cells #[c0,c1,c2,c3,c4,v,c6] t (0,0)):=by
 rw [heap_setCell_same w q 5 _ t v h];rfl
theorem Bs {w:World} {q:Nat} {c0 c1 c2 c3 c4 c5 c6 v:Value} {t:TypeId} (h:w.heap[q]?=some (.cells #[c0,c1,c2,c3,c4,c5,c6] t (0,0))):(w.setCell ⟨q,6,none⟩ v).heap[q]?=some (.cells #[c0,c1,c2,c3,c4,c5,v] t (0,0)):=by
 rw [heap_setCell_same w q 6 _ t v h];rfl
theorem Bh {w:World} {q:Nat} {c0 c1 c2 c3 c4 c5 c6 v1 v2 v3 v4:Value} {t:TypeId} (h:w.heap[q]?=some (.cells #[c0,c1,c2,c3,c4,c5,c6] t (0,0))):(w.setCells q 1 [v1,v2,v3,v4]).heap[q]?=some (.cells #[c0,v1,v2,v3,v4,c5,c6] t (0,0)) :=
 Zw (w:=w) [v1,v2,v3,v4] [c0] [c5,c6] [c1,c2,c3,c4] rfl h
theorem ze {w:World} {p:Nat} {s r:List UInt8} (h:qv w p s r):w.heap[p]?=some (.cells #[strB s,.int .i64 ((s.length - r.length:Nat):Int)] 175 (0,0)):=by
 obtain ⟨at_,h1,h2,rfl⟩:=h
 rw [h1,List.length_drop,show s.length - (s.length - at_)=at_ by omega]
theorem Zo {w w':World} {p:Nat} {s r:List UInt8} (h:qv w p s r) (hb:w'.heap[p]?=some (.cells #[strB s,.int .i64 ((s.length - r.length:Nat):Int)] 175 (0,0))):qv w' p s r:=by
 have:=ze h
 obtain ⟨at_,h1,h2,h3⟩:=h
 rw [h1] at this
 exact ⟨at_,by rw [hb,this],h2,h3⟩
theorem Aa {a pl:List Nat} {r:List UInt8} (hl:a.length=pl.length) (h:a.flatMap uB++r=pl.flatMap uB):r=[]:=by
 induction a generalizing pl with
 | nil =>
  cases pl with
  | nil=>simpa using h
  | cons y l=>simp at hl
 | cons x a ih =>
  cases pl with
  | nil=>simp at hl
  | cons y l =>
   simp only [List.flatMap_cons,List.append_assoc] at h
   obtain ⟨_,h2⟩:=xN _ _ _ _ h
   exact ih (by simpa using hl) h2
theorem IW {a pl:List Nat} {r:List UInt8} (hl:a.length < pl.length) (h:a.flatMap uB++r=pl.flatMap uB):∃ y z,y ∈ pl∧r=uB y++z:=by
 induction a generalizing pl with
 | nil =>
  cases pl with
  | nil=>simp at hl
  | cons y l=>exact ⟨y,l.flatMap uB,by simp,by simpa using h⟩
 | cons x a ih =>
  cases pl with
  | nil=>simp at hl
  | cons y l =>
   simp only [List.flatMap_cons,List.append_assoc] at h
   obtain ⟨_,h2⟩:=xN _ _ _ _ h
   obtain ⟨u,z,hu,hz⟩:=ih (by simpa using hl) h2
   exact ⟨u,z,List.mem_cons_of_mem _ hu,hz⟩
theorem qq {w w':World} {base e size n q:Nat} {v:Value} {xs:List Value} {C:Array Value} {t:TypeId} (h:w.ownsRow base e size v n xs) (hg:w.grownBy w' (some q)) (hq:w.heap[q]?=some (.cells C t (0,0))) (ht:t≠e):w'.ownsRow base e size v n xs:=by
 refine ⟨h.1,?_⟩
 rcases h.2 with hn|⟨g,cap,cur,rfl,hb',hg',rest⟩
 ·exact .inl hn
 ·refine .inr ⟨g,cap,cur,rfl,hb',(hg.block g (Array.getElem?_eq_some_iff.1 hg').1 (fun e=>?_)).trans hg',rest⟩
  cases e
  rw [hg'] at hq
  cases hq
  exact ht rfl
theorem Qr (text:List UInt8) (foot:Nat) (w:World) (hs:text.length≤maxLen) :
  Calls Tryz.prog 126 #[strB text,.int .i64 (foot:Int)] w (Iw text foot w):=by
 obtain ⟨i0,hi,hz0,hz1,hz2⟩:=info_parts Tryz.infoInt
 have Hs:=hid hs
 clear hs
 have HX0:Hid (∀ R p t pl,FootOk foot R p t pl→text=qo R p t pl→text=uB R++(uB p.group.toNat++(uB p.page.toNat++(uB p.foot.toNat++(uB t.length++(t.flatMap qn++pl.flatMap uB)))))):=by
  intro R p t pl _ h
  rw [h]
  simp only [qo,List.append_assoc]
 go_enter Tryz.func126,Tryz.ntmps126
 go_wp2_with fail
 obtain ⟨hb0,hl0,_,ho0⟩:=jJ w #[.int .i64 0,.int .i64 0,.int .i64 0,.int .i64 0,.bool false,.slice none 0 0,.slice none 0 0] 79
 generalize w.alloc _=W0 at *
 have HB0:=hid hb0
 have Ho0:=hid ho0
 clear hb0 ho0
 refine (Zl text W0).mono ?_
 rintro e w1 ⟨rfl,hrd1,hb1⟩
 have HB1:=hid (HB0.out.trans (hb1.mono HB0.out.size))
 have Ho1:=hid ((hb1.block w.heap.size hl0).trans Ho0.out)
 have hl1:=hb1.size
 generalize hp:W0.heap.size=p at *
 have Hp:=hid hp
 clear hb1 hp
 have hplt1:=xD hrd1
 go_wp2_with fail
 refine (zK p text text 60 w1 Hs.out (by omega) hrd1).mono ?_
 rintro e w2 ⟨hg2,⟨rfl,hno⟩|⟨R,r1,hR,rfl,hrd2,hr1⟩⟩
 ·have HN:Hid (∀ R p t pl,FootOk foot R p t pl→text≠qo R p t pl):=fun R p t pl hok h=>hno R _ hok.rows (HX0.out R p t pl hok h)
  have HB:=hid (HB1.out.trans (jq hg2 (by omega) (by omega)))
  clear hno hg2
  go_wp2
  exact ⟨rfl,HB.out,.inl ⟨rfl,HN.out⟩⟩
 have hR60:R≤60:=hR
 have HB2:=hid (HB1.out.trans (jq hg2 (by omega) (by omega)))
 have Ho2:=hid (jk hg2 Ho1.out (by omega))
 have hl2:=hg2.size
 have HX1:Hid (∀ R' p t pl,FootOk foot R' p t pl→text=qo R' p t pl→R'=R∧r1=uB p.group.toNat++(uB p.page.toNat++(uB p.foot.toNat++(uB t.length++(t.flatMap qn++pl.flatMap uB))))):=by
  intro R' p t pl hok h
  have h1:=HX0.out R' p t pl hok h
  rw [hr1] at h1
  obtain ⟨h2,h3⟩:=xN _ _ _ _ h1
  exact ⟨h2.symm,h3⟩
 have Hr1:=hid hr1
 clear hg2 hrd1 hr1 hR HX0
 go_wp2_with fail
 obtain ⟨hb3,hl3,_,hq3⟩:=jJ w2 #[.int .i64 (R:Int),.int .i64 0,.int .i64 0,.int .i64 0,.bool false,.slice none 0 0,.slice none 0 0] 79
 generalize w2.alloc _=w3 at *
 have HB3:=hid (HB2.out.trans (hb3.mono HB2.out.size))
 have Ho3:=hid ((hb3.block w.heap.size (by omega)).trans Ho2.out)
 have Hq3:=hid hq3
 have hrd3:=qH hrd2 hb3 (xD hrd2)
 have hpq:p≠w2.heap.size:=by have:=xD hrd2;omega
 generalize hQ:w2.heap.size=q at *
 have hwq:w.heap.size < q:=by omega
 have hwp:w.heap.size < p:=by have:=Hp.out;omega
 clear hb3 hq3 hrd2 hQ
 refine (zK p text r1 60 w3 Hs.out (by omega) hrd3).mono ?_
 rintro e w4 ⟨hg4,⟨rfl,hno⟩|⟨G,r2,hG,rfl,hrd4,hr2⟩⟩
 ·have HN:Hid (∀ R p t pl,FootOk foot R p t pl→text≠qo R p t pl):=fun R p t pl hok h=>by
   have hpl:=hok.plan
   simp only [qP,Bool.and_eq_true,decide_eq_true_eq] at hpl
   exact hno p.group.toNat _ (by show _≤60;omega) (HX1.out R p t pl hok h).2
  have HB:=hid (HB3.out.trans (jq hg4 (by omega) (by omega)))
  clear hno hg4
  go_wp2
  exact ⟨rfl,HB.out,.inl ⟨rfl,HN.out⟩⟩
 have hG60:G≤60:=hG
 have HB4:=hid (HB3.out.trans (jq hg4 (by omega) (by omega)))
 have Ho4:=hid (jk hg4 Ho3.out (by omega))
 have Hq4:=hid (jk hg4 Hq3.out (by omega))
 have hl4:=hg4.size
 have HX2:Hid (∀ R' p t pl,FootOk foot R' p t pl→text=qo R' p t pl→R'=R∧p.group.toNat=G∧r2=uB p.page.toNat++(uB p.foot.toNat++(uB t.length++(t.flatMap qn++pl.flatMap uB)))):=by
  intro R' p t pl hok h
  obtain ⟨h1,h2⟩:=HX1.out R' p t pl hok h
  rw [hr2] at h2
  obtain ⟨h3,h4⟩:=xN _ _ _ _ h2
  exact ⟨h1,h3.symm,h4⟩
 have Hr2:=hid hr2
 clear hg4 hrd3 hr2 hG HX1
 go_wp2_with fail
 refine (zK p text r2 60 w4 Hs.out (by omega) hrd4).mono ?_
 rintro e w5 ⟨hg5,⟨rfl,hno⟩|⟨P,r3,hP,rfl,hrd5,hr3⟩⟩
 ·have HN:Hid (∀ R p t pl,FootOk foot R p t pl→text≠qo R p t pl):=fun R p t pl hok h=>by
   have hpl:=hok.plan
   simp only [qP,Bool.and_eq_true,decide_eq_true_eq] at hpl
   exact hno p.page.toNat _ (by show _≤60;omega) (HX2.out R p t pl hok h).2.2
  have HB:=hid (HB4.out.trans (jq hg5 (by omega) (by omega)))
  clear hno hg5
  go_wp2
  exact ⟨rfl,HB.out,.inl ⟨rfl,HN.out⟩⟩
 have hP60:P≤60:=hP
 have HB5:=hid (HB4.out.trans (jq hg5 (by omega) (by omega)))
 have Ho5:=hid (jk hg5 Ho4.out (by omega))
 have Hq5:=hid (jk hg5 Hq4.out (by omega))
 have hl5:=hg5.size
 have HX3:Hid (∀ R' p t pl,FootOk foot R' p t pl→text=qo R' p t pl→R'=R∧p.group.toNat=G∧p.page.toNat=P∧r3=uB p.foot.toNat++(uB t.length++(t.flatMap qn++pl.flatMap uB))):=by
  intro R' p t pl hok h
  obtain ⟨h1,h2,h3⟩:=HX2.out R' p t pl hok h
  rw [hr3] at h3
  obtain ⟨h4,h5⟩:=xN _ _ _ _ h3
  exact ⟨h1,h2,h4.symm,h5⟩
 have Hr3:=hid hr3
 clear hg5 hrd4 hr3 hP HX2
 go_wp2_with fail
 refine (zK p text r3 9 w5 Hs.out (by omega) hrd5).mono ?_
 rintro e w6 ⟨hg6,⟨rfl,hno⟩|⟨F,r4,hF,rfl,hrd6,hr4⟩⟩
 ·have HN:Hid (∀ R p t pl,FootOk foot R p t pl→text≠qo R p t pl):=fun R p t pl hok h=>by
   have hpl:=hok.plan
   simp only [qP,Bool.and_eq_true,decide_eq_true_eq] at hpl
   exact hno p.foot.toNat _ (by show _≤9;omega) (HX3.out R p t pl hok h).2.2.2
  have HB:=hid (HB5.out.trans (jq hg6 (by omega) (by omega)))
  clear hno hg6
  go_wp2
  exact ⟨rfl,HB.out,.inl ⟨rfl,HN.out⟩⟩
 have hF9:F≤9:=hF
 have HB6:=hid (HB5.out.trans (jq hg6 (by omega) (by omega)))
 have Ho6:=hid (jk hg6 Ho5.out (by omega))
 have Hq6:=hid (jk hg6 Hq5.out (by omega))
 have hl6:=hg6.size
 have HX4:Hid (∀ R' p t pl,FootOk foot R' p t pl→text=qo R' p t pl→R'=R∧p=⟨(G:Int),(P:Int),(F:Int),false⟩∧r4=uB t.length++(t.flatMap qn++pl.flatMap uB)):=by
  intro R' p t pl hok h
  obtain ⟨h1,h2,h3,h4⟩:=HX3.out R' p t pl hok h
  rw [hr4] at h4
  obtain ⟨h5,h6⟩:=xN _ _ _ _ h4
  have hpl:=hok.plan
  simp only [qP,Bool.and_eq_true,decide_eq_true_eq] at hpl
  have ht:=hok.told
  refine ⟨h1,?_,h6⟩
  cases p
  simp only [PlanB.mk.injEq] at *
  exact ⟨by omega,by omega,by omega,ht⟩
 have Hr4:=hid hr4
 clear hg6 hrd5 hr4 hF HX3
 obtain ⟨⟨q0,q1,q2,q3,q4,q5,q6⟩,qf⟩:=JS Hq6.out
 have f1:=qf 1
 have f2:=qf 2
 have f3:=qf 3
 have f4:=qf 4
 clear qf
 have Hq7:=hid (Bh (v1:=.int .i64 (G:Int)) (v2:=.int .i64 (P:Int)) (v3:=.int .i64 (F:Int)) (v4:=.bool false) Hq6.out)
 have Hg7:=hid (xS q [.int .i64 (G:Int),.int .i64 (P:Int),.int .i64 (F:Int),.bool false] w6 1)
 have hz7:=Xi q [.int .i64 (G:Int),.int .i64 (P:Int),.int .i64 (F:Int),.bool false] w6 1
 go_wp2_with fail
 clear q0 q1 q2 q3 q4 q5 q6 f1 f2 f3 f4
 refine (Rv ⟨(G:Int),(P:Int),(F:Int),false⟩ (w6.setCells q 1 [.int .i64 (G:Int),.int .i64 (P:Int),.int .i64 (F:Int),.bool false])).mono ?_
 generalize w6.setCells _ _ _=w7 at *
 rintro e w8 ⟨rfl,hb8⟩
 have Hrd7:=hid (zH hrd6 Hg7.out hpq)
 have HB7:=hid (HB6.out.trans (jq Hg7.out (by omega) (by omega)))
 have Ho7:=hid (jk Hg7.out Ho6.out (by omega))
 have HB8:=hid (HB7.out.trans (hb8.mono HB7.out.size))
 have Hrd8:=hid (qH Hrd7.out hb8 (xD Hrd7.out))
 have Hq8:=hid (jd hb8 Hq7.out)
 have Ho8:=hid (jd hb8 Ho7.out)
 have hl8:=hb8.size
 clear hb8 hrd6
 obtain ⟨⟨q0,q1,q2,q3,q4,q5,q6⟩,qf⟩:=JS Hq8.out
 by_cases hok:¬ (qP ⟨(G:Int),(P:Int),(F:Int),false⟩=true∧F=foot)
 ·have HN:Hid (∀ R p t pl,FootOk foot R p t pl→text≠qo R p t pl):=fun R p t pl hk h=>by
   obtain ⟨h1,h2,h3⟩:=HX4.out R p t pl hk h
   refine hok ⟨by rw [← h2];exact hk.plan,?_⟩
   have h4:=hk.foot
   rw [h2] at h4
   simp only at h4
   omega
  cases hpo:qP ⟨(G:Int),(P:Int),(F:Int),false⟩ with
  | true =>
   have hne:((F:Int) == (foot:Int))=false:=by
    have:F≠foot:=fun h=>hok ⟨hpo,h⟩
    simp;omega
   clear hpo
   go_wp2_with fail
   refine (qS _).mono ?_
   rintro e w9 ⟨rfl,rfl⟩
   clear q0 q1 q2 q3 q4 q5 q6 qf
   go_wp2
   exact ⟨rfl,HB8.out,.inl ⟨rfl,HN.out⟩⟩
  | false =>
   clear hpo
   go_wp2_with fail
   refine (qS _).mono ?_
   rintro e w9 ⟨rfl,rfl⟩
   clear q0 q1 q2 q3 q4 q5 q6 qf
   go_wp2
   exact ⟨rfl,HB8.out,.inl ⟨rfl,HN.out⟩⟩
 obtain ⟨hpo,rfl⟩:=Decidable.not_not.1 hok
 have Hpo:=hid hpo
 have hpl:=hpo
 simp only [qP,Bool.and_eq_true,decide_eq_true_eq] at hpl
 have hG1:1≤G:=by omega
 rw [hpo]
 clear hok hpo hpl
 go_wp2_with fail
 refine (qe _).mono ?_
 rintro e w9 ⟨rfl,rfl⟩
 clear q0 q1 q2 q3 q4 q5 q6 qf
 go_wp2_with fail
 refine (GW p text r4 w9 Hs.out Hrd8.out).mono ?_
 rintro e w10 ⟨hg10,⟨rfl,hno⟩|⟨t,cv,r5,hh,hsm,rfl,hown,hrd10,hr5⟩⟩
 ·have HN:Hid (∀ R p t pl,FootOk F R p t pl→text≠qo R p t pl):=fun R p t pl hk h=>by
   exact hno t _ hk.heads hk.bare (HX4.out R p t pl hk h).2.2
  have HB:=hid (HB8.out.trans (jq hg10 (by omega) (by omega)))
  clear hno hg10
  go_wp2
  exact ⟨rfl,HB.out,.inl ⟨rfl,HN.out⟩⟩
 have HB10:=hid (HB8.out.trans (jq hg10 (by omega) (by omega)))
 have Ho10:=hid (jk hg10 Ho8.out (by omega))
 have Hq10:=hid (jk hg10 Hq8.out (by omega))
 have hl10:=hg10.size
 have HX5:Hid (∀ R' p t' pl,FootOk F R' p t' pl→text=qo R' p t' pl→R'=R∧p=⟨(G:Int),(P:Int),(F:Int),false⟩∧t'=t∧r5=pl.flatMap uB):=by
  intro R' p t' pl hok h
  obtain ⟨h1,h2,h3⟩:=HX4.out R' p t' pl hok h
  rw [hr5] at h3
  obtain ⟨h4,h5⟩:=xN _ _ _ _ h3
  obtain ⟨h6,h7⟩:=IU h4 hsm (Qj hok.heads hok.bare) h5
  exact ⟨h1,h2,h6.symm,h7⟩
 have hn6:t.length≤6:=by
  have:=hh
  simp only [qc,Bool.and_eq_true,decide_eq_true_eq] at this
  exact this.2.2
 have Hsm:=hid hsm
 have Hh:=hid hh
 have Hr5:=hid hr5
 have HOC:=hid (jS hown (show w.heap.size≤w9.heap.size by omega))
 obtain ⟨ca,cc,rfl⟩:=jK hown
 generalize hn:t.length=n at *
 have Hn:=hid hn
 clear hg10 hown hsm hh hr5 HX4 hn
 obtain ⟨⟨q0,q1,q2,q3,q4,q5,q6⟩,qf⟩:=JS Hq10.out
 have f5:=qf 5
 clear q0 q1 q2 q3 q4 q6 qf
 have Hq11:=hid (BM (v:=.slice ca n cc) Hq10.out)
 have Hg11:=hid (qr w10 q 5 (.slice ca n cc))
 have hz11:(w10.setCell ⟨q,5,none⟩ (.slice ca n cc)).heap.size=w10.heap.size:=by simp
 go_wp2_with fail
 clear q5 f5
 have Hrd11:=hid (zH hrd10 Hg11.out hpq)
 have HB11:=hid (HB10.out.trans (jq Hg11.out (by omega) (by omega)))
 have Ho11:=hid (jk Hg11.out Ho10.out (by omega))
 have HOC11:=hid (qq HOC.out Hg11.out Hq10.out (by decide))
 generalize w10.setCell _ _=w11 at *
 clear hrd10 HOC
 obtain ⟨⟨q0,q1,q2,q3,q4,q5,q6⟩,qf⟩:=JS Hq11.out
 have hCN:=JZ (n:=R) hG1
 clear q2 q3 q4 q6 qf
 have hM:IntKind.i64.wrap (((jX R G:Nat):Int)*(n:Int))=((jX R G*n:Nat):Int):=by
  have h1:jX R G*n≤60*6:=Nat.mul_le_mul (by omega) hn6
  rw [← Int.natCast_mul]
  exact IntWalk.i64_in _ ⟨by omega,by omega⟩
 have HCT:=hid (fun w':World=>Ut R G w' (by omega) hG1 (by omega))
 have hMle:jX R G*n≤60*6:=Nat.mul_le_mul (by omega) hn6
 have HML:Hid (jX R G*n=jX R G*n):=rfl
 have hlt11:q < w11.heap.size:=by omega
 go_region_held3 (fun w'=>w'.cell? ⟨q,0,none⟩=some (.int .i64 (R:Int))∧w'.cell? ⟨q,1,none⟩=some (.int .i64 (G:Int))∧w'.cell? ⟨q,5,none⟩=some (.slice ca n cc)) (first|with_reducible exact ⟨k0,k1,k5⟩|exact ⟨q0,q1,q5⟩)
  (first|(go_at_call 95;refine (HCT.out _).mono ?_;rintro e w12 ⟨sv,rfl,hsp,hb12⟩;obtain ⟨sa,sc,rfl⟩:=jK hsp;have hb12':=jl hb12;have k0:=(hb12'.cell (p:=⟨q,0,none⟩) hlt11).trans q0;have k1:=(hb12'.cell (p:=⟨q,1,none⟩) hlt11).trans q1;have k5:=(hb12'.cell (p:=⟨q,5,none⟩) hlt11).trans q5))
 have HB12:=hid (HB11.out.trans (hb12'.mono HB11.out.size))
 have Ho12:=hid (jd hb12' Ho11.out)
 have Hq12:=hid (jd hb12' Hq11.out)
 have Hrd12:=hid (qH Hrd11.out hb12' (xD Hrd11.out))
 have HOC12:=hid (jN HOC11.out hb12')
 have hl12:=hb12'.size
 clear hb12 hb12' k0 k1 k5 q0 q1 q5 hsp
 rw [show ((jX R G:Nat):Int)*(n:Int)=((jX R G*n:Nat):Int) from (Int.natCast_mul ..).symm]
 generalize hMM:jX R G*n=M at *
 have HMM:=hid hMM
 clear hMM HML
 go_wp2
 go_loopw [45] (fun i wr=>∃ (k:Nat) (pk:List Nat) (rk:List UInt8) (v:Value),k≤M∧i=.int .i64 (k:Int)∧pk.length=k∧(∀ x ∈ pk,x≤65000)∧wr.heap[q]?=some (.cells #[.int .i64 (R:Int),.int .i64 (G:Int),.int .i64 (P:Int),.int .i64 (F:Int),.bool false,.slice ca n cc,v] 79 (0,0))∧wr.ownsRow w.heap.size 3 1 v k (xG pk)∧wr.ownsRow w.heap.size 31 4 (.slice ca n cc) n (XU t)∧qv wr p text rk∧Below w.heap.size w wr∧wr.heap[w.heap.size]?=some (.cells #[.int .i64 0,.int .i64 0,.int .i64 0,.int .i64 0,.bool false,.slice none 0 0,.slice none 0 0] 79 (0,0))∧q < wr.heap.size∧r5=pk.flatMap uB++rk) (fun i _=>M - (intOf i).toNat)
 case atStart=>exact ⟨0,[],r5,.slice none 0 0,Nat.zero_le _,rfl,rfl,(fun x h=>by cases h),Hq12.out,World.ownsRow_nil _ _ _ _,HOC12.out,Hrd12.out,HB12.out,Ho12.out,by omega,rfl⟩
 case round =>
  obtain ⟨k,pk,rk,v,hkM,rfl,hpk,hsm,hq,hown,hoc,hrd,hB,ho,hqlt,hrk⟩:=hrel
  have Hpk:=hid hpk
  have Hsm2:=hid hsm
  have Hq:=hid hq
  have Hoc:=hid hoc
  have HB:=hid hB
  have Ho:=hid ho
  have Hrk:=hid hrk
  have Hrd:=hid hrd
  have Hown:=hid hown
  have hwz:=hB.size
  clear hpk hsm hq hoc hB ho hrk hrd
  obtain ⟨va,vc,rfl⟩:=jK hown
  clear hown
  by_cases hlt:k < M
  ·have hiM:(k:Int) < (M:Int):=by omega
   by_cases hx:¬ ∃ (x:Nat) (z:List UInt8),x≤65000∧rk=uB x++z
   ·have HN:Hid (∀ R p t pl,FootOk F R p t pl→text≠qo R p t pl):=fun R' p' t' pl hk h=>by
     obtain ⟨h1,h2,h3,h4⟩:=HX5.out R' p' t' pl hk h
     have hlen:=hk.len
     rw [h1,h2,h3,Hn.out] at hlen
     simp only [Int.toNat_natCast] at hlen
     rw [HMM.out] at hlen
     rw [Hrk.out] at h4
     obtain ⟨y,z,hy,hz⟩:=IW (by rw [Hpk.out,hlen];exact hlt) h4
     exact hx ⟨y,z,hk.small y hy,hz⟩
    have HNX:Hid (∀ x z,x≤65000→rk≠uB x++z):=fun x z h1 h2=>hx ⟨x,z,h1,h2⟩
    clear hx
    go_wp2_with fail
    have HC6:Hid (wr.cell? ⟨q,6,none⟩=some (.slice va k vc)):=(JS Hq.out).1.2.2.2.2.2.2
    refine wp_region_held_drew (S:=fun w'=>w'.cell? ⟨q,6,none⟩=some (.slice va k vc)) (by kernel_rfl) ?_ (fun hHeld=>?_)
    ·exact HC6.out
    refine tk 0 (.pointer (some ⟨q,6,none⟩)) ?_
    refine tk 1 (.slice va k vc) ?_
    refine tk 2 (.pointer (some ⟨p,0,none⟩)) ?_
    simp only [jA,jB,jC,Act.put,jD,jE,jF]
    refine rd 3 (fun K hK=>?_)
    simp only [jA,jB,jC]
    go_simp
    go_at_call 139
    refine (CK p text rk 65000 _ Hs.out (by omega) (show qv wr.drew p text rk from Hrd.out) HNX.out).mono ?_
    rintro e w13 ⟨rfl,hg13⟩
    exact ⟨rfl,HB.out.trans (jq (jP hg13) (by omega) (by omega)),.inl ⟨rfl,HN.out⟩⟩
   ·obtain ⟨x,z,hx1,hx2⟩:=Classical.not_not.1 hx
    have Hx2:=hid hx2
    clear hx hx2
    go_wp2_with fail
    have hqd:wr.drew.heap[q]?=some (.cells #[.int .i64 (R:Int),.int .i64 (G:Int),.int .i64 (P:Int),.int .i64 (F:Int),.bool false,.slice ca n cc,.slice va k vc] 79 (0,0)):=Hq.out
    have c6:=(JS hqd).1.2.2.2.2.2.2
    go_region_law (first
     | (refine step_append_lies _ (by rfl) _ _ _ (by rfl) w.heap.size 3 i0 _ 1 8 Tryz.underlying22 hi hz0 hz1 hz2 rfl (by omega) _ k (xG pk) (by rfl) (hownB.alloc _) ⟨w14.heap.size,0,none⟩ 1 1 [.int .i64 (x:Int)] (by rfl) (by rfl) (World.news_of_block (cs:=#[.int .i64 (x:Int)]) (t:=3) (fr:=(0,0)) (heap_alloc_new w14 _)) (by simp [Value.oneCell']) (by omega) (by unfold maxLen;omega) (by omega) (by simp;omega) _ rfl ?_;intro gg gc w15 hown15 hgr15 hat15 hlt15;have hq15:=jz hgr15 (hownB.alloc _) (jo _ hq14) (by decide);have c6c:=(JS hq15).1.2.2.2.2.2.2;have f6c:=(JS hq15).2 6)
     | (go_simp;go_at_call 139;refine (MH p text rk 65000 x z _ Hs.out (by omega) (show qv wr.drew p text rk from Hrd.out) hx1 Hx2.out).mono ?_;rintro e w14 ⟨rfl,hrd14,hg14⟩;have hg14':=jP hg14;have hq14:=jk hg14' Hq.out (Ne.symm hpq);have c6a:=(JS hq14).1.2.2.2.2.2.2;have c6b:=(JS (jo (.cells #[.int .i64 (x:Int)] 3) hq14)).1.2.2.2.2.2.2;have hownB:=qq Hown.out hg14' (ze Hrd.out) (by decide);have hl14:=hg14'.size))
    all_goals
     have hoc14:=qq Hoc.out hg14' (ze Hrd.out) (by decide)
     have hocA:=hoc14.alloc (.cells #[.int .i64 (x:Int)] 3)
     have hoc15:=hocA.kept hgr15 (zn hocA (hownB.alloc _) (by decide))
     have HOCE:=hid (qq hoc15 (qr w15 q 6 (.slice (some ⟨gg,0,none⟩) (k+1) gc)) hq15 (by decide))
     have HOWE:=hid (qq hown15 (qr w15 q 6 (.slice (some ⟨gg,0,none⟩) (k+1) gc)) hq15 (by decide))
     have ho14:=jk hg14' Ho.out (by omega)
     have ho15:=jz hgr15 (hownB.alloc _) (jo _ ho14) (by decide)
     have HOE:=hid (jk (qr w15 q 6 (.slice (some ⟨gg,0,none⟩) (k+1) gc)) ho15 (by omega))
     have hr15:=jz hgr15 (hownB.alloc _) (jo _ (ze hrd14)) (by decide)
     have HRE:=hid (zH (Zo hrd14 hr15) (qr w15 q 6 (.slice (some ⟨gg,0,none⟩) (k+1) gc)) hpq)
     have hB14:=HB.out.trans (jq hg14' (by omega) (by omega))
     have hB15:=(hB14.alloc hB14.size (.cells #[.int .i64 (x:Int)] 3)).grown hgr15 (by have:=hB14.size;simp;omega) (fun k hk=>(hownB.lt k hk).1)
     have HBE:=hid (hB15.trans (jq (qr w15 q 6 (.slice (some ⟨gg,0,none⟩) (k+1) gc)) (by omega) hB15.size))
     have HQE:=hid (Bs (v:=.slice (some ⟨gg,0,none⟩) (k+1) gc) hq15)
     have hlt15:=(Array.getElem?_eq_some_iff.1 HQE.out).1
     clear hoc14 hocA hoc15 ho14 ho15 hr15 hB14 hB15 hq15 hq14 c6 c6a c6b c6c f6c hown15 hgr15 hownB hrd14 hg14 hg14' hqd hat15
     go_wp2
     go_roundw
     case rel=>exact ⟨k+1,pk++[x],z,.slice (some ⟨gg,0,none⟩) (k+1) gc,by omega,by go_num,by simp [Hpk.out],fun y hy=>(List.mem_append.1 hy).elim (Hsm2.out y) (fun h=>by simp only [List.mem_cons,List.not_mem_nil,or_false] at h;subst h;exact hx1),HQE.out,by rw [show xG (pk++[x])=xG pk++[.int .i64 (x:Int)] by simp [xG]];exact HOWE.out,HOCE.out,HRE.out,HBE.out,HOE.out,hlt15,by rw [Hrk.out,Hx2.out];simp⟩
     case measure=>simp [intOf];omega
  ·have hiM:¬ (k:Int) < (M:Int):=by omega
   have hkM2:k=M:=by omega
   subst hkM2
   go_wp2_with fail
   refine (NX p text rk wr Hs.out Hrd.out).mono ?_
   rintro e w13 ⟨hb13,⟨hne,rfl⟩|⟨hnil,rfl⟩⟩
   ·have HN:Hid (∀ R p t pl,FootOk F R p t pl→text≠qo R p t pl):=fun R' p' t' pl hk h=>by
     obtain ⟨h1,h2,h3,h4⟩:=HX5.out R' p' t' pl hk h
     have hlen:=hk.len
     rw [h1,h2,h3,Hn.out] at hlen
     simp only [Int.toNat_natCast] at hlen
     rw [HMM.out] at hlen
     rw [Hrk.out] at h4
     exact hne (Aa (by rw [Hpk.out,hlen]) h4)
    have HBE:=hid (HB.out.trans (hb13.mono hwz))
    clear hne hb13
    go_wp2
    exact ⟨rfl,HBE.out,.inl ⟨rfl,HN.out⟩⟩
   ·have HBE:=hid (HB.out.trans (hb13.mono hwz))
    have HOE:=hid (jd hb13 Ho.out)
    have HQE:=hid (jd hb13 Hq.out)
    have HOCE:=hid (jN Hoc.out hb13)
    have HOWE:=hid (jN Hown.out hb13)
    have HTX:Hid (text=qo R ⟨(G:Int),(P:Int),(F:Int),false⟩ t pk):=by
     show _=_
     simp only [qo,List.append_assoc,Int.toNat_natCast]
     rw [Hr1.out,Hr2.out,Hr3.out,Hr4.out,Hr5.out,Hrk.out,hnil,List.append_nil,Hn.out]
    clear hnil hb13
    obtain ⟨⟨q0,q1,q2,q3,q4,q5,q6⟩,_⟩:=JS HQE.out
    obtain ⟨⟨o0,o1,o2,o3,o4,o5,o6⟩,of⟩:=JS HOE.out
    have of0:=of 0
    have of1:=of 1
    have of2:=of 2
    have of3:=of 3
    have of4:=of 4
    have of5:=of 5
    have of6:=of 6
    clear of
    have HoF:=hid (JO [.int .i64 (R:Int),.int .i64 (G:Int),.int .i64 (P:Int),.int .i64 (F:Int),.bool false,.slice ca n cc,.slice va k vc] (by rfl) HOE.out)
    have HgF:=hid (xS w.heap.size [.int .i64 (R:Int),.int .i64 (G:Int),.int .i64 (P:Int),.int .i64 (F:Int),.bool false,.slice ca n cc,.slice va k vc] w13 0)
    go_wp2
    show bodyPost _ _ _ _ _ (w13.setCells w.heap.size 0 [.int .i64 (R:Int),.int .i64 (G:Int),.int .i64 (P:Int),.int .i64 (F:Int),.bool false,.slice ca n cc,.slice va k vc])
    clear q0 q1 q2 q3 q4 q5 q6 o0 o1 o2 o3 o4 o5 o6 of0 of1 of2 of3 of4 of5 of6
    have HOCF:=hid (qq HOCE.out HgF.out HOE.out (by decide))
    have HOWF:=hid (qq HOWE.out HgF.out HOE.out (by decide))
    generalize w13.setCells _ _ _=WF at *
    have HBF:=hid (HBE.out.trans (jq HgF.out (Nat.le_refl _) HBE.out.size))
    obtain ⟨⟨q0,q1,q2,q3,q4,q5,q6⟩,_⟩:=JS HoF.out
    refine bodyPost_ret (v:=footV R ⟨(G:Int),(P:Int),(F:Int),false⟩ (.slice ca n cc) (.slice va k vc)) (by simp [results,Tryz.results126,go_sem,q0,q1,q2,q3,q4,q5,q6]) rfl ⟨HBF.out,.inr ⟨R,⟨(G:Int),(P:Int),(F:Int),false⟩,t,pk,.slice ca n cc,.slice va k vc,⟨hR60,Hpo.out,rfl,rfl,Hh.out,fun c hc=>(Hsm.out c hc).cells,?_,Hsm2.out⟩,HTX.out,Hsm.out,rfl,?_,?_⟩⟩
    ·rw [Hpk.out,← HMM.out,Hn.out]
     rfl
    ·rw [Hn.out];exact HOCF.out
    ·rw [Hpk.out];exact HOWF.out
end
end Go.Proofs.YthhpbhpfagoapabGreat
