import Derived.Test.YthhpbhpfagoapabGreatXRForm2
import Derived.Test.YthhpbhpfagoapabGreatJAC
namespace Go.Proofs.YthhpbhpfagoapabGreat
set_option linter.unusedVariables false
set_option linter.unusedSimpArgs false
set_option maxRecDepth 100000
set_option maxHeartbeats 16000000
open Go.RowKit
structure SmallC (c:ColB):Prop where
 name:c.name.length≤8
 kind:c.kind=0∨c.kind=1
 key:0≤c.key∧c.key≤9
 cells:c.cells=[]
def LH (c:ColB):List Value:=[strB c.name,.int .i64 c.kind,.int .i64 c.key,.slice none 0 0]
def Zp (t:List ColB):List Value:=t.flatMap LH
theorem My (t:List ColB) (c:ColB):Zp (t++[c])=Zp t++[strB c.name,.int .i64 c.kind,.int .i64 c.key,.slice none 0 0]:=by simp [Zp,LH]
theorem Tryz.infoColumnX:(Tryz.prog.info? 31).map (fun i=>(i.zero,i.size,i.bytes))=some (some (.agg #[.string ⟨#[]⟩,.int .i64 0,.int .i64 0,.slice none 0 0]),4,56):=by kernel_rfl
theorem Ly {a b:ColB} (ha:SmallC a) (hb:SmallC b) (h:XA a=XA b):a=b:=by
 simp only [XA,Prod.mk.injEq] at h
 obtain ⟨h1,h2,h3⟩:=h
 have:=ha.kind
 have:=hb.kind
 have:=ha.key
 have:=hb.key
 have h4:a.kind=b.kind:=by omega
 have h5:a.key=b.key:=by omega
 have h6:=ha.cells
 have h7:=hb.cells
 cases a;cases b;simp_all
theorem YY:∀ {a b:List ColB},(∀ c ∈ a,SmallC c)→(∀ c ∈ b,SmallC c)→a.map XA=b.map XA→a=b:=by
 intro a
 induction a with
 | nil=>intro b _ _ h;cases b with
  | nil=>rfl
  | cons x l=>simp at h
 | cons x l ih =>
  intro b ha hb h
  cases b with
  | nil=>simp at h
  | cons y m =>
   simp only [List.map_cons,List.cons.injEq] at h
   rw [Ly (ha x (by simp)) (hb y (by simp)) h.1,ih (fun c hc=>ha c (List.mem_cons_of_mem _ hc)) (fun c hc=>hb c (List.mem_cons_of_mem _ hc)) h.2]
theorem Qw {t:List ColB} (h:jX t=true) (hb:∀ c ∈ t,c.cells=[]):∀ c ∈ t,SmallC c:=by
 intro c hc
 obtain ⟨k,hk,rfl⟩:=List.mem_iff_getElem.1 hc
 simp only [jX,Bool.and_eq_true] at h
 obtain ⟨a,b,c,d⟩:=Qi (JF h.1 (Nat.le_refl _) k hk).1
 exact ⟨(Ku a).2,b,⟨c,d⟩,hb _ (List.getElem_mem hk)⟩
theorem PQ {a t:List ColB} {r q:List UInt8} (hl:a.length < t.length) (ha:∀ c ∈ a,SmallC c) (ht:∀ c ∈ t,SmallC c) (h:a.flatMap jZ++r=t.flatMap jZ++q):∃ c t2,SmallC c∧r=jZ c++t2:=by
 have e:t.flatMap jZ++q=(t.take a.length).flatMap jZ++((t.drop a.length).flatMap jZ++q):=by
  rw [← List.append_assoc,← List.flatMap_append,List.take_append_drop]
 rw [e] at h
 obtain ⟨_,h2⟩:=Ul a (t.take a.length) _ _ (by rw [List.length_take];omega) h
 rw [List.drop_eq_getElem_cons hl,List.flatMap_cons,List.append_assoc] at h2
 exact ⟨t[a.length],_,ht _ (List.getElem_mem hl),h2⟩
theorem Dv {a t:List ColB} {r q:List UInt8} (hl:a.length=t.length) (ha:∀ c ∈ a,SmallC c) (ht:∀ c ∈ t,SmallC c) (h:a.flatMap jZ++r=t.flatMap jZ++q):a=t∧r=q:=by
 obtain ⟨h1,h2⟩:=Ul a t _ _ hl h
 exact ⟨YY ha ht h1,h2⟩
theorem Ph {w:World} {base n:Nat} {v:Value} {t:List ColB} (h:w.ownsRow base 31 4 v n (Zp t)) (hn:t.length=n) (ht:∀ c ∈ t,SmallC c):∃ a cap,v=.slice a n cap∧n≤cap∧LiesT w a t:=by
 subst hn
 have hok:∀ c ∈ t,Tc c:=fun c hc=>by
  have:=ht c hc
  have h1:=this.name
  have h2:=this.kind
  have h3:=this.key
  exact ⟨by unfold maxLen;omega,⟨by omega,by omega⟩,by omega,by omega⟩
 rcases h.2 with ⟨rfl,h0⟩|⟨g,cap,cur,rfl,_,_,hcap,_⟩
 ·exact ⟨none,0,by rw [h0],by omega,hok,fun hne=>absurd (List.eq_nil_of_length_eq_zero (by omega)) hne⟩
 ·refine ⟨_,cap,rfl,hcap,hok,fun _=>⟨g,0,rfl,(h.lt g rfl).2,fun j hj=>?_⟩⟩
  have hf:=Jw LH 4 (fun _=>rfl) t j
  simp only [Nat.zero_add]
  refine ⟨?_,?_,?_,.slice none 0 0,?_,?_⟩
  ·rw [h.cellAt (j*4) (by omega)];exact hf 0 hj (by omega)
  ·rw [h.cellAt (j*4+1) (by omega)];exact hf 1 hj (by omega)
  ·rw [h.cellAt (j*4+2) (by omega)];exact hf 2 hj (by omega)
  ·rw [h.cellAt (j*4+3) (by omega)];exact hf 3 hj (by omega)
  ·rw [(ht _ (List.getElem_mem hj)).cells]
   exact ⟨none,0,rfl,Nat.zero_le _,⟨fun c hc=>by simp at hc,fun hne=>absurd rfl hne⟩,by simp⟩
theorem jN {w w':World} {base:Nat} {e:TypeId} {size:Nat} {v:Value} {n:Nat} {xs:List Value} (h:w.ownsRow base e size v n xs) (hb:Below w.heap.size w w'):w'.ownsRow base e size v n xs:=by
 refine ⟨h.1,?_⟩
 rcases h.2 with hn|⟨g,cap,cur,rfl,hb',hg,rest⟩
 ·exact .inl hn
 ·exact .inr ⟨g,cap,cur,rfl,hb',(hb.block g (Array.getElem?_eq_some_iff.1 hg).1).trans hg,rest⟩
theorem VS (w:World) (C:Array Value) (t:TypeId) {G:Nat} (hG:G=w.heap.size):∀ (j:Nat) (u:Value),C.toList[j]?=some u→(w.alloc (.cells C t)).cell? ((⟨G,0,none⟩:Addr).add j)=some u:=by
 subst hG
 exact qE w C t
theorem DX (a:Option Addr) (cap n:Nat) (t:List ColB) (w:World) (hn:t.length=n) (hm:n≤maxLen) (hcap:n≤cap) (hl:LiesT w a t) :
  Calls Tryz.prog 90 #[.slice a n cap] w fun e w'=>e=.returned (.bool (jX t))∧Below w.heap.size w w':=by
 subst hn
 exact GW a cap t w hm hcap hl
def FO (p:Nat) (s rest:List UInt8) (w:World) (e:Ending) (w':World):Prop :=
 w.grownBy w' (some p)∧((e=gaveUp∧∀ (t:List ColB) (q:List UInt8),jX t=true→(∀ c ∈ t,c.cells=[])→rest≠uB t.length++(t.flatMap jZ++q)) ∨
  ∃ (t:List ColB) (v:Value) (r:List UInt8),jX t=true∧(∀ c ∈ t,SmallC c)∧e=.returned v∧w'.ownsRow w.heap.size 31 4 v t.length (Zp t)∧qy w' p s r∧rest=uB t.length++(t.flatMap jZ++r))
theorem Nq (p:Nat) (s rest:List UInt8) (w:World) (hs:s.length≤maxLen) (hp:qy w p s rest) :
  Calls Tryz.prog 140 #[.pointer (some ⟨p,0,none⟩)] w (FO p s rest w):=by
 obtain ⟨i0,hi,hz0,hz1,hz2⟩:=info_parts Tryz.infoColumnX
 have Hs:=hid hs
 have Hp:=hid hp
 have hplt:=xF hp
 clear hs hp
 go_enter Tryz.func140,Tryz.ntmps140
 go_wp2_with fail
 refine (zP p s rest 6 w Hs.out (by omega) Hp.out).mono ?_
 rintro e w1 ⟨hg1,⟨rfl,hno⟩|⟨n,r0,hn,rfl,hrd1,hr0⟩⟩
 ·have Hno:=hid hno
  clear hno
  go_wp2
  refine ⟨rfl,hg1,.inl ⟨rfl,fun t q ht hb h=>Hno.out t.length _ ?_ h⟩⟩
  simp only [jX,Bool.and_eq_true,decide_eq_true_eq] at ht
  exact ht.2.2
 have hn6:n≤6:=hn
 have HR0:=hid hr0
 have HG1:=hid hg1
 have Hrd1:=hid hrd1
 have HLEN:Hid (∀ (t:List ColB) (q:List UInt8),jX t=true→rest=uB t.length++(t.flatMap jZ++q)→t.length=n∧r0=t.flatMap jZ++q):=by
  intro t q ht h
  rw [hr0] at h
  obtain ⟨h1,h2⟩:=xV _ _ _ _ h
  exact ⟨h1.symm,h2⟩
 clear hr0 hg1 hrd1 hn
 go_wp2
 go_loopw [3,7] (fun v i wr=>∃ (k:Nat) (tks:List ColB) (rk:List UInt8),k≤n∧i=.int .i64 (k:Int)∧tks.length=k∧(∀ c ∈ tks,SmallC c)∧wr.ownsRow w.heap.size 31 4 v k (Zp tks)∧qy wr p s rk∧w.grownBy wr (some p)∧r0=tks.flatMap jZ++rk) (fun _ i _=>n - (intOf i).toNat)
 case atStart=>exact ⟨0,[],r0,Nat.zero_le _,rfl,rfl,(fun c h=>by cases h),World.ownsRow_nil _ _ _ _,Hrd1.out,HG1.out,rfl⟩
 case round =>
  obtain ⟨k,tks,rk,hkn,rfl,hal,hok,hown,hrd,hg,hrk⟩:=hrel
  have Hal:=hid hal
  have Hok:=hid hok
  have Hrk:=hid hrk
  clear hal hok hrk
  by_cases hlt:k < n
  ·have HNX:Hid ((∀ (c:ColB) q,SmallC c→rk≠jZ c++q)→∀ (t:List ColB) (q:List UInt8),jX t=true→(∀ c ∈ t,c.cells=[])→rest≠uB t.length++(t.flatMap jZ++q)):=by
    intro hno t q ht hb h
    obtain ⟨h1,h2⟩:=HLEN.out t q ht h
    rw [Hrk.out] at h2
    obtain ⟨c,t2,hc,h3⟩:=PQ (by have:=Hal.out;omega) Hok.out (Qw ht hb) h2
    exact hno c t2 hc h3
   go_wp2_with fail
   refine (PR p s rk 8 _ Hs.out (by omega) hrd).mono ?_
   rintro e w2 ⟨hg2,⟨rfl,hno⟩|⟨nm,r2,hnm,rfl,hrd2,hr2⟩⟩
   ·have HN:=hid (HNX.out (fun c q hc h=>hno c.name (uB c.kind.toNat++(uB c.key.toNat++q)) hc.name (by rw [h];simp only [jZ,List.append_assoc])))
    have HG:=hid (jg hg hg2)
    clear hno hg2 hg hown hrd
    go_wp2
    exact ⟨rfl,HG.out,.inl ⟨rfl,HN.out⟩⟩
   have hown2:=zT hown hplt hg2
   have hG2:=jg hg hg2
   have Hr2:=hid hr2
   have hnm8:nm.length≤8:=hnm
   clear hown hg hg2 hrd hr2 hnm
   go_wp2_with fail
   refine (zP p s r2 1 _ Hs.out (by omega) hrd2).mono ?_
   rintro e w3 ⟨hg3,⟨rfl,hno⟩|⟨kd,r3,hkd,rfl,hrd3,hr3⟩⟩
   ·have HN:=hid (HNX.out (fun c q hc h=>by
     rw [Hr2.out] at h
     simp only [jZ,List.append_assoc] at h
     obtain ⟨_,h5⟩:=VU h
     exact hno c.kind.toNat _ (by have:=hc.kind;show _≤1;omega) h5))
    have HG:=hid (jg hG2 hg3)
    clear hno hg3 hG2 hown2 hrd2
    go_wp2
    exact ⟨rfl,HG.out,.inl ⟨rfl,HN.out⟩⟩
   have hown3:=zT hown2 hplt hg3
   have hG3:=jg hG2 hg3
   have Hr3:=hid hr3
   have hkd1:kd≤1:=hkd
   clear hown2 hG2 hg3 hrd2 hr3 hkd
   go_wp2_with fail
   refine (zP p s r3 9 _ Hs.out (by omega) hrd3).mono ?_
   rintro e w4 ⟨hg4,⟨rfl,hno⟩|⟨ky,r4,hky,rfl,hrd4,hr4⟩⟩
   ·have HN:=hid (HNX.out (fun c q hc h=>by
     rw [Hr2.out] at h
     simp only [jZ,List.append_assoc] at h
     obtain ⟨_,h5⟩:=VU h
     rw [Hr3.out] at h5
     obtain ⟨_,h6⟩:=xV _ _ _ _ h5
     exact hno c.key.toNat _ (by have:=hc.key;show _≤9;omega) h6))
    have HG:=hid (jg hG3 hg4)
    clear hno hg4 hG3 hown3 hrd3
    go_wp2
    exact ⟨rfl,HG.out,.inl ⟨rfl,HN.out⟩⟩
   have hown4:=zT hown3 hplt hg4
   have hG4:=jg hG3 hg4
   have Hr4:=hid hr4
   have hky9:ky≤9:=hky
   have hsz4:=hG4.size
   clear hown3 hG3 hg4 hrd3 hr4 hky
   have hownA:=hown4.alloc (.cells #[strB nm,.int .i64 (kd:Int),.int .i64 (ky:Int),.slice none 0 0] 31)
   have hrdA:=qJ hrd4 ((Below.refl _ _).alloc (Nat.le_refl _) (.cells #[strB nm,.int .i64 (kd:Int),.int .i64 (ky:Int),.slice none 0 0] 31)) (xF hrd4)
   have hGA:=Us hG4 (.cells #[strB nm,.int .i64 (kd:Int),.int .i64 (ky:Int),.slice none 0 0] 31)
   go_wp2_with (at_builtin;refine wpList_append_own _ rfl (.tmp 16) (.tmp 18) 23 rfl w.heap.size 31 i0 (.agg #[.string ⟨#[]⟩,.int .i64 0,.int .i64 0,.slice none 0 0]) 4 56 Tryz.underlying23 hi hz0 hz1 hz2 rfl (by decide) _ _ _ rfl (hownA.alloc _) ⟨_,0,none⟩ 1 1 [strB nm,.int .i64 (kd:Int),.int .i64 (ky:Int),.slice none 0 0] rfl rfl ?c1 ?c2 ?c3 ?c4 ?c5 ?_)
   case c1=>exact VS (w4.alloc _) #[strB nm,.int .i64 (kd:Int),.int .i64 (ky:Int),.slice none 0 0] 31 (by simp)
   case c2=>intro u hu;simp at hu;rcases hu with rfl|rfl|rfl|rfl<;>rfl
   case c3=>unfold maxLen;omega
   case c4=>omega
   case c5=>simp;omega
   intro v5 w5 hown5 hgr5 _
   have HR:=hid (XV hrdA hplt hGA hownA hgr5)
   have HO5:=hid hown5
   clear hown4 hownA hown5 hgr5 hG4 hGA hrdA hrd4
   go_wp2
   go_roundw
   case rel =>
    refine ⟨k+1,tks++[⟨nm,kd,ky,[]⟩],r4,by omega,by go_num,by simp [Hal.out],?_,by rw [My];exact HO5.out,HR.out.1,HR.out.2,?_⟩
    ·intro c hc
     rcases List.mem_append.1 hc with h|h
     ·exact Hok.out c h
     ·simp only [List.mem_cons,List.not_mem_nil,or_false] at h
      subst h
      exact ⟨hnm8,by simp only;omega,⟨by simp only;omega,by simp only;omega⟩,rfl⟩
    ·rw [Hrk.out,Hr2.out,Hr3.out,Hr4.out,List.flatMap_append]
     simp [jZ]
   case measure=>simp [intOf];omega
  ·have hke:k=n:=by omega
   subst hke
   have HG:=hid hg
   have Hrd:=hid hrd
   have HOW:=hid hown
   obtain ⟨a,cap,rfl,hcap,hlies⟩:=Ph hown Hal.out Hok.out
   have Hlies:=hid hlies
   clear hown hlies hrd hg
   go_wp2_with fail
   refine (DX a cap k tks _ Hal.out (by unfold maxLen;omega) hcap Hlies.out).mono ?_
   rintro e w6 ⟨rfl,hb6⟩
   have HB6:=hid hb6
   clear hb6
   cases hh:jX tks with
   | true =>
    have Hh:=hid hh
    clear hh
    go_wp2_with fail
    refine (qh _).mono ?_
    rintro e w7 ⟨rfl,rfl⟩
    go_wp2
    go_ret
    refine ⟨jG HG.out HB6.out,.inr ⟨tks,_,rk,Hh.out,Hok.out,rfl,?_,qJ Hrd.out HB6.out (xF Hrd.out),?_⟩⟩
    ·rw [Hal.out]
     exact jN HOW.out HB6.out
    ·rw [HR0.out,Hrk.out,Hal.out]
   | false =>
    have HN:Hid (∀ (t:List ColB) (q:List UInt8),jX t=true→(∀ c ∈ t,c.cells=[])→rest≠uB t.length++(t.flatMap jZ++q)):=by
     intro t q ht hb h
     obtain ⟨h1,h2⟩:=HLEN.out t q ht h
     rw [Hrk.out] at h2
     obtain ⟨h3,_⟩:=Dv (by rw [Hal.out,h1]) Hok.out (Qw ht hb) h2
     rw [h3,ht] at hh
     cases hh
    clear hh
    go_wp2_with fail
    refine (qU _).mono ?_
    rintro e w7 ⟨rfl,rfl⟩
    go_wp2
    exact ⟨rfl,jG HG.out HB6.out,.inl ⟨rfl,HN.out⟩⟩
end Go.Proofs.YthhpbhpfagoapabGreat
