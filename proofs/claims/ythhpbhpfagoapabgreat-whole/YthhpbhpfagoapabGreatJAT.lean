import Derived.Test.YthhpbhpfagoapabGreatJAL
import Derived.Test.YthhpbhpfagoapabGreatWFoot
import Derived.Test.YthhpbhpfagoapabGreatJAP
namespace Go.Proofs.YthhpbhpfagoapabGreat
set_option linter.unusedVariables false
set_option linter.unusedSimpArgs false
set_option maxRecDepth 100000
set_option maxHeartbeats 16000000
section
theorem Pw (sec non ext p:List UInt8):(xX sec non ext p).take ((xX sec non ext p).length - 2)=zA sec non p:=by
 rw [za]
 unfold xX
 rw [show p.length+2 - 2=(zA sec non p).length by rw [JH];omega,List.take_left]
theorem Ze (sec non ext p:List UInt8) (h:p.length≤5000):xp sec non ext (xX sec non ext p)=some p:=by
 have e:zA sec non ((xX sec non ext p).take ((xX sec non ext p).length - 2))=p:=by rw [Pw,GQ]
 unfold xp
 rw [e,if_pos ⟨by rw [za];omega,by rw [za];omega,rfl⟩]
theorem XQ {sec non ext b p:List UInt8} (h:xp sec non ext b=some p):b=xX sec non ext p∧b.length≤5002:=by
 unfold xp at h
 split at h
 ·rename_i hc
  cases h
  exact ⟨hc.2.2.symm,hc.1⟩
 ·cases h
def XB (j:JobB) (r:List KeyB):Nat→List SpotB→List ModF
 | _,[]=>[]
 | n,s :: L =>
  if (jg j.table s.c).key=0 then ⟨xf j.table s,[],[]⟩ :: XB j r n L
  else ⟨[],xo j.draw n,xX (ji r (jg j.table s.c).key) (xo j.draw n) (jR j.pre s.sort s.g s.c s.p) (xf j.table s)⟩ :: XB j r (n+1) L
theorem Py (j:JobB) (r:List KeyB):∀ (L:List SpotB) (st:StB),(qx j r st L).out=st.out++jn j.table L (XB j r st.log.length L):=by
 intro L
 induction L with
 | nil=>intro st;simp [qx,XB,jn]
 | cons s L ih =>
  intro st
  show (qx j r (zL j r st s) L).out=_
  rw [ih]
  simp only [XB]
  by_cases hk:(jg j.table s.c).key=0
  ·rw [if_pos hk]
   simp only [jn,zL,Qs,hk,if_true,zW,qw,List.append_assoc]
  ·rw [if_neg hk]
   simp only [jn,zL,Qs,if_neg hk,zw,qw,List.append_assoc,List.length_append,List.length_cons,List.length_nil,Nat.zero_add]
theorem Ih (j:JobB) (r:List KeyB):∀ (L:List SpotB) (st:StB) (b:Bool),qM j r st b L=jL j.table st.out.length b L (XB j r st.log.length L):=by
 intro L
 induction L with
 | nil=>intro st b;simp [qM,XB,jL]
 | cons s L ih =>
  intro st b
  simp only [qM]
  rw [ih]
  simp only [XB]
  by_cases hk:(jg j.table s.c).key=0
  ·rw [if_pos hk]
   simp only [jL,zL,Qs,hk,if_true,zW,qw,List.length_append]
  ·rw [if_neg hk]
   simp only [jL,zL,Qs,if_neg hk,zw,qw,List.length_append,List.length_cons,List.length_nil,Nat.zero_add]
theorem PZ (j:JobB) (r:List KeyB):∀ (L:List SpotB) (n:Nat),(∀ s ∈ L,(xf j.table s).length≤5000)→ModsOk j.table L (XB j r n L):=by
 intro L
 induction L with
 | nil=>intro n _;exact .nil
 | cons s L ih =>
  intro n h
  have hp:=h s (by simp)
  simp only [XB]
  by_cases hk:(jg j.table s.c).key=0
  ·rw [if_pos hk]
   exact .cons (.inl ⟨hk,rfl,rfl,by show (xf j.table s).length≤_;omega⟩) (ih _ (fun x hx=>h x (List.mem_cons_of_mem _ hx)))
  ·rw [if_neg hk]
   refine .cons (.inr ⟨hk,rfl,rfl,?_,?_⟩) (ih _ (fun x hx=>h x (List.mem_cons_of_mem _ hx)))
   ·show 2≤(xX ..).length;rw [za];omega
   ·show (xX ..).length≤65535;rw [za];omega
def Ad (c:ColB):ColB:=⟨c.name,c.kind,c.key,[]⟩
def zc (t:List ColB):List ColB:=t.map Ad
theorem Vl (t:List ColB) (c:Nat):jg (zc t) c=Ad (jg t c):=by
 unfold jg zc
 rw [List.getD_eq_getElem?_getD,List.getD_eq_getElem?_getD,List.getElem?_map]
 cases t[c]?<;>rfl
theorem Mk (t:List ColB):∀ (L:List SpotB) (M:List ModF),jn (zc t) L M=jn t L M:=by
 intro L
 induction L with
 | nil=>intro M;rfl
 | cons s L ih=>intro M;cases M with
  | nil=>rfl
  | cons m M=>simp only [jn,Vl,ih];rfl
theorem Dg (t:List ColB):∀ (L:List SpotB) (M:List ModF) (n:Nat) (b:Bool),jL (zc t) n b L M=jL t n b L M:=by
 intro L
 induction L with
 | nil=>intro M n b;rfl
 | cons s L ih=>intro M n b;cases M with
  | nil=>rfl
  | cons m M=>simp only [jL,Vl,ih];rfl
theorem CX {t:List ColB} {L:List SpotB} {M:List ModF} (h:ModsOk t L M):ModsOk (zc t) L M:=by
 induction h with
 | nil=>exact .nil
 | cons hm _ ih=>exact .cons (by rw [Vl];exact hm) ih
theorem IP (R:Nat) (p:PlanB) (b:Bool) (t:List ColB) (pl:List Nat):qo R ⟨p.group,p.page,p.foot,b⟩ (zc t) pl=qo R p t pl:=by
 have e:(zc t).flatMap qn=t.flatMap qn:=by
  unfold zc
  rw [List.flatMap_map]
  rfl
 unfold qo
 rw [e]
 simp [zc]
theorem Px (t:List ColB) (s:List UInt8):zb (zc t) s=zb t s:=by
 unfold zb zc
 rw [List.any_map]
 rfl
theorem Im (t:List ColB):∀ n,Jd (zc t) n=Jd t n:=by
 intro n
 induction n with
 | zero=>rfl
 | succ n ih =>
  simp only [Jd,ih]
  have e:(zc t)[n]?=(t[n]?).map Ad:=by unfold zc;rw [List.getElem?_map]
  rw [e]
  cases h:t[n]? with
  | none=>rfl
  | some c =>
   have e2:(zc t).take n=zc (t.take n):=by unfold zc;rw [List.map_take]
   simp only [Option.map_some,e2,Px]
   rfl
theorem NZ (t:List ColB):qc (zc t)=qc t:=by
 unfold qc
 rw [show (zc t).length=t.length by simp [zc],Im]
def EV (j:JobB) (r:List KeyB):List UInt8:=jn j.table (qE j) (XB j r 0 (qE j))
def Js (j:JobB) (r:List KeyB):SheetF:=⟨qa j.table,⟨j.plan.group,j.plan.page,j.plan.foot,false⟩,zc j.table,XB j r 0 (qE j)⟩
theorem XI (j:JobB) (r:List KeyB):qt (Js j r)=qE j:=by
 simp [qt,Js,qE,zc]
theorem GoodJ.plains {j:JobB} {r:List KeyB} (h:GoodJ j r):∀ s ∈ qE j,(xf j.table s).length≤5000:=by
 intro s hs
 have hi:=h.spotIn s hs
 have:=Uo h.table hi.col hi.few.2.2.2.2
 omega
theorem TP {j:JobB} {r:List KeyB} (h:GoodJ j r):SheetOk j.plan.foot.toNat (EV j r) (xY j r) (Js j r):=by
 obtain ⟨_,_,hf1,hf2⟩:=h.sizes
 refine ⟨h.table.rows,?_,rfl,?_,?_,?_,?_,?_,?_⟩
 ·exact h.plan
 ·show j.plan.foot=_;omega
 ·show qc (zc j.table)=true
  rw [NZ]
  have:=h.table.ok
  simp only [xz,Bool.and_eq_true] at this
  exact this.1
 ·intro c hc
  simp only [Js,zc,List.mem_map] at hc
  obtain ⟨x,_,rfl⟩:=hc
  rfl
 ·rw [XI]
  exact CX (PZ j r _ 0 h.plains)
 ·rw [XI]
  exact (Mk ..).symm
 ·rw [XI]
  show xY j r=qo (qa j.table) ⟨j.plan.group,j.plan.page,j.plan.foot,false⟩ (zc j.table) (jL (zc j.table) 4 true (qE j) (XB j r 0 (qE j)))
  rw [IP,Dg]
  unfold xY zE
  rw [Ih]
  rfl
def Xy (j:JobB) (r:List KeyB):FormF :=
 ⟨j.plan.told,j.plan.foot.toNat,EV j r,if j.plan.told=true then xY j r else [],xo j.draw (xw j r).log.length,
  xX (ji r j.plan.foot) (xo j.draw (xw j r).log.length) (if j.plan.told=true then jR j.pre 83 0 0 0++xY j r else jR j.pre 70 0 0 0) (if j.plan.told=true then [] else xY j r)⟩
theorem DJ (j:JobB) (r:List KeyB):(xw j r).out=zt j.plan++EV j r:=Py j r (qE j) ⟨zt j.plan,[]⟩
theorem NG {j:JobB} {r:List KeyB} (h:GoodJ j r):zu j r=zi (Xy j r):=by
 obtain ⟨_,_,hf1,hf2⟩:=h.sizes
 have hfoot:((j.plan.foot.toNat:Nat):Int)=j.plan.foot:=by omega
 have hout:(zY j r (xY j r) (xw j r)).out=(xw j r).out++qW (Xy j r):=by
  unfold zY qW Xy
  cases ht:j.plan.told with
  | true=>simp only [if_true,zw,zW,List.append_assoc]
  | false=>simp only [if_false,Bool.false_eq_true,zw,List.append_assoc,List.nil_append]
 have hlen:(zY j r (xY j r) (xw j r)).out.length - (xw j r).out.length=(qW (Xy j r)).length:=by
  rw [hout,List.length_append];omega
 unfold zu
 rw [hlen,hout,DJ]
 unfold zi zt
 simp only [Xy,hfoot,List.append_assoc]
 rfl
theorem Sd {j:JobB} {r:List KeyB} (h:GoodJ j r) (hs:(zu j r).length≤65000):FormOk (Xy j r):=by
 obtain ⟨_,_,hf1,hf2⟩:=h.sizes
 refine ⟨Gi _ _,?_,?_,by rw [← NG h];exact hs,?_⟩
 ·show 2≤(xX ..).length;rw [za];omega
 ·show 1≤j.plan.foot.toNat∧j.plan.foot.toNat≤9;omega
 ·intro ht
  show (if j.plan.told=true then xY j r else [])=[]
  rw [if_neg (by rw [show j.plan.told=false from ht];decide)]
theorem Ae {j:JobB} {r:List KeyB} (h:GoodJ j r) (hs:(zu j r).length≤65000):zd (zu j r)=some (Xy j r):=by
 rw [NG h]
 exact Gw (Sd h hs)
inductive Plains (t:List ColB) (pre:List UInt8) (r:List KeyB) (c:Nat):List SpotB→List ModF→Prop
 | nil:Plains t pre r c [] []
 | cons {s:SpotB} {L:List SpotB} {m:ModF} {M:List ModF}:(s.c=c→JR pre r (jg t c).key s m=some (xf t s))→Plains t pre r c L M→Plains t pre r c (s :: L) (m :: M)
theorem Plains.cut {t:List ColB} {pre:List UInt8} {r:List KeyB} {c:Nat} {L:List SpotB}:∀ {L2:List SpotB} {M:List ModF},Plains t pre r c (L++L2) M→∃ M1 M2,M=M1++M2∧M1.length=L.length∧Plains t pre r c L M1∧Plains t pre r c L2 M2:=by
 induction L with
 | nil=>intro L2 M h;exact ⟨[],M,rfl,rfl,.nil,h⟩
 | cons s L ih =>
  intro L2 M h
  cases h with
  | cons hm h2 =>
   obtain ⟨M1,M2,h3,h3',h4,h5⟩:=ih h2
   exact ⟨_ :: M1,M2,by rw [h3];rfl,by simp [h3'],.cons hm h4,h5⟩
theorem In {j:JobB} {r r2:List KeyB} {c:Nat} (hk:(jg j.table c).key=0∨ji r2 (jg j.table c).key=ji r (jg j.table c).key):∀ (L:List SpotB) (n:Nat),(∀ s ∈ L,(xf j.table s).length≤5000)→Plains j.table j.pre r2 c L (XB j r n L):=by
 intro L
 induction L with
 | nil=>intro n _;exact .nil
 | cons s L ih =>
  intro n h
  simp only [XB]
  by_cases h0:(jg j.table s.c).key=0
  ·rw [if_pos h0]
   refine .cons (fun hc=>?_) (ih _ (fun x hx=>h x (List.mem_cons_of_mem _ hx)))
   rw [hc] at h0
   simp [JR,h0]
  ·rw [if_neg h0]
   refine .cons (fun hc=>?_) (ih _ (fun x hx=>h x (List.mem_cons_of_mem _ hx)))
   rw [hc] at h0
   rcases hk with hk|hk
   ·exact absurd hk h0
   ·unfold JR
    rw [if_neg h0,hk,hc]
    simp only [hc]
    exact Ze _ _ _ _ (h s (by simp))
theorem DQ {α:Type} (l:List α) (a n:Nat):l.take a++(l.drop a).take n=l.take (a+n):=(List.take_add).symm
theorem CD {t:List ColB} {pre:List UInt8} {r:List KeyB} {s:SpotB} {m:ModF} (hg:GoodT t) (hc:s.c < t.length) (hsort:s.sort=80) (hend:s.start+s.many≤qa t) (hp:JR pre r (jg t s.c).key s m=some (xf t s)) :
  QI pre r (jg t s.c).kind (jg t s.c).key ((jg t s.c).cells.take s.start) s m=some ((jg t s.c).cells.take (s.start+s.many)):=by
 obtain ⟨h1,h2,h3⟩:=hg.cells s.c hc
 have hok:qA (t[s.c]).kind (((t[s.c]).cells.drop s.start).take s.many)=true:=by
  have:=(Gc hg.ok).2 t[s.c] (List.getElem_mem hc)
  have h4:=this.1
  simp only [qA,Bool.and_eq_true,Bool.or_eq_true,decide_eq_true_eq,List.all_eq_true] at h4 ⊢
  refine ⟨⟨h4.1.1,by rw [List.length_take];omega⟩,fun x hx=>h4.2 x (List.mem_of_mem_drop (List.mem_of_mem_take hx))⟩
 have hr:∀ x ∈ ((t[s.c]).cells.drop s.start).take s.many,JD x:=fun x hx=>by
  have:=h3 x (List.mem_of_mem_drop (List.mem_of_mem_take hx))
  exact ⟨this.1,this.2.1⟩
 rw [xy hc] at hp ⊢
 unfold QI
 rw [hp]
 have hpl:xf t s=xK (t[s.c]).kind (((t[s.c]).cells.drop s.start).take s.many):=by
  unfold xf
  rw [if_neg (by rw [hsort];decide),xy hc]
 simp only [hpl,if_neg (show ¬ s.sort=77 from by rw [hsort];decide),KU _ _ hok hr]
 rw [if_pos (by rw [List.length_take,List.length_drop];omega),DQ]
theorem Po {t:List ColB} {pre:List UInt8} {r:List KeyB} {s:SpotB} {m:ModF} (hc:s.c < t.length) (hsort:s.sort=77) (hp:JR pre r (jg t s.c).key s m=some (xf t s)) :
  QI pre r (jg t s.c).kind (jg t s.c).key ((jg t s.c).cells.take (s.start+s.many)) s m=some ((jg t s.c).cells.take (s.start+s.many)):=by
 unfold QI
 rw [hp]
 have hpl:xf t s=Qf (jg t s.c).kind (((jg t s.c).cells.drop s.start).take s.many):=by
  unfold xf
  rw [if_pos hsort]
 simp only [hpl,if_pos hsort]
 rw [if_pos]
 rw [List.drop_take,Nat.add_sub_cancel_left]
theorem It {t:List ColB} {pre:List UInt8} {r:List KeyB} {R G P g c:Nat} (hg:GoodT t) (hR:R=qa t) (hG:g*G < R) (hc:c < t.length) (hP:1≤P):∀ (k:Nat) (M:List ModF),k≤jX (jp R G g) P→Plains t pre r c (jt P g c (g*G) (jp R G g) k) M →
  jI pre r (jg t c).kind (jg t c).key c (some ((jg t c).cells.take (g*G))) (jt P g c (g*G) (jp R G g) k) M=some ((jg t c).cells.take (g*G+min (k*P) (jp R G g))):=by
 intro k
 induction k with
 | zero=>intro M _ h;cases h;simp [jI]
 | succ k ih =>
  intro M hk h
  rw [Qi] at h ⊢
  obtain ⟨M1,M2,rfl,hl,h1,h2⟩:=h.cut
  rw [xZ _ _ _ _ _ _ _ _ _ _ hl,ih M1 (by omega) h1]
  have hlt:=(Jr (n:=jp R G g) (i:=k) hP).1 (by omega)
  have hpn:=jp R G g
  have hpe:g*G+jp R G g≤R:=by unfold jp;omega
  cases h2 with
  | cons hm h3 =>
   cases h3
   rename_i m
   have e1:min (k*P) (jp R G g)=k*P:=by omega
   rw [e1]
   have:=CD (m:=m) (pre:=pre) (r:=r) (s:=⟨80,g,c,k,g*G+k*P,jp (jp R G g) P k⟩) hg hc rfl (by simp only [jp] at *;omega) (hm rfl)
   simp only at this
   have e2:=XP pre r (jg t c).kind (jg t c).key ⟨80,g,c,k,g*G+k*P,jp (jp R G g) P k⟩ m ((jg t c).cells.take (g*G+k*P))
   simp only at e2
   rw [e2,this,Nat.succ_mul]
   congr 2
   have:jp (jp R G g) P k=min P (jp R G g - k*P):=rfl
   omega
theorem EB {t:List ColB} {pre:List UInt8} {r:List KeyB} {R G P g c:Nat} (hg:GoodT t) (hR:R=qa t) (hG:g*G < R) (hc:c < t.length) (hP:1≤P) {M:List ModF} (h:Plains t pre r c (jh R G P g c) M) :
  jI pre r (jg t c).kind (jg t c).key c (some ((jg t c).cells.take (g*G))) (jh R G P g c) M=some ((jg t c).cells.take (g*G+jp R G g)):=by
 unfold jh at h ⊢
 obtain ⟨M1,M2,rfl,hl,h1,h2⟩:=h.cut
 rw [xZ _ _ _ _ _ _ _ _ _ _ hl,It hg hR hG hc hP _ M1 (Nat.le_refl _) h1]
 have hm:=Up (n:=jp R G g) hP
 rw [show min (jX (jp R G g) P*P) (jp R G g)=jp R G g by omega]
 cases h2 with
 | cons hm h3 =>
  cases h3
  rename_i m
  have:=Po (m:=m) (pre:=pre) (r:=r) (s:=⟨77,g,c,0,g*G,jp R G g⟩) hc rfl (hm rfl)
  have e2:=XP pre r (jg t c).kind (jg t c).key ⟨77,g,c,0,g*G,jp R G g⟩ m ((jg t c).cells.take (g*G+jp R G g))
  simp only at e2 this
  rw [e2,this]
theorem EP {t:List ColB} {pre:List UInt8} {r:List KeyB} {R G P g c:Nat} (hg:GoodT t) (hR:R=qa t) (hG:g*G < R) (hc:c < t.length) (hP:1≤P):∀ (C:Nat) (M:List ModF),Plains t pre r c (jr R G P g C) M →
  jI pre r (jg t c).kind (jg t c).key c (some ((jg t c).cells.take (g*G))) (jr R G P g C) M=some ((jg t c).cells.take (if c < C then g*G+jp R G g else g*G)):=by
 intro C
 induction C with
 | zero=>intro M h;cases h;simp [jr,jI]
 | succ C ih =>
  intro M h
  rw [zM] at h ⊢
  obtain ⟨M1,M2,rfl,hl,h1,h2⟩:=h.cut
  rw [xZ _ _ _ _ _ _ _ _ _ _ hl,ih M1 h1]
  by_cases hlt:c < C
  ·rw [if_pos hlt,if_pos (by omega),ZH]
   intro s hs;rw [Qg s hs];omega
  ·rw [if_neg hlt]
   by_cases he:c=C
   ·subst he
    rw [if_pos (by omega),EB hg hR hG hc hP h2]
   ·rw [if_neg (by omega),ZH]
    intro s hs;rw [Qg s hs];omega
theorem YQ {t:List ColB} {pre:List UInt8} {r:List KeyB} {R G P c:Nat} (hg:GoodT t) (hR:R=qa t) (hG:1≤G) (hc:c < t.length) (hP:1≤P):∀ (n:Nat) (M:List ModF),n≤jX R G→Plains t pre r c (jH R t.length G P n) M →
  jI pre r (jg t c).kind (jg t c).key c (some []) (jH R t.length G P n) M=some ((jg t c).cells.take (min (n*G) R)):=by
 intro n
 induction n with
 | zero=>intro M _ h;cases h;simp [jH,jI]
 | succ n ih =>
  intro M hn h
  rw [zJ] at h ⊢
  obtain ⟨M1,M2,rfl,hl,h1,h2⟩:=h.cut
  have hlt:=(Jr (n:=R) (i:=n) hG).1 (by omega)
  rw [xZ _ _ _ _ _ _ _ _ _ _ hl,ih M1 (by omega) h1]
  have e:min (n*G) R=n*G:=by omega
  rw [e,EP hg hR hlt hc hP _ M2 h2,if_pos hc,Nat.succ_mul]
  congr 2
  unfold jp
  omega
theorem DO {j:JobB} {r r2:List KeyB} {c:Nat} (h:GoodJ j r) (hc:c < j.table.length) (hk:(j.table[c]).key=0∨ji r2 (j.table[c]).key=ji r (j.table[c]).key) :
  jI j.pre r2 (j.table[c]).kind (j.table[c]).key c (some []) (qt (Js j r)) (Js j r).mods=some (j.table[c]).cells:=by
 obtain ⟨⟨a,b⟩,⟨d,e⟩,_⟩:=h.sizes
 rw [XI]
 rw [← xy hc] at hk
 have h1:=In (r:=r) (r2:=r2) hk (qE j) 0 h.plains
 have h2:=YQ (pre:=j.pre) (r:=r2) h.table rfl a hc d _ _ (Nat.le_refl _) h1
 show jI j.pre r2 _ _ c (some []) (qE j) (XB j r 0 (qE j))=_
 rw [xy hc] at h2
 unfold qE qk at *
 rw [h2]
 congr 1
 obtain ⟨h3,_⟩:=h.table.cells c hc
 have h4:=Up (n:=qa j.table) a
 rw [show min (jX (qa j.table) j.plan.group.toNat*j.plan.group.toNat) (qa j.table)=qa j.table by omega,← h3,List.take_length]
end
section
theorem Pj (l:List CellB):∀ (b:Bool) (n:Nat),n+l.length≤127→(XA b n l).length≤l.length+1:=by
 induction l with
 | nil=>intro b n h;simp only [XA];rw [zr (by simpa using h)];simp
 | cons c l ih =>
  intro b n h
  simp only [List.length_cons] at h
  simp only [XA]
  split
  ·have:=ih b (n+1) (by omega);simp only [List.length_cons];omega
  ·have:=ih (!b) 1 (by omega)
   rw [List.length_append,zr (by omega)]
   simp only [List.length_cons,List.length_nil];omega
theorem Tb (l:List CellB) (h:l.length≤60):(Jb l).length≤l.length+2:=by
 unfold Jb qX
 rw [List.length_append,zr (by omega)]
 split
 ·simp
 ·have:=Pj l false 0 (by omega)
  simp;omega
theorem Sa (kind:Int) (l:List CellB) (h:∀ c ∈ l,qG c) (hn:l.length≤6):(xK kind l).length≤250:=by
 have h1:=Tb l (by omega)
 have hv:(jm l).length≤6:=Nat.le_trans (List.length_filter_le ..) hn
 have hs:∀ c ∈ jm l,qG c:=fun c hc=>h c (List.mem_filter.1 hc).1
 have h2:(jQ kind (jm l) 3).length≤_:=VG kind (jm l) 2
 have h3:(Xr (ZO kind 0) (jm l)).length≤241:=by
  have h4:=zC (ZO kind 0) (jm l) hs (by omega) (jm l).length
  have h5:ZO kind 0≠3:=by unfold ZO;split<;>simp
  simp only [Xr,qJ,if_neg h5,List.length_cons,List.nil_append]
  omega
 unfold xK
 split
 ·omega
 ·rw [List.length_append];omega
theorem Pi {t:List ColB} (h:GoodT t) {s:SpotB} (hs:s.c < t.length) (hm:s.many≤60) (h6:s.sort≠77→s.many≤6):(xf t s).length≤250:=by
 obtain ⟨_,_,h3⟩:=h.cells s.c hs
 have hsm:∀ x ∈ ((jg t s.c).cells.drop s.start).take s.many,qG x:=by
  rw [xy hs]
  exact fun x hx=>h3 x (List.mem_of_mem_drop (List.mem_of_mem_take hx))
 have hl:(((jg t s.c).cells.drop s.start).take s.many).length≤s.many:=by rw [List.length_take];omega
 unfold xf
 split
 ·have:=IE (jg t s.c).kind _ hsm (by omega);omega
 ·rename_i hne
  have:=h6 hne
  exact Sa _ _ hsm (by omega)
theorem Ap {j:JobB} {r:List KeyB} (B:Nat) (l:List SpotB):∀ st:StB,(∀ s ∈ l,(xf j.table s).length≤B)→(qx j r st l).out.length≤st.out.length+(B+8)*l.length:=by
 induction l with
 | nil=>intro st _;simp [qx]
 | cons s l ih =>
  intro st hl
  have h1:=hl s (List.mem_cons_self ..)
  have h2:=Em j r (jg j.table s.c).key s.sort s.g s.c s.p (xf j.table s) st
  have h3:=ih (zL j r st s) (fun x hx=>hl x (List.mem_cons_of_mem _ hx))
  have e:qx j r st (s :: l)=qx j r (zL j r st s) l:=rfl
  rw [e]
  have e2:zL j r st s=Qs j r (jg j.table s.c).key s.sort s.g s.c s.p (xf j.table s) st:=rfl
  rw [← e2] at h2
  have e3:(B+8)*(s :: l).length=(B+8)*l.length+(B+8):=by rw [List.length_cons,Nat.mul_add,Nat.mul_one]
  rw [e3]
  omega
theorem Ps (R G P g c:Nat) (hP:1≤P):(jh R G P g c).length≤jp R G g+1:=by
 have h1:=JZ (n:=jp R G g) hP
 unfold jh jt
 simp
 omega
theorem CJ (R G P g C:Nat) (hP:1≤P):(jr R G P g C).length≤(jp R G g+1)*C:=by
 induction C with
 | zero=>simp [jr]
 | succ C ih =>
  have h:jr R G P g (C+1)=jr R G P g C++jh R G P g C:=by simp [jr,List.range_succ]
  have h2:=Ps R G P g C hP
  rw [h,List.length_append,Nat.mul_add,Nat.mul_one]
  omega
theorem BJ (R C G P:Nat) (hP:1≤P) (hG:1≤G):∀ n,n≤jX R G→(jH R C G P n).length≤2*min (n*G) R*C:=by
 intro n
 induction n with
 | zero=>intro _;simp [jH]
 | succ n ih =>
  intro hn
  have hnG:n*G < R:=(Jr hG).1 (by omega)
  have h1:=ih (by omega)
  have h2:=CJ R G P n C hP
  have h3:0 < jp R G n:=(KR hG).2 hnG
  have h4:=Xv R G n hnG
  have h5:min ((n+1)*G) R=min (n*G) R+jp R G n:=by rw [Nat.succ_mul];omega
  rw [zJ,List.length_append,h5]
  have h6:(jp R G n+1)*C≤2*jp R G n*C:=Nat.mul_le_mul_right _ (by omega)
  have h7:2*(min (n*G) R+jp R G n)*C=2*min (n*G) R*C+2*jp R G n*C:=by rw [Nat.mul_add,Nat.add_mul]
  omega
theorem PI {j:JobB} {r:List KeyB} (h:GoodJ j r) (hC:j.table.length≤4) (hR:qa j.table≤20) (hP:j.plan.page.toNat≤6):(zu j r).length≤65000:=by
 obtain ⟨⟨a,b⟩,⟨c,d⟩,_⟩:=h.sizes
 have hpl:∀ s ∈ qE j,(xf j.table s).length≤250:=fun s hs=>by
  have hin:=h.spotIn s hs
  refine Pi h.table hin.col hin.few.2.2.2.2 (fun hne=>?_)
  simp only [qE,qk,jH,jr,List.mem_flatMap,List.mem_range] at hs
  obtain ⟨g,_,k,_,hs⟩:=hs
  rcases List.mem_append.1 hs with hs|hs
  ·simp only [jt,List.mem_map,List.mem_range] at hs
   obtain ⟨p,_,rfl⟩:=hs
   have:=(Ju (jp (qa j.table) j.plan.group.toNat g) j.plan.page.toNat p).1
   simp only
   omega
  ·simp only [List.mem_cons,List.not_mem_nil,or_false] at hs
   subst hs
   exact absurd rfl hne
 have h1:=Ap (r:=r) 250 (qE j) ⟨zt j.plan,[]⟩ hpl
 have h2:(qE j).length≤2*min (jX (qa j.table) j.plan.group.toNat*j.plan.group.toNat) (qa j.table)*j.table.length:=BJ _ _ _ _ c a _ (Nat.le_refl _)
 have h3:2*min (jX (qa j.table) j.plan.group.toNat*j.plan.group.toNat) (qa j.table)*j.table.length≤40*4:=Nat.mul_le_mul (by omega) hC
 have h4:(xw j r).out.length≤4+258*(qE j).length:=h1
 have h5:=h.foot.2.2
 have h6:(zY j r (xY j r) (xw j r)).out.length≤(xw j r).out.length+4000:=by
  unfold zY
  split
  ·have e1:=(Qx j.draw (ji r j.plan.foot) (jR j.pre 83 0 0 0++xY j r) [] (zW (xY j r) (xw j r))).1
   have e2:=Vw (xY j r) (xw j r)
   rw [e1,e2]
   simp
   omega
  ·have e1:=(Qx j.draw (ji r j.plan.foot) (jR j.pre 70 0 0 0) (xY j r) (xw j r)).1
   rw [e1]
   omega
 unfold zu
 simp only [List.length_append,jy,List.length_cons,List.length_nil]
 omega
end
section
open Go.RowKit
def KI (P:List (ColB × Value)):List Value:=P.flatMap fun p=>[strB p.1.name,.int .i64 p.1.kind,.int .i64 p.1.key,p.2]
theorem Vm (l:List (ColB × Value)):(KI l).length=l.length*4:=Uk _ 4 (fun _=>rfl) l
theorem Es (a b:List (ColB × Value)):KI (a++b)=KI a++KI b:=by simp [KI]
theorem SF (l:List (ColB × Value)) (j:Nat) (h:j < l.length):(KI l)[j*4]?=some (strB (l[j]).1.name)∧(KI l)[j*4+1]?=some (.int .i64 (l[j]).1.kind)∧(KI l)[j*4+2]?=some (.int .i64 (l[j]).1.key)∧(KI l)[j*4+3]?=some (l[j]).2 :=
 ⟨Jt _ 4 (fun _=>rfl) l j 0 h (by decide),Jt _ 4 (fun _=>rfl) l j 1 h (by decide),Jt _ 4 (fun _=>rfl) l j 2 h (by decide),Jt _ 4 (fun _=>rfl) l j 3 h (by decide)⟩
theorem Tryz.infoColumn:(Tryz.prog.info? 31).map (fun i=>(i.zero,i.size,i.bytes))=some (some (.agg #[.string ⟨#[]⟩,.int .i64 0,.int .i64 0,.slice none 0 0]),4,56):=by kernel_rfl
theorem XX {W W':World} {base e size n:Nat} {v:Value} {xs:List Value} (h:W.ownsRow base e size v n xs) (hb:Below W.heap.size W W'):W'.ownsRow base e size v n xs :=
 h.kept (Mu hb) (Classical.em _)
end
section
open Go.RowKit
abbrev pressT:List TypeId:=[131,5,54]
abbrev pressC (tv rv ov lv:Value) (j:JobB):Array Value:=#[tv,.int .i64 j.plan.group,.int .i64 j.plan.page,.int .i64 j.plan.foot,.bool j.plan.told,strB j.pre,.int .i64 j.draw,rv,ov,lv]
def PressAt (w:World) (B q:Nat) (tv rv:Value) (j:JobB) (st:StB):Prop :=
 ∃ ov lv,w.heap[q]?=some (.cells (pressC tv rv ov lv j) 131 (0,0))∧B≤q∧w.ownsRow B 5 1 ov st.out.length (qu st.out)∧w.ownsRow B 54 4 lv st.log.length (qF st.log)
theorem PressAt.later {w w':World} {B q:Nat} {tv rv:Value} {j:JobB} {st:StB} (h:PressAt w B q tv rv j st) (hb:Below w.heap.size w w'):PressAt w' B q tv rv j st:=by
 obtain ⟨ov,lv,h1,h2,h3,h4⟩:=h
 exact ⟨ov,lv,jd hb h1,h2,ju h3 hb,ju h4 hb⟩
theorem qL {w:World} {q:Nat} {tv rv ov lv:Value} {j:JobB} (h:w.heap[q]?=some (.cells (pressC tv rv ov lv j) 131 (0,0))) :
  (w.cell? ⟨q,0,none⟩=some tv∧w.cell? ⟨q,1,none⟩=some (.int .i64 j.plan.group)∧w.cell? ⟨q,2,none⟩=some (.int .i64 j.plan.page)∧w.cell? ⟨q,5,none⟩=some (strB j.pre)∧w.cell? ⟨q,6,none⟩=some (.int .i64 j.draw)∧w.cell? ⟨q,7,none⟩=some rv∧w.cell? ⟨q,8,none⟩=some ov∧w.cell? ⟨q,9,none⟩=some lv)∧∀ i,w.frozen? ⟨q,i,none⟩=false:=by
 refine ⟨⟨?_,?_,?_,?_,?_,?_,?_,?_⟩,fun i=>frozen_of_row w q i _ _ h⟩
 all_goals rw [jb h];rfl
theorem Tryz.infoSealed:(Tryz.prog.info? 54).map (fun i=>(i.zero,i.size,i.bytes))=some (some (.agg #[.string ⟨#[]⟩,.string ⟨#[]⟩,.string ⟨#[]⟩,.string ⟨#[]⟩]),4,64):=by kernel_rfl
theorem zn {w:World} {b1 b2 e1 e2 s1 s2 n1 n2:Nat} {u v:Value} {xs ys:List Value} (h1:w.ownsRow b1 e1 s1 u n1 xs) (h2:w.ownsRow b2 e2 s2 v n2 ys) (he:e1≠e2):u.ownBlock=none∨u.ownBlock≠v.ownBlock:=by
 rcases h1.2 with ⟨rfl,_⟩|⟨g,cap,cur,rfl,_,hg,_⟩
 ·exact .inl rfl
 ·right
  rcases h2.2 with ⟨rfl,_⟩|⟨g2,cap2,cur2,rfl,_,hg2,_⟩
  ·simp [Value.ownBlock]
  ·simp only [Value.ownBlock,ne_eq,Option.some.injEq]
   rintro rfl
   rw [hg] at hg2
   cases hg2
   exact he rfl
theorem Nb {w:World} {b e s n q:Nat} {u:Value} {xs:List Value} {C:Array Value} {t:TypeId} (h:w.ownsRow b e s u n xs) (hq:w.heap[q]?=some (.cells C t (0,0))) (ht:t≠e):u.ownBlock≠some q:=by
 rcases h.2 with ⟨rfl,_⟩|⟨g,cap,cur,rfl,_,hg,_⟩
 ·simp [Value.ownBlock]
 ·simp only [Value.ownBlock,ne_eq,Option.some.injEq]
  rintro rfl
  rw [hg] at hq
  cases hq
  exact ht rfl
theorem jK {w:World} {b e s n:Nat} {u:Value} {xs:List Value} (h:w.ownsRow b e s u n xs):∃ a c,u=.slice a n c:=by
 rcases h.2 with ⟨rfl,rfl⟩|⟨g,cap,cur,rfl,_⟩
 ·exact ⟨none,0,rfl⟩
 ·exact ⟨_,cap,rfl⟩
theorem Tg {w w2:World} {B q n2:Nat} {tv rv ov lv ov2:Value} {j:JobB} {st:StB} {out2:List UInt8}
  (hrow:w.heap[q]?=some (.cells (pressC tv rv ov lv j) 131 (0,0))) (hB:B≤q) (hout:w.ownsRow B 5 1 ov st.out.length (qu st.out)) (hlog:w.ownsRow B 54 4 lv st.log.length (qF st.log))
  (hBw:B≤w.heap.size) (hown2:w2.ownsRow B 5 1 ov2 n2 (qu out2)) (hn:n2=out2.length) (hgr:w.grownBy w2 ov.ownBlock) :
  PressAt (w2.setCell ⟨q,8,none⟩ ov2) B q tv rv j ⟨out2,st.log⟩∧KeptT pressT B w (w2.setCell ⟨q,8,none⟩ ov2):=by
 subst hn
 have hrow2:=jz hgr hout hrow (by decide)
 have hlog2:=hlog.kept hgr (zn hlog hout (by decide))
 have hset:=heap_setCell_same w2 q 8 _ 131 ov2 hrow2
 have hg3:w2.grownBy (w2.setCell ⟨q,8,none⟩ ov2) (some q):=⟨rfl,rfl,rfl,by simp,fun k _ hk=>heap_setCell_other w2 ⟨q,8,none⟩ k ov2 (fun e=>hk (by simp [e]))⟩
 refine ⟨⟨ov2,lv,?_,hB,hown2.kept hg3 (.inr (Nb hown2 hrow2 (by decide))),hlog2.kept hg3 (.inr (Nb hlog2 hrow2 (by decide)))⟩,?_⟩
 ·rw [hset];rfl
 ·refine KeptT.set ?_ hrow2 hB (by decide) ov2
  exact (KeptT.refl _ _ _).grown hgr hBw (YU hout (by decide))
theorem CP {w w2:World} {B q n2:Nat} {tv rv ov lv lv2:Value} {j:JobB} {st:StB} {log2:List SealB}
  (hrow:w.heap[q]?=some (.cells (pressC tv rv ov lv j) 131 (0,0))) (hB:B≤q) (hout:w.ownsRow B 5 1 ov st.out.length (qu st.out)) (hlog:w.ownsRow B 54 4 lv st.log.length (qF st.log))
  (hBw:B≤w.heap.size) (hown2:w2.ownsRow B 54 4 lv2 n2 (qF log2)) (hn:n2=log2.length) (hgr:w.grownBy w2 lv.ownBlock) :
  PressAt (w2.setCell ⟨q,9,none⟩ lv2) B q tv rv j ⟨st.out,log2⟩∧KeptT pressT B w (w2.setCell ⟨q,9,none⟩ lv2):=by
 subst hn
 have hrow2:=jz hgr hlog hrow (by decide)
 have hout2:=hout.kept hgr (zn hout hlog (by decide))
 have hset:=heap_setCell_same w2 q 9 _ 131 lv2 hrow2
 have hg3:w2.grownBy (w2.setCell ⟨q,9,none⟩ lv2) (some q):=⟨rfl,rfl,rfl,by simp,fun k _ hk=>heap_setCell_other w2 ⟨q,9,none⟩ k lv2 (fun e=>hk (by simp [e]))⟩
 refine ⟨⟨ov,lv2,?_,hB,hout2.kept hg3 (.inr (Nb hout2 hrow2 (by decide))),hown2.kept hg3 (.inr (Nb hown2 hrow2 (by decide)))⟩,?_⟩
 ·rw [hset];rfl
 ·refine KeptT.set ?_ hrow2 hB (by decide) lv2
  exact (KeptT.refl _ _ _).grown hgr hBw (YU hlog (by decide))
theorem EH (ps:List (List UInt8)) (k:Nat) (h:k < ps.length):(ps.take (k+1)).flatten=(ps.take k).flatten++ps[k]:=by
 rw [List.take_succ_eq_append_getElem h,List.flatten_append];simp
theorem GU (ps:List (List UInt8)) (k:Nat):(ps.take k).flatten.length≤ps.flatten.length:=by
 have:ps.flatten=(ps.take k).flatten++(ps.drop k).flatten:=by rw [← List.flatten_append,List.take_append_drop]
 rw [this,List.length_append];omega
theorem Zb (B q pb n:Nat) (tv rv:Value) (j:JobB) (st:StB) (ps:List (List UInt8)) (w:World) (hn:ps.length=n) (hn9:n≤1000) (hs:st.out.length+ps.flatten.length≤100000000)
  (hB:B≤w.heap.size) (hp:PressAt w B q tv rv j st) (hps:w.heap[pb]?=some (.cells (zl ps).toArray 9 (0,0))) :
  Calls Tryz.prog 62 #[.pointer (some ⟨q,0,none⟩),.slice (some ⟨pb,0,none⟩) n n] w fun e w'=>e=.returned (.tuple #[])∧PressAt w' B q tv rv j ⟨st.out++ps.flatten,st.log⟩∧KeptT pressT B w w':=by
 subst hn
 obtain ⟨i0,hi,hz0,hz1,hz2⟩:=info_parts Tryz.infoU8
 have Hp:=hid hp
 have Hps:=hid hps
 clear hp hps
 go_enter Tryz.func62,Tryz.ntmps62
 go_wp2
 go_loopw [8] (fun i wr=>∃ k:Nat,k≤ps.length∧i=.int .i64 (k:Int)∧PressAt wr B q tv rv j ⟨st.out++(ps.take k).flatten,st.log⟩∧KeptT pressT B w wr) (fun i _=>ps.length - (intOf i).toNat)
 case atStart=>exact ⟨0,Nat.zero_le _,rfl,by simpa using Hp.out,KeptT.refl _ _ _⟩
 case round =>
  obtain ⟨k,hkl,rfl,hpr,hK⟩:=hrel
  by_cases hlt:k < ps.length
  ·have hki:(k:Int) < (ps.length:Int):=by omega
   obtain ⟨ov,lv,hrow,hBq,hout,hlog⟩:=hpr
   have hpk:=hK.row Hps.out (by decide)
   have cp:wr.cell? ⟨pb,k,none⟩=some (strB ps[k]):=by rw [jb hpk];simp [zl,hlt]
   obtain ⟨⟨c0,c1,c2,c5,c6,c7,c8,c9⟩,cf⟩:=qL hrow
   have cf8:=cf 8
   have HF:=hid (EH ps k hlt)
   have hle:=GU ps (k+1)
   rw [HF.out,List.length_append] at hle
   have HA:Hid (st.out++(ps.take (k+1)).flatten=(st.out++(ps.take k).flatten)++ps[k]):=by show _=_;rw [HF.out,List.append_assoc]
   have hlen:(st.out++(ps.take k).flatten).length+(ps[k]).length≤100000000:=by rw [List.length_append];omega
   have hBr:=Nat.le_trans hB hK.size
   have hz:=jM ps[k]
   simp only at hout hlog
   generalize st.out++(ps.take k).flatten=out0 at *
   generalize ps[k]=part at *
   clear hpk c0 c1 c2 c5 c6 c7 c9 cf hle
   go_wp2_with (at_builtin;refine Lib.wpList_append_own_string _ rfl (.tmp 16) (.tmp 17) 64 9 rfl B 5 i0 Tryz.underlying64 Tryz.underlying9 hi hz0 hz1 hz2 _ _ _ rfl hout ⟨part.toArray⟩ rfl (by unfold maxLen;omega) (by omega) hBr ?_;intro v2 w2 hown2 hgr2 _;obtain ⟨a2,c2,rfl⟩:=jK hown2;have cf2:w2.frozen? ⟨q,8,none⟩=false:=frozen_of_row w2 q 8 _ _ (jz hgr2 hout hrow (by decide));have hex2:w2.cell? ⟨q,8,none⟩=some ov:=(jb (jz hgr2 hout hrow (by decide))).trans rfl)
   have HR:=hid (Tg (st:=⟨out0,st.log⟩) (out2:=out0++part) hrow hBq hout hlog hBr (by rw [Xd];exact hown2) (by rw [List.length_append,hz]) hgr2)
   clear hrow hout hlog hown2 hgr2 c8 cf8 cp
   go_wp2
   go_roundw
   case rel=>exact ⟨k+1,by omega,by go_num,by rw [HA.out];exact HR.out.1,hK.trans HR.out.2⟩
   case measure=>simp [intOf];omega
  ·have hke:k=ps.length:=by omega
   subst hke
   rw [List.take_length] at hpr
   go_wp2
   go_end0
   exact ⟨rfl,hpr,hK⟩
end
section
def xm (pre:List UInt8) (r:List KeyB) (key:Int) (c:Nat):List SpotB→List ModF→List SealB
 | s :: L,m :: M=>(if s.c=c then [⟨ji r key,m.nonce,jR pre s.sort s.g s.c s.p,m.body⟩] else [])++xm pre r key c L M
 | _,_=>[]
def zf (pre:List UInt8) (r:List KeyB) (f:FormF):SealB :=
 ⟨ji r (f.foot:Int),f.nonce,if f.told=true then jR pre 83 0 0 0++f.footer else jR pre 70 0 0 0,f.body⟩
def xC (x:FoundB):Bool:=decide (x.key≠0) && decide (x.state=0)
def Zf (pre:List UInt8) (r:List KeyB) (f:FormF) (S:SheetF):List SealB :=
 zf pre r f :: (List.range S.cols.length).flatMap fun c=>if xC (qh pre r S c)=true then xm pre r (jg S.cols c).key c (qt S) S.mods else []
def DU (x:FoundB) (c:ColB):Prop:=(x.name=c.name∧x.kind=c.kind∧x.key=c.key)∧(xC x=true→x.cells=c.cells)
def AQ (l:List FoundB) (t:List ColB):Prop:=l.length=t.length∧∀ i,i < t.length→DU (l.getD i ⟨[],0,0,0,[]⟩) (jg t i)
theorem Jc {pre pre':List UInt8} {a b:UInt8} {g c p g' c' p':Nat} {q q':List UInt8} (hg:g≤65535) (hc:c≤65535) (hp:p≤65535) (hg':g'≤65535) (hc':c'≤65535) (hp':p'≤65535)
  (h:jR pre a g c p++q=jR pre' b g' c' p'++q'):pre=pre'∧a=b∧g=g'∧c=c'∧p=p'∧q=q':=by
 unfold jR at h
 simp only [List.append_assoc] at h
 obtain ⟨h1,h⟩:=Vq h
 simp only [List.cons_append,List.nil_append,List.cons.injEq] at h
 obtain ⟨h2,h⟩:=h
 obtain ⟨e1,h⟩:=List.append_inj h (by rw [jy,jy])
 obtain ⟨e2,h⟩:=List.append_inj h (by rw [jy,jy])
 obtain ⟨e3,h⟩:=List.append_inj h (by rw [jy,jy])
 exact ⟨h1,h2,Jm hg hg' e1,Jm hc hc' e2,Jm hp hp' e3,h⟩
theorem QU {pre pre':List UInt8} {a b:UInt8} {g c p g' c' p':Nat} (hg:g≤65535) (hc:c≤65535) (hp:p≤65535) (hg':g'≤65535) (hc':c'≤65535) (hp':p'≤65535)
  (h:jR pre a g c p=jR pre' b g' c' p'):pre=pre'∧a=b∧g=g'∧c=c'∧p=p':=by
 have:=Jc (q:=[]) (q':=[]) hg hc hp hg' hc' hp' (by rw [h])
 exact ⟨this.1,this.2.1,this.2.2.1,this.2.2.2.1,this.2.2.2.2.1⟩
def Dh (j:JobB) (r:List KeyB) (x:SealB):Prop:=∃ s ∈ qE j,(jg j.table s.c).key≠0∧∃ n,x=⟨ji r (jg j.table s.c).key,xo j.draw n,jR j.pre s.sort s.g s.c s.p,xX (ji r (jg j.table s.c).key) (xo j.draw n) (jR j.pre s.sort s.g s.c s.p) (xf j.table s)⟩
theorem AI (j:JobB) (r:List KeyB):∀ (L:List SpotB) (st:StB) (x:SealB),x ∈ (qx j r st L).log→x ∈ st.log∨∃ s ∈ L,(jg j.table s.c).key≠0∧∃ n,x=⟨ji r (jg j.table s.c).key,xo j.draw n,jR j.pre s.sort s.g s.c s.p,xX (ji r (jg j.table s.c).key) (xo j.draw n) (jR j.pre s.sort s.g s.c s.p) (xf j.table s)⟩:=by
 intro L
 induction L with
 | nil=>intro st x h;exact .inl h
 | cons s L ih =>
  intro st x h
  rcases ih (zL j r st s) x h with h|⟨s',hs,h⟩
  ·unfold zL Qs at h
   by_cases hk:(jg j.table s.c).key=0
   ·rw [if_pos hk] at h;exact .inl h
   ·rw [if_neg hk] at h
    simp only [zw,List.mem_append,List.mem_singleton] at h
    rcases h with h|h
    ·exact .inl h
    ·exact .inr ⟨s,by simp,hk,_,h⟩
  ·exact .inr ⟨s',List.mem_cons_of_mem _ hs,h⟩
theorem Gj {j:JobB} {r:List KeyB} {x:SealB} (h:x ∈ Jf j r):Dh j r x ∨
  (j.plan.told=false∧∃ n,x=⟨ji r j.plan.foot,xo j.draw n,jR j.pre 70 0 0 0,xX (ji r j.plan.foot) (xo j.draw n) (jR j.pre 70 0 0 0) (xY j r)⟩) ∨
  (j.plan.told=true∧∃ n,x=⟨ji r j.plan.foot,xo j.draw n,jR j.pre 83 0 0 0++xY j r,xX (ji r j.plan.foot) (xo j.draw n) (jR j.pre 83 0 0 0++xY j r) []⟩):=by
 unfold Jf zY at h
 have base:∀ x ∈ (xw j r).log,Dh j r x:=by
  intro x hx
  rcases AI j r _ _ x hx with h|h
  ·simp at h
  ·exact h
 cases ht:j.plan.told with
 | true =>
  rw [ht,if_pos rfl] at h
  simp only [zw,zW,List.mem_append,List.mem_singleton] at h
  rcases h with h|h
  ·exact .inl (base x h)
  ·exact .inr (.inr ⟨rfl,_,h⟩)
 | false =>
  rw [ht,if_neg (by decide)] at h
  simp only [zw,List.mem_append,List.mem_singleton] at h
  rcases h with h|h
  ·exact .inl (base x h)
  ·exact .inr (.inl ⟨rfl,_,h⟩)
theorem GoodJ.spotSmall {j:JobB} {r:List KeyB} (h:GoodJ j r):∀ s ∈ qE j,s.g≤65535∧s.c≤65535∧s.p≤65535:=by
 intro s hs
 have:=(h.spotIn s hs).few
 omega
theorem Kn {R C G P:Nat}:∀ s ∈ qk R C G P,s.sort=80∨s.sort=77:=by
 intro s hs
 simp only [qk,jH,jr,List.mem_flatMap,List.mem_range,jh,List.mem_append,jt,List.mem_map,List.mem_singleton] at hs
 obtain ⟨g,_,c,_,⟨p,_,rfl⟩|rfl⟩:=hs
 ·exact .inl rfl
 ·exact .inr rfl
theorem TI {R C G P:Nat} {s s':SpotB} (h:s ∈ qk R C G P) (h':s' ∈ qk R C G P) (h1:s.sort=s'.sort) (h2:s.g=s'.g) (h3:s.c=s'.c) (h4:s.p=s'.p):s=s':=by
 simp only [qk,jH,jr,List.mem_flatMap,List.mem_range,jh,List.mem_append,jt,List.mem_map,List.mem_singleton] at h h'
 obtain ⟨g,_,c,_,⟨p,_,rfl⟩|rfl⟩:=h<;>obtain ⟨g',_,c',_,⟨p',_,rfl⟩|rfl⟩:=h'
 ·simp only at h2 h3 h4;subst h2 h3 h4;rfl
 ·simp at h1
 ·simp at h1
 ·simp only at h2 h3;subst h2 h3;rfl
theorem MI {pre:List UInt8} {r:List KeyB} {f:FormF} {j:JobB} {footer:List UInt8} (hj:GoodJ j r) (hm:zf pre r f ∈ Jf j r)
  (ht:f.told=true→footer=f.footer) (hh:f.told=false→xp (ji r (f.foot:Int)) f.nonce (jR pre 70 0 0 0) f.body=some footer):j.pre=pre∧footer=xY j r:=by
 have hsp:=hj.spotSmall
 rcases Gj hm with ⟨s,hs,_,n,h⟩|⟨hjt,n,h⟩|⟨hjt,n,h⟩
 ·exfalso
  obtain ⟨a,b,c⟩:=hsp s hs
  have hsort:=Kn s hs
  simp only [zf,SealB.mk.injEq] at h
  have he:=h.2.2.1
  cases hft:f.told with
  | true =>
   rw [hft,if_pos rfl,← List.append_nil (jR j.pre s.sort s.g s.c s.p)] at he
   have:=(Jc (by decide) (by decide) (by decide) a b c he).2.1
   rcases hsort with e|e<;>rw [e] at this<;>revert this<;>decide
  | false =>
   rw [hft,if_neg (by decide)] at he
   have:=(QU (by decide) (by decide) (by decide) a b c he).2.1
   rcases hsort with e|e<;>rw [e] at this<;>revert this<;>decide
 ·simp only [zf,SealB.mk.injEq] at h
  obtain ⟨h1,h2,h3,h4⟩:=h
  cases hft:f.told with
  | true =>
   exfalso
   rw [hft,if_pos rfl,← List.append_nil (jR j.pre 70 0 0 0)] at h3
   have:=(Jc (by decide) (by decide) (by decide) (by decide) (by decide) (by decide) h3).2.1
   revert this;decide
  | false =>
   rw [hft,if_neg (by decide)] at h3
   have hp:=(QU (by decide) (by decide) (by decide) (by decide) (by decide) (by decide) h3).1
   have ho:=hh hft
   have hfl:=hj.foot.2.2
   rw [h3,h2,h1,h4,Ze _ _ _ _ (by omega)] at ho
   cases ho
   exact ⟨hp.symm,rfl⟩
 ·simp only [zf,SealB.mk.injEq] at h
  obtain ⟨h1,h2,h3,h4⟩:=h
  cases hft:f.told with
  | true =>
   rw [hft,if_pos rfl] at h3
   obtain ⟨e1,_,_,_,_,e2⟩:=Jc (by decide) (by decide) (by decide) (by decide) (by decide) (by decide) h3
   exact ⟨e1.symm,(ht hft).trans e2⟩
  | false =>
   exfalso
   rw [hft,if_neg (by decide),← List.append_nil (jR pre 70 0 0 0)] at h3
   have:=(Jc (by decide) (by decide) (by decide) (by decide) (by decide) (by decide) h3).2.1
   revert this;decide
theorem Tx {j:JobB} {r:List KeyB} {s:SpotB} {m:ModF} {plain:List UInt8} {key:Int} (hj:GoodJ j r) (hs:s ∈ qE j) (hk:key≠0)
  (hm:(⟨ji r key,m.nonce,jR j.pre s.sort s.g s.c s.p,m.body⟩:SealB) ∈ Jf j r) (ho:JR j.pre r key s m=some plain):plain=xf j.table s:=by
 have hsp:=hj.spotSmall
 obtain ⟨a,b,c⟩:=hsp s hs
 have hsort:=Kn s hs
 unfold JR at ho
 rw [if_neg hk] at ho
 rcases Gj hm with ⟨s',hs',_,n,h⟩|⟨hjt,n,h⟩|⟨hjt,n,h⟩
 ·simp only [SealB.mk.injEq] at h
  obtain ⟨h1,h2,h3,h4⟩:=h
  obtain ⟨a',b',c'⟩:=hsp s' hs'
  obtain ⟨_,e1,e2,e3,e4⟩:=QU a b c a' b' c' h3
  have:=TI hs hs' e1 e2 e3 e4
  subst this
  rw [h1,h2,h4,Ze _ _ _ _ (hj.plains s hs)] at ho
  cases ho
  rfl
 ·exfalso
  simp only [SealB.mk.injEq] at h
  have:=(QU a b c (by decide) (by decide) (by decide) h.2.2.1).2.1
  rcases hsort with e|e<;>rw [e] at this<;>revert this<;>decide
 ·exfalso
  simp only [SealB.mk.injEq] at h
  have he:=h.2.2.1
  rw [← List.append_nil (jR j.pre s.sort s.g s.c s.p)] at he
  have:=(Jc a b c (by decide) (by decide) (by decide) he).2.1
  rcases hsort with e|e<;>rw [e] at this<;>revert this<;>decide
theorem Lp {j:JobB} {r:List KeyB} {pre:List UInt8} {s:SpotB} {sec non body:List UInt8} (hj:GoodJ j r) (hsort:s.sort=80∨s.sort=77) (hs:s.g≤65535∧s.c≤65535∧s.p≤65535) (hm:(⟨sec,non,jR pre s.sort s.g s.c s.p,body⟩:SealB) ∈ Jf j r):j.pre=pre:=by
 obtain ⟨a,b,c⟩:=hs
 rcases Gj hm with ⟨s',hs',_,n,h⟩|⟨hjt,n,h⟩|⟨hjt,n,h⟩
 ·simp only [SealB.mk.injEq] at h
  obtain ⟨a',b',c'⟩:=hj.spotSmall s' hs'
  exact (QU a b c a' b' c' h.2.2.1).1.symm
 ·simp only [SealB.mk.injEq] at h
  exact (QU a b c (by decide) (by decide) (by decide) h.2.2.1).1.symm
 ·simp only [SealB.mk.injEq] at h
  have he:=h.2.2.1
  rw [← List.append_nil (jR pre s.sort s.g s.c s.p)] at he
  exact (Jc a b c (by decide) (by decide) (by decide) he).1.symm
theorem UE {pre:List UInt8} {r:List KeyB} {kind key:Int} {c:Nat}:∀ (L:List SpotB) (M:List ModF) (x:List CellB) (y:List CellB),jI pre r kind key c (some x) L M=some y→∀ (i:Nat) (s:SpotB) (m:ModF),L[i]?=some s→M[i]?=some m→s.c=c→∃ plain,JR pre r key s m=some plain:=by
 intro L
 induction L with
 | nil=>intro M x y _ i s m h;simp at h
 | cons s L ih =>
  intro M x y h i s' m' hs hm hc
  cases M with
  | nil=>simp at hm
  | cons m M =>
   simp only [jI] at h
   cases i with
   | zero =>
    simp at hs hm
    subst hs hm
    rw [if_pos hc] at h
    unfold QI at h
    cases hp:JR pre r key s m with
    | none=>rw [hp] at h;simp [xr] at h
    | some plain=>exact ⟨plain,rfl⟩
   | succ i =>
    simp at hs hm
    cases hz:(if s.c=c then QI pre r kind key x s m else some x) with
    | none=>rw [hz,xr] at h;cases h
    | some z=>rw [hz] at h;exact ih M z y h i s' m' hs hm hc
theorem MK {pre:List UInt8} {r:List KeyB} {key:Int} {c:Nat}:∀ (L:List SpotB) (M:List ModF) (i:Nat) (s:SpotB) (m:ModF),L[i]?=some s→M[i]?=some m→s.c=c→(⟨ji r key,m.nonce,jR pre s.sort s.g s.c s.p,m.body⟩:SealB) ∈ xm pre r key c L M:=by
 intro L
 induction L with
 | nil=>intro M i s m h;simp at h
 | cons s L ih =>
  intro M i s' m' hs hm hc
  cases M with
  | nil=>simp at hm
  | cons m M =>
   cases i with
   | zero =>
    simp at hs hm
    subst hs hm
    simp [xm,hc]
   | succ i =>
    simp at hs hm
    simp only [xm,List.mem_append]
    exact .inr (ih M i s' m' hs hm hc)
theorem Tz {t:List ColB} {pre:List UInt8} {r:List KeyB} {c:Nat}:∀ (L:List SpotB) (M:List ModF),M.length=L.length→(∀ (i:Nat) (s:SpotB) (m:ModF),L[i]?=some s→M[i]?=some m→s.c=c→JR pre r (jg t c).key s m=some (xf t s))→Plains t pre r c L M:=by
 intro L
 induction L with
 | nil=>intro M hl _;rw [List.eq_nil_of_length_eq_zero hl];exact .nil
 | cons s L ih =>
  intro M hl h
  cases M with
  | nil=>simp at hl
  | cons m M =>
   exact .cons (h 0 s m rfl rfl) (ih M (by simpa using hl) (fun i s' m' hs hm=>h (i+1) s' m' (by simpa using hs) (by simpa using hm)))
theorem UY {file pre:List UInt8} {r:List KeyB} {S:SheetF} (h:xe file pre r false=(0,some S)) :
  pre.length≤20∧xH r=true∧∃ f footer,zd file=some f∧jw r (f.foot:Int)=true∧xT f.foot f.parts footer=some S∧(f.told=true→footer=f.footer∧xp (ji r (f.foot:Int)) f.nonce (jR pre 83 0 0 0++f.footer) f.body=some []) ∧
   (f.told=false→xp (ji r (f.foot:Int)) f.nonce (jR pre 70 0 0 0) f.body=some footer):=by
 unfold xe at h
 split at h
 ·simp at h
 split at h
 ·simp at h
 rename_i h1 h2
 refine ⟨by omega,by simpa using h2,?_⟩
 split at h
 ·simp at h
 rename_i f hf
 split at h
 ·rename_i ht
  split at h
  ·simp at h
  rename_i S' hS
  rw [if_neg (by decide)] at h
  split at h
  ·simp at h
  split at h
  ·rename_i hn ho
   simp only [Prod.mk.injEq,Option.some.injEq,true_and] at h
   subst h
   exact ⟨f,f.footer,hf,by simpa using hn,hS,fun _=>⟨rfl,ho⟩,fun hc=>by rw [ht] at hc;cases hc⟩
  ·simp at h
 ·rename_i ht
  split at h
  ·simp at h
  rename_i hn
  split at h
  ·simp at h
  rename_i footer ho
  split at h
  ·simp at h
  rename_i S' hS
  simp only [Prod.mk.injEq,Option.some.injEq,true_and] at h
  subst h
  exact ⟨f,footer,hf,by simpa using hn,hS,fun hc=>absurd hc ht,fun _=>ho⟩
theorem Zd {foot:Nat} {parts footer:List UInt8} {S:SheetF} (h:xT foot parts footer=some S):SheetOk foot parts footer S:=by
 unfold xT at h
 split at h
 ·rename_i hex
  cases h
  exact Classical.choose_spec hex
 ·cases h
theorem ZY {file:List UInt8} {f:FormF} (h:zd file=some f):FormOk f∧zi f=file:=by
 unfold zd at h
 split at h
 ·rename_i hex
  cases h
  exact Classical.choose_spec hex
 ·cases h
theorem Yd {j:JobB} {r:List KeyB} {foot:Nat} {parts:List UInt8} {S:SheetF} (hj:GoodJ j r) (h:SheetOk foot parts (xY j r) S):S.rows=qa j.table∧qt S=qE j∧S.cols=zc j.table:=by
 have hl:(zE j r).length=jX (qa j.table) j.plan.group.toNat*j.table.length:=JT ..
 obtain ⟨e1,e2,e3,e4,e5,e6⟩:=ZT (JP h) hl (h.footer.symm)
 have hb:=NZ j.table
 have hjh:qc j.table=true:=by
  have:=hj.table.ok
  simp only [xz,Bool.and_eq_true] at this
  exact this.1
 have hc:S.cols=zc j.table:=by
  refine Cl h.heads (by rw [hb];exact hjh) h.bare ?_ ?_
  ·intro c hc
   simp only [zc,List.mem_map] at hc
   obtain ⟨x,_,rfl⟩:=hc
   rfl
  ·rw [e5]
   unfold zc
   rw [List.map_map]
   rfl
 refine ⟨e1,?_,hc⟩
 unfold qt qE
 rw [e1,e2,e3,hc]
 simp [zc]
theorem AG {js:List JobB} {r:List KeyB} {file pre:List UInt8} {S:SheetF} {f:FormF} (hg:∀ j ∈ js,GoodJ j r) (hd:∀ j ∈ js,∀ k ∈ js,j.pre=k.pre→j=k) (hr:xe file pre r false=(0,some S)) (hf:zd file=some f)
  (hall:∀ x ∈ Zf pre r f S,∃ j ∈ js,x ∈ Jf j r):∃ j ∈ js,j.pre=pre∧AQ (Xo pre r S) j.table:=by
 obtain ⟨hp20,hring,f',footer,hf',hn,hS,h1,h2⟩:=UY hr
 rw [hf] at hf'
 cases hf'
 obtain ⟨j,hj,hfoot⟩:=hall (zf pre r f) (by simp [Zf])
 have hgj:=hg j hj
 obtain ⟨hpre,hfo⟩:=MI (footer:=footer) hgj hfoot (fun ht=>(h1 ht).1) h2
 subst hfo
 have hok:=Zd hS
 obtain ⟨e1,e2,e3⟩:=Yd hgj hok
 obtain ⟨⟨a,b⟩,⟨d,e⟩,_⟩:=hgj.sizes
 refine ⟨j,hj,hpre,?_⟩
 subst hpre
 have hlen:S.cols.length=j.table.length:=by rw [e3];simp [zc]
 refine ⟨by simp [Xo,hlen],fun c hc=>?_⟩
 have hget:(Xo j.pre r S).getD c ⟨[],0,0,0,[]⟩=qh j.pre r S c:=by
  unfold Xo
  rw [List.getD_eq_getElem?_getD,List.getElem?_map,List.getElem?_range (by omega)]
  rfl
 rw [hget]
 have hcol:jg S.cols c=Ad (jg j.table c):=by rw [e3,Vl]
 have hheads:(qh j.pre r S c).name=(jg j.table c).name∧(qh j.pre r S c).kind=(jg j.table c).kind∧(qh j.pre r S c).key=(jg j.table c).key:=by
  unfold qh
  split
  ·rw [hcol];exact ⟨rfl,rfl,rfl⟩
  ·split<;>(rw [hcol];exact ⟨rfl,rfl,rfl⟩)
 refine ⟨hheads,fun hpv=>?_⟩
 ·skip
  have hk0:(jg j.table c).key≠0:=by
   have:=hpv
   simp only [xC,Bool.and_eq_true,decide_eq_true_eq] at this
   rw [← hheads.2.2]
   exact this.1
  have hst:(qh j.pre r S c).state=0:=by
   have:=hpv
   simp only [xC,Bool.and_eq_true,decide_eq_true_eq] at this
   exact this.2
  have hseal:∀ x ∈ xm j.pre r (jg S.cols c).key c (qt S) S.mods,∃ k ∈ js,x ∈ Jf k r:=by
   intro x hx
   refine hall x ?_
   unfold Zf
   refine List.mem_cons_of_mem _ (List.mem_flatMap.2 ⟨c,List.mem_range.2 (by omega),?_⟩)
   rw [hpv,if_pos rfl]
   exact hx
  unfold qh at hst ⊢
  by_cases hlock:0 < (jg S.cols c).key∧jw r (jg S.cols c).key=false
  ·rw [if_pos hlock] at hst;simp at hst
  ·rw [if_neg hlock] at hst ⊢
   cases hcells:jI j.pre r (jg S.cols c).kind (jg S.cols c).key c (some []) (qt S) S.mods with
   | none=>rw [hcells] at hst;simp at hst
   | some cells =>
    simp only
    have hml:=qT hok.mods
    have hpl:Plains j.table j.pre r c (qE j) S.mods:=by
     refine Tz _ _ (by rw [← e2];exact hml) (fun i s m hs hm hsc=>?_)
     rw [e2] at hcells hseal
     obtain ⟨plain,hp⟩:=UE _ _ _ _ hcells i s m hs hm hsc
     have hmem:=hseal _ (MK (r:=r) (pre:=j.pre) (key:=(jg S.cols c).key) _ _ i s m hs hm hsc)
     have hsj:s ∈ qE j:=List.mem_of_getElem? hs
     obtain ⟨k,hk,hkm⟩:=hmem
     have hpk:=Lp (hg k hk) (Kn s hsj) (hgj.spotSmall s hsj) hkm
     have:=hd k hk j hj hpk
     subst this
     rw [hcol] at hp hkm
     have hpp:=Tx (key:=(jg k.table c).key) hgj hsj hk0 hkm hp
     rw [← hpp]
     exact hp
    have h3:=YQ (pre:=j.pre) (r:=r) hgj.table rfl a hc d _ _ (Nat.le_refl _) hpl
    rw [e2,hcol] at hcells
    have h4:jI j.pre r (jg j.table c).kind (jg j.table c).key c (some []) (qE j) S.mods=some cells:=hcells
    unfold qE qk at h4
    rw [h3] at h4
    cases h4
    obtain ⟨h5,_⟩:=hgj.table.cells c hc
    have h6:=Up (n:=qa j.table) a
    rw [show min (jX (qa j.table) j.plan.group.toNat*j.plan.group.toNat) (qa j.table)=qa j.table by omega,xy hc,← h5,List.take_length]
end
end Go.Proofs.YthhpbhpfagoapabGreat
