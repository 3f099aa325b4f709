import Derived.Test.YthhpbhpfagoapabGreatJBD
namespace Go.Proofs.YthhpbhpfagoapabGreat
set_option linter.unusedVariables false
set_option linter.unusedSimpArgs false
set_option maxRecDepth 100000
set_option maxHeartbeats 16000000
section
def xq (pre:List UInt8) (r:List KeyB) (key:Int) (c:Nat):List SpotB→List ModF→List SealB
 | s :: L,m :: M=>(if s.c=c then [⟨ji r key,m.nonce,jR pre s.sort s.g s.c s.p,m.body⟩] else [])++xq pre r key c L M
 | _,_=>[]
def zi (pre:List UInt8) (r:List KeyB) (f:FormF):SealB :=
 ⟨ji r (f.foot:Int),f.nonce,if f.told=true then jR pre 83 0 0 0++f.footer else jR pre 70 0 0 0,f.body⟩
def xD (x:FoundB):Bool:=decide (x.key≠0) && decide (x.state=0)
def Zr (pre:List UInt8) (r:List KeyB) (f:FormF) (S:SheetF):List SealB :=
 zi pre r f :: (List.range S.cols.length).flatMap fun c=>if xD (qi pre r S c)=true then xq pre r (jf S.cols c).key c (qr S) S.mods else []
def CA (x:FoundB) (c:ColB):Prop:=(x.name=c.name∧x.kind=c.kind∧x.key=c.key)∧(xD x=true→x.cells=c.cells)
def AR (l:List FoundB) (t:List ColB):Prop:=l.length=t.length∧∀ i,i < t.length→CA (l.getD i ⟨[],0,0,0,[]⟩) (jf t i)
theorem Jh {pre pre':List UInt8} {a b:UInt8} {g c p g' c' p':Nat} {q q':List UInt8} (hg:g≤65535) (hc:c≤65535) (hp:p≤65535) (hg':g'≤65535) (hc':c'≤65535) (hp':p'≤65535)
  (h:jR pre a g c p++q=jR pre' b g' c' p'++q'):pre=pre'∧a=b∧g=g'∧c=c'∧p=p'∧q=q':=by
 unfold jR at h
 simp only [List.append_assoc] at h
 obtain ⟨h1,h⟩:=VU h
 simp only [List.cons_append,List.nil_append,List.cons.injEq] at h
 obtain ⟨h2,h⟩:=h
 obtain ⟨e1,h⟩:=List.append_inj h (by rw [jx,jx])
 obtain ⟨e2,h⟩:=List.append_inj h (by rw [jx,jx])
 obtain ⟨e3,h⟩:=List.append_inj h (by rw [jx,jx])
 exact ⟨h1,h2,Jm hg hg' e1,Jm hc hc' e2,Jm hp hp' e3,h⟩
theorem QZ {pre pre':List UInt8} {a b:UInt8} {g c p g' c' p':Nat} (hg:g≤65535) (hc:c≤65535) (hp:p≤65535) (hg':g'≤65535) (hc':c'≤65535) (hp':p'≤65535)
  (h:jR pre a g c p=jR pre' b g' c' p'):pre=pre'∧a=b∧g=g'∧c=c'∧p=p':=by
 have:=Jh (q:=[]) (q':=[]) hg hc hp hg' hc' hp' (by rw [h])
 exact ⟨this.1,this.2.1,this.2.2.1,this.2.2.2.1,this.2.2.2.2.1⟩
def AF (j:JobB) (r:List KeyB) (x:SealB):Prop:=∃ s ∈ qG j,(jf j.table s.c).key≠0∧∃ n,x=⟨ji r (jf j.table s.c).key,xo j.draw n,jR j.pre s.sort s.g s.c s.p,za (ji r (jf j.table s.c).key) (xo j.draw n) (jR j.pre s.sort s.g s.c s.p) (qS j.table s)⟩
theorem DE (j:JobB) (r:List KeyB):∀ (L:List SpotB) (st:StB) (x:SealB),x ∈ (qA j r st L).log→x ∈ st.log∨∃ s ∈ L,(jf j.table s.c).key≠0∧∃ n,x=⟨ji r (jf j.table s.c).key,xo j.draw n,jR j.pre s.sort s.g s.c s.p,za (ji r (jf j.table s.c).key) (xo j.draw n) (jR j.pre s.sort s.g s.c s.p) (qS j.table s)⟩:=by
 intro L
 induction L with
 | nil=>intro st x h;exact .inl h
 | cons s L ih =>
  intro st x h
  rcases ih (zM j r st s) x h with h|⟨s',hs,h⟩
  ·unfold zM QA at h
   by_cases hk:(jf j.table s.c).key=0
   ·rw [if_pos hk] at h;exact .inl h
   ·rw [if_neg hk] at h
    simp only [zx,List.mem_append,List.mem_singleton] at h
    rcases h with h|h
    ·exact .inl h
    ·exact .inr ⟨s,by simp,hk,_,h⟩
  ·exact .inr ⟨s',List.mem_cons_of_mem _ hs,h⟩
theorem Gx {j:JobB} {r:List KeyB} {x:SealB} (h:x ∈ Jg j r):AF j r x ∨
  (j.plan.told=false∧∃ n,x=⟨ji r j.plan.foot,xo j.draw n,jR j.pre 70 0 0 0,za (ji r j.plan.foot) (xo j.draw n) (jR j.pre 70 0 0 0) (xZ j r)⟩) ∨
  (j.plan.told=true∧∃ n,x=⟨ji r j.plan.foot,xo j.draw n,jR j.pre 83 0 0 0++xZ j r,za (ji r j.plan.foot) (xo j.draw n) (jR j.pre 83 0 0 0++xZ j r) []⟩):=by
 unfold Jg Jb at h
 have base:∀ x ∈ (xC j r).log,AF j r x:=by
  intro x hx
  rcases DE j r _ _ x hx with h|h
  ·simp at h
  ·exact h
 cases ht:j.plan.told with
 | true =>
  rw [ht,if_pos rfl] at h
  simp only [zx,zU,List.mem_append,List.mem_singleton] at h
  rcases h with h|h
  ·exact .inl (base x h)
  ·exact .inr (.inr ⟨rfl,_,h⟩)
 | false =>
  rw [ht,if_neg (by decide)] at h
  simp only [zx,List.mem_append,List.mem_singleton] at h
  rcases h with h|h
  ·exact .inl (base x h)
  ·exact .inr (.inl ⟨rfl,_,h⟩)
theorem GoodJ.spotSmall {j:JobB} {r:List KeyB} (h:GoodJ j r):∀ s ∈ qG j,s.g≤65535∧s.c≤65535∧s.p≤65535:=by
 intro s hs
 have:=(h.spotIn s hs).few
 omega
theorem KI {R C G P:Nat}:∀ s ∈ qm R C G P,s.sort=80∨s.sort=77:=by
 intro s hs
 simp only [qm,jH,jr,List.mem_flatMap,List.mem_range,jh,List.mem_append,jt,List.mem_map,List.mem_singleton] at hs
 obtain ⟨g,_,c,_,⟨p,_,rfl⟩|rfl⟩:=hs
 ·exact .inl rfl
 ·exact .inr rfl
theorem TW {R C G P:Nat} {s s':SpotB} (h:s ∈ qm R C G P) (h':s' ∈ qm R C G P) (h1:s.sort=s'.sort) (h2:s.g=s'.g) (h3:s.c=s'.c) (h4:s.p=s'.p):s=s':=by
 simp only [qm,jH,jr,List.mem_flatMap,List.mem_range,jh,List.mem_append,jt,List.mem_map,List.mem_singleton] at h h'
 obtain ⟨g,_,c,_,⟨p,_,rfl⟩|rfl⟩:=h<;>obtain ⟨g',_,c',_,⟨p',_,rfl⟩|rfl⟩:=h'
 ·simp only at h2 h3 h4;subst h2 h3 h4;rfl
 ·simp at h1
 ·simp at h1
 ·simp only at h2 h3;subst h2 h3;rfl
theorem MO {pre:List UInt8} {r:List KeyB} {f:FormF} {j:JobB} {footer:List UInt8} (hj:GoodJ j r) (hm:zi pre r f ∈ Jg j r)
  (ht:f.told=true→footer=f.footer) (hh:f.told=false→xr (ji r (f.foot:Int)) f.nonce (jR pre 70 0 0 0) f.body=some footer):j.pre=pre∧footer=xZ j r:=by
 have hsp:=hj.spotSmall
 rcases Gx hm with ⟨s,hs,_,n,h⟩|⟨hjt,n,h⟩|⟨hjt,n,h⟩
 ·exfalso
  obtain ⟨a,b,c⟩:=hsp s hs
  have hsort:=KI s hs
  simp only [zi,SealB.mk.injEq] at h
  have he:=h.2.2.1
  cases hft:f.told with
  | true =>
   rw [hft,if_pos rfl,← List.append_nil (jR j.pre s.sort s.g s.c s.p)] at he
   have:=(Jh (by decide) (by decide) (by decide) a b c he).2.1
   rcases hsort with e|e<;>rw [e] at this<;>revert this<;>decide
  | false =>
   rw [hft,if_neg (by decide)] at he
   have:=(QZ (by decide) (by decide) (by decide) a b c he).2.1
   rcases hsort with e|e<;>rw [e] at this<;>revert this<;>decide
 ·simp only [zi,SealB.mk.injEq] at h
  obtain ⟨h1,h2,h3,h4⟩:=h
  cases hft:f.told with
  | true =>
   exfalso
   rw [hft,if_pos rfl,← List.append_nil (jR j.pre 70 0 0 0)] at h3
   have:=(Jh (by decide) (by decide) (by decide) (by decide) (by decide) (by decide) h3).2.1
   revert this;decide
  | false =>
   rw [hft,if_neg (by decide)] at h3
   have hp:=(QZ (by decide) (by decide) (by decide) (by decide) (by decide) (by decide) h3).1
   have ho:=hh hft
   have hfl:=hj.foot.2.2
   rw [h3,h2,h1,h4,Zt _ _ _ _ (by omega)] at ho
   cases ho
   exact ⟨hp.symm,rfl⟩
 ·simp only [zi,SealB.mk.injEq] at h
  obtain ⟨h1,h2,h3,h4⟩:=h
  cases hft:f.told with
  | true =>
   rw [hft,if_pos rfl] at h3
   obtain ⟨e1,_,_,_,_,e2⟩:=Jh (by decide) (by decide) (by decide) (by decide) (by decide) (by decide) h3
   exact ⟨e1.symm,(ht hft).trans e2⟩
  | false =>
   exfalso
   rw [hft,if_neg (by decide),← List.append_nil (jR pre 70 0 0 0)] at h3
   have:=(Jh (by decide) (by decide) (by decide) (by decide) (by decide) (by decide) h3).2.1
   revert this;decide
theorem PH {j:JobB} {r:List KeyB} {s:SpotB} {m:ModF} {plain:List UInt8} {key:Int} (hj:GoodJ j r) (hs:s ∈ qG j) (hk:key≠0)
  (hm:(⟨ji r key,m.nonce,jR j.pre s.sort s.g s.c s.p,m.body⟩:SealB) ∈ Jg j r) (ho:Jt j.pre r key s m=some plain):plain=qS j.table s:=by
 have hsp:=hj.spotSmall
 obtain ⟨a,b,c⟩:=hsp s hs
 have hsort:=KI s hs
 unfold Jt at ho
 rw [if_neg hk] at ho
 rcases Gx hm with ⟨s',hs',_,n,h⟩|⟨hjt,n,h⟩|⟨hjt,n,h⟩
 ·simp only [SealB.mk.injEq] at h
  obtain ⟨h1,h2,h3,h4⟩:=h
  obtain ⟨a',b',c'⟩:=hsp s' hs'
  obtain ⟨_,e1,e2,e3,e4⟩:=QZ a b c a' b' c' h3
  have:=TW hs hs' e1 e2 e3 e4
  subst this
  rw [h1,h2,h4,Zt _ _ _ _ (hj.plains s hs)] at ho
  cases ho
  rfl
 ·exfalso
  simp only [SealB.mk.injEq] at h
  have:=(QZ a b c (by decide) (by decide) (by decide) h.2.2.1).2.1
  rcases hsort with e|e<;>rw [e] at this<;>revert this<;>decide
 ·exfalso
  simp only [SealB.mk.injEq] at h
  have he:=h.2.2.1
  rw [← List.append_nil (jR j.pre s.sort s.g s.c s.p)] at he
  have:=(Jh a b c (by decide) (by decide) (by decide) he).2.1
  rcases hsort with e|e<;>rw [e] at this<;>revert this<;>decide
theorem Be {j:JobB} {r:List KeyB} {pre:List UInt8} {s:SpotB} {sec non body:List UInt8} (hj:GoodJ j r) (hsort:s.sort=80∨s.sort=77) (hs:s.g≤65535∧s.c≤65535∧s.p≤65535) (hm:(⟨sec,non,jR pre s.sort s.g s.c s.p,body⟩:SealB) ∈ Jg j r):j.pre=pre:=by
 obtain ⟨a,b,c⟩:=hs
 rcases Gx hm with ⟨s',hs',_,n,h⟩|⟨hjt,n,h⟩|⟨hjt,n,h⟩
 ·simp only [SealB.mk.injEq] at h
  obtain ⟨a',b',c'⟩:=hj.spotSmall s' hs'
  exact (QZ a b c a' b' c' h.2.2.1).1.symm
 ·simp only [SealB.mk.injEq] at h
  exact (QZ a b c (by decide) (by decide) (by decide) h.2.2.1).1.symm
 ·simp only [SealB.mk.injEq] at h
  have he:=h.2.2.1
  rw [← List.append_nil (jR pre s.sort s.g s.c s.p)] at he
  exact (Jh a b c (by decide) (by decide) (by decide) he).1.symm
theorem Vc {pre:List UInt8} {r:List KeyB} {kind key:Int} {c:Nat}:∀ (L:List SpotB) (M:List ModF) (x:List CellB) (y:List CellB),jI pre r kind key c (some x) L M=some y→∀ (i:Nat) (s:SpotB) (m:ModF),L[i]?=some s→M[i]?=some m→s.c=c→∃ plain,Jt pre r key s m=some plain:=by
 intro L
 induction L with
 | nil=>intro M x y _ i s m h;simp at h
 | cons s L ih =>
  intro M x y h i s' m' hs hm hc
  cases M with
  | nil=>simp at hm
  | cons m M =>
   simp only [jI] at h
   cases i with
   | zero =>
    simp at hs hm
    subst hs hm
    rw [if_pos hc] at h
    unfold QS at h
    cases hp:Jt pre r key s m with
    | none=>rw [hp] at h;simp [xu] at h
    | some plain=>exact ⟨plain,rfl⟩
   | succ i =>
    simp at hs hm
    cases hz:(if s.c=c then QS pre r kind key x s m else some x) with
    | none=>rw [hz,xu] at h;cases h
    | some z=>rw [hz] at h;exact ih M z y h i s' m' hs hm hc
theorem MP {pre:List UInt8} {r:List KeyB} {key:Int} {c:Nat}:∀ (L:List SpotB) (M:List ModF) (i:Nat) (s:SpotB) (m:ModF),L[i]?=some s→M[i]?=some m→s.c=c→(⟨ji r key,m.nonce,jR pre s.sort s.g s.c s.p,m.body⟩:SealB) ∈ xq pre r key c L M:=by
 intro L
 induction L with
 | nil=>intro M i s m h;simp at h
 | cons s L ih =>
  intro M i s' m' hs hm hc
  cases M with
  | nil=>simp at hm
  | cons m M =>
   cases i with
   | zero =>
    simp at hs hm
    subst hs hm
    simp [xq,hc]
   | succ i =>
    simp at hs hm
    simp only [xq,List.mem_append]
    exact .inr (ih M i s' m' hs hm hc)
theorem PU {t:List ColB} {pre:List UInt8} {r:List KeyB} {c:Nat}:∀ (L:List SpotB) (M:List ModF),M.length=L.length→(∀ (i:Nat) (s:SpotB) (m:ModF),L[i]?=some s→M[i]?=some m→s.c=c→Jt pre r (jf t c).key s m=some (qS t s))→Plains t pre r c L M:=by
 intro L
 induction L with
 | nil=>intro M hl _;rw [List.eq_nil_of_length_eq_zero hl];exact .nil
 | cons s L ih =>
  intro M hl h
  cases M with
  | nil=>simp at hl
  | cons m M =>
   exact .cons (h 0 s m rfl rfl) (ih M (by simpa using hl) (fun i s' m' hs hm=>h (i+1) s' m' (by simpa using hs) (by simpa using hm)))
theorem Vg {file pre:List UInt8} {r:List KeyB} {S:SheetF} (h:xg file pre r false=(0,some S)) :
  pre.length≤20∧xI r=true∧∃ f footer,zq file=some f∧jw r (f.foot:Int)=true∧zh f.foot f.parts footer=some S∧(f.told=true→footer=f.footer∧xr (ji r (f.foot:Int)) f.nonce (jR pre 83 0 0 0++f.footer) f.body=some []) ∧
   (f.told=false→xr (ji r (f.foot:Int)) f.nonce (jR pre 70 0 0 0) f.body=some footer):=by
 unfold xg at h
 split at h
 ·simp at h
 split at h
 ·simp at h
 rename_i h1 h2
 refine ⟨by omega,by simpa using h2,?_⟩
 split at h
 ·simp at h
 rename_i f hf
 split at h
 ·rename_i ht
  split at h
  ·simp at h
  rename_i S' hS
  rw [if_neg (by decide)] at h
  split at h
  ·simp at h
  split at h
  ·rename_i hn ho
   simp only [Prod.mk.injEq,Option.some.injEq,true_and] at h
   subst h
   exact ⟨f,f.footer,hf,by simpa using hn,hS,fun _=>⟨rfl,ho⟩,fun hc=>by rw [ht] at hc;cases hc⟩
  ·simp at h
 ·rename_i ht
  split at h
  ·simp at h
  rename_i hn
  split at h
  ·simp at h
  rename_i footer ho
  split at h
  ·simp at h
  rename_i S' hS
  simp only [Prod.mk.injEq,Option.some.injEq,true_and] at h
  subst h
  exact ⟨f,footer,hf,by simpa using hn,hS,fun hc=>absurd hc ht,fun _=>ho⟩
theorem Yw {j:JobB} {r:List KeyB} {foot:Nat} {parts:List UInt8} {S:SheetF} (hj:GoodJ j r) (h:SheetOk foot parts (xZ j r) S):S.rows=qb j.table∧qr S=qG j∧S.cols=zg j.table:=by
 have hl:(zI j r).length=jY (qb j.table) j.plan.group.toNat*j.table.length:=JZ ..
 obtain ⟨e1,e2,e3,e4,e5,e6⟩:=Kd (JW h) hl (h.footer.symm)
 have hb:=NY j.table
 have hjh:jX j.table=true:=by
  have:=hj.table.ok
  simp only [xy,Bool.and_eq_true] at this
  exact this.1
 have hc:S.cols=zg j.table:=by
  refine Tl h.heads (by rw [hb];exact hjh) h.bare ?_ ?_
  ·intro c hc
   simp only [zg,List.mem_map] at hc
   obtain ⟨x,_,rfl⟩:=hc
   rfl
  ·rw [e5]
   unfold zg
   rw [List.map_map]
   rfl
 refine ⟨e1,?_,hc⟩
 unfold qr qG
 rw [e1,e2,e3,hc]
 simp [zg]
theorem Aa {js:List JobB} {r:List KeyB} {file pre:List UInt8} {S:SheetF} {f:FormF} (hg:∀ j ∈ js,GoodJ j r) (hd:∀ j ∈ js,∀ k ∈ js,j.pre=k.pre→j=k) (hr:xg file pre r false=(0,some S)) (hf:zq file=some f)
  (hall:∀ x ∈ Zr pre r f S,∃ j ∈ js,x ∈ Jg j r):∃ j ∈ js,j.pre=pre∧AR (Xr pre r S) j.table:=by
 obtain ⟨hp20,hring,f',footer,hf',hn,hS,h1,h2⟩:=Vg hr
 rw [hf] at hf'
 cases hf'
 obtain ⟨j,hj,hfoot⟩:=hall (zi pre r f) (by simp [Zr])
 have hgj:=hg j hj
 obtain ⟨hpre,hfo⟩:=MO (footer:=footer) hgj hfoot (fun ht=>(h1 ht).1) h2
 subst hfo
 have hok:=Ze hS
 obtain ⟨e1,e2,e3⟩:=Yw hgj hok
 obtain ⟨⟨a,b⟩,⟨d,e⟩,_⟩:=hgj.sizes
 refine ⟨j,hj,hpre,?_⟩
 subst hpre
 have hlen:S.cols.length=j.table.length:=by rw [e3];simp [zg]
 refine ⟨by simp [Xr,hlen],fun c hc=>?_⟩
 have hget:(Xr j.pre r S).getD c ⟨[],0,0,0,[]⟩=qi j.pre r S c:=by
  unfold Xr
  rw [List.getD_eq_getElem?_getD,List.getElem?_map,List.getElem?_range (by omega)]
  rfl
 rw [hget]
 have hcol:jf S.cols c=DH (jf j.table c):=by rw [e3,VO]
 have hheads:(qi j.pre r S c).name=(jf j.table c).name∧(qi j.pre r S c).kind=(jf j.table c).kind∧(qi j.pre r S c).key=(jf j.table c).key:=by
  unfold qi
  split
  ·rw [hcol];exact ⟨rfl,rfl,rfl⟩
  ·split<;>(rw [hcol];exact ⟨rfl,rfl,rfl⟩)
 refine ⟨hheads,fun hpv=>?_⟩
 ·skip
  have hk0:(jf j.table c).key≠0:=by
   have:=hpv
   simp only [xD,Bool.and_eq_true,decide_eq_true_eq] at this
   rw [← hheads.2.2]
   exact this.1
  have hst:(qi j.pre r S c).state=0:=by
   have:=hpv
   simp only [xD,Bool.and_eq_true,decide_eq_true_eq] at this
   exact this.2
  have hseal:∀ x ∈ xq j.pre r (jf S.cols c).key c (qr S) S.mods,∃ k ∈ js,x ∈ Jg k r:=by
   intro x hx
   refine hall x ?_
   unfold Zr
   refine List.mem_cons_of_mem _ (List.mem_flatMap.2 ⟨c,List.mem_range.2 (by omega),?_⟩)
   rw [hpv,if_pos rfl]
   exact hx
  unfold qi at hst ⊢
  by_cases hlock:0 < (jf S.cols c).key∧jw r (jf S.cols c).key=false
  ·rw [if_pos hlock] at hst;simp at hst
  ·rw [if_neg hlock] at hst ⊢
   cases hcells:jI j.pre r (jf S.cols c).kind (jf S.cols c).key c (some []) (qr S) S.mods with
   | none=>rw [hcells] at hst;simp at hst
   | some cells =>
    simp only
    have hml:=qV hok.mods
    have hpl:Plains j.table j.pre r c (qG j) S.mods:=by
     refine PU _ _ (by rw [← e2];exact hml) (fun i s m hs hm hsc=>?_)
     rw [e2] at hcells hseal
     obtain ⟨plain,hp⟩:=Vc _ _ _ _ hcells i s m hs hm hsc
     have hmem:=hseal _ (MP (r:=r) (pre:=j.pre) (key:=(jf S.cols c).key) _ _ i s m hs hm hsc)
     have hsj:s ∈ qG j:=List.mem_of_getElem? hs
     obtain ⟨k,hk,hkm⟩:=hmem
     have hpk:=Be (hg k hk) (KI s hsj) (hgj.spotSmall s hsj) hkm
     have:=hd k hk j hj hpk
     subst this
     rw [hcol] at hp hkm
     have hpp:=PH (key:=(jf k.table c).key) hgj hsj hk0 hkm hp
     rw [← hpp]
     exact hp
    have h3:=En (pre:=j.pre) (r:=r) hgj.table rfl a hc d _ _ (Nat.le_refl _) hpl
    rw [e2,hcol] at hcells
    have h4:jI j.pre r (jf j.table c).kind (jf j.table c).key c (some []) (qG j) S.mods=some cells:=hcells
    unfold qG qm at h4
    rw [h3] at h4
    cases h4
    obtain ⟨h5,_⟩:=hgj.table.cells c hc
    have h6:=UO (n:=qb j.table) a
    rw [show min (jY (qb j.table) j.plan.group.toNat*j.plan.group.toNat) (qb j.table)=qb j.table by omega,xz hc,← h5,List.take_length]
end
section
def zm (c:Nat):List SpotB→Nat
 | []=>0
 | s :: L=>(if s.c=c∧s.sort=80 then s.many else 0)+zm c L
theorem Jq (c:Nat):∀ (L L2:List SpotB),zm c (L++L2)=zm c L+zm c L2:=by
 intro L
 induction L with
 | nil=>intro L2;simp [zm]
 | cons s L ih=>intro L2;simp only [List.cons_append,zm,ih];omega
theorem Di (c i:Nat) (L:List SpotB):zm c (L.take i)≤zm c L:=by
 have:=Jq c (L.take i) (L.drop i)
 rw [List.take_append_drop] at this
 omega
theorem Iy (c P g start n:Nat):∀ k,k*P≤n+P→zm c (jt P g c start n k)=min (k*P) n:=by
 intro k
 induction k with
 | zero=>intro _;simp [jt,zm]
 | succ k ih =>
  intro hk
  rw [Nat.succ_mul] at hk ⊢
  rw [Qs,Jq,ih (by omega)]
  simp only [zm,and_self,if_true]
  unfold jp
  omega
theorem EV (c:Nat):∀ (L:List SpotB),(∀ s ∈ L,s.c≠c)→zm c L=0:=by
 intro L
 induction L with
 | nil=>intro _;rfl
 | cons s L ih =>
  intro h
  have h1:=h s (List.mem_cons_self ..)
  simp only [zm,h1,false_and,if_false,ih (fun x hx=>h x (List.mem_cons_of_mem _ hx))]
theorem IR (R G P g c:Nat) (hP:1≤P):zm c (jh R G P g c)=jp R G g:=by
 have h1:=UO (n:=jp R G g) hP
 unfold jh
 rw [Jq,Iy _ _ _ _ _ _ h1.2]
 simp only [zm,show ¬ ((77:UInt8)=80) from by decide,and_false,if_false]
 omega
theorem Ij (R G P g c:Nat) (hP:1≤P):∀ C,zm c (jr R G P g C)=if c < C then jp R G g else 0:=by
 intro C
 induction C with
 | zero=>simp [jr,zm]
 | succ C ih =>
  have e:jr R G P g (C+1)=jr R G P g C++jh R G P g C:=by simp [jr,List.range_succ]
  rw [e,Jq,ih]
  by_cases h:c=C
  ·subst h
   rw [IR _ _ _ _ _ hP,if_neg (by omega),if_pos (by omega)]
   omega
  ·rw [EV c (jh R G P g C) (fun s hs=>by rw [Qt s hs];exact fun e=>h e.symm)]
   by_cases h2:c < C
   ·rw [if_pos h2,if_pos (by omega)]
    omega
   ·rw [if_neg h2,if_neg (by omega)]
theorem UW (R C G P n:Nat):jH R C G P (n+1)=jH R C G P n++jr R G P n C:=by simp [jH,List.range_succ]
theorem YU (R C G P c:Nat) (hc:c < C) (hP:1≤P):∀ n,n*G≤R+G→zm c (jH R C G P n)=min (n*G) R:=by
 intro n
 induction n with
 | zero=>intro _;simp [jH,zm]
 | succ n ih =>
  intro hn
  rw [Nat.succ_mul] at hn ⊢
  rw [UW,Jq,ih (by omega),Ij _ _ _ _ _ hP,if_pos hc]
  unfold jp
  omega
theorem CM (R C G P c:Nat) (hc:c < C) (hP:1≤P) (hG:1≤G):zm c (qm R C G P)=R:=by
 have h1:=UO (n:=R) hG
 unfold qm
 rw [YU R C G P c hc hP _ h1.2]
 omega
theorem CB (R C G P c:Nat) (hc:c < C) (hP:1≤P) (hG:1≤G):∀ n,n≤jY R G→∀ (i:Nat) (s:SpotB),(jH R C G P n)[i]?=some s→s.sort=77→s.start≤zm c ((jH R C G P n).take i):=by
 intro n
 induction n with
 | zero=>intro _ i s h;simp [jH] at h
 | succ n ih =>
  intro hn i s h hs
  have hnG:n*G < R:=(Ju hG).1 (by omega)
  rw [UW] at h ⊢
  by_cases hi:i < (jH R C G P n).length
  ·rw [List.getElem?_append_left hi] at h
   rw [List.take_append_of_le_length (by omega)]
   exact ih (by omega) i s h hs
  ·rw [List.getElem?_append_right (by omega)] at h
   have hmem:=List.mem_of_getElem? h
   simp only [jr,List.mem_flatMap,List.mem_range] at hmem
   obtain ⟨c',_,hm⟩:=hmem
   have hst:s.start=n*G:=by
    simp only [jh,jt,List.mem_append,List.mem_map,List.mem_singleton] at hm
    rcases hm with ⟨p,_,rfl⟩|rfl
    ·exact absurd (show (80:UInt8)=77 from hs) (by decide)
    ·rfl
   rw [List.take_append,List.take_of_length_le (by omega),Jq,YU R C G P c hc hP n (by omega)]
   omega
theorem MH (pre:List UInt8) (r:List KeyB) (kind key:Int) (c:Nat):∀ (L:List SpotB) (M:List ModF) (x y:List CellB),M.length=L.length→(∀ s ∈ L,s.sort=77∨s.sort=80)→jI pre r kind key c (some x) L M=some y→y.length=x.length+zm c L:=by
 intro L
 induction L with
 | nil=>intro M x y hl _ h;cases M<;>simp [jI] at h<;>simp [h,zm]
 | cons s L ih =>
  intro M x y hl hso h
  rcases M with _|⟨m,M⟩
  ·simp at hl
  simp only [jI] at h
  have hs:=hso s (List.mem_cons_self ..)
  have ih':=fun x'=>ih M x' y (by simpa using hl) (fun s hs=>hso s (List.mem_cons_of_mem _ hs))
  simp only [zm]
  by_cases hc:s.c=c
  ·rw [if_pos hc] at h
   cases hst:QS pre r kind key x s m with
   | none=>rw [hst,xu] at h;cases h
   | some x' =>
    rw [hst] at h
    have:=ih' x' h
    unfold QS at hst
    split at hst
    ·cases hst
    ·rcases hs with hs|hs
     ·rw [if_pos hs] at hst
      split at hst
      ·cases hst
       rw [if_neg (by rw [hs];rintro ⟨_,h⟩;exact absurd h (by decide))]
       omega
      ·cases hst
     ·rw [if_neg (by rw [hs];decide)] at hst
      split at hst
      ·cases hst
      ·split at hst
       ·rename_i hmany
        cases hst
        rw [if_pos ⟨hc,hs⟩]
        rw [List.length_append] at this
        omega
       ·cases hst
  ·rw [if_neg hc] at h
   have:=ih' x h
   rw [if_neg (fun h=>hc h.1)]
   omega
theorem Dw (pre:List UInt8) (r:List KeyB) (kind key:Int) {R C G P c:Nat} (hc:c < C) (hP:1≤P) (hG:1≤G) {M:List ModF} (hl:M.length=(qm R C G P).length) {i:Nat} {cells:List CellB} (h:jI pre r kind key c (some []) ((qm R C G P).take i) (M.take i)=some cells) :
  cells.length≤R∧∀ s,(qm R C G P)[i]?=some s→s.sort=77→s.start≤cells.length:=by
 have h1:=MH pre r kind key c _ _ _ _ (by simp [hl]) (fun s hs=>(KI s (List.mem_of_mem_take hs)).symm) h
 have h2:=Di c i (qm R C G P)
 rw [CM R C G P c hc hP hG] at h2
 simp only [List.length_nil,Nat.zero_add] at h1
 refine ⟨by omega,fun s hs hm=>?_⟩
 have:=CB R C G P c hc hP hG (jY R G) (Nat.le_refl _) i s hs hm
 rw [h1]
 exact this
end
end Go.Proofs.YthhpbhpfagoapabGreat
