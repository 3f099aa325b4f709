import Derived.Test.YthhpbhpfagoapaaGreatJAA
import Derived.Test.YthhpbhpfagoapaaGreatJAN
import Derived.Test.YthhpbhpfagoapaaGreatJAO
namespace Go.Proofs.YthhpbhpfagoapaaGreat
set_option linter.unusedVariables false
set_option linter.unusedSimpArgs false
set_option maxRecDepth 100000
set_option maxHeartbeats 16000000
section
structure FormF where
 told:Bool
 foot:Nat
 parts:List UInt8
 footer:List UInt8
 nonce:List UInt8
 body:List UInt8
def qA (f:FormF):List UInt8:=(if f.told=true then qE (f.footer.length:Int)++f.footer else [])++(qE (f.body.length:Int)++(f.nonce++f.body))
def xu (f:FormF):List UInt8:=([67,70]++[if f.told=true then 79 else 69]++[byB (f.foot:Int)])++(f.parts++(qA f++(qE ((qA f).length:Int)++[67,70])))
structure FormOk (f:FormF):Prop where
 nonce:f.nonce.length=4
 body:2≤f.body.length
 foot:1≤f.foot∧f.foot≤9
 short:(xu f).length≤65000
 none_:f.told=false→f.footer=[]
theorem QL {a b:Nat} (ha:a≤65535) (hb:b≤65535) (h:qE (a:Int)=qE (b:Int)):a=b:=by
 unfold qE at h
 simp only [aW,cG] at h
 obtain ⟨h1,h2⟩:=h
 have e1:=aT UInt8.toNat h1
 have e2:=aT UInt8.toNat h2
 simp only [bS] at e1 e2
 omega
theorem FormOk.lens {f:FormF} (h:FormOk f):(qA f).length≤64992∧f.body.length≤64992∧f.footer.length≤64992:=by
 have hs:=h.short
 have e:(xu f).length=4+(f.parts.length+((qA f).length+4)):=by
  simp only [xu,ab,aH,aR,jG]
 have hfp:(qA f).length=(if f.told=true then 2+f.footer.length else 0)+(2+(f.nonce.length+f.body.length)):=by
  unfold qA
  rw [ab]
  split<;>simp only [ab,jG,aR]
 refine ⟨by omega,by omega,?_⟩
 cases ht:f.told with
 | true=>rw [ht] at hfp;simp only [bG] at hfp;omega
 | false=>rw [h.none_ ht];simp
theorem ZG {a b c d:List UInt8} (h:a++b=c++d) (hl:b.length=d.length):a=c∧b=d:=by
 have hlen:=aT List.length h
 rw [ab,ab] at hlen
 exact aV h (by omega)
theorem Iq {f g:FormF} (hf:FormOk f) (hg:FormOk g) (h:xu f=xu g):f=g:=by
 obtain ⟨l1,l2,l3⟩:=hf.lens
 obtain ⟨m1,m2,m3⟩:=hg.lens
 unfold xu at h
 obtain ⟨h1,h2⟩:=aV h (by simp)
 have ht:f.told=g.told:=by
  cases e1:f.told<;>cases e2:g.told<;>simp_all
 have hft:f.foot=g.foot:=by
  simp only [ht,aK,aX,aW,cG,true_and] at h1
  have e:=aT UInt8.toNat h1
  have b1:=xK (f.foot:Int) (by omega) (by have:=hf.foot;omega)
  have b2:=xK (g.foot:Int) (by omega) (by have:=hg.foot;omega)
  omega
 have h2':(f.parts++qA f)++(qE ((qA f).length:Int)++[67,70])=(g.parts++qA g)++(qE ((qA g).length:Int)++[67,70]):=by
  rw [af,af];exact h2
 obtain ⟨h3,h4⟩:=ZG h2' (by simp [jG])
 obtain ⟨h5,_⟩:=aV h4 (by rw [jG,jG])
 have hl:=QL (by omega) (by omega) h5
 obtain ⟨h6,h7⟩:=ZG h3 hl
 have key:f.footer=g.footer∧f.nonce=g.nonce∧f.body=g.body:=by
  unfold qA at h7
  rw [← ht] at h7
  have tail:∀ {a b:FormF},FormOk a→FormOk b→a.body.length≤65535→b.body.length≤65535→qE (a.body.length:Int)++(a.nonce++a.body)=qE (b.body.length:Int)++(b.nonce++b.body)→a.nonce=b.nonce∧a.body=b.body:=by
   intro a b ha hb _ _ e
   obtain ⟨_,e2⟩:=aV e (by rw [jG,jG])
   exact aV e2 (by rw [ha.nonce,hb.nonce])
  cases htt:f.told with
  | false =>
   rw [htt] at h7
   simp only [bl,bU,aX] at h7
   obtain ⟨a,b⟩:=tail hf hg (by omega) (by omega) h7
   exact ⟨by rw [hf.none_ htt,hg.none_ (ht ▸ htt)],a,b⟩
  | true =>
   rw [htt] at h7
   simp only [bG,af] at h7
   obtain ⟨e1,e2⟩:=aV h7 (by rw [jG,jG])
   have hlen:=QL (by omega) (by omega) e1
   obtain ⟨e3,e4⟩:=aV e2 hlen
   obtain ⟨a,b⟩:=tail hf hg (by omega) (by omega) e4
   exact ⟨e3,a,b⟩
 obtain ⟨k1,k2,k3⟩:=key
 cases f
 cases g
 simp_all
end
section
theorem xH:∀ (n m:Nat) (r q:List UInt8),uB n++r=uB m++q→n=m∧r=q:=by
 intro n
 induction n using Nat.strongRecOn with
 | _ n ih =>
  intro m r q h
  by_cases hn:n≤127
  ·by_cases hm:m≤127
   ·rw [Jb hn,Jb hm] at h
    simp only [aK,aX,aW] at h
    obtain ⟨h1,h2⟩:=h
    have e:=aT UInt8.toNat h1
    rw [JV n (by omega),JV m (by omega)] at e
    exact ⟨e,h2⟩
   ·exfalso
    rw [Jb hn,XR (n:=m) (by omega)] at h
    simp only [aK,aX,aW] at h
    have e:=aT UInt8.toNat h.1
    have b1:=xK (n:Int) (by omega) (by omega)
    have b2:=xK ((m:Int) % 128+128) (by omega) (by omega)
    omega
  ·by_cases hm:m≤127
   ·exfalso
    rw [Jb hm,XR (n:=n) (by omega)] at h
    simp only [aK,aX,aW] at h
    have e:=aT UInt8.toNat h.1
    have b1:=xK (m:Int) (by omega) (by omega)
    have b2:=xK ((n:Int) % 128+128) (by omega) (by omega)
    omega
   ·rw [XR (n:=n) (by omega),XR (n:=m) (by omega)] at h
    simp only [aK,aW] at h
    obtain ⟨h1,h2⟩:=h
    have e:=aT UInt8.toNat h1
    have b1:=xK ((n:Int) % 128+128) (by omega) (by omega)
    have b2:=xK ((m:Int) % 128+128) (by omega) (by omega)
    obtain ⟨h3,h4⟩:=ih (n / 128) (by omega) (m / 128) r q h2
    exact ⟨by omega,h4⟩
theorem NX {s t r q:List UInt8} (h:xB s++r=xB t++q):s=t∧r=q:=by
 unfold xB at h
 rw [af,af] at h
 obtain ⟨h1,h2⟩:=xH _ _ _ _ h
 exact aV h2 h1
theorem YY:∀ (a b:List Nat),a.length=b.length→a.flatMap uB=b.flatMap uB→a=b:=by
 intro a
 induction a with
 | nil=>intro b hl _;cases b with
  | nil=>rfl
  | cons x l=>simp at hl
 | cons x l ih =>
  intro b hl h
  cases b with
  | nil=>simp at hl
  | cons y m =>
   rw [a9,a9] at h
   obtain ⟨h1,h2⟩:=xH _ _ _ _ h
   rw [h1,ih m (by simpa using hl) h2]
def Xj (c:ColB):List UInt8 × Nat × Nat:=(c.name,c.kind.toNat,c.key.toNat)
theorem KN:∀ (a b:List ColB) (r q:List UInt8),a.length=b.length→a.flatMap qa++r=b.flatMap qa++q→a.map Xj=b.map Xj∧r=q:=by
 intro a
 induction a with
 | nil=>intro b r q hl h;cases b with
  | nil=>exact ⟨rfl,h⟩
  | cons x l=>simp at hl
 | cons x l ih =>
  intro b r q hl h
  cases b with
  | nil=>simp at hl
  | cons y m =>
   rw [a9,a9] at h
   simp only [qa,af] at h
   obtain ⟨h1,h2⟩:=NX h
   obtain ⟨h3,h4⟩:=xH _ _ _ _ h2
   obtain ⟨h5,h6⟩:=xH _ _ _ _ h4
   obtain ⟨h7,h8⟩:=ih m r q (by simpa using hl) h6
   refine ⟨?_,h8⟩
   simp only [cK,h7,Xj,h1,h3,h5]
theorem Un {R R':Nat} {p p':PlanB} {t t':List ColB} {pl pl':List Nat} (hl:pl.length=qb R p.group.toNat*t.length) (hl':pl'.length=qb R' p'.group.toNat*t'.length)
  (h:qH R p t pl=qH R' p' t' pl'):R=R'∧p.group.toNat=p'.group.toNat∧p.page.toNat=p'.page.toNat∧p.foot.toNat=p'.foot.toNat∧t.map Xj=t'.map Xj∧pl=pl':=by
 unfold qH at h
 simp only [af] at h
 obtain ⟨h1,h⟩:=xH _ _ _ _ h
 obtain ⟨h2,h⟩:=xH _ _ _ _ h
 obtain ⟨h3,h⟩:=xH _ _ _ _ h
 obtain ⟨h4,h⟩:=xH _ _ _ _ h
 obtain ⟨h5,h⟩:=xH _ _ _ _ h
 obtain ⟨h6,h⟩:=KN t t' _ _ h5 h
 exact ⟨h1,h2,h3,h4,h6,YY _ _ (by rw [hl,hl',h1,h2,h5]) h⟩
end
section
structure ModF where
 plain:List UInt8
 nonce:List UInt8
 body:List UInt8
def qI (key:Int) (m:ModF):List UInt8:=if key=0 then qE (m.plain.length:Int)++m.plain else qE (m.body.length:Int)++(m.nonce++m.body)
def xU (key:Int) (m:ModF):Prop:=(key=0∧m.nonce=[]∧m.body=[]∧m.plain.length≤65535)∨(key≠0∧m.plain=[]∧m.nonce.length=4∧2≤m.body.length∧m.body.length≤65535)
def jm (t:List ColB):List SpotB→List ModF→List UInt8
 | s :: L,m :: M=>qI (jk t s.c).key m++jm t L M
 | _,_=>[]
def jp (t:List ColB):Nat→Bool→List SpotB→List ModF→List Nat
 | n,b,s :: L,m :: M=>(if b=true then [n] else [])++jp t (n+(qI (jk t s.c).key m).length) (decide (s.sort=77)) L M
 | _,_,_,_=>[]
def ModsOk (t:List ColB):List SpotB→List ModF→Prop
 | [],[]=>True
 | s :: L,m :: M=>xU (jk t s.c).key m∧ModsOk t L M
 | _,_=>False
theorem ModsOk.nil {t:List ColB}:ModsOk t [] []:=trivial
theorem ModsOk.cons {t:List ColB} {s:SpotB} {L:List SpotB} {m:ModF} {M:List ModF} (a:xU (jk t s.c).key m) (b:ModsOk t L M):ModsOk t (s :: L) (m :: M):=bH a b
theorem ModsOk.ind {t:List ColB} {motive:(L:List SpotB)→(M:List ModF)→ModsOk t L M→Prop} (nil:motive [] [] .nil)
  (cons:∀ {s:SpotB} {L:List SpotB} {m:ModF} {M:List ModF} (a:xU (jk t s.c).key m) (b:ModsOk t L M),motive L M b→motive (s :: L) (m :: M) (.cons a b)):∀ {L:List SpotB} {M:List ModF} (h:ModsOk t L M),motive L M h
 | [],[],_=>nil
 | _ :: _,_ :: _,h=>cons h.1 h.2 (ModsOk.ind nil cons h.2)
 | [],_ :: _,h=>absurd h id
 | _ :: _,[],h=>absurd h id
theorem QK {key:Int} {m m':ModF} {r q:List UInt8} (h:xU key m) (h':xU key m') (e:qI key m++r=qI key m'++q):m=m'∧r=q:=by
 unfold qI at e
 rcases h with ⟨hk,a1,a2,a3⟩|⟨hk,a1,a2,a3,a4⟩
 ·rcases h' with ⟨_,b1,b2,b3⟩|⟨hk',_⟩
  ·rw [aw hk,aw hk,af,af] at e
   obtain ⟨e1,e2⟩:=aV e (by rw [jG,jG])
   have hl:=QL a3 b3 e1
   obtain ⟨e3,e4⟩:=aV e2 hl
   refine ⟨?_,e4⟩
   cases m;cases m';simp_all
  ·exact absurd hk hk'
 ·rcases h' with ⟨hk',_⟩|⟨_,b1,b2,b3,b4⟩
  ·exact absurd hk' hk
  ·rw [aj hk,aj hk,af,af,af,af] at e
   obtain ⟨e1,e2⟩:=aV e (by rw [jG,jG])
   have hl:=QL a4 b4 e1
   obtain ⟨e3,e4⟩:=aV e2 (by rw [a2,b2])
   obtain ⟨e5,e6⟩:=aV e4 hl
   refine ⟨?_,e6⟩
   cases m;cases m';simp_all
theorem In {t:List ColB} {L:List SpotB} {M M':List ModF} (h:ModsOk t L M) (h':ModsOk t L M') (e:jm t L M=jm t L M'):M=M':=by
 induction h using ModsOk.ind generalizing M' with
 | nil=>cases h' using ModsOk.ind;rfl
 | cons hm _ ih =>
  cases h' using ModsOk.ind with
  | cons hm' h2' =>
   simp only [jm] at e
   obtain ⟨e1,e2⟩:=QK hm hm' e
   rw [e1,ih h2' e2]
structure SheetF where
 rows:Nat
 plan:PlanB
 cols:List ColB
 mods:List ModF
def qB (S:SheetF):List SpotB:=jI S.rows S.cols.length S.plan.group.toNat S.plan.page.toNat
structure SheetOk (foot:Nat) (parts footer:List UInt8) (S:SheetF):Prop where
 rows:S.rows≤60
 plan:qS S.plan=true
 told:S.plan.told=false
 foot:S.plan.foot=(foot:Int)
 heads:jZ S.cols=true
 bare:∀ c ∈ S.cols,c.cells=[]
 mods:ModsOk S.cols (qB S) S.mods
 parts:parts=jm S.cols (qB S) S.mods
 footer:footer=qH S.rows S.plan S.cols (jp S.cols 4 true (qB S) S.mods)
theorem qY {t:List ColB} {L:List SpotB} {M:List ModF} (h:ModsOk t L M):M.length=L.length:=by
 induction h using ModsOk.ind with
 | nil=>rfl
 | cons _ _ ih=>simp [ih]
theorem XS {t:List ColB} (j:JobB) (r:List KeyB):∀ (L:List SpotB) (M:List ModF) (n:Nat) (b:Bool) (st:StB),M.length=L.length→(jp t n b L M).length=(zf j r st b L).length:=by
 intro L
 induction L with
 | nil=>intro M n b st h;cases M with
  | nil=>rfl
  | cons m M=>simp at h
 | cons s L ih =>
  intro M n b st h
  cases M with
  | nil=>simp at h
  | cons m M =>
   simp only [jp,zf,ab]
   rw [ih M _ _ (Uy j r st s) (by simpa using h)]
   cases b<;>rfl
theorem Qy {foot:Nat} {parts footer:List UInt8} {S:SheetF} (h:SheetOk foot parts footer S):(jp S.cols 4 true (qB S) S.mods).length=qb S.rows S.plan.group.toNat*S.cols.length:=by
 rw [XS ⟨[],⟨0,0,0,false⟩,[],0⟩ [] _ _ _ _ ⟨[],[]⟩ (qY h.mods)]
 exact Xg _ _ _ _ _ _ _ _
theorem MD {p q:PlanB} (hp:qS p=true) (hq:qS q=true) (ht:p.told=q.told) (h1:p.group.toNat=q.group.toNat) (h2:p.page.toNat=q.page.toNat) (h3:p.foot.toNat=q.foot.toNat):p=q:=by
 simp only [qS,au,az] at hp hq
 have e1:p.group=q.group:=by omega
 have e2:p.page=q.page:=by omega
 have e3:p.foot=q.foot:=by omega
 cases p;cases q;simp_all
theorem LB {a b:List ColB} (ha:jZ a=true) (hb:jZ b=true) (ca:∀ c ∈ a,c.cells=[]) (cb:∀ c ∈ b,c.cells=[]) (h:a.map Xj=b.map Xj):a=b:=by
 have hl:a.length=b.length:=by have:=aT List.length h;simpa using this
 have parts:∀ {t:List ColB},jZ t=true→∀ k (hk:k < t.length),0≤(t[k]).kind∧0≤(t[k]).key:=by
  intro t ht k hk
  simp only [jZ,au] at ht
  obtain ⟨_,h1,h2,_⟩:=Qj (Qs ht.1 (ae _) k hk).1
  exact ⟨by omega,h2⟩
 apply cx hl
 intro k h1 h2
 have e:Xj a[k]=Xj b[k]:=by
  have:(a.map Xj)[k]'(by simpa using h1)=(b.map Xj)[k]'(by simpa using h2):=by simp only [h]
  simpa using this
 obtain ⟨p1,p2⟩:=parts ha k h1
 obtain ⟨q1,q2⟩:=parts hb k h2
 have c1:=ca a[k] (al h1)
 have c2:=cb b[k] (al h2)
 generalize a[k]=x at *
 generalize b[k]=y at *
 simp only [Xj,bV] at e
 obtain ⟨e1,e2,e3⟩:=e
 have k1:x.kind=y.kind:=by omega
 have k2:x.key=y.key:=by omega
 cases x;cases y;simp_all
theorem Ef {foot:Nat} {parts footer:List UInt8} {S S':SheetF} (h:SheetOk foot parts footer S) (h':SheetOk foot parts footer S'):S=S':=by
 have hf:=h.footer.symm.trans h'.footer
 obtain ⟨e1,e2,e3,e4,e5,e6⟩:=Un (Qy h) (Qy h') hf
 have hp:=MD h.plan h'.plan (h.told.trans h'.told.symm) e2 e3 e4
 have hc:=LB h.heads h'.heads h.bare h'.bare e5
 have hm:=h.parts.symm.trans h'.parts
 have hs:qB S=qB S':=by unfold qB;rw [e1,hp,hc]
 rw [hs,hc] at hm
 have m1:=h.mods
 rw [hs,hc] at m1
 have e7:=In m1 h'.mods hm
 cases S;cases S';simp_all
end
section
def Qv:List UInt8→Nat
 | a :: b :: _=>a.toNat+256*b.toNat
 | _=>0
def xC (st:Option (List UInt8)):Nat × Option (List UInt8):=(Qv (qk 2 st).1,(qk 2 st).2)
def qv (st:Option (List UInt8)):(List UInt8 × List UInt8) × Option (List UInt8) :=
 (((qk 4 (xC st).2).1,(qk ((xC st).1:Int) (qk 4 (xC st).2).2).1),if (xC st).1 < 2 then none else (qk ((xC st).1:Int) (qk 4 (xC st).2).2).2)
theorem ZI (n:Int):qk n none=([],none):=rfl
theorem Nr (l:List UInt8):Qv l≤65535:=by
 match l with
 | []=>simp [Qv]
 | [a]=>simp [Qv]
 | a :: b :: _=>have:=a.toNat_lt;have:=b.toNat_lt;simp only [Qv];omega
theorem YG (a b:UInt8):qE ((a.toNat+256*b.toNat:Nat):Int)=[a,b]:=by
 have ha:=a.toNat_lt
 have hb:=b.toNat_lt
 unfold qE
 simp only [aW,cG]
 constructor
 ·apply cF.1;simp only [bS];omega
 ·apply cF.1;simp only [bS];omega
theorem Yr (n:Nat) (h:n≤65535) (r:List UInt8):Qv (qE (n:Int)++r)=n:=by
 unfold qE
 simp only [aK,aX,Qv,bS]
 omega
theorem XO {n:Nat} {l:List UInt8} {t r:List UInt8} (h:qk (n:Int) (some l)=(t,some r)):l=t++r∧t.length=n:=by
 by_cases hn:n≤l.length
 ·rw [Ja (by omega) (by omega)] at h
  simp only [bV,aP,aY] at h
  obtain ⟨rfl,rfl⟩:=h
  exact ⟨(aD ..).symm,by rw [aq];omega⟩
 ·rw [Qz (.inr (by omega))] at h
  simp at h
theorem Gd {l r:List UInt8} {n:Nat} (h:xC (some l)=(n,some r)):l=qE (n:Int)++r∧n≤65535:=by
 unfold xC at h
 simp only [bV] at h
 obtain ⟨h1,h2⟩:=h
 have h3:qk ((2:Nat):Int) (some l)=((qk 2 (some l)).1,some r):=by
  show qk 2 (some l)=_
  rw [← h2]
 obtain ⟨h4,h5⟩:=XO h3
 generalize (qk 2 (some l)).1=t at *
 match t,h5 with
 | [a,b],_ =>
  simp only [Qv] at h1
  subst h1
  rw [YG]
  exact ⟨h4,by have:=a.toNat_lt;have:=b.toNat_lt;omega⟩
theorem VU (n:Nat) (h:n≤65535) (r:List UInt8):xC (some (qE (n:Int)++r))=(n,some r):=by
 unfold xC
 have:=QS (qE (n:Int)) r
 rw [jG] at this
 rw [show qk 2 (some (qE (n:Int)++r))=(qE (n:Int),some r) from this]
 have h2:=Yr n h []
 rw [aB] at h2
 simp [h2]
theorem UR:qv none=(([],[]),none):=rfl
theorem Kl {l r:List UInt8} {x:List UInt8 × List UInt8} (h:qv (some l)=(x,some r)):l=qE (x.2.length:Int)++(x.1++x.2)++r∧x.1.length=4∧2≤x.2.length∧x.2.length≤65535:=by
 unfold qv at h
 simp only [bV] at h
 obtain ⟨h1,h2⟩:=h
 split at h2
 ·cases h2
 ·rename_i hn
  cases hq:(xC (some l)).2 with
  | none=>rw [hq] at h2;simp [ZI] at h2
  | some l1 =>
   obtain ⟨h3,h4⟩:=Gd (l:=l) (r:=l1) (n:=(xC (some l)).1) (by rw [← hq])
   rw [hq] at h1 h2
   cases hq2:(qk 4 (some l1)).2 with
   | none=>rw [hq2] at h2;simp [ZI] at h2
   | some l2 =>
    obtain ⟨h5,h6⟩:=XO (n:=4) (l:=l1) (t:=(qk 4 (some l1)).1) (r:=l2) (by show qk 4 (some l1)=_;rw [← hq2])
    rw [hq2] at h1 h2
    obtain ⟨h7,h8⟩:=XO (n:=(xC (some l)).1) (l:=l2) (t:=(qk ((xC (some l)).1:Int) (some l2)).1) (r:=r) (by rw [← h2])
    subst h1
    simp only
    rw [h8]
    refine ⟨?_,h6,by omega,h4⟩
    rw [af,af,← h7,← h5]
    exact h3
theorem ZV {x:List UInt8 × List UInt8} (h1:x.1.length=4) (h2:2≤x.2.length) (h3:x.2.length≤65535) (r:List UInt8):qv (some (qE (x.2.length:Int)++(x.1++x.2)++r))=(x,some r):=by
 unfold qv
 rw [af,af,VU _ h3]
 have e1:qk 4 (some (x.1++(x.2++r)))=(x.1,some (x.2++r)):=by
  have:=QS x.1 (x.2++r)
  rw [h1] at this
  exact this
 simp only [e1,QS]
 rw [aj (by omega)]
def zQ (file:List UInt8):Option FormF :=
 if 65000 < file.length∨file.length < 8∨file.take 2≠[67,70]∨file.drop (file.length - 2)≠[67,70]∨(file.getD 2 0≠69∧file.getD 2 0≠79)∨(file.getD 3 0).toNat < 1∨9 < (file.getD 3 0).toNat then none
 else if file.length < 8+Qv (file.drop (file.length - 4)) then none
 else
  let from_:=file.length - 4 - Qv (file.drop (file.length - 4))
  let part:=(file.drop from_).take (file.length - 4 - from_)
  let told:=decide (file.getD 2 0=79)
  let a:=if told=true then qk ((xC (some part)).1:Int) (xC (some part)).2 else ([],some part)
  let b:=qv a.2
  if b.2=some [] then some ⟨told,(file.getD 3 0).toNat,(file.drop 4).take (from_ - 4),a.1,b.1.1,b.1.2⟩ else none
theorem Sr {file:List UInt8} {a b:Nat} (ha:4≤a) (hab:a≤b) (hb:b+4=file.length) (h1:file.take 2=[67,70]) (h2:file.drop (file.length - 2)=[67,70]) :
  file=([67,70]++[file.getD 2 0]++[file.getD 3 0])++((file.drop 4).take (a - 4)++((file.drop a).take (b - a)++((file.drop b).take 2++[67,70]))):=by
 have e2:(file.drop b).drop 2=[67,70]:=by rw [bz,← h2];congr 1;omega
 have e3:file.drop b=(file.drop b).take 2++[67,70]:=by rw [← e2,aD]
 have e4:file.drop a=(file.drop a).take (b - a)++file.drop b:=by
  conv=>lhs;rw [← aD (b - a) (file.drop a)]
  rw [bz]
  congr 2
  omega
 have e5:file.drop 4=(file.drop 4).take (a - 4)++file.drop a:=by
  conv=>lhs;rw [← aD (a - 4) (file.drop 4)]
  rw [bz]
  congr 2
  omega
 rw [← e3,← e4,← e5]
 match file,h1 with
 | x :: y :: z :: u :: l,h1 =>
  simp only [b8,List.take_zero,aW,cG] at h1
  obtain ⟨rfl,rfl⟩:=h1
  simp
 | [],h1=>simp at h1
 | [x],h1=>simp at h1
 | [x,y],_=>exfalso;have:([x,y]:List UInt8).length=2:=rfl;omega
 | [x,y,z],_=>exfalso;have:([x,y,z]:List UInt8).length=3:=rfl;omega
theorem ID (file:List UInt8) (o:Option FormF) (hS0:∀ f,FormOk f→xu f=file→o=some f) (hN0:(∀ f,FormOk f→xu f≠file)→o=none):zQ file=o:=by
 cases hf:zQ file with
 | some f =>
  unfold zQ at hf
  split at hf
  ·cases hf
  rename_i hc
  split at hf
  ·cases hf
  rename_i hl
  simp only [not_or,Decidable.not_and_iff_or_not,cJ,ne_eq] at hc
  obtain ⟨c1,c2,c3,c4,c5,c6,c7⟩:=hc
  have hn:=Nr (file.drop (file.length - 4))
  have hcut:=Sr (file:=file) (a:=file.length - 4 - Qv (file.drop (file.length - 4))) (b:=file.length - 4) (by omega) (by omega) (by omega) c3 c4
  simp only at hf
  have hend:(file.drop (file.length - 4)).take 2=qE ((Qv (file.drop (file.length - 4)):Nat):Int):=by
   have hlen:(file.drop (file.length - 4)).length=4:=by rw [an];omega
   match hd:file.drop (file.length - 4),hlen with
   | [x,y,z,u],_=>simp only [b8,List.take_zero,Qv];rw [YG]
  rw [hend] at hcut
  generalize hN:Qv (file.drop (file.length - 4))=N at *
  generalize hF:file.length - 4 - N=F at *
  have hFN:file.length - 4 - F=N:=by omega
  rw [hFN] at hf hcut
  have hpl:((file.drop F).take N).length=N:=by rw [aq,an];omega
  generalize hP:(file.drop F).take N=part at *
  by_cases hb:(qv (if decide (file.getD 2 0=79)=true then qk ((xC (some part)).1:Int) (xC (some part)).2 else ([],some part)).2).2=some []
  ·rw [aw hb] at hf
   simp only [aP] at hf
   subst hf
   symm
   have key:∀ (told:Bool) (footer:List UInt8) (x:List UInt8 × List UInt8),told=decide (file.getD 2 0=79)→(told=false→footer=[])→part=(if told=true then qE (footer.length:Int)++footer else [])++(qE (x.2.length:Int)++(x.1++x.2))→x.1.length=4→2≤x.2.length →
     FormOk ⟨told,(file.getD 3 0).toNat,(file.drop 4).take (F - 4),footer,x.1,x.2⟩∧xu ⟨told,(file.getD 3 0).toNat,(file.drop 4).take (F - 4),footer,x.1,x.2⟩=file:=by
    intro told footer x ht hno hpart hx1 hx2
    have hfile:xu ⟨told,(file.getD 3 0).toNat,(file.drop 4).take (F - 4),footer,x.1,x.2⟩=file:=by
     refine Eq.trans ?_ hcut.symm
     unfold xu qA
     simp only
     rw [← hpart]
     have e1:(if told=true then (79:UInt8) else 69)=file.getD 2 0:=by
      rw [ht]
      by_cases h79:file.getD 2 0=79
      ·rw [h79];rfl
      ·rw [aS h79]
       have:file.getD 2 0=69:=by
        rcases c5 with h|h
        ·exact h
        ·exact absurd h h79
       rw [this];rfl
     have e2:byB (((file.getD 3 0).toNat:Nat):Int)=file.getD 3 0:=by
      apply cF.1
      rw [JV _ (by omega)]
     rw [e1,e2,hpl]
    exact ⟨⟨hx1,hx2,⟨by simp only;omega,by simp only;omega⟩,by rw [hfile];omega,hno⟩,hfile⟩
   by_cases h79:file.getD 2 0=79
   ·have ht:decide (file.getD 2 0=79)=true:=cH h79
    rw [ht] at hb ⊢
    simp only [bG] at hb ⊢
    cases hq:(xC (some part)).2 with
    | none=>rw [hq,ZI,UR] at hb;simp at hb
    | some l1 =>
     obtain ⟨h3,h4⟩:=Gd (l:=part) (r:=l1) (n:=(xC (some part)).1) (by rw [← hq])
     rw [hq] at hb
     generalize hn0:(xC (some part)).1=n0 at *
     cases hq2:(qk (n0:Int) (some l1)).2 with
     | none=>rw [hq2,UR] at hb;simp at hb
     | some l2 =>
      obtain ⟨h5,h6⟩:=XO (n:=n0) (l:=l1) (t:=(qk (n0:Int) (some l1)).1) (r:=l2) (by rw [← hq2])
      rw [hq2] at hb
      try rw [hq2]
      generalize (qk (n0:Int) (some l1)).1=T at *
      obtain ⟨h7,h8,h9,h10⟩:=Kl (l:=l2) (r:=[]) (x:=(qv (some l2)).1) (by rw [← hb])
      obtain ⟨k1,k2⟩:=key true T (qv (some l2)).1 ht.symm (fun h=>by cases h) (by
       rw [aw rfl,h6,h3,h5]
       rw [aB] at h7
       rw [← h7,af]
       ) h8 h9
      exact hS0 _ k1 k2
   ·have ht:decide (file.getD 2 0=79)=false:=aS h79
    rw [ht] at hb ⊢
    simp only [bl,bU] at hb ⊢
    obtain ⟨h7,h8,h9,h10⟩:=Kl (l:=part) (r:=[]) (x:=(qv (some part)).1) (by rw [← hb])
    obtain ⟨k1,k2⟩:=key false [] (qv (some part)).1 ht.symm (fun _=>rfl) (by
     rw [aj (by decide),aX]
     rw [aB] at h7
     exact h7) h8 h9
    exact hS0 _ k1 k2
  ·rw [aj hb] at hf
   cases hf
 | none =>
  symm
  apply hN0
  intro f hok e
  obtain ⟨l1,l2,l3⟩:=hok.lens
  have hlen:file.length=4+(f.parts.length+((qA f).length+4)):=by
   rw [← e]
   simp only [xu,ab,aH,aR,jG]
  have hsh:=hok.short
  rw [e] at hsh
  have hd:file.drop (file.length - 4)=qE ((qA f).length:Int)++[67,70]:=by
   rw [hlen,show 4+(f.parts.length+((qA f).length+4)) - 4=4+(f.parts.length+(qA f).length) by omega,← e]
   unfold xu
   rw [← bz,bO (by simp),← af,bO (by simp)]
  have hN:Qv (file.drop (file.length - 4))=(qA f).length:=by rw [hd];exact Yr _ (by omega) _
  have hF:file.length - 4 - (qA f).length=4+f.parts.length:=by omega
  have hpart:(file.drop (4+f.parts.length)).take (file.length - 4 - (4+f.parts.length))=qA f:=by
   rw [show file.length - 4 - (4+f.parts.length)=(qA f).length by omega,← e]
   unfold xu
   rw [← bz,bO (by simp),bO rfl,List.take_left' rfl]
  have hparts:(file.drop 4).take (4+f.parts.length - 4)=f.parts:=by
   rw [← e]
   unfold xu
   rw [bO (by simp),List.take_left' (by omega)]
  have h2:file.getD 2 0=if f.told=true then 79 else 69:=by rw [← e];simp [xu]
  have h3:(file.getD 3 0).toNat=f.foot:=by
   have:file.getD 3 0=byB (f.foot:Int):=by rw [← e];simp [xu]
   rw [this]
   exact JV _ (by have:=hok.foot;omega)
  have ht2:file.take 2=[67,70]:=by rw [← e];simp [xu]
  have hd2:file.drop (file.length - 2)=[67,70]:=by
   rw [show file.length - 2=(file.length - 4)+2 by omega,← bz,hd]
   rfl
  have hft:=hok.foot
  unfold zQ at hf
  rw [aj,aj] at hf
  ·simp only [hN,hF,hpart,hparts] at hf
   cases htold:f.told with
   | true =>
    rw [htold,aw rfl] at h2
    simp only [h2,decide_true,bG] at hf
    have hfp:qA f=qE (f.footer.length:Int)++(f.footer++(qE (f.body.length:Int)++(f.nonce++f.body))):=by
     unfold qA
     rw [htold,aw rfl,af]
    have hs:=ZV (x:=(f.nonce,f.body)) hok.nonce hok.body (by simp only;omega) []
    simp only [aB] at hs
    rw [hfp,VU _ (by omega),QS,hs] at hf
    simp at hf
   | false =>
    rw [htold,aj (by decide)] at h2
    simp only [h2,show decide ((69:UInt8)=79)=false from by decide,bl,bU] at hf
    have hfp:qA f=qE (f.body.length:Int)++(f.nonce++f.body):=by
     unfold qA
     rw [htold,aj (by decide),aX]
    have hs:=ZV (x:=(f.nonce,f.body)) hok.nonce hok.body (by simp only;omega) []
    simp only [aB] at hs
    rw [hfp,hs] at hf
    simp at hf
  ·rw [hN];omega
  ·rw [h3,ht2,hd2,h2]
   rintro (h|h|h|h|h|h|h)
   ·omega
   ·omega
   ·exact h rfl
   ·exact h rfl
   ·revert h;cases f.told<;>decide
   ·omega
   ·omega
end
section
def xP (st:Option (List UInt8)):Nat→List ColB × Option (List UInt8)
 | 0=>([],st)
 | i+1=>((xP st i).1++[⟨(xR 8 (xP st i).2).1,((jQ 1 (xR 8 (xP st i).2).2).1:Nat),((jQ 9 (jQ 1 (xR 8 (xP st i).2).2).2).1:Nat),[]⟩],(jQ 9 (jQ 1 (xR 8 (xP st i).2).2).2).2)
theorem Tc (st:Option (List UInt8)) (i:Nat):(xP st i).1.length=i:=by
 induction i with
 | zero=>rfl
 | succ i ih=>simp [xP,ih]
theorem UD (st:Option (List UInt8)) (i:Nat):∀ c ∈ (xP st i).1,c.cells=[]:=by
 induction i with
 | zero=>intro c hc;simp [xP] at hc
 | succ i ih =>
  intro c hc
  simp only [xP,aM,cr] at hc
  rcases hc with hc|rfl
  ·exact ih c hc
  ·rfl
theorem Pj (n:Nat) (st:Option (List UInt8)):(qk (n:Int) st).1.length≤n:=by
 cases st with
 | none=>simp [ZI]
 | some l =>
  by_cases hn:n≤l.length
  ·rw [Ja (by omega) (by omega)]
   simp only [aY,aq]
   omega
  ·rw [Qz (.inr (by omega))]
   simp
theorem BV (max:Nat) (st:Option (List UInt8)):(xR max st).1.length≤max:=by
 unfold xR
 exact ar (Pj ..) (xO ..)
theorem GT (st:Option (List UInt8)) (i:Nat):∀ c ∈ (xP st i).1,c.name.length≤8∧(c.kind=0∨c.kind=1)∧0≤c.key∧c.key≤9:=by
 induction i with
 | zero=>intro c hc;simp [xP] at hc
 | succ i ih =>
  intro c hc
  simp only [xP,aM,cr] at hc
  rcases hc with hc|rfl
  ·exact ih c hc
  ·have h1:=xO 1 (xR 8 (xP st i).2).2
   have h2:=xO 9 (jQ 1 (xR 8 (xP st i).2).2).2
   exact ⟨BV ..,by simp only;omega,by simp only;omega,by simp only;omega⟩
theorem Di {t:List ColB} (r:List UInt8) (h:∀ c ∈ t,c.name.length≤8∧(c.kind=0∨c.kind=1)∧0≤c.key∧c.key≤9∧c.cells=[]):∀ i,i≤t.length→xP (some (t.flatMap qa++r)) i=(t.take i,some ((t.drop i).flatMap qa++r)):=by
 intro i
 induction i with
 | zero=>intro _;simp [xP]
 | succ i ih =>
  intro hi
  have hlt:i < t.length:=by omega
  obtain ⟨h1,h2,h3,h4,h5⟩:=h t[i] (al hlt)
  simp only [xP,ih (by omega)]
  rw [aN hlt,a9]
  simp only [qa,af]
  rw [ME 8 _ _ h1 (by decide)]
  simp only
  rw [JA 1 _ _ (by omega) (by decide)]
  simp only
  rw [JA 9 _ _ (by omega) (by decide)]
  simp only
  rw [ax hlt]
  congr 3
  generalize t[i]=c at *
  cases c
  simp only [ColB.mk.injEq,true_and] at *
  refine ⟨by omega,by omega,h5.symm⟩
def KA (key:Int) (st:Option (List UInt8)):ModF × Option (List UInt8) :=
 if key=0 then (⟨(qk ((xC st).1:Int) (xC st).2).1,[],[]⟩,(qk ((xC st).1:Int) (xC st).2).2)
 else (⟨[],(qv st).1.1,(qv st).1.2⟩,(qv st).2)
theorem YE (key:Int):KA key none=(⟨[],[],[]⟩,none):=by
 unfold KA
 split<;>rfl
theorem Ca {key:Int} {l r:List UInt8} {m:ModF} (h:KA key (some l)=(m,some r)):xU key m∧l=qI key m++r:=by
 unfold KA at h
 unfold xU qI
 by_cases hk:key=0
 ·rw [aw hk] at h
  rw [aw hk]
  simp only [bV] at h
  obtain ⟨h1,h2⟩:=h
  cases hq:(xC (some l)).2 with
  | none=>rw [hq] at h2;simp [ZI] at h2
  | some l1 =>
   obtain ⟨h3,h4⟩:=Gd (l:=l) (r:=l1) (n:=(xC (some l)).1) (by rw [← hq])
   rw [hq] at h1 h2
   obtain ⟨h5,h6⟩:=XO (n:=(xC (some l)).1) (l:=l1) (t:=(qk ((xC (some l)).1:Int) (some l1)).1) (r:=r) (by rw [← h2])
   subst h1
   refine ⟨.inl ⟨hk,rfl,rfl,by simp only [h6];exact h4⟩,?_⟩
   simp only [h6]
   rw [af,← h5]
   exact h3
 ·rw [aj hk] at h
  rw [aj hk]
  simp only [bV] at h
  obtain ⟨h1,h2⟩:=h
  obtain ⟨h7,h8,h9,h10⟩:=Kl (l:=l) (r:=r) (x:=(qv (some l)).1) (by rw [← h2])
  subst h1
  exact ⟨.inr ⟨hk,rfl,h8,h9,h10⟩,h7⟩
theorem MQ {key:Int} {m:ModF} (h:xU key m) (r:List UInt8):KA key (some (qI key m++r))=(m,some r):=by
 unfold KA qI
 rcases h with ⟨hk,h1,h2,h3⟩|⟨hk,h1,h2,h3,h4⟩
 ·rw [aw hk,aw hk,af,VU _ h3,QS]
  cases m;simp_all
 ·rw [aj hk,aj hk,ZV (x:=(m.nonce,m.body)) h2 h3 h4]
  cases m;simp_all
def Uq (t:List ColB) (q:List ModF × Option (List UInt8)) (s:SpotB):List ModF × Option (List UInt8):=(q.1++[(KA (jk t s.c).key q.2).1],(KA (jk t s.c).key q.2).2)
def qP (t:List ColB) (st:Option (List UInt8)) (L:List SpotB):List ModF × Option (List UInt8):=L.foldl (Uq t) ([],st)
theorem DO (t:List ColB) (st:Option (List UInt8)) (L:List SpotB) (s:SpotB):qP t st (L++[s])=Uq t (qP t st L) s:=by simp [qP]
theorem AJ (t:List ColB):∀ (L:List SpotB) (M:List ModF),(L.foldl (Uq t) (M,none)).2=none:=by
 intro L
 induction L with
 | nil=>intro M;rfl
 | cons s L ih=>intro M;simp only [List.foldl_cons,Uq,YE];exact ih _
theorem MW (t:List ColB):∀ (L:List SpotB) (q:List ModF × Option (List UInt8)),(L.foldl (Uq t) q).1.length=q.1.length+L.length:=by
 intro L
 induction L with
 | nil=>intro q;rfl
 | cons s L ih=>intro q;simp only [List.foldl_cons,ih,Uq,ab,aH,aR];omega
theorem Yu (t:List ColB) (st:Option (List UInt8)) (L:List SpotB):(qP t st L).1.length=L.length:=by
 unfold qP;rw [MW];simp
theorem Rl (t:List ColB):∀ (L:List SpotB) (M0:List ModF) (l r:List UInt8) (M:List ModF),L.foldl (Uq t) (M0,some l)=(M,some r)→∃ M1,M=M0++M1∧ModsOk t L M1∧l=jm t L M1++r:=by
 intro L
 induction L with
 | nil=>intro M0 l r M h;simp only [List.foldl_nil,bV,aP] at h;exact ⟨[],by rw [← h.1];simp,.nil,by rw [h.2];rfl⟩
 | cons s L ih =>
  intro M0 l r M h
  simp only [List.foldl_cons,Uq] at h
  cases hq:(KA (jk t s.c).key (some l)).2 with
  | none =>
   rw [hq] at h
   have:=AJ t L (M0++[(KA (jk t s.c).key (some l)).1])
   rw [h] at this
   cases this
  | some l1 =>
   rw [hq] at h
   obtain ⟨h1,h2⟩:=Ca (key:=(jk t s.c).key) (l:=l) (r:=l1) (m:=(KA (jk t s.c).key (some l)).1) (by rw [← hq])
   obtain ⟨M1,h3,h4,h5⟩:=ih _ _ _ _ h
   exact ⟨_ :: M1,by rw [h3,af];rfl,.cons h1 h4,by
    simp only [jm,af]
    rw [← h5]
    exact h2⟩
theorem Me {t:List ColB} {L:List SpotB} {M:List ModF} (h:ModsOk t L M):∀ (M0:List ModF) (r:List UInt8),L.foldl (Uq t) (M0,some (jm t L M++r))=(M0++M,some r):=by
 induction h using ModsOk.ind with
 | nil=>intro M0 r;simp [jm]
 | cons hm _ ih =>
  intro M0 r
  simp only [List.foldl_cons,Uq,jm,af]
  rw [MQ hm]
  simp only
  rw [ih]
  simp
def zx (footer:List UInt8):PlanB :=
 ⟨((jQ 60 (jQ 60 (some footer)).2).1:Nat),((jQ 60 (jQ 60 (jQ 60 (some footer)).2).2).1:Nat),((jQ 9 (jQ 60 (jQ 60 (jQ 60 (some footer)).2).2).2).1:Nat),false⟩
def qR (footer:List UInt8):Nat:=(jQ 60 (some footer)).1
def xV (footer:List UInt8):List ColB × Option (List UInt8) :=
 xP (jQ 6 (jQ 9 (jQ 60 (jQ 60 (jQ 60 (some footer)).2).2).2).2).2 (jQ 6 (jQ 9 (jQ 60 (jQ 60 (jQ 60 (some footer)).2).2).2).2).1
def Kj (foot:Nat) (footer:List UInt8):Bool:=(!(xV footer).2.isNone && (qS (zx footer) && (jZ (xV footer).1 && decide ((zx footer).foot=(foot:Int)))))
def Kc (footer:List UInt8):List SpotB:=jI (qR footer) (xV footer).1.length (zx footer).group.toNat (zx footer).page.toNat
def KP (parts footer:List UInt8):List ModF × Option (List UInt8):=qP (xV footer).1 (some parts) (Kc footer)
def Vj (foot:Nat) (parts footer:List UInt8):Option SheetF :=
 if Kj foot footer=true then
  if (KP parts footer).2=some []∧qH (qR footer) (zx footer) (xV footer).1 (jp (xV footer).1 4 true (Kc footer) (KP parts footer).1)=footer then some ⟨qR footer,zx footer,(xV footer).1,(KP parts footer).1⟩ else none
 else none
theorem Mq (foot:Nat) (parts footer:List UInt8) (o:Option SheetF) (hS0:∀ S,SheetOk foot parts footer S→o=some S) (hN0:(∀ S,¬ SheetOk foot parts footer S)→o=none):Vj foot parts footer=o:=by
 cases hl:Vj foot parts footer with
 | some S =>
  symm
  apply hS0
  unfold Vj at hl
  split at hl
  ·rename_i hh
   split at hl
   ·rename_i hm
    cases hl
    obtain ⟨h1,h2⟩:=hm
    simp only [Kj,au,az] at hh
    obtain ⟨_,hp,hc,hf⟩:=hh
    obtain ⟨M1,e1,e2,e3⟩:=Rl (xV footer).1 (Kc footer) [] parts [] (KP parts footer).1 (by
     show KP parts footer=_
     rw [← h1])
    simp only [aX] at e1
    rw [e1] at h2 ⊢
    rw [aB] at e3
    have hR:qR footer≤60:=xO _ _
    have hB:∀ c ∈ (xV footer).1,c.cells=[]:=UD _ _
    have hT:(zx footer).told=false:=rfl
    unfold Kc at *
    generalize qR footer=R at *
    generalize (xV footer).1=C at *
    generalize zx footer=p at *
    exact ⟨hR,hp,hT,hf,hc,hB,e2,e3,h2.symm⟩
   ·cases hl
  ·cases hl
 | none =>
  symm
  apply hN0
  intro S hS
  have hf:=hS.footer
  have hp:=hS.plan
  have hpl:=hS.plan
  simp only [qS,au,az] at hpl
  have hcs:∀ c ∈ S.cols,c.name.length≤8∧(c.kind=0∨c.kind=1)∧0≤c.key∧c.key≤9∧c.cells=[]:=by
   intro c hc
   obtain ⟨k,hk,rfl⟩:=cz.1 hc
   have hh:=hS.heads
   simp only [jZ,au] at hh
   obtain ⟨a,b,c,d⟩:=Qj (Qs hh.1 (ae _) k hk).1
   exact ⟨(Vq a).2,b,c,d,hS.bare _ (al hk)⟩
  have hlen:S.cols.length≤6:=by
   have hh:=hS.heads
   simp only [jZ,au,az] at hh
   exact hh.2.2
  have hfoot:S.plan.foot=(foot:Int):=hS.foot
  unfold qH at hf
  simp only [af] at hf
  have hrow:=hS.rows
  generalize hPL:(jp S.cols 4 true (qB S) S.mods).flatMap uB=PB at hf
  have r1:=JA 60 S.rows (uB S.plan.group.toNat++(uB S.plan.page.toNat++(uB S.plan.foot.toNat++(uB S.cols.length++(S.cols.flatMap qa++PB))))) hrow (by decide)
  have r2:=JA 60 S.plan.group.toNat (uB S.plan.page.toNat++(uB S.plan.foot.toNat++(uB S.cols.length++(S.cols.flatMap qa++PB)))) (by omega) (by decide)
  have r3:=JA 60 S.plan.page.toNat (uB S.plan.foot.toNat++(uB S.cols.length++(S.cols.flatMap qa++PB))) (by omega) (by decide)
  have r4:=JA 9 S.plan.foot.toNat (uB S.cols.length++(S.cols.flatMap qa++PB)) (by omega) (by decide)
  have r5:=JA 6 S.cols.length (S.cols.flatMap qa++PB) hlen (by decide)
  rw [← hf] at r1
  have eR:qR footer=S.rows:=by unfold qR;rw [r1]
  have eP:zx footer=S.plan:=by
   unfold zx
   rw [r1]
   simp only
   rw [r2]
   simp only
   rw [r3]
   simp only
   rw [r4]
   have ht:=hS.told
   generalize S.plan=p at *
   cases p
   simp only [PlanB.mk.injEq] at *
   exact ⟨by omega,by omega,by omega,ht.symm⟩
  have eC:xV footer=(S.cols,some PB):=by
   unfold xV
   rw [r1]
   simp only
   rw [r2]
   simp only
   rw [r3]
   simp only
   rw [r4]
   simp only
   rw [r5]
   simp only
   rw [Di PB hcs _ (ae _)]
   simp
  have eS:Kc footer=qB S:=by unfold Kc qB;rw [eR,eC,eP]
  have eM:KP parts footer=(S.mods,some []):=by
   unfold KP
   rw [eC,eS,hS.parts]
   have:=Me hS.mods [] []
   simpa [qP] using this
  unfold Vj at hl
  rw [aw,aw] at hl
  ·cases hl
  ·refine ⟨by rw [eM],?_⟩
   rw [eM,eR,eP,eC,eS]
   exact hS.footer.symm
  ·simp only [Kj,eC,eP,hp,hS.heads,hfoot,Option.isNone_some,Bool.not_false,Bool.true_and,decide_true]
end
section
def zt (file:List UInt8):Option FormF:=zQ file
theorem IG (file:List UInt8):zQ file=zt file:=rfl
theorem GW {f:FormF} (h:FormOk f):zt (xu f)=some f :=
 ID _ _ (fun g hg e=>aT some (Iq h hg e.symm)) (fun hn=>absurd rfl (hn f h))
theorem JG {file:List UInt8} (h:∀ f,FormOk f→xu f≠file):zt file=none :=
 ID _ _ (fun f h1 h2=>absurd h2 (h f h1)) (fun _=>rfl)
theorem Yl {file:List UInt8} {f:FormF} (h:zt file=some f):FormOk f∧xu f=file:=by
 by_cases hex:∃ g,FormOk g∧xu g=file
 ·obtain ⟨g,hg,e⟩:=hex
  rw [← e,GW hg] at h
  cases h
  exact ⟨hg,e⟩
 ·rw [JG (fun g hg e=>hex ⟨g,hg,e⟩)] at h
  cases h
def xW (foot:Nat) (parts footer:List UInt8):Option SheetF:=Vj foot parts footer
theorem Mw (foot:Nat) (parts footer:List UInt8):Vj foot parts footer=xW foot parts footer:=rfl
theorem Vk {foot:Nat} {parts footer:List UInt8} {S:SheetF} (h:SheetOk foot parts footer S):xW foot parts footer=some S :=
 Mq _ _ _ _ (fun T hT=>aT some (Ef h hT)) (fun hn=>absurd h (hn S))
theorem XA {foot:Nat} {parts footer:List UInt8} (h:∀ S,¬ SheetOk foot parts footer S):xW foot parts footer=none :=
 Mq _ _ _ _ (fun S h1=>absurd h1 (h S)) (fun _=>rfl)
theorem UP {foot:Nat} {parts footer:List UInt8} {S:SheetF} (h:xW foot parts footer=some S):SheetOk foot parts footer S:=by
 by_cases hex:∃ T,SheetOk foot parts footer T
 ·obtain ⟨T,hT⟩:=hex
  rw [Vk hT] at h
  cases h
  exact hT
 ·rw [XA (fun T hT=>hex ⟨T,hT⟩)] at h
  cases h
def qw (sec non ext body:List UInt8):Option (List UInt8) :=
 if body.length≤5002∧2≤body.length∧XU sec non ext (zw sec non (body.take (body.length - 2)))=body then some (zw sec non (body.take (body.length - 2))) else none
structure FoundB where
 name:List UInt8
 kind:Int
 key:Int
 state:Int
 cells:List CellB
def zE (pre:List UInt8) (r:List KeyB) (key:Int) (s:SpotB) (m:ModF):Option (List UInt8) :=
 if key=0 then some m.plain else qw (jl r key) m.nonce (qo pre s.sort s.g s.c s.p) m.body
def QI (pre:List UInt8) (r:List KeyB) (kind key:Int) (cells:List CellB) (s:SpotB) (m:ModF):Option (List CellB) :=
 match zE pre r key s m with
 | none=>none
 | some plain =>
  if s.sort=77 then (if plain=JL kind (cells.drop s.start) then some cells else none)
  else match xg kind plain with
   | none=>none
   | some l=>if l.length=s.many then some (cells++l) else none
def jK (pre:List UInt8) (r:List KeyB) (kind key:Int) (c:Nat):Option (List CellB)→List SpotB→List ModF→Option (List CellB)
 | none,_,_=>none
 | some cells,s :: L,m :: M=>jK pre r kind key c (if s.c=c then QI pre r kind key cells s m else some cells) L M
 | some cells,_,_=>some cells
def xh (pre:List UInt8) (r:List KeyB) (S:SheetF) (c:Nat):FoundB :=
 if 0 < (jk S.cols c).key∧jy r (jk S.cols c).key=false then ⟨(jk S.cols c).name,(jk S.cols c).kind,(jk S.cols c).key,1,[]⟩
 else match jK pre r (jk S.cols c).kind (jk S.cols c).key c (some []) (qB S) S.mods with
  | none=>⟨(jk S.cols c).name,(jk S.cols c).kind,(jk S.cols c).key,2,[]⟩
  | some cells=>⟨(jk S.cols c).name,(jk S.cols c).kind,(jk S.cols c).key,0,cells⟩
def qO (file pre:List UInt8) (r:List KeyB) (trust:Bool):Int × Option SheetF :=
 if 20 < pre.length then (7,none)
 else if xY r=false then (1,none)
 else match zt file with
  | none=>(9,none)
  | some f =>
   if f.told=true then
    match xW f.foot f.parts f.footer with
    | none=>(9,none)
    | some S =>
     if trust=true then (0,some S)
     else if jy r (f.foot:Int)=false then (8,none)
     else if qw (jl r (f.foot:Int)) f.nonce (qo pre 83 0 0 0++f.footer) f.body=some [] then (0,some S) else (4,none)
   else if jy r (f.foot:Int)=false then (8,none)
   else match qw (jl r (f.foot:Int)) f.nonce (qo pre 70 0 0 0) f.body with
    | none=>(4,none)
    | some footer =>
     match xW f.foot f.parts footer with
     | none=>(9,none)
     | some S=>(0,some S)
end
section
theorem IX:∀ (l:List Nat),(∀ x ∈ l,x < 18446744073709551616)→(l.flatMap uB).length≤10*l.length:=by
 intro l
 induction l with
 | nil=>intro _;simp
 | cons x l ih =>
  intro h
  have h1:=jM x (h x (by simp))
  have h2:=ih (fun y hy=>h y (aJ _ hy))
  rw [a9,ab,aH]
  omega
theorem ZM {foot:Nat} {parts footer:List UInt8} {S:SheetF} (hl:∀ x ∈ jp S.cols 4 true (qB S) S.mods,x < 18446744073709551616) (h:SheetOk foot parts footer S):footer.length≤4200:=by
 have hp:=h.plan
 simp only [qS,au,az] at hp
 have hh:=h.heads
 simp only [jZ,au,az] at hh
 have hr:=h.rows
 have hc:∀ c ∈ S.cols,(qa c).length≤38:=by
  intro c hc
  obtain ⟨k,hk,rfl⟩:=cz.1 hc
  obtain ⟨a,b,c,d⟩:=Qj (Qs hh.1 (ae _) k hk).1
  exact GE (Vq a).2 b ⟨c,d⟩
 have h1:=KH qa 38 S.cols hc
 have h2:=IX _ hl
 have h3:=Qy h
 have hcn:qb S.rows S.plan.group.toNat≤S.rows:=QH (by omega)
 have h4:qb S.rows S.plan.group.toNat*S.cols.length≤60*6:=bx (by omega) hh.2.2
 have u1:=jM S.rows (by omega)
 have u2:=jM S.plan.group.toNat (by omega)
 have u3:=jM S.plan.page.toNat (by omega)
 have u4:=jM S.plan.foot.toNat (by omega)
 have u5:=jM S.cols.length (by omega)
 rw [h.footer]
 unfold qH
 simp only [ab]
 omega
end
end Go.Proofs.YthhpbhpfagoapaaGreat
