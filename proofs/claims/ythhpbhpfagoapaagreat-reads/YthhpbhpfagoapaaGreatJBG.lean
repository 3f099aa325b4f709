import Derived.Test.YthhpbhpfagoapaaGreatJAA
import Derived.Test.YthhpbhpfagoapaaGreatJBC
namespace Go.Proofs.YthhpbhpfagoapaaGreat
set_option linter.unusedVariables false
set_option linter.unusedSimpArgs false
set_option maxRecDepth 100000
set_option maxHeartbeats 16000000
section
def KR (pre:List UInt8) (r:List KeyB) (key:Int) (c:Nat):List SpotB→List ModF→List SealB
 | s :: L,m :: M=>(if s.c=c then [⟨jl r key,m.nonce,qo pre s.sort s.g s.c s.p,m.body⟩] else [])++KR pre r key c L M
 | _,_=>[]
def KX (pre:List UInt8) (r:List KeyB) (f:FormF):SealB :=
 ⟨jl r (f.foot:Int),f.nonce,if f.told=true then qo pre 83 0 0 0++f.footer else qo pre 70 0 0 0,f.body⟩
def MG (x:FoundB):Bool:=decide (x.key≠0) && decide (x.state=0)
theorem ZZ {R C G P:Nat}:∀ s ∈ jI R C G P,s.sort=80∨s.sort=77:=by
 intro s hs
 simp only [jI,jW,ju,bT,bW,jh,aM,jo,bN,cr] at hs
 obtain ⟨g,_,c,_,⟨p,_,rfl⟩|rfl⟩:=hs
 ·exact .inl rfl
 ·exact .inr rfl
end
section
def xN (c:Nat):List SpotB→Nat
 | []=>0
 | s :: L=>(if s.c=c∧s.sort=80 then s.many else 0)+xN c L
theorem xD (c:Nat):∀ (L L2:List SpotB),xN c (L++L2)=xN c L+xN c L2:=by
 intro L
 induction L with
 | nil=>intro L2;simp [xN]
 | cons s L ih=>intro L2;simp only [aK,xN,ih];omega
theorem IS (c i:Nat) (L:List SpotB):xN c (L.take i)≤xN c L:=by
 have:=xD c (L.take i) (L.drop i)
 rw [aD] at this
 omega
theorem EK (c P g start n:Nat):∀ k,k*P≤n+P→xN c (jo P g c start n k)=min (k*P) n:=by
 intro k
 induction k with
 | zero=>intro _;simp [jo,xN]
 | succ k ih =>
  intro hk
  rw [bL] at hk ⊢
  rw [QZ,xD,ih (by omega)]
  simp only [xN,and_self,bG]
  unfold jv
  omega
theorem EO (c:Nat):∀ (L:List SpotB),(∀ s ∈ L,s.c≠c)→xN c L=0:=by
 intro L
 induction L with
 | nil=>intro _;rfl
 | cons s L ih =>
  intro h
  have h1:=h s (bo ..)
  simp only [xN,h1,false_and,bU,ih (fun x hx=>h x (aJ _ hx))]
theorem Vx (R G P g c:Nat) (hP:1≤P):xN c (jh R G P g c)=jv R G g:=by
 have h1:=Ew (n:=jv R G g) hP
 unfold jh
 rw [xD,EK _ _ _ _ _ _ h1.2]
 simp only [xN,show ¬ ((77:UInt8)=80) from by decide,and_false,bU]
 omega
theorem En (R G P g c:Nat) (hP:1≤P):∀ C,xN c (ju R G P g C)=if c < C then jv R G g else 0:=by
 intro C
 induction C with
 | zero=>simp [ju,xN]
 | succ C ih =>
  have e:ju R G P g (C+1)=ju R G P g C++jh R G P g C:=by simp [ju,bt]
  rw [e,xD,ih]
  by_cases h:c=C
  ·subst h
   rw [Vx _ _ _ _ _ hP,aj (by omega),aw (by omega)]
   omega
  ·rw [EO c (jh R G P g C) (fun s hs=>by rw [Ua s hs];exact fun e=>h e.symm)]
   by_cases h2:c < C
   ·rw [aw h2,aw (by omega)]
    omega
   ·rw [aj h2,aj (by omega)]
theorem ZA (R C G P n:Nat):jW R C G P (n+1)=jW R C G P n++ju R G P n C:=by simp [jW,bt]
theorem VR (R C G P c:Nat) (hc:c < C) (hP:1≤P):∀ n,n*G≤R+G→xN c (jW R C G P n)=min (n*G) R:=by
 intro n
 induction n with
 | zero=>intro _;simp [jW,xN]
 | succ n ih =>
  intro hn
  rw [bL] at hn ⊢
  rw [ZA,xD,ih (by omega),En _ _ _ _ _ hP,aw hc]
  unfold jv
  omega
theorem DX (R C G P c:Nat) (hc:c < C) (hP:1≤P) (hG:1≤G):xN c (jI R C G P)=R:=by
 have h1:=Ew (n:=R) hG
 unfold jI
 rw [VR R C G P c hc hP _ h1.2]
 omega
theorem Mj (R C G P c:Nat) (hc:c < C) (hP:1≤P) (hG:1≤G):∀ n,n≤qb R G→∀ (i:Nat) (s:SpotB),(jW R C G P n)[i]?=some s→s.sort=77→s.start≤xN c ((jW R C G P n).take i):=by
 intro n
 induction n with
 | zero=>intro _ i s h;simp [jW] at h
 | succ n ih =>
  intro hn i s h hs
  have hnG:n*G < R:=(QE hG).1 (by omega)
  rw [ZA] at h ⊢
  by_cases hi:i < (jW R C G P n).length
  ·rw [bA hi] at h
   rw [cB (by omega)]
   exact ih (by omega) i s h hs
  ·rw [aU (by omega)] at h
   have hmem:=cA h
   simp only [ju,bT,bW] at hmem
   obtain ⟨c',_,hm⟩:=hmem
   have hst:s.start=n*G:=by
    simp only [jh,jo,aM,bN,cr] at hm
    rcases hm with ⟨p,_,rfl⟩|rfl
    ·exact absurd (show (80:UInt8)=77 from hs) (by decide)
    ·rfl
   rw [List.take_append,aC (by omega),xD,VR R C G P c hc hP n (by omega)]
   omega
theorem NM (pre:List UInt8) (r:List KeyB) (kind key:Int) (c:Nat):∀ (L:List SpotB) (M:List ModF) (x y:List CellB),M.length=L.length→(∀ s ∈ L,s.sort=77∨s.sort=80)→jK pre r kind key c (some x) L M=some y→y.length=x.length+xN c L:=by
 intro L
 induction L with
 | nil=>intro M x y hl _ h;cases M<;>simp [jK] at h<;>simp [h,xN]
 | cons s L ih =>
  intro M x y hl hso h
  rcases M with _|⟨m,M⟩
  ·simp at hl
  simp only [jK] at h
  have hs:=hso s (bo ..)
  have ih':=fun x'=>ih M x' y (by simpa using hl) (fun s hs=>hso s (aJ _ hs))
  simp only [xN]
  by_cases hc:s.c=c
  ·rw [aw hc] at h
   cases hst:QI pre r kind key x s m with
   | none=>rw [hst,xx] at h;cases h
   | some x' =>
    rw [hst] at h
    have:=ih' x' h
    unfold QI at hst
    split at hst
    ·cases hst
    ·rcases hs with hs|hs
     ·rw [aw hs] at hst
      split at hst
      ·cases hst
       rw [aj (by rw [hs];rintro ⟨_,h⟩;exact absurd h (by decide))]
       omega
      ·cases hst
     ·rw [aj (by rw [hs];decide)] at hst
      split at hst
      ·cases hst
      ·split at hst
       ·rename_i hmany
        cases hst
        rw [aw ⟨hc,hs⟩]
        rw [ab] at this
        omega
       ·cases hst
  ·rw [aj hc] at h
   have:=ih' x h
   rw [aj (fun h=>hc h.1)]
   omega
theorem IL (pre:List UInt8) (r:List KeyB) (kind key:Int) (c:Nat) {L:List SpotB} {M:List ModF} {i:Nat} {s:SpotB} {m:ModF} (hs:L[i]?=some s) (hm:M[i]?=some m) {cells:List CellB} (h:jK pre r kind key c (some []) (L.take i) (M.take i)=some cells) :
  jK pre r kind key c (some []) (L.take (i+1)) (M.take (i+1))=if s.c=c then QI pre r kind key cells s m else some cells:=by
 have h1:i < L.length:=by rcases aA.1 hs with ⟨h,_⟩;exact h
 have h2:i < M.length:=by rcases aA.1 hm with ⟨h,_⟩;exact h
 rw [cY,cY,hs,hm,zR _ _ _ _ _ _ _ _ _ _ (by simp;omega),h]
 show jK pre r kind key c (if s.c=c then QI pre r kind key cells s m else some cells) [] []=_
 generalize (if s.c=c then QI pre r kind key cells s m else some cells)=x
 cases x<;>rfl
theorem Zh (pre:List UInt8) (r:List KeyB) (kind key:Int) (c:Nat) {L:List SpotB} {M:List ModF} (hl:M.length=L.length) {i:Nat} (h:jK pre r kind key c (some []) (L.take i) (M.take i)=none):jK pre r kind key c (some []) L M=none:=by
 have:=zR pre r kind key c (L.take i) (M.take i) (L.drop i) (M.drop i) (some []) (by simp [hl])
 rw [aD,aD,h,xx] at this
 exact this
theorem GU (pre:List UInt8) (r:List KeyB) (kind key:Int) {R C G P c:Nat} (hc:c < C) (hP:1≤P) (hG:1≤G) {M:List ModF} (hl:M.length=(jI R C G P).length) {i:Nat} {cells:List CellB} (h:jK pre r kind key c (some []) ((jI R C G P).take i) (M.take i)=some cells) :
  cells.length≤R∧∀ s,(jI R C G P)[i]?=some s→s.sort=77→s.start≤cells.length:=by
 have h1:=NM pre r kind key c _ _ _ _ (by simp [hl]) (fun s hs=>(ZZ s (bg hs)).symm) h
 have h2:=IS c i (jI R C G P)
 rw [DX R C G P c hc hP hG] at h2
 simp only [aR,bK] at h1
 refine ⟨by omega,fun s hs hm=>?_⟩
 have:=Mj R C G P c hc hP hG (qb R G) (ae _) i s hs hm
 rw [h1]
 exact this
end
end Go.Proofs.YthhpbhpfagoapaaGreat
