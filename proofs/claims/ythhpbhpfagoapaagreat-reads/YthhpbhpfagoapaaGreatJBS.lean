import Derived.Test.YthhpbhpfagoapaaGreatJAA
import Derived.Test.YthhpbhpfagoapaaGreatJBG
namespace Go.Proofs.YthhpbhpfagoapaaGreat
set_option linter.unusedVariables false
set_option linter.unusedSimpArgs false
set_option maxRecDepth 100000
set_option maxHeartbeats 16000000
section
theorem An (R G P g C:Nat):ju R G P g (C+1)=ju R G P g C++jh R G P g C:=by simp [ju,bt]
theorem AL (R G P g c:Nat) (hP:1≤P) (hg:g*G < R) (hG:1≤G):∀ (C j:Nat) (s:SpotB),(ju R G P g C)[j]?=some s→s.sort=77→s.c=c→0 < xN c ((ju R G P g C).take j):=by
 intro C
 induction C with
 | zero=>intro j s h;simp [ju] at h
 | succ C ih =>
  intro j s h hs hsc
  rw [An] at h ⊢
  by_cases hj:j < (ju R G P g C).length
  ·rw [bA hj] at h
   rw [cB (by omega)]
   exact ih j s h hs hsc
  ·rw [aU (by omega)] at h
   rw [List.take_append,xD]
   have hch:jh R G P g C=jo P g C (g*G) (jv R G g) (qb (jv R G g) P)++[⟨77,g,C,0,g*G,jv R G g⟩]:=rfl
   generalize j - (ju R G P g C).length=i at h
   have hpl:=Vx R G P g C hP
   rw [hch] at h hpl ⊢
   generalize hpp:jo P g C (g*G) (jv R G g) (qb (jv R G g) P)=Q at h hpl ⊢
   have hi:Q.length≤i:=by
    apply Nat.le_of_not_lt
    intro hlt
    rw [bA hlt] at h
    have hm:=cA h
    rw [← hpp] at hm
    simp only [jo,bN] at hm
    obtain ⟨p,_,rfl⟩:=hm
    exact absurd (show (80:UInt8)=77 from hs) (by decide)
   have hcC:C=c:=by
    rw [aU hi] at h
    have hm:=cA h
    simp only [cr] at hm
    subst hm
    exact hsc
   subst hcC
   rw [xD] at hpl
   have h0:xN C [⟨77,g,C,0,g*G,jv R G g⟩]=0:=by simp [xN]
   have h1:0 < jv R G g:=by unfold jv;omega
   rw [List.take_append,aC hi,xD]
   omega
theorem DL (R C G P c:Nat) (hc:c < C) (hP:1≤P) (hG:1≤G):∀ n,n≤qb R G→∀ (i:Nat) (s:SpotB),(jW R C G P n)[i]?=some s→s.sort=77→s.c=c→s.start < xN c ((jW R C G P n).take i):=by
 intro n
 induction n with
 | zero=>intro _ i s h;simp [jW] at h
 | succ n ih =>
  intro hn i s h hs hsc
  have hnG:n*G < R:=(QE hG).1 (by omega)
  rw [ZA] at h ⊢
  by_cases hi:i < (jW R C G P n).length
  ·rw [bA hi] at h
   rw [cB (by omega)]
   exact ih (by omega) i s h hs hsc
  ·rw [aU (by omega)] at h
   have hpos:=AL R G P n c hP hnG hG C _ s h hs hsc
   have hmem:=cA h
   simp only [ju,bT,bW] at hmem
   obtain ⟨c',_,hm⟩:=hmem
   have hst:s.start=n*G:=by
    simp only [jh,jo,aM,bN,cr] at hm
    rcases hm with ⟨p,_,rfl⟩|rfl
    ·exact absurd (show (80:UInt8)=77 from hs) (by decide)
    ·rfl
   rw [List.take_append,aC (by omega),xD,VR R C G P c hc hP n (by omega)]
   omega
theorem Ev (pre:List UInt8) (r:List KeyB) (kind key:Int) {R C G P c:Nat} (hc:c < C) (hP:1≤P) (hG:1≤G) {M:List ModF} (hl:M.length=(jI R C G P).length) {i:Nat} {cells:List CellB} (h:jK pre r kind key c (some []) ((jI R C G P).take i) (M.take i)=some cells) :
  cells.length≤R∧∀ s,(jI R C G P)[i]?=some s→s.sort=77→s.c=c→s.start < cells.length:=by
 have h1:=NM pre r kind key c _ _ _ _ (by simp [hl]) (fun s hs=>(ZZ s (bg hs)).symm) h
 refine ⟨(GU pre r kind key hc hP hG hl h).1,fun s hs hm hsc=>?_⟩
 simp only [aR,bK] at h1
 rw [h1]
 exact DL R C G P c hc hP hG (qb R G) (ae _) i s hs hm hsc
end
section
theorem Mb (t:List ColB) (st:Option (List UInt8)) {L:List SpotB} {i:Nat} {s:SpotB} (h:L[i]?=some s):qP t st (L.take (i+1))=((qP t st (L.take i)).1++[(KA (jk t s.c).key (qP t st (L.take i)).2).1],(KA (jk t s.c).key (qP t st (L.take i)).2).2):=by
 rw [cY,h]
 show qP t st (L.take i++[s])=_
 rw [DO]
 rfl
theorem CJ {t:List ColB} {parts rest:List UInt8} {L:List SpotB} {M:List ModF} (h:qP t (some parts) L=(M,some rest)):ModsOk t L M∧parts=jm t L M++rest∧M.length=L.length:=by
 obtain ⟨M1,h1,h2,h3⟩:=Rl t L [] parts rest M h
 rw [aX] at h1
 subst h1
 exact ⟨h2,h3,qY h2⟩
theorem Na {t:List ColB} {L:List SpotB} {i:Nat} {s:SpotB} (h:L[i]?=some s) {M:List ModF} (hM:M.length=i) (m:ModF) :
  jp t 4 true (L.take (i+1)) (M++[m])=jp t 4 true (L.take i) M++(if qM true (L.take i)=true then [4+(jm t (L.take i) M).length] else []):=by
 have hi:i < L.length:=(aA.1 h).1
 rw [cY,h]
 show jp t 4 true (L.take i++[s]) (M++[m])=_
 rw [Jw _ _ _ _ _ _ (by simp;omega)]
 simp [jp]
theorem IK {L:List SpotB}:∀ {k:Nat} {s:SpotB} (b:Bool),L[k]?=some s→qM b (L.take (k+1))=decide (s.sort=77):=by
 induction L with
 | nil=>intro k s b h;simp at h
 | cons x L ih =>
  intro k s b h
  rcases k with _|k
  ·simp at h
   subst h
   simp [qM]
  ·simp at h
   simp only [b8,qM]
   exact ih _ h
end
end Go.Proofs.YthhpbhpfagoapaaGreat
