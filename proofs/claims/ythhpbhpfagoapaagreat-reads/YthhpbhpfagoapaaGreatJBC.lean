import Derived.Test.YthhpbhpfagoapaaGreatJAA
import Derived.Test.YthhpbhpfagoapaaGreatJBD
namespace Go.Proofs.YthhpbhpfagoapaaGreat
set_option linter.unusedVariables false
set_option linter.unusedSimpArgs false
set_option maxRecDepth 100000
set_option maxHeartbeats 16000000
section
theorem zZ {t:List ColB}:∀ (L:List SpotB) (M:List ModF) (L2:List SpotB) (M2:List ModF),M.length=L.length→jm t (L++L2) (M++M2)=jm t L M++jm t L2 M2:=by
 intro L
 induction L with
 | nil=>intro M L2 M2 h;rw [ao h];simp [jm]
 | cons s L ih =>
  intro M L2 M2 h
  cases M with
  | nil=>simp at h
  | cons m M =>
   simp only [aK,jm,af]
   rw [ih M L2 M2 (by simpa using h)]
theorem ModsOk.append {t:List ColB} {L:List SpotB} {M:List ModF} {L2:List SpotB} {M2:List ModF} (h:ModsOk t L M) (h2:ModsOk t L2 M2):ModsOk t (L++L2) (M++M2):=by
 induction h using ModsOk.ind with
 | nil=>exact h2
 | cons hm _ ih=>exact .cons hm ih
theorem NZ {t:List ColB} {L:List SpotB}:∀ {L2:List SpotB} {M:List ModF},ModsOk t (L++L2) M→∃ M1 M2,M=M1++M2∧ModsOk t L M1∧ModsOk t L2 M2:=by
 induction L with
 | nil=>intro L2 M h;exact ⟨[],M,rfl,.nil,h⟩
 | cons s L ih =>
  intro L2 M h
  cases h using ModsOk.ind with
  | cons hm h2 =>
   obtain ⟨M1,M2,h3,h4,h5⟩:=ih h2
   exact ⟨_ :: M1,M2,by rw [h3];rfl,.cons hm h4,h5⟩
theorem Jw {t:List ColB}:∀ (L:List SpotB) (M:List ModF) (L2:List SpotB) (M2:List ModF) (n:Nat) (b:Bool),M.length=L.length→jp t n b (L++L2) (M++M2)=jp t n b L M++jp t (n+(jm t L M).length) (qM b L) L2 M2:=by
 intro L
 induction L with
 | nil=>intro M L2 M2 n b h;rw [ao h];simp [jp,jm,qM]
 | cons s L ih =>
  intro M L2 M2 n b h
  cases M with
  | nil=>simp at h
  | cons m M =>
   simp only [aK,jm,jp,af,qM,ab]
   rw [ih M L2 M2 _ _ (by simpa using h),bI]
def xJ (Q:Nat→Nat→List ModF) (g C:Nat):List ModF:=(List.range C).flatMap fun c=>Q g c
def xi (Q:Nat→Nat→List ModF) (C n:Nat):List ModF:=(List.range n).flatMap fun g=>xJ Q g C
theorem JN (Q:Nat→Nat→List ModF) (g C:Nat):xJ Q g (C+1)=xJ Q g C++Q g C:=by simp [xJ,bt]
theorem Xh (Q:Nat→Nat→List ModF) (C n:Nat):xi Q C (n+1)=xi Q C n++xJ Q n C:=by simp [xi,bt]
theorem ZY {t:List ColB} {Q:Nat→Nat→List ModF} {R G P g:Nat}:∀ {C:Nat},(∀ c,c < C→ModsOk t (jh R G P g c) (Q g c))→ModsOk t (ju R G P g C) (xJ Q g C):=by
 intro C
 induction C with
 | zero=>intro _;exact .nil
 | succ C ih=>intro h;rw [JN,Qk];exact (ih (fun c hc=>h c (by omega))).append (h C (by omega))
theorem Yd {t:List ColB} {Q:Nat→Nat→List ModF} {R C G P:Nat}:∀ {n:Nat},(∀ g,g < n→∀ c,c < C→ModsOk t (jh R G P g c) (Q g c))→ModsOk t (jW R C G P n) (xi Q C n):=by
 intro n
 induction n with
 | zero=>intro _;exact .nil
 | succ n ih=>intro h;rw [Xh,Qn];exact (ih (fun g hg=>h g (by omega))).append (ZY (h n (by omega)))
theorem VH {t:List ColB}:∀ (L:List SpotB) (M:List ModF) (n:Nat),(∀ s ∈ L,s.sort=80)→jp t n false L M=[]:=by
 intro L
 induction L with
 | nil=>intro M n _;cases M<;>rfl
 | cons s L ih =>
  intro M n h
  cases M with
  | nil=>rfl
  | cons m M =>
   have hs:=h s (by simp)
   simp only [jp,hs]
   rw [show decide ((80:UInt8)=77)=false from by decide,ih M _ (fun x hx=>h x (aJ _ hx))]
   rfl
theorem VM {t:List ColB} {R G P g c n:Nat} {M:List ModF} (h:M.length=(jh R G P g c).length):jp t n true (jh R G P g c) M=[n]:=by
 cases hp:jo P g c (g*G) (jv R G g) (qb (jv R G g) P) with
 | nil =>
  unfold jh at h ⊢
  rw [hp] at h ⊢
  obtain ⟨m,rfl⟩:=List.length_eq_one_iff.1 h
  rfl
 | cons s L =>
  have hsort:=XW P g c (g*G) (jv R G g) (qb (jv R G g) P)
  rw [hp] at hsort
  unfold jh at h ⊢
  rw [hp] at h ⊢
  obtain ⟨M0,m,rfl⟩:∃ M0 m,M=M0++[m]:=by
   have hne:M≠[]:=by intro e;rw [e] at h;simp at h
   exact ⟨M.dropLast,M.getLast hne,(cU hne).symm⟩
  have hl:M0.length=(s :: L).length:=by simp at h ⊢;omega
  rw [Jw _ _ _ _ _ _ hl]
  cases M0 with
  | nil=>simp at hl
  | cons m0 M0 =>
   have hm:qM true (s :: L)=false:=Kz _ hsort (by simp) true
   simp only [jp]
   rw [hm,show decide (s.sort=77)=false from by rw [hsort s (by simp)];decide,VH L M0 _ (fun x hx=>hsort x (aJ _ hx))]
   rfl
theorem xx (pre:List UInt8) (r:List KeyB) (kind key:Int) (c:Nat) (L:List SpotB) (M:List ModF):jK pre r kind key c none L M=none:=by cases L<;>cases M<;>rfl
theorem zR (pre:List UInt8) (r:List KeyB) (kind key:Int) (c:Nat):∀ (L:List SpotB) (M:List ModF) (L2:List SpotB) (M2:List ModF) (x:Option (List CellB)),M.length=L.length →
  jK pre r kind key c x (L++L2) (M++M2)=jK pre r kind key c (jK pre r kind key c x L M) L2 M2:=by
 intro L
 induction L with
 | nil=>intro M L2 M2 x h;rw [ao h];cases x<;>simp [jK,xx]
 | cons s L ih =>
  intro M L2 M2 x h
  cases M with
  | nil=>simp at h
  | cons m M =>
   cases x with
   | none=>simp [xx]
   | some cells =>
    simp only [aK,jK]
    exact ih M L2 M2 _ (by simpa using h)
theorem GD (pre:List UInt8) (r:List KeyB) (kind key:Int) (c:Nat):∀ (L:List SpotB) (M:List ModF) (x:Option (List CellB)),(∀ s ∈ L,s.c≠c)→jK pre r kind key c x L M=x:=by
 intro L
 induction L with
 | nil=>intro M x _;cases x<;>cases M<;>rfl
 | cons s L ih =>
  intro M x h
  cases x with
  | none=>exact xx ..
  | some cells =>
   cases M with
   | nil=>rfl
   | cons m M =>
    simp only [jK]
    rw [aj (h s (by simp))]
    exact ih M _ (fun y hy=>h y (aJ _ hy))
theorem Ua {R G P g c:Nat}:∀ s ∈ jh R G P g c,s.c=c:=by
 intro s hs
 simp only [jh,jo,aM,bN,bW,cr] at hs
 rcases hs with ⟨p,_,rfl⟩|rfl<;>rfl
theorem YL {t:List ColB} {Q:Nat→Nat→List ModF} {R G P g:Nat} (pre:List UInt8) (r:List KeyB) (kind key:Int) (c:Nat) (x:Option (List CellB)):∀ {C:Nat},(∀ i,i < C→ModsOk t (jh R G P g i) (Q g i)) →
  jK pre r kind key c x (ju R G P g C) (xJ Q g C)=if c < C then jK pre r kind key c x (jh R G P g c) (Q g c) else x:=by
 intro C
 induction C with
 | zero=>intro _;simp [ju,xJ];cases x<;>rfl
 | succ C ih =>
  intro h
  rw [JN,Qk,zR _ _ _ _ _ _ _ _ _ _ (qY (ZY (fun i hi=>h i (by omega)))),ih (fun i hi=>h i (by omega))]
  by_cases hc:c < C
  ·rw [aw hc,aw (by omega),GD]
   intro s hs
   rw [Ua s hs];omega
  ·rw [aj hc]
   by_cases he:c=C
   ·subst he;rw [aw (by omega)]
   ·rw [aj (by omega),GD]
    intro s hs
    rw [Ua s hs];omega
theorem VX {t:List ColB} {Q:Nat→Nat→List ModF} {R C G P:Nat} (pre:List UInt8) (r:List KeyB) (kind key:Int) {c:Nat} (hc:c < C) (x:Option (List CellB)) {n:Nat} (h:∀ g,g < n+1→∀ i,i < C→ModsOk t (jh R G P g i) (Q g i)) :
  jK pre r kind key c x (jW R C G P (n+1)) (xi Q C (n+1))=jK pre r kind key c (jK pre r kind key c x (jW R C G P n) (xi Q C n)) (jh R G P n c) (Q n c):=by
 rw [Xh,Qn,zR _ _ _ _ _ _ _ _ _ _ (qY (Yd (fun g hg=>h g (by omega)))),YL pre r kind key c _ (h n (by omega)),aw hc]
theorem Uz (pre:List UInt8) (r:List KeyB) (kind key:Int) (s:SpotB) (m:ModF) (cells:List CellB):jK pre r kind key s.c (some cells) [s] [m]=QI pre r kind key cells s m:=by
 simp only [jK,bG]
 cases QI pre r kind key cells s m<;>rfl
theorem EG (pre:List UInt8) (r:List KeyB) (kind key:Int) (c:Nat) (cells:List CellB):∀ (L:List SpotB) (M:List ModF) (x:List CellB),(∀ s ∈ L,s.sort=80)→jK pre r kind key c (some (cells++x)) L M=(jK pre r kind key c (some x) L M).map (cells++·):=by
 intro L
 induction L with
 | nil=>intro M x _;cases M<;>rfl
 | cons s L ih =>
  intro M x h
  cases M with
  | nil=>rfl
  | cons m M =>
   simp only [jK]
   by_cases hc:s.c=c
   ·rw [aw hc,aw hc]
    have hs:¬ s.sort=77:=by rw [h s (by simp)];decide
    unfold QI
    simp only [aj hs]
    cases zE pre r key s m with
    | none=>simp [xx]
    | some plain =>
     dsimp only
     cases hu:xg kind plain with
     | none=>simp [xx]
     | some l =>
      dsimp only
      by_cases hm:l.length=s.many
      ·rw [aw hm,aw hm,af];exact ih M _ (fun y hy=>h y (aJ _ hy))
      ·rw [aj hm,aj hm];simp [xx]
   ·rw [aj hc,aj hc]
    exact ih M _ (fun y hy=>h y (aJ _ hy))
def qF (R G P g c:Nat):List SpotB:=jo P g c (g*G) (jv R G g) (qb (jv R G g) P)
def QR (R G g c:Nat):SpotB:=⟨77,g,c,0,g*G,jv R G g⟩
theorem Up (R G P g c:Nat):jh R G P g c=qF R G P g c++[QR R G g c]:=rfl
theorem UW (pre:List UInt8) (r:List KeyB) (kind key:Int) {R G P g c:Nat} (cells:List CellB) (hl:cells.length=g*G) (mp:List ModF) (mm:ModF) (hm:mp.length=(qF R G P g c).length) :
  jK pre r kind key c (some cells) (jh R G P g c) (mp++[mm])=(jK pre r kind key c (some []) (qF R G P g c) mp).bind fun part=>if zE pre r key (QR R G g c) mm=some (JL kind part) then some (cells++part) else none:=by
 rw [Up,zR _ _ _ _ _ _ _ _ _ _ hm]
 have h1:=EG pre r kind key c cells (qF R G P g c) mp [] (XW _ _ _ _ _ _)
 rw [aB] at h1
 rw [h1]
 cases jK pre r kind key c (some []) (qF R G P g c) mp with
 | none=>simp [xx]
 | some part =>
  simp only [Option.map_some,cN]
  have:=Uz pre r kind key (QR R G g c) mm (cells++part)
  rw [show (QR R G g c).c=c from rfl] at this
  rw [this]
  unfold QI
  have hd:(cells++part).drop (QR R G g c).start=part:=by
   show (cells++part).drop (g*G)=part
   rw [← hl,List.drop_left]
  rw [hd]
  cases zE pre r key (QR R G g c) mm with
  | none=>simp
  | some plain=>simp only [aP,aw (show (QR R G g c).sort=77 from rfl)]
theorem VP (pre:List UInt8) (r:List KeyB) (kind key:Int) {P g c start n:Nat}:∀ (k:Nat) (mp:List ModF) (part:List CellB),mp.length=k→k*P≤n+P→jK pre r kind key c (some []) (jo P g c start n k) mp=some part→part.length=min (k*P) n:=by
 intro k
 induction k with
 | zero=>intro mp part hl _ h;rw [ao hl] at h;simp [jo,jK] at h;subst h;simp
 | succ k ih =>
  intro mp part hl hk h
  obtain ⟨M0,m,rfl⟩:∃ M0 m,mp=M0++[m]:=by
   have hne:mp≠[]:=by intro e;rw [e] at hl;simp at hl
   exact ⟨mp.dropLast,mp.getLast hne,(cU hne).symm⟩
  have hl0:M0.length=k:=by simp at hl;omega
  rw [QZ,zR _ _ _ _ _ _ _ _ _ _ (by rw [hl0];simp [jo])] at h
  rw [bL] at hk ⊢
  cases hc:jK pre r kind key c (some []) (jo P g c start n k) M0 with
  | none=>rw [hc,xx] at h;cases h
  | some x =>
   rw [hc] at h
   have hx:=ih M0 x hl0 (by omega) hc
   have:=Uz pre r kind key ⟨80,g,c,k,start+k*P,jv n P k⟩ m x
   simp only at this
   rw [this] at h
   unfold QI at h
   simp only [show ¬ ((80:UInt8)=77) from by decide,bU] at h
   split at h
   ·cases h
   ·split at h
    ·cases h
    ·split at h
     ·rename_i hmany
      cases h
      rw [ab,hx,hmany]
      unfold jv
      omega
     ·cases h
theorem Ew {n size:Nat} (hs:1≤size):n≤qb n size*size∧qb n size*size≤n+size:=by
 have h1:=(QE (n:=n) (i:=qb n size) hs)
 have h2:¬ qb n size*size < n:=fun h=>by have:=h1.2 h;omega
 refine ⟨by omega,?_⟩
 rcases cQ (qb n size) with h0|h0
 ·rw [h0];omega
 ·have h3:=(QE (n:=n) (i:=qb n size - 1) hs).1 (by omega)
  have h4:(qb n size - 1)*size+size=qb n size*size:=by rw [← bL];congr 1;omega
  omega
theorem Kq (pre:List UInt8) (r:List KeyB) (kind key:Int) {R G P g c:Nat} (hP:1≤P) {mp:List ModF} {part:List CellB} (hm:mp.length=(qF R G P g c).length) (h:jK pre r kind key c (some []) (qF R G P g c) mp=some part):part.length=jv R G g:=by
 have hk:mp.length=qb (jv R G g) P:=by rw [hm];simp [qF,jo]
 have h1:=Ew (n:=jv R G g) hP
 have:=VP pre r kind key _ mp part hk h1.2 h
 omega
theorem RF {t:List ColB} {Q:Nat→Nat→List ModF} {R C G P:Nat} (pre:List UInt8) (r:List KeyB) (kind key:Int) {c:Nat} (hc:c < C) (hP:1≤P):∀ {n:Nat} {cells:List CellB},(∀ g,g < n→∀ i,i < C→ModsOk t (jh R G P g i) (Q g i))→n*G≤R+G →
  jK pre r kind key c (some []) (jW R C G P n) (xi Q C n)=some cells→cells.length=min (n*G) R:=by
 intro n
 induction n with
 | zero=>intro cells _ _ h;simp [jW,jK] at h;subst h;simp
 | succ n ih =>
  intro cells h hn e
  rw [VX pre r kind key hc _ h] at e
  rw [bL] at hn ⊢
  cases hx:jK pre r kind key c (some []) (jW R C G P n) (xi Q C n) with
  | none=>rw [hx,xx] at e;cases e
  | some x =>
   rw [hx] at e
   have hl:=ih (fun g hg=>h g (by omega)) (by omega) hx
   have hq:=qY (h n (by omega) c hc)
   obtain ⟨mp,mm,hmm⟩:∃ mp mm,Q n c=mp++[mm]:=by
    have hne:Q n c≠[]:=by intro e;rw [e] at hq;simp [jh] at hq
    exact ⟨(Q n c).dropLast,(Q n c).getLast hne,(cU hne).symm⟩
   have hmp:mp.length=(qF R G P n c).length:=by rw [hmm,Up] at hq;simpa using hq
   rw [hmm,UW pre r kind key x (by omega) mp mm hmp] at e
   cases hp:jK pre r kind key c (some []) (qF R G P n c) mp with
   | none=>rw [hp] at e;simp at e
   | some part =>
    rw [hp] at e
    have hpl:=Kq pre r kind key hP hmp hp
    simp only [cN] at e
    split at e
    ·cases e
     rw [ab,hl,hpl]
     unfold jv
     omega
    ·cases e
end
section
theorem Nw {sec non ext b p:List UInt8} (h:qw sec non ext b=some p):b=XU sec non ext p∧b.length≤5002:=by
 unfold qw at h
 split at h
 ·rename_i hc
  cases h
  exact ⟨hc.2.2.symm,hc.1⟩
 ·cases h
theorem GoodJ.plains {j:JobB} {r:List KeyB} (h:GoodJ j r):∀ s ∈ Xr j,(XN j.table s).length≤5000:=by
 intro s hs
 have hi:=h.spotIn s hs
 have:=VW h.table hi.col hi.few.2.2.2.2
 omega
def Plains (t:List ColB) (pre:List UInt8) (r:List KeyB) (c:Nat):List SpotB→List ModF→Prop
 | [],[]=>True
 | s :: L,m :: M=>(s.c=c→zE pre r (jk t c).key s m=some (XN t s))∧Plains t pre r c L M
 | _,_=>False
theorem Plains.nil {t:List ColB} {pre:List UInt8} {r:List KeyB} {c:Nat}:Plains t pre r c [] []:=trivial
theorem Plains.cons {t:List ColB} {pre:List UInt8} {r:List KeyB} {c:Nat} {s:SpotB} {L:List SpotB} {m:ModF} {M:List ModF} (a:s.c=c→zE pre r (jk t c).key s m=some (XN t s)) (b:Plains t pre r c L M):Plains t pre r c (s :: L) (m :: M):=bH a b
theorem Plains.ind {t:List ColB} {pre:List UInt8} {r:List KeyB} {c:Nat} {motive:(L:List SpotB)→(M:List ModF)→Plains t pre r c L M→Prop} (nil:motive [] [] .nil)
  (cons:∀ {s:SpotB} {L:List SpotB} {m:ModF} {M:List ModF} (a:s.c=c→zE pre r (jk t c).key s m=some (XN t s)) (b:Plains t pre r c L M),motive L M b→motive (s :: L) (m :: M) (.cons a b)):∀ {L:List SpotB} {M:List ModF} (h:Plains t pre r c L M),motive L M h
 | [],[],_=>nil
 | _ :: _,_ :: _,h=>cons h.1 h.2 (Plains.ind nil cons h.2)
 | [],_ :: _,h=>absurd h id
 | _ :: _,[],h=>absurd h id
end
end Go.Proofs.YthhpbhpfagoapaaGreat
