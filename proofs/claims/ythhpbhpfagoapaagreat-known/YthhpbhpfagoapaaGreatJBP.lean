import Derived.Test.YthhpbhpfagoapaaGreatJAA
import Derived.Test.YthhpbhpfagoapaaGreatJBI
namespace Go.Proofs.YthhpbhpfagoapaaGreat
set_option linter.unusedVariables false
set_option linter.unusedSimpArgs false
set_option maxRecDepth 100000
set_option maxHeartbeats 16000000
section
open Go.RowKit
structure BytesAt (w:World) (g:Nat) (l:List UInt8):Prop where
 lt:g < w.heap.size
 cell:∀ j (h:j < l.length),w.cell? ⟨g,j,none⟩=some (.int .u8 ((l[j]).toNat:Int))
 free:∀ j,j < l.length→w.frozen? ⟨g,j,none⟩=false
theorem BytesAt.set {w:World} {g:Nat} {l:List UInt8} (h:BytesAt w g l) (i:Nat) (hi:i < l.length) (u:UInt8):BytesAt (w.setCell ⟨g,i,none⟩ (.int .u8 (u.toNat:Int))) g (l.set i u):=by
 refine ⟨by simpa using h.lt,fun j hj=>?_,fun j hj=>?_⟩
 ·have hj':j < l.length:=by simpa using hj
  by_cases e:j=i
  ·subst e
   rw [List.getElem_set_self]
   exact World.cell?_setCell_same _ _ _ (h.cell j hj')
  ·rw [List.getElem_set_ne (fun e'=>e e'.symm),World.cell?_setCell_other _ _ _ _ (by intro h;simp only [Addr.mk.injEq] at h;omega)]
   exact h.cell j hj'
 ·have hj':j < l.length:=by simpa using hj
  rw [World.frozen?_setCell]
  exact h.free j hj'
theorem BytesAt.later {w w':World} {g:Nat} {l:List UInt8} (h:BytesAt w g l) (hb:Below w.heap.size w w'):BytesAt w' g l :=
 ⟨Nat.lt_of_lt_of_le h.lt hb.size,fun j hj=>(hb.cell (p:=⟨g,j,none⟩) h.lt).trans (h.cell j hj),fun j hj=>(hb.frozen (p:=⟨g,j,none⟩) h.lt).trans (h.free j hj)⟩
end
section
open Go.RowKit
theorem Yi (c:Int):xG (jL c 0)=true∧(∀ n:Int,1≤n→n≤5→js (jL c 0) n=true)∧(jL c 0).length=5∧∀ x ∈ jL c 0,DP x:=by
 have hz:∀ n,qn 0 n=false:=by
  intro n
  have h:∀ x:Int,bits .and .i64 0 x=0:=by
   intro x
   show IntKind.i64.wrap ((BitVec.ofInt 64 0 &&& BitVec.ofInt 64 x).toNat:Nat)=0
   simp
   decide
  unfold qn
  rw [h]
  rfl
 have e:jL c 0=[⟨1,qZ c 1⟩,⟨2,qZ c 2⟩,⟨3,qZ c 3⟩,⟨4,qZ c 4⟩,⟨5,qZ c 5⟩]:=by
  simp [jL,Jj,hz]
 rw [e]
 have l:=fun n=>XB c n
 refine ⟨?_,?_,rfl,?_⟩
 ·simp [xG,XE,Qn,js,l]
 ·intro n h1 h5
  have:n=1∨n=2∨n=3∨n=4∨n=5:=by omega
  rcases this with rfl|rfl|rfl|rfl|rfl<;>simp [js]
 ·intro x hx
  simp only [List.mem_cons,List.not_mem_nil,or_false] at hx
  rcases hx with rfl|rfl|rfl|rfl|rfl<;>exact ⟨by rw [l];decide,by dsimp only;omega,by dsimp only;omega⟩
theorem Rk {raw:List Int} {pre:List UInt8} {c:Int} {t:List ColB} (hlen:t.length=zI raw) (ht:∀ k (hk:k < t.length),(t[k]).name=QB k∧(t[k]).kind=QG raw k∧(t[k]).key=qe (atB raw (10+k)) 5)
  (hc:∀ x ∈ t,x.cells.length=qr raw∧∀ y ∈ x.cells,qM x.kind y=true∧QT y.int):GoodJ ⟨t,KN raw,pre.take 20,qe (atB raw 2) 65536⟩ (jL c 0):=by
 obtain ⟨h1,h4⟩:=Zp raw
 have hr:=Ze raw
 have hd:=qG (atB raw 2) 65536 (by decide)
 obtain ⟨r1,r2,_,_⟩:=Yi c
 have hkey:∀ k,0≤qe (atB raw (10+k)) 5∧qe (atB raw (10+k)) 5 < 5:=fun k=>qG _ 5 (by decide)
 refine ⟨To t (qr raw) (by omega) (by omega) (by omega) (fun k hk=>?_) hc,As raw,?_,⟨by simp only;omega,by simp only;omega⟩,r1,?_⟩
 ·obtain ⟨a,b,d⟩:=ht k hk
  have:=hkey k
  exact ⟨a,by rw [b];exact Zo raw k,by rw [d];omega,by rw [d];omega⟩
 ·simp only [List.length_take];omega
 ·simp only [ZM,Bool.or_eq_false_iff,Bool.not_eq_false',List.any_eq_false,Bool.and_eq_true,decide_eq_true_eq,Bool.not_eq_true']
  refine ⟨r2 5 (by decide) (by decide),fun x hx=>?_⟩
  obtain ⟨k,hk,rfl⟩:=List.mem_iff_getElem.1 hx
  rw [(ht k hk).2.2]
  have:=hkey k
  rintro ⟨h0,h⟩
  rw [r2 _ (by omega) (by omega)] at h
  cases h
theorem QN (raw:List Int) (pre:List UInt8) (c:Int) (hr:∀ x ∈ raw,QT x):GoodJ (qg raw pre) (jL c 0):=by
 refine Rk (QY _ _) (fun k hk=>?_) (fun x hx=>?_)
 ·rw [Zc];exact ⟨rfl,rfl,rfl⟩
 ·obtain ⟨k,hk,rfl⟩:=List.mem_iff_getElem.1 hx
  rw [Zc]
  refine ⟨by simp [Xq],fun y hy=>?_⟩
  simp only [Xq,List.mem_map,List.mem_range] at hy
  obtain ⟨m,_,rfl⟩:=hy
  exact YR _ _ (Zo raw k) (RE raw _ hr)
end
section
open Go.RowKit
theorem Ro {w:World} {base n:Nat} {v:Value} {c without:Int} (h:w.ownsRow base 63 2 v n (Zz (Jj c without 5))) (hok:∀ x ∈ jL c without,DP x) :
  ∃ a cap,v=.slice a (jL c without).length cap∧LiesK w a (jL c without):=by
 have hk:Zz (Jj c without 5)=(jL c without).flatMap fun x=>[.int .i64 x.number,strB x.secret]:=by
  simp [Zz,jL,List.flatMap_map]
 rw [hk] at h
 have hlen:=VK (fun x:KeyB=>[Value.int .i64 x.number,strB x.secret]) 2 (fun _=>rfl) (jL c without)
 have hn:n=(jL c without).length:=by have:=h.1;rw [hlen] at this;omega
 subst hn
 rcases h.2 with ⟨rfl,h0⟩|⟨g,cap,cur,rfl,_,hg,_⟩
 ·refine ⟨none,0,by rw [h0],hok,fun hne=>absurd (List.eq_nil_of_length_eq_zero h0) hne⟩
 ·refine ⟨_,_,rfl,hok,fun _=>⟨g,0,rfl,(h.lt g rfl).2,fun j hj=>?_⟩⟩
  have f1:=QA (fun x:KeyB=>[Value.int .i64 x.number,strB x.secret]) 2 (fun _=>rfl) (jL c without) j 0 hj (by decide)
  have f2:=QA (fun x:KeyB=>[Value.int .i64 x.number,strB x.secret]) 2 (fun _=>rfl) (jL c without) j 1 hj (by decide)
  simp only [Nat.zero_add]
  exact ⟨by rw [h.cellAt (j*2) (by omega)];exact f1,by rw [h.cellAt (j*2+1) (by omega)];exact f2⟩
theorem Dh {w:World} {base:Nat} {tv:Value} {P:List (ColB × Value)} {j:JobB} {r:List KeyB} (h:RowsT w base tv P) (hP:P.map Prod.fst=j.table) (hg:GoodJ j r) :
  ∃ a cap,tv=.slice a j.table.length cap∧LiesJ w a cap j:=by
 have hlen:P.length=j.table.length:=by rw [← hP,List.length_map]
 obtain ⟨a,cap,rfl,hc,hl⟩:=h.lies (by
  intro p hp
  obtain ⟨k,hk,rfl⟩:=List.mem_iff_getElem.1 hp
  have hk':k < j.table.length:=by omega
  have e:(P[k]).1=j.table[k]:=by
   have:(P.map Prod.fst)[k]'(by rw [List.length_map];exact hk)=j.table[k]:=by simp only [hP]
   simpa using this
  obtain ⟨n1,n2,n3,n4⟩:=hg.table.head k hk'
  obtain ⟨c1,c2,c3⟩:=hg.table.cells k hk'
  rw [e]
  refine ⟨⟨by have:=(ZF n1).2;unfold maxLen;omega,⟨by omega,by omega⟩,⟨by omega,by omega⟩⟩,fun x hx=>?_,by omega⟩
  obtain ⟨s1,s2,s3⟩:=c3 x hx
  exact ⟨s1,s2,by unfold maxLen;omega⟩)
 rw [hP] at hl
 have hp:=hg.sizes
 have hpl:=hg.plan
 simp only [qB,Bool.and_eq_true,decide_eq_true_eq] at hpl
 have h6:=hg.table.few.2
 have hd:=hg.draw
 have hpr:=hg.pre
 exact ⟨a,cap,by rw [hlen],hl,by unfold maxLen;omega,by omega,by unfold maxLen;omega,⟨by omega,by omega⟩,⟨by omega,by omega⟩,⟨by omega,by omega⟩,⟨by omega,by omega⟩⟩
end
section
open Go.RowKit
abbrev jobC (tv:Value) (j:JobB):Array Value:=#[tv,.int .i64 j.plan.group,.int .i64 j.plan.page,.int .i64 j.plan.foot,.bool j.plan.told,strB j.pre,.int .i64 j.draw]
theorem EQ {w:World} {base n tc:Nat} {ta:Option Addr} {P:List (ColB × Value)} {j:JobB} {r:List KeyB} (h:RowsT w base (.slice ta n tc) P) (hP:P.map Prod.fst=j.table) (hg:GoodJ j r):LiesJ w ta tc j:=by
 obtain ⟨a,cap,e,hl⟩:=Dh h hP hg
 simp only [Value.slice.injEq] at e
 obtain ⟨rfl,_,rfl⟩:=e
 exact hl
abbrev Box7 (p:Nat) (tv:Value) (j:JobB) (w:World):Prop :=
 w.cell? ⟨p,0,none⟩=some tv∧w.cell? ⟨p,1,none⟩=some (.int .i64 j.plan.group)∧w.cell? ⟨p,2,none⟩=some (.int .i64 j.plan.page)∧w.cell? ⟨p,3,none⟩=some (.int .i64 j.plan.foot)∧w.cell? ⟨p,4,none⟩=some (.bool j.plan.told)∧w.cell? ⟨p,5,none⟩=some (strB j.pre)∧w.cell? ⟨p,6,none⟩=some (.int .i64 j.draw)
theorem XD {p:Nat} {tv:Value} {j:JobB} {w w':World} (h:Box7 p tv j w) (hp:p < w.heap.size) (hb:Below w.heap.size w w'):Box7 p tv j w':=by
 obtain ⟨h0,h1,h2,h3,h4,h5,h6⟩:=h
 exact ⟨(hb.cell (p:=⟨p,_,none⟩) hp).trans h0,(hb.cell (p:=⟨p,_,none⟩) hp).trans h1,(hb.cell (p:=⟨p,_,none⟩) hp).trans h2,(hb.cell (p:=⟨p,_,none⟩) hp).trans h3,(hb.cell (p:=⟨p,_,none⟩) hp).trans h4,(hb.cell (p:=⟨p,_,none⟩) hp).trans h5,(hb.cell (p:=⟨p,_,none⟩) hp).trans h6⟩
theorem Cm (c:Int) (w:World) (p:Nat) (tv:Value) (j:JobB) (h0:-9223372036854775808≤c) (h1:c≤9223372036854775807) (hp:p < w.heap.size) (hb:Box7 p tv j w) :
  Calls Tryz.prog 29 #[.int .i64 c,.int .i64 0] w.drew fun e w'=>∃ ra rcap,e=.returned (.slice ra (jL c 0).length rcap)∧LiesK w' ra (jL c 0)∧Below w.heap.size w w'∧Box7 p tv j w':=by
 refine (Ex c 0 w.drew h0 h1).mono ?_
 rintro e w5 ⟨rv,rfl,hrv,hb5⟩
 have hb5':Below w.heap.size w w5:=ji hb5
 obtain ⟨ra,rcap,rfl,hrl⟩:=Ro hrv (Yi c).2.2.2
 exact ⟨ra,rcap,rfl,hrl,hb5',XD hb hp hb5'⟩
end
section
def xS (c:Nat):List SpotB→Nat
 | []=>0
 | s :: L=>(if s.c=c∧s.sort=80 then s.many else 0)+xS c L
theorem zO (c:Nat):∀ (L L2:List SpotB),xS c (L++L2)=xS c L+xS c L2:=by
 intro L
 induction L with
 | nil=>intro L2;simp [xS]
 | cons s L ih=>intro L2;simp only [List.cons_append,xS,ih];omega
theorem Iy (c i:Nat) (L:List SpotB):xS c (L.take i)≤xS c L:=by
 have:=zO c (L.take i) (L.drop i)
 rw [List.take_append_drop] at this
 omega
theorem YU (c P g start n:Nat):∀ k,k*P≤n+P→xS c (jr P g c start n k)=min (k*P) n:=by
 intro k
 induction k with
 | zero=>intro _;simp [jr,xS]
 | succ k ih =>
  intro hk
  rw [Nat.succ_mul] at hk ⊢
  rw [JK,zO,ih (by omega)]
  simp only [xS,and_self,if_true]
  unfold jo
  omega
theorem YQ (c:Nat):∀ (L:List SpotB),(∀ s ∈ L,s.c≠c)→xS c L=0:=by
 intro L
 induction L with
 | nil=>intro _;rfl
 | cons s L ih =>
  intro h
  have h1:=h s (List.mem_cons_self ..)
  simp only [xS,h1,false_and,if_false,ih (fun x hx=>h x (List.mem_cons_of_mem _ hx))]
theorem Yx (R G P g c:Nat) (hP:1≤P):xS c (jg R G P g c)=jo R G g:=by
 have h1:=UL (n:=jo R G g) hP
 unfold jg
 rw [zO,YU _ _ _ _ _ _ h1.2]
 simp only [xS,show ¬ ((77:UInt8)=80) from by decide,and_false,if_false]
 omega
theorem YS (R G P g c:Nat) (hP:1≤P):∀ C,xS c (jp R G P g C)=if c < C then jo R G g else 0:=by
 intro C
 induction C with
 | zero=>simp [jp,xS]
 | succ C ih =>
  have e:jp R G P g (C+1)=jp R G P g C++jg R G P g C:=by simp [jp,List.range_succ]
  rw [e,zO,ih]
  by_cases h:c=C
  ·subst h
   rw [Yx _ _ _ _ _ hP,if_neg (by omega),if_pos (by omega)]
   omega
  ·rw [YQ c (jg R G P g C) (fun s hs=>by rw [Xl s hs];exact fun e=>h e.symm)]
   by_cases h2:c < C
   ·rw [if_pos h2,if_pos (by omega)]
    omega
   ·rw [if_neg h2,if_neg (by omega)]
theorem KW (R C G P n:Nat):jy R C G P (n+1)=jy R C G P n++jp R G P n C:=by simp [jy,List.range_succ]
theorem Ru (R C G P c:Nat) (hc:c < C) (hP:1≤P):∀ n,n*G≤R+G→xS c (jy R C G P n)=min (n*G) R:=by
 intro n
 induction n with
 | zero=>intro _;simp [jy,xS]
 | succ n ih =>
  intro hn
  rw [Nat.succ_mul] at hn ⊢
  rw [KW,zO,ih (by omega),YS _ _ _ _ _ hP,if_pos hc]
  unfold jo
  omega
theorem Dl (R C G P c:Nat) (hc:c < C) (hP:1≤P) (hG:1≤G):xS c (qi R C G P)=R:=by
 have h1:=UL (n:=R) hG
 unfold qi
 rw [Ru R C G P c hc hP _ h1.2]
 omega
theorem Dp (R C G P c:Nat) (hc:c < C) (hP:1≤P) (hG:1≤G):∀ n,n≤jZ R G→∀ (i:Nat) (s:SpotB),(jy R C G P n)[i]?=some s→s.sort=77→s.start≤xS c ((jy R C G P n).take i):=by
 intro n
 induction n with
 | zero=>intro _ i s h;simp [jy] at h
 | succ n ih =>
  intro hn i s h hs
  have hnG:n*G < R:=(Ju hG).1 (by omega)
  rw [KW] at h ⊢
  by_cases hi:i < (jy R C G P n).length
  ·rw [List.getElem?_append_left hi] at h
   rw [List.take_append_of_le_length (by omega)]
   exact ih (by omega) i s h hs
  ·rw [List.getElem?_append_right (by omega)] at h
   have hmem:=List.mem_of_getElem? h
   simp only [jp,List.mem_flatMap,List.mem_range] at hmem
   obtain ⟨c',_,hm⟩:=hmem
   have hst:s.start=n*G:=by
    simp only [jg,jr,List.mem_append,List.mem_map,List.mem_singleton] at hm
    rcases hm with ⟨p,_,rfl⟩|rfl
    ·exact absurd (show (80:UInt8)=77 from hs) (by decide)
    ·rfl
   rw [List.take_append,List.take_of_length_le (by omega),zO,Ru R C G P c hc hP n (by omega)]
   omega
theorem Df (pre:List UInt8) (r:List KeyB) (kind key:Int) (c:Nat):∀ (L:List SpotB) (M:List ModF) (x y:List CellB),M.length=L.length→(∀ s ∈ L,s.sort=77∨s.sort=80)→jz pre r kind key c (some x) L M=some y→y.length=x.length+xS c L:=by
 intro L
 induction L with
 | nil=>intro M x y hl _ h;cases M<;>simp [jz] at h<;>simp [h,xS]
 | cons s L ih =>
  intro M x y hl hso h
  rcases M with _|⟨m,M⟩
  ·simp at hl
  simp only [jz] at h
  have hs:=hso s (List.mem_cons_self ..)
  have ih':=fun x'=>ih M x' y (by simpa using hl) (fun s hs=>hso s (List.mem_cons_of_mem _ hs))
  simp only [xS]
  by_cases hc:s.c=c
  ·rw [if_pos hc] at h
   cases hst:Xa pre r kind key x s m with
   | none=>rw [hst,xF] at h;cases h
   | some x' =>
    rw [hst] at h
    have:=ih' x' h
    unfold Xa at hst
    split at hst
    ·cases hst
    ·rcases hs with hs|hs
     ·rw [if_pos hs] at hst
      split at hst
      ·cases hst
       rw [if_neg (by rw [hs];rintro ⟨_,h⟩;exact absurd h (by decide))]
       omega
      ·cases hst
     ·rw [if_neg (by rw [hs];decide)] at hst
      split at hst
      ·cases hst
      ·split at hst
       ·rename_i hmany
        cases hst
        rw [if_pos ⟨hc,hs⟩]
        rw [List.length_append] at this
        omega
       ·cases hst
  ·rw [if_neg hc] at h
   have:=ih' x h
   rw [if_neg (fun h=>hc h.1)]
   omega
theorem IR (pre:List UInt8) (r:List KeyB) (kind key:Int) {R C G P c:Nat} (hc:c < C) (hP:1≤P) (hG:1≤G) {M:List ModF} (hl:M.length=(qi R C G P).length) {i:Nat} {cells:List CellB} (h:jz pre r kind key c (some []) ((qi R C G P).take i) (M.take i)=some cells) :
  cells.length≤R∧∀ s,(qi R C G P)[i]?=some s→s.sort=77→s.start≤cells.length:=by
 have h1:=Df pre r kind key c _ _ _ _ (by simp [hl]) (fun s hs=>(AO s (List.mem_of_mem_take hs)).symm) h
 have h2:=Iy c i (qi R C G P)
 rw [Dl R C G P c hc hP hG] at h2
 simp only [List.length_nil,Nat.zero_add] at h1
 refine ⟨by omega,fun s hs hm=>?_⟩
 have:=Dp R C G P c hc hP hG (jZ R G) (Nat.le_refl _) i s hs hm
 rw [h1]
 exact this
end
end Go.Proofs.YthhpbhpfagoapaaGreat
