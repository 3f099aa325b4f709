import Derived.Test.YthhpbhpfagoapaaGreatJAC
import Derived.Test.YthhpbhpfagoapaaGreatJBD
import Derived.Test.YthhpbhpfagoapaaGreatJAJ
import Derived.Test.YthhpbhpfagoapaaGreatJAZ
import Derived.Test.YthhpbhpfagoapaaGreatJAG
namespace Go.Proofs.YthhpbhpfagoapaaGreat
set_option linter.unusedVariables false
set_option linter.unusedSimpArgs false
set_option maxRecDepth 100000
set_option maxHeartbeats 16000000
section
theorem IW (R G P g C:Nat):ju R G P g (C+1)=ju R G P g C++jh R G P g C:=by simp [ju,List.range_succ]
theorem Ad (R G P g c:Nat) (hP:1≤P) (hg:g*G < R) (hG:1≤G):∀ (C j:Nat) (s:SpotB),(ju R G P g C)[j]?=some s→s.sort=77→s.c=c→0 < xG c ((ju R G P g C).take j):=by
 intro C
 induction C with
 | zero=>intro j s h;simp [ju] at h
 | succ C ih =>
  intro j s h hs hsc
  rw [IW] at h ⊢
  by_cases hj:j < (ju R G P g C).length
  ·rw [List.getElem?_append_left hj] at h
   rw [List.take_append_of_le_length (by omega)]
   exact ih j s h hs hsc
  ·rw [List.getElem?_append_right (by omega)] at h
   rw [List.take_append,xx]
   have hch:jh R G P g C=jo P g C (g*G) (jv R G g) (jW (jv R G g) P)++[⟨77,g,C,0,g*G,jv R G g⟩]:=rfl
   generalize j - (ju R G P g C).length=i at h
   have hpl:=UN R G P g C hP
   rw [hch] at h hpl ⊢
   generalize hpp:jo P g C (g*G) (jv R G g) (jW (jv R G g) P)=Q at h hpl ⊢
   have hi:Q.length≤i:=by
    apply Nat.le_of_not_lt
    intro hlt
    rw [List.getElem?_append_left hlt] at h
    have hm:=List.mem_of_getElem? h
    rw [← hpp] at hm
    simp only [jo,List.mem_map] at hm
    obtain ⟨p,_,rfl⟩:=hm
    exact absurd (show (80:UInt8)=77 from hs) (by decide)
   have hcC:C=c:=by
    rw [List.getElem?_append_right hi] at h
    have hm:=List.mem_of_getElem? h
    simp only [List.mem_singleton] at hm
    subst hm
    exact hsc
   subst hcC
   rw [xx] at hpl
   have h0:xG C [⟨77,g,C,0,g*G,jv R G g⟩]=0:=by simp [xG]
   have h1:0 < jv R G g:=by unfold jv;omega
   rw [List.take_append,List.take_of_length_le hi,xx]
   omega
theorem Ag (R C G P c:Nat) (hc:c < C) (hP:1≤P) (hG:1≤G):∀ n,n≤jW R G→∀ (i:Nat) (s:SpotB),(jQ R C G P n)[i]?=some s→s.sort=77→s.c=c→s.start < xG c ((jQ R C G P n).take i):=by
 intro n
 induction n with
 | zero=>intro _ i s h;simp [jQ] at h
 | succ n ih =>
  intro hn i s h hs hsc
  have hnG:n*G < R:=(Qr hG).1 (by omega)
  rw [Zc] at h ⊢
  by_cases hi:i < (jQ R C G P n).length
  ·rw [List.getElem?_append_left hi] at h
   rw [List.take_append_of_le_length (by omega)]
   exact ih (by omega) i s h hs hsc
  ·rw [List.getElem?_append_right (by omega)] at h
   have hpos:=Ad R G P n c hP hnG hG C _ s h hs hsc
   have hmem:=List.mem_of_getElem? h
   simp only [ju,List.mem_flatMap,List.mem_range] at hmem
   obtain ⟨c',_,hm⟩:=hmem
   have hst:s.start=n*G:=by
    simp only [jh,jo,List.mem_append,List.mem_map,List.mem_singleton] at hm
    rcases hm with ⟨p,_,rfl⟩|rfl
    ·exact absurd (show (80:UInt8)=77 from hs) (by decide)
    ·rfl
   rw [List.take_append,List.take_of_length_le (by omega),xx,VE R C G P c hc hP n (by omega)]
   omega
theorem YZ (pre:List UInt8) (r:List KeyB) (kind key:Int) {R C G P c:Nat} (hc:c < C) (hP:1≤P) (hG:1≤G) {M:List ModF} (hl:M.length=(jC R C G P).length) {i:Nat} {cells:List CellB} (h:jD pre r kind key c (some []) ((jC R C G P).take i) (M.take i)=some cells) :
  cells.length≤R∧∀ s,(jC R C G P)[i]?=some s→s.sort=77→s.c=c→s.start < cells.length:=by
 have h1:=GU pre r kind key c _ _ _ _ (by simp [hl]) (fun s hs=>(ZP s (List.mem_of_mem_take hs)).symm) h
 refine ⟨(Gj pre r kind key hc hP hG hl h).1,fun s hs hm hsc=>?_⟩
 simp only [List.length_nil,Nat.zero_add] at h1
 rw [h1]
 exact Ag R C G P c hc hP hG (jW R G) (Nat.le_refl _) i s hs hm hsc
end
section
open Go.RowKit
theorem ToldAt.later {w x:World} {T base:Nat} {S:SheetF} (h:ToldAt w T base S) (hb:Below w.heap.size w x):ToldAt x T base S:=by
 obtain ⟨cv,sv,pv,ev,h1,h2,h3,h4,h5⟩:=h
 exact ⟨cv,sv,pv,ev,jb hb h1,jw h2 hb,jw h3 hb,jw h4 hb,jw h5 hb⟩
theorem Ci {w:World} {base n:Nat} {pa:Option Addr} {pc:Nat} {M:List ModF} (h:w.ownsRow base 9 1 (.slice pa n pc) n (JT M)) (k:Nat) (hk:k < M.length) :
  ∃ g,pa=some ⟨g,0,none⟩∧g < w.heap.size∧w.cell? ⟨g,k,none⟩=some (strB (M[k]).plain):=by
 have hl:(JT M).length=M.length:=by simp [JT]
 have hn:n=M.length:=by have:=h.1;omega
 rcases h.2 with ⟨h0,h1⟩|⟨g,cap,cur,hv,_⟩
 ·omega
 ·simp only [Value.slice.injEq] at hv
  obtain ⟨rfl,_,rfl⟩:=hv
  refine ⟨g,rfl,(h.lt g rfl).2,?_⟩
  rw [h.cellAt _ (by omega)]
  simp [JT,hk]
theorem Sb {w:World} {base n:Nat} {ea:Option Addr} {ec:Nat} {M:List ModF} (h:w.ownsRow base 167 2 (.slice ea n ec) n (zO M)) (k:Nat) (hk:k < M.length) :
  ∃ g,ea=some ⟨g,0,none⟩∧g < w.heap.size∧w.cell? ⟨g,k*2,none⟩=some (strB (M[k]).nonce)∧w.cell? ⟨g,k*2+1,none⟩=some (strB (M[k]).body):=by
 have hl:(zO M).length=M.length*2:=XW (fun m:ModF=>[strB m.nonce,strB m.body]) 2 (fun _=>rfl) M
 have hn:n=M.length:=by have:=h.1;omega
 have at_:∀ i,i < 2→(zO M)[k*2+i]?=([strB (M[k]).nonce,strB (M[k]).body]:List Value)[i]?:=fun i hi=>Xm (fun m:ModF=>[strB m.nonce,strB m.body]) 2 (fun _=>rfl) M k i hk hi
 rcases h.2 with ⟨h0,h1⟩|⟨g,cap,cur,hv,_⟩
 ·omega
 ·simp only [Value.slice.injEq] at hv
  obtain ⟨rfl,_,rfl⟩:=hv
  refine ⟨g,rfl,(h.lt g rfl).2,?_,?_⟩
  ·rw [h.cellAt _ (by omega)];exact at_ 0 (by decide)
  ·rw [h.cellAt _ (by omega)];exact at_ 1 (by decide)
theorem Sq (w:World) (A B C:Array Value) (ta tb tc:TypeId) :
  Below w.heap.size w (((w.alloc (.cells A ta)).alloc (.cells B tb)).alloc (.cells C tc))∧(((w.alloc (.cells A ta)).alloc (.cells B tb)).alloc (.cells C tc)).heap[w.heap.size]?=some (.cells A ta (0,0))∧(((w.alloc (.cells A ta)).alloc (.cells B tb)).alloc (.cells C tc)).heap[w.heap.size+1]?=some (.cells B tb (0,0))∧(((w.alloc (.cells A ta)).alloc (.cells B tb)).alloc (.cells C tc)).heap[w.heap.size+2]?=some (.cells C tc (0,0)):=by
 obtain ⟨hb,_,h0,h1⟩:=JQ w A ta B tb
 obtain ⟨hb2,_,_,h2⟩:=qg ((w.alloc (.cells A ta)).alloc (.cells B tb)) C tc
 have hs:((w.alloc (.cells A ta)).alloc (.cells B tb)).heap.size=w.heap.size+2:=by simp
 rw [hs] at h2
 exact ⟨hb.trans (hb2.mono hb.size),jb hb2 h0,jb hb2 h1,h2⟩
theorem Uj {w:World} {q:Nat} {a b c d e:Value} {t:TypeId} (hh:w.heap[q]?=some (.cells #[a,b,c,d,e] t (0,0))) :
  w.cell? ⟨q,0,none⟩=some a∧w.cell? ⟨q,1,none⟩=some b∧w.cell? ⟨q,2,none⟩=some c∧w.cell? ⟨q,3,none⟩=some d∧w.cell? ⟨q,4,none⟩=some e:=by
 refine ⟨?_,?_,?_,?_,?_⟩<;>rw [cell_of_row w q _ _ _ (0,0) hh]<;>rfl
theorem JU {w:World} {q:Nat} {a b c d e f:Value} {t:TypeId} (hh:w.heap[q]?=some (.cells #[a,b,c,d,e,f] t (0,0))) :
  w.cell? ⟨q,0,none⟩=some a∧w.cell? ⟨q,1,none⟩=some b∧w.cell? ⟨q,2,none⟩=some c∧w.cell? ⟨q,3,none⟩=some d∧w.cell? ⟨q,4,none⟩=some e∧w.cell? ⟨q,5,none⟩=some f:=by
 refine ⟨?_,?_,?_,?_,?_,?_⟩<;>rw [cell_of_row w q _ _ _ (0,0) hh]<;>rfl
theorem KE {w:World} {q:Nat} {a b c d:Value} {t:TypeId} (hh:w.heap[q]?=some (.cells #[a,b,c,d] t (0,0))) :
  w.cell? ⟨q,0,none⟩=some a∧w.cell? ⟨q,1,none⟩=some b∧w.cell? ⟨q,2,none⟩=some c∧w.cell? ⟨q,3,none⟩=some d:=by
 refine ⟨?_,?_,?_,?_⟩<;>rw [cell_of_row w q _ _ _ (0,0) hh]<;>rfl
abbrev found0:Array Value:=#[Value.string { data:=#[] },.int .i64 0,.int .i64 0,.int .i64 0,nilV]
structure CAt (x w:World) (col fnd:Array Value) (cv:Value) (cells:List CellB) (sv:Value) (n:Nat) (xs:List Value):Prop where
 below:Below w.heap.size w x
 b0:x.heap[w.heap.size]?=some (.cells found0 91 (0,0))
 b1:x.heap[w.heap.size+1]?=some (.cells col 61 (0,0))
 b2:x.heap[w.heap.size+2]?=some (.cells fnd 91 (0,0))
 cellrow:x.ownsRow (w.heap.size+3) 58 3 cv cells.length (jG cells)
 sealrow:x.ownsRow (w.heap.size+3) 40 4 sv n xs
 one:∀ u ∈ xs,u.oneCell'=true
section
variable {x y w:World} {col fnd:Array Value} {cv:Value} {cells:List CellB} {sv:Value} {n:Nat} {xs:List Value}
theorem CAt.size (h:CAt x w col fnd cv cells sv n xs):w.heap.size+3≤x.heap.size:=Nat.succ_le_of_lt (Array.getElem?_eq_some_iff.1 h.b2).1
theorem CAt.later (h:CAt x w col fnd cv cells sv n xs) (hb:Below x.heap.size x y):CAt y w col fnd cv cells sv n xs :=
 ⟨h.below.trans (hb.mono h.below.size),jb hb h.b0,jb hb h.b1,jb hb h.b2,jw h.cellrow hb,jw h.sealrow hb,h.one⟩
theorem CAt.alloc (h:CAt x w col fnd cv cells sv n xs) (o:Obj):CAt (x.alloc o) w col fnd cv cells sv n xs :=
 h.later ((Below.refl x.heap.size x).alloc (Nat.le_refl _) o)
theorem qY {x y:World} {v:Value} {b e s m q:Nat} {zs:List Value} {o:Obj} (hg:x.grownBy y v.ownBlock) (ho:x.ownsRow b e s v m zs) (h:x.heap[q]?=some o) (hq:q < b):y.heap[q]?=some o:=by
 rw [hg.block q (Array.getElem?_eq_some_iff.1 h).1 (fun e=>by have:=(ho.lt q e.symm).1;omega)]
 exact h
theorem CAt.cellsUp (h:CAt x w col fnd cv cells sv n xs) {cv':Value} {cells':List CellB} (hg:x.grownBy y cv.ownBlock) (ho:y.ownsRow (w.heap.size+3) 58 3 cv' cells'.length (jG cells')):CAt y w col fnd cv' cells' sv n xs :=
 ⟨zY h.below hg (fun k hk=>by have:=(h.cellrow.lt k hk).1;omega),qY hg h.cellrow h.b0 (by omega),qY hg h.cellrow h.b1 (by omega),qY hg h.cellrow h.b2 (by omega),ho,h.sealrow.kept hg (qc h.sealrow h.cellrow (by decide)),h.one⟩
theorem CAt.sealUp (h:CAt x w col fnd cv cells sv n xs) {sv':Value} {n':Nat} {xs':List Value} (hg:x.grownBy y sv.ownBlock) (ho:y.ownsRow (w.heap.size+3) 40 4 sv' n' xs') (h1:∀ u ∈ xs',u.oneCell'=true):CAt y w col fnd cv cells sv' n' xs' :=
 ⟨zY h.below hg (fun k hk=>by have:=(h.sealrow.lt k hk).1;omega),qY hg h.sealrow h.b0 (by omega),qY hg h.sealrow h.b1 (by omega),qY hg h.sealrow h.b2 (by omega),h.cellrow.kept hg (qc h.cellrow h.sealrow (by decide)),ho,h1⟩
theorem Jg {x:World} {b e s m B:Nat} {v:Value} {zs:List Value} (h:x.ownsRow b e s v m zs) (hB:B < b):v.ownBlock=none∨v.ownBlock≠some B:=by
 rcases hv:v.ownBlock with _|g
 ·exact .inl rfl
 ·refine .inr (fun e=>?_)
  have:=(h.lt g hv).1
  injection e with e
  omega
theorem CAt.rowB (h:CAt x w col fnd cv cells sv n xs) (B:Nat) (cs:Array Value) (hw:w.heap.size+3≤B) (h1:cv.ownBlock=none∨cv.ownBlock≠some B) (h2:sv.ownBlock=none∨sv.ownBlock≠some B):CAt (x.setRow B cs) w col fnd cv cells sv n xs:=by
 have hg:=Qy x B cs
 exact ⟨h.below.trans (jg hg (by omega) h.below.size),qi hg h.b0 (by omega),qi hg h.b1 (by omega),qi hg h.b2 (by omega),h.cellrow.kept hg h1,h.sealrow.kept hg h2,h.one⟩
theorem CAt.setF (h:CAt x w col fnd cv cells sv n xs) (i:Nat) (v:Value):CAt (x.setCell ⟨w.heap.size+2,i,none⟩ v) w col (fnd.setIfInBounds i v) cv cells sv n xs:=by
 have hg:=zS x (w.heap.size+2) i v
 exact ⟨h.below.trans (jg hg (by omega) h.below.size),qi hg h.b0 (by omega),qi hg h.b1 (by omega),heap_setCell_same x _ i _ _ v h.b2,h.cellrow.kept hg (Jg h.cellrow (by omega)),h.sealrow.kept hg (Jg h.sealrow (by omega)),h.one⟩
end
theorem Du {pre:List UInt8} {r:List KeyB} {key:Int} {s:SpotB} {m:ModF} {p:List UInt8} (hm:xW key m) (h:Jc pre r key s m=some p):p.length≤65535:=by
 unfold Jc at h
 rcases hm with ⟨h0,_,_,h3⟩|⟨h0,_,_,_,h4⟩
 ·rw [if_pos h0] at h
  injection h with h
  subst h
  exact h3
 ·rw [if_neg h0] at h
  unfold qo at h
  split at h
  ·injection h with h
   subst h
   rw [zA,List.length_take]
   omega
  ·cases h
theorem Ab {t:List ColB}:∀ {L:List SpotB} {M:List ModF},ModsOk t L M→∀ k (hk:k < L.length) (hm:k < M.length),xW (jk t (L[k]).c).key M[k]:=by
 intro L M h
 induction h with
 | nil=>intro k hk;exact absurd hk (by simp)
 | cons h0 _ ih =>
  intro k hk hm
  cases k with
  | zero=>exact h0
  | succ k=>exact ih k (by simpa using hk) (by simpa using hm)
theorem CL {foot:Nat} {parts footer:List UInt8} {S:SheetF} (h:SheetOk foot parts footer S) {c:Nat} (hc:c < S.cols.length):((S.cols[c]).kind=0∨(S.cols[c]).kind=1)∧0≤(S.cols[c]).key∧(S.cols[c]).key≤9:=by
 have hh:=h.heads
 simp only [jV,Bool.and_eq_true] at hh
 exact (QR (QK hh.1 (Nat.le_refl _) c hc).1).2
theorem Ez {R C G P:Nat} (hC1:1≤C) (hr:R≤60) (hG:1≤G) (hP:1≤P) (hG6:G≤60) (hC:C≤6):∀ s ∈ jC R C G P,s.g < 60∧s.c < 60∧s.p < 60∧s.start < 60∧s.many≤60:=by
 intro s hs
 have hl:(List.replicate C (⟨[],0,0,List.replicate R ⟨true,0,[]⟩⟩:ColB)).length=C:=by simp
 have hR:R=NO (List.replicate C (⟨[],0,0,List.replicate R ⟨true,0,[]⟩⟩:ColB)):=by
  obtain ⟨D,rfl⟩:∃ D,C=D+1:=⟨C - 1,by omega⟩
  simp [NO,List.replicate_succ]
 have h:=Pi (t:=List.replicate C (⟨[],0,0,List.replicate R ⟨true,0,[]⟩⟩:ColB)) hR hr hG hP hG6 (by simpa using hC) s (by rw [hl];exact hs)
 exact h.few
def LP (F:FoundB) (w:World) (e:Ending) (w':World):Prop :=
 Below w.heap.size w w'∧∃ u sv n xs,e=.returned (.tuple #[.agg #[strB F.name,.int .i64 F.kind,.int .i64 F.key,.int .i64 F.state,u],sv])∧w'.ownsRow w.heap.size 58 3 u F.cells.length (jG F.cells)∧(∀ x ∈ F.cells,qz x)∧w'.ownsRow w.heap.size 40 4 sv n xs∧n≤21960∧∀ u ∈ xs,u.oneCell'=true
end
end Go.Proofs.YthhpbhpfagoapaaGreat
