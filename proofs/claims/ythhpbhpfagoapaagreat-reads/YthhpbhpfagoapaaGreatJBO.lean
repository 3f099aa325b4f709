import Derived.Test.YthhpbhpfagoapaaGreatJAA
import Derived.Test.YthhpbhpfagoapaaGreatJBR
import Derived.Test.YthhpbhpfagoapaaGreatJBT
import Derived.Test.YthhpbhpfagoapaaGreatJBS
import Derived.Test.YthhpbhpfagoapaaGreatJBE
import Derived.Test.YthhpbhpfagoapaaGreatJAL
import Derived.Test.YthhpbhpfagoapaaGreatJBG
import Derived.Test.YthhpbhpfagoapaaGreatRTk
import Derived.Test.YthhpbhpfagoapaaGreatYOpen
import Derived.Test.YthhpbhpfagoapaaGreatJAR
namespace Go.Proofs.YthhpbhpfagoapaaGreat
set_option linter.unusedVariables false
set_option linter.unusedSimpArgs false
set_option maxRecDepth 100000
set_option maxHeartbeats 16000000
open Go.RowKit
section
theorem ToldAt.later {w x:World} {T base:Nat} {S:SheetF} (h:ToldAt w T base S) (hb:Below w.heap.size w x):ToldAt x T base S:=by
 obtain ⟨cv,sv,pv,ev,h1,h2,h3,h4,h5⟩:=h
 exact ⟨cv,sv,pv,ev,jb hb h1,jx h2 hb,jx h3 hb,jx h4 hb,jx h5 hb⟩
theorem Tz {w:World} {base n:Nat} {pa:Option Addr} {pc:Nat} {M:List ModF} (h:w.ownsRow base 9 1 (.slice pa n pc) n (Qh M)) (k:Nat) (hk:k < M.length) :
  ∃ g,pa=some ⟨g,0,none⟩∧g < w.heap.size∧w.cell? ⟨g,k,none⟩=some (strB (M[k]).plain):=by
 have hl:(Qh M).length=M.length:=by simp [Qh]
 have hn:n=M.length:=by have:=h.1;omega
 rcases h.2 with ⟨h0,h1⟩|⟨g,cap,cur,hv,_⟩
 ·omega
 ·simp only [bF] at hv
  obtain ⟨rfl,_,rfl⟩:=hv
  refine ⟨g,rfl,(h.lt g rfl).2,?_⟩
  rw [h.cellAt _ (by omega)]
  simp [Qh,hk]
theorem Lz {w:World} {base n:Nat} {ea:Option Addr} {ec:Nat} {M:List ModF} (h:w.ownsRow base 167 2 (.slice ea n ec) n (zX M)) (k:Nat) (hk:k < M.length) :
  ∃ g,ea=some ⟨g,0,none⟩∧g < w.heap.size∧w.cell? ⟨g,k*2,none⟩=some (strB (M[k]).nonce)∧w.cell? ⟨g,k*2+1,none⟩=some (strB (M[k]).body):=by
 have hl:(zX M).length=M.length*2:=Zr (fun m:ModF=>[strB m.nonce,strB m.body]) 2 (fun _=>rfl) M
 have hn:n=M.length:=by have:=h.1;omega
 have at_:∀ i,i < 2→(zX M)[k*2+i]?=([strB (M[k]).nonce,strB (M[k]).body]:List Value)[i]?:=fun i hi=>Xz (fun m:ModF=>[strB m.nonce,strB m.body]) 2 (fun _=>rfl) M k i hk hi
 rcases h.2 with ⟨h0,h1⟩|⟨g,cap,cur,hv,_⟩
 ·omega
 ·simp only [bF] at hv
  obtain ⟨rfl,_,rfl⟩:=hv
  refine ⟨g,rfl,(h.lt g rfl).2,?_,?_⟩
  ·rw [h.cellAt _ (by omega)];exact at_ 0 (by decide)
  ·rw [h.cellAt _ (by omega)];exact at_ 1 (by decide)
theorem SX (w:World) (A B C:Array Value) (ta tb tc:TypeId) :
  Below w.heap.size w (((w.alloc (.cells A ta)).alloc (.cells B tb)).alloc (.cells C tc))∧(((w.alloc (.cells A ta)).alloc (.cells B tb)).alloc (.cells C tc)).heap[w.heap.size]?=some (.cells A ta (0,0))∧(((w.alloc (.cells A ta)).alloc (.cells B tb)).alloc (.cells C tc)).heap[w.heap.size+1]?=some (.cells B tb (0,0))∧(((w.alloc (.cells A ta)).alloc (.cells B tb)).alloc (.cells C tc)).heap[w.heap.size+2]?=some (.cells C tc (0,0)):=by
 obtain ⟨hb,_,h0,h1⟩:=Qc w A ta B tb
 obtain ⟨hb2,_,_,h2⟩:=qm ((w.alloc (.cells A ta)).alloc (.cells B tb)) C tc
 have hs:((w.alloc (.cells A ta)).alloc (.cells B tb)).heap.size=w.heap.size+2:=by simp
 rw [hs] at h2
 exact ⟨hb.trans (hb2.mono hb.size),jb hb2 h0,jb hb2 h1,h2⟩
theorem UA {w:World} {q:Nat} {a b c d e:Value} {t:TypeId} (hh:w.heap[q]?=some (.cells #[a,b,c,d,e] t (0,0))) :
  w.cell? ⟨q,0,none⟩=some a∧w.cell? ⟨q,1,none⟩=some b∧w.cell? ⟨q,2,none⟩=some c∧w.cell? ⟨q,3,none⟩=some d∧w.cell? ⟨q,4,none⟩=some e:=by
 refine ⟨?_,?_,?_,?_,?_⟩<;>rw [cell_of_row w q _ _ _ (0,0) hh]<;>rfl
theorem JU {w:World} {q:Nat} {a b c d e f:Value} {t:TypeId} (hh:w.heap[q]?=some (.cells #[a,b,c,d,e,f] t (0,0))) :
  w.cell? ⟨q,0,none⟩=some a∧w.cell? ⟨q,1,none⟩=some b∧w.cell? ⟨q,2,none⟩=some c∧w.cell? ⟨q,3,none⟩=some d∧w.cell? ⟨q,4,none⟩=some e∧w.cell? ⟨q,5,none⟩=some f:=by
 refine ⟨?_,?_,?_,?_,?_,?_⟩<;>rw [cell_of_row w q _ _ _ (0,0) hh]<;>rfl
theorem Ud {w:World} {q:Nat} {a b c d:Value} {t:TypeId} (hh:w.heap[q]?=some (.cells #[a,b,c,d] t (0,0))) :
  w.cell? ⟨q,0,none⟩=some a∧w.cell? ⟨q,1,none⟩=some b∧w.cell? ⟨q,2,none⟩=some c∧w.cell? ⟨q,3,none⟩=some d:=by
 refine ⟨?_,?_,?_,?_⟩<;>rw [cell_of_row w q _ _ _ (0,0) hh]<;>rfl
abbrev found0:Array Value:=#[Value.string { data:=#[] },.int .i64 0,.int .i64 0,.int .i64 0,nilV]
structure CAt (x w:World) (col fnd:Array Value) (cv:Value) (cells:List CellB) (sv:Value) (Z:List SealB):Prop where
 below:Below w.heap.size w x
 b0:x.heap[w.heap.size]?=some (.cells found0 91 (0,0))
 b1:x.heap[w.heap.size+1]?=some (.cells col 61 (0,0))
 b2:x.heap[w.heap.size+2]?=some (.cells fnd 91 (0,0))
 cellrow:x.ownsRow (w.heap.size+3) 58 3 cv cells.length (jO cells)
 sealrow:x.ownsRow (w.heap.size+3) 40 4 sv Z.length (zg Z)
section
variable {x y w:World} {col fnd:Array Value} {cv:Value} {cells:List CellB} {sv:Value} {Z:List SealB}
theorem CAt.size (h:CAt x w col fnd cv cells sv Z):w.heap.size+3≤x.heap.size:=Nat.succ_le_of_lt (ag.1 h.b2).1
theorem CAt.later (h:CAt x w col fnd cv cells sv Z) (hb:Below x.heap.size x y):CAt y w col fnd cv cells sv Z :=
 ⟨h.below.trans (hb.mono h.below.size),jb hb h.b0,jb hb h.b1,jb hb h.b2,jx h.cellrow hb,jx h.sealrow hb⟩
theorem CAt.alloc (h:CAt x w col fnd cv cells sv Z) (o:Obj):CAt (x.alloc o) w col fnd cv cells sv Z :=
 h.later ((Below.refl x.heap.size x).alloc (ae _) o)
theorem CAt.drew (h:CAt x w col fnd cv cells sv Z):CAt x.drew w col fnd cv cells sv Z :=
 h.later (qe (Below.refl x.heap.size x))
theorem xk {x y:World} {v:Value} {b e s m q:Nat} {zs:List Value} {o:Obj} (hg:x.grownBy y v.ownBlock) (ho:x.ownsRow b e s v m zs) (h:x.heap[q]?=some o) (hq:q < b):y.heap[q]?=some o:=by
 rw [hg.block q (ag.1 h).1 (fun e=>by have:=(ho.lt q e.symm).1;omega)]
 exact h
theorem CAt.cellsUp (h:CAt x w col fnd cv cells sv Z) {cv':Value} {cells':List CellB} (hg:x.grownBy y cv.ownBlock) (ho:y.ownsRow (w.heap.size+3) 58 3 cv' cells'.length (jO cells')):CAt y w col fnd cv' cells' sv Z :=
 ⟨Jk h.below hg (fun k hk=>by have:=(h.cellrow.lt k hk).1;omega),xk hg h.cellrow h.b0 (by omega),xk hg h.cellrow h.b1 (by omega),xk hg h.cellrow h.b2 (by omega),ho,h.sealrow.kept hg (qj h.sealrow h.cellrow (by decide))⟩
theorem CAt.sealUp (h:CAt x w col fnd cv cells sv Z) {sv':Value} {Z':List SealB} (hg:x.grownBy y sv.ownBlock) (ho:y.ownsRow (w.heap.size+3) 40 4 sv' Z'.length (zg Z')):CAt y w col fnd cv cells sv' Z' :=
 ⟨Jk h.below hg (fun k hk=>by have:=(h.sealrow.lt k hk).1;omega),xk hg h.sealrow h.b0 (by omega),xk hg h.sealrow h.b1 (by omega),xk hg h.sealrow h.b2 (by omega),h.cellrow.kept hg (qj h.cellrow h.sealrow (by decide)),ho⟩
theorem Jq {x:World} {b e s m B:Nat} {v:Value} {zs:List Value} (h:x.ownsRow b e s v m zs) (hB:B < b):v.ownBlock=none∨v.ownBlock≠some B:=by
 rcases hv:v.ownBlock with _|g
 ·exact .inl rfl
 ·refine .inr (fun e=>?_)
  have:=(h.lt g hv).1
  injection e with e
  omega
theorem CAt.rowB (h:CAt x w col fnd cv cells sv Z) (B:Nat) (cs:Array Value) (hw:w.heap.size+3≤B) (h1:cv.ownBlock=none∨cv.ownBlock≠some B) (h2:sv.ownBlock=none∨sv.ownBlock≠some B):CAt (x.setRow B cs) w col fnd cv cells sv Z:=by
 have hg:=QN x B cs
 exact ⟨h.below.trans (jg hg (by omega) h.below.size),qp hg h.b0 (by omega),qp hg h.b1 (by omega),qp hg h.b2 (by omega),h.cellrow.kept hg h1,h.sealrow.kept hg h2⟩
theorem CAt.setF (h:CAt x w col fnd cv cells sv Z) (i:Nat) (v:Value):CAt (x.setCell ⟨w.heap.size+2,i,none⟩ v) w col (fnd.setIfInBounds i v) cv cells sv Z:=by
 have hg:=Jc x (w.heap.size+2) i v
 exact ⟨h.below.trans (jg hg (by omega) h.below.size),qp hg h.b0 (by omega),qp hg h.b1 (by omega),heap_setCell_same x _ i _ _ v h.b2,h.cellrow.kept hg (Jq h.cellrow (by omega)),h.sealrow.kept hg (Jq h.sealrow (by omega))⟩
end
theorem Dk {pre:List UInt8} {r:List KeyB} {key:Int} {s:SpotB} {m:ModF} {p:List UInt8} (hm:xU key m) (h:zE pre r key s m=some p):p.length≤65535:=by
 unfold zE at h
 rcases hm with ⟨h0,_,_,h3⟩|⟨h0,_,_,_,h4⟩
 ·rw [aw h0] at h
  injection h with h
  subst h
  exact h3
 ·rw [aj h0] at h
  unfold qw at h
  split at h
  ·injection h with h
   subst h
   rw [zP,aq]
   omega
  ·cases h
theorem DZ {t:List ColB}:∀ {L:List SpotB} {M:List ModF},ModsOk t L M→∀ k (hk:k < L.length) (hm:k < M.length),xU (jk t (L[k]).c).key M[k]:=by
 intro L M h
 induction h using ModsOk.ind with
 | nil=>intro k hk;exact absurd hk (by simp)
 | cons h0 _ ih =>
  intro k hk hm
  cases k with
  | zero=>exact h0
  | succ k=>exact ih k (by simpa using hk) (by simpa using hm)
theorem Th {foot:Nat} {parts footer:List UInt8} {S:SheetF} (h:SheetOk foot parts footer S) {c:Nat} (hc:c < S.cols.length):((S.cols[c]).kind=0∨(S.cols[c]).kind=1)∧0≤(S.cols[c]).key∧(S.cols[c]).key≤9:=by
 have hh:=h.heads
 simp only [jZ,au] at hh
 exact (Qj (Qs hh.1 (ae _) c hc).1).2
theorem Ia {R C G P:Nat} (hC1:1≤C) (hr:R≤60) (hG:1≤G) (hP:1≤P) (hG6:G≤60) (hC:C≤6):∀ s ∈ jI R C G P,s.g < 60∧s.c < 60∧s.p < 60∧s.start < 60∧s.many≤60:=by
 intro s hs
 have hl:(List.replicate C (⟨[],0,0,List.replicate R ⟨true,0,[]⟩⟩:ColB)).length=C:=by simp
 have hR:R=JY (List.replicate C (⟨[],0,0,List.replicate R ⟨true,0,[]⟩⟩:ColB)):=by
  obtain ⟨D,rfl⟩:∃ D,C=D+1:=⟨C - 1,by omega⟩
  simp [JY,cL]
 have h:=IB (t:=List.replicate C (⟨[],0,0,List.replicate R ⟨true,0,[]⟩⟩:ColB)) hR hr hG hP hG6 (by simpa using hC) s (by rw [hl];exact hs)
 exact h.few
theorem GV (a b:List SealB):zg (a++b)=zg a++zg b:=by simp [zg]
def Iw (pre:List UInt8) (r:List KeyB) (S:SheetF) (c:Nat):List SealB:=if MG (xh pre r S c)=true then KR pre r (jk S.cols c).key c (qB S) S.mods else []
def zF (pre:List UInt8) (r:List KeyB) (key:Int) (c:Nat) (L:List SpotB) (M:List ModF) (k:Nat):List SealB:=if key=0 then [] else KR pre r key c (L.take k) (M.take k)
theorem GL (pre:List UInt8) (r:List KeyB) (key:Int) (c:Nat):∀ (L:List SpotB) (M:List ModF) (k:Nat) (s:SpotB) (m:ModF),L[k]?=some s→M[k]?=some m →
  KR pre r key c (L.take (k+1)) (M.take (k+1))=KR pre r key c (L.take k) (M.take k)++(if s.c=c then [⟨jl r key,m.nonce,qo pre s.sort s.g s.c s.p,m.body⟩] else []):=by
 intro L
 induction L with
 | nil=>intro M k s m h;simp at h
 | cons s0 L ih =>
  intro M k s m h h2
  cases M with
  | nil=>simp at h2
  | cons m0 M =>
   cases k with
   | zero =>
    simp only [bm,aP] at h h2
    subst h h2
    simp [KR]
   | succ k =>
    simp only [bn] at h h2
    simp only [b8,KR]
    rw [ih M k s m h h2,af]
section
variable {pre:List UInt8} {r:List KeyB} {key:Int} {c k:Nat} {L:List SpotB} {M:List ModF} {s:SpotB} {m:ModF}
theorem Lp:zF pre r key c L M 0=[]:=by unfold zF;simp [KR]
theorem SR (h:L[k]?=some s) (h2:M[k]?=some m) (hc:s.c≠c):zF pre r key c L M (k+1)=zF pre r key c L M k:=by
 unfold zF
 rw [GL pre r key c L M k s m h h2,aj hc,aB]
theorem Pe (hk:key=0):zF pre r key c L M (k+1)=zF pre r key c L M k:=by
 unfold zF
 rw [aw hk,aw hk]
theorem Lv (h:L[k]?=some s) (h2:M[k]?=some m) (hc:s.c=c) (hk:key≠0):zF pre r key c L M (k+1)=zF pre r key c L M k++[⟨jl r key,m.nonce,qo pre s.sort s.g s.c s.p,m.body⟩]:=by
 unfold zF
 rw [aj hk,aj hk,GL pre r key c L M k s m h h2,aw hc]
end
theorem SZ {pre:List UInt8} {r:List KeyB} {S:SheetF} {c:Nat} {L:List SpotB} {M:List ModF} {nm:List UInt8} {kd ky st:Int} {cells:List CellB} (hc:c < S.cols.length) (hky:(S.cols[c]).key=ky) (hL:qB S=L) (hM:S.mods=M) (hl:M.length=L.length) (h:xh pre r S c=⟨nm,kd,ky,st,cells⟩):Iw pre r S c=if st=0 then zF pre r ky c L M L.length else []:=by
 unfold Iw zF
 rw [h,hL,hM,Qd hc,hky,aF,← hl,aF]
 simp only [MG,au,az]
 by_cases h0:ky=0<;>by_cases h1:st=0<;>simp [h0,h1]
def BX (F:FoundB) (Z:List SealB) (w:World) (e:Ending) (w':World):Prop :=
 Below w.heap.size w w'∧∃ u sv,e=.returned (.tuple #[.agg #[strB F.name,.int .i64 F.kind,.int .i64 F.key,.int .i64 F.state,u],sv])∧w'.ownsRow w.heap.size 58 3 u F.cells.length (jO F.cells)∧(∀ x ∈ F.cells,qr x)∧w'.ownsRow w.heap.size 40 4 sv Z.length (zg Z)∧Z.length≤21960
end
section
theorem RT (S:SheetF) (foot:Nat) (parts footer:List UInt8) (T base c:Nat) (pre:List UInt8) (ra:Option Addr) (rcap:Nat) (r:List KeyB) (w:World) (hok:SheetOk foot parts footer S) (hT:ToldAt w T base S) (hc:c < S.cols.length) (hpre:pre.length≤20) (hr:xY r=true) (hrm:r.length≤maxLen) (hl:LiesK w ra r) :
  Calls Tryz.prog 91 #[.pointer (some ⟨T,0,none⟩),.int .i64 (c:Int),strB pre,.slice ra r.length rcap] w (BX (xh pre r S c) (Iw pre r S c) w):=by
 have hp:=hok.plan
 simp only [qS,au,az] at hp
 have hh:=hok.heads
 simp only [jZ,au,az] at hh
 have hR60:=hok.rows
 have hC6:S.cols.length≤6:=by omega
 have hML:=qY hok.mods
 obtain ⟨hkd,hk0,hk9⟩:=Th hok hc
 have HMO:=hid (DZ hok.mods)
 have hLn:(qB S).length≤21960:=Yo (by omega) (by omega) (by omega) hR60 hC6
 have HSM:Hid (∀ s ∈ qB S,s.g < 60∧s.c < 60∧s.p < 60∧s.start < 60∧s.many≤60):=Ia (by omega) hR60 (by omega) (by omega) (by omega) hC6
 have HSS:Hid (∀ s ∈ qB S,s.sort=80∨s.sort=77):=ZZ
 have hca:=Qd hc
 have HFD:Hid (xh pre r S c=if 0 < (S.cols[c]).key∧jy r (S.cols[c]).key=false then ⟨(S.cols[c]).name,(S.cols[c]).kind,(S.cols[c]).key,1,[]⟩ else match jK pre r (S.cols[c]).kind (S.cols[c]).key c (some []) (qB S) S.mods with
   | none=>⟨(S.cols[c]).name,(S.cols[c]).kind,(S.cols[c]).key,2,[]⟩
   | some cells=>⟨(S.cols[c]).name,(S.cols[c]).kind,(S.cols[c]).key,0,cells⟩):=by
  show _=_
  unfold xh
  rw [hca]
  rfl
 have HTH:Hid (∀ i cells,jK pre r (S.cols[c]).kind (S.cols[c]).key c (some []) ((qB S).take i) (S.mods.take i)=some cells→cells.length≤S.rows∧∀ s,(qB S)[i]?=some s→s.sort=77→s.c=c→s.start < cells.length):=fun i cells h=>Ev pre r (S.cols[c]).kind (S.cols[c]).key hc (by omega) (by omega) hML h
 obtain ⟨cv,sv,pv,ev,hT1,hT2,hT3,hT4,hT5⟩:=hT
 obtain ⟨pa,pc,rfl⟩:=jr hT4
 obtain ⟨ea,ec,rfl⟩:=jr hT5
 obtain ⟨ca,cc,rfl⟩:=jr hT2
 obtain ⟨sa,sc,rfl⟩:=jr hT3
 have hTw:T < w.heap.size:=(ag.1 hT1).1
 have HT1:=hid hT1
 have HT2:=hid hT2
 have HT3:=hid hT3
 have HT4:=hid hT4
 have HT5:=hid hT5
 obtain ⟨cg,hcg,hcgl,t0,t1,t2,t3⟩:=Ez hT2 c hc
 subst hcg
 have HLK:=hid hl
 have HZD:Hid (∀ L M nm kd ky st cells,qB S=L→S.mods=M→(S.cols[c]).key=ky→M.length=L.length→xh pre r S c=⟨nm,kd,ky,st,cells⟩→Iw pre r S c=if st=0 then zF pre r ky c L M L.length else []):=fun _ _ _ _ _ _ _ h1 h2 h3 h4 h5=>SZ hc h3 h1 h2 h4 h5
 have HSE:=hid (fun w' (h:LiesK w' ra r)=>ZD ra rcap r (S.cols[c]).key w' hrm h)
 have HSC:Hid (jl r (S.cols[c]).key=[] ↔ jy r (S.cols[c]).key=false):=Xn hr
 have HSL:Hid (jy r (S.cols[c]).key=true→(jl r (S.cols[c]).key).length=8):=fun h=>Qq hr h
 clear hT1 hT2 hT3 hT4 hT5 hl hp hh hca hok hr
 generalize (S.cols[c]).name=nm at *
 generalize (S.cols[c]).kind=kd at *
 generalize hky:(S.cols[c]).key=ky at *
 have HKY:=hid hky
 clear hky
 generalize hLL:qB S=L at *
 generalize hMM:S.mods=M at *
 replace HZD:=hid (fun st cells=>HZD.out L M nm kd ky st cells (by first|rfl|exact hLL) (by first|rfl|exact hMM) (by first|rfl|exact HKY.out) hML)
 clear hLL hMM
 have hci:(c:Int) < (S.cols.length:Int):=by omega
 obtain ⟨hb3,hx0,hx1,hx2⟩:=SX w found0 #[strB nm,.int .i64 kd,.int .i64 ky,nilV] #[strB nm,.int .i64 kd,.int .i64 ky,.int .i64 0,nilV] 91 61 91
 have HA0:=hid (CAt.mk hb3 hx0 hx1 hx2 (cv:=nilV) (cells:=[]) (World.ownsRow_nil _ _ _ _) (sv:=nilV) (Z:=[]) (World.ownsRow_nil _ _ _ _))
 clear hb3 hx0 hx1 hx2
 obtain ⟨_,_,_,_,_,d5,_⟩:=xA HT1.out
 go_enter Tryz.func91,Tryz.ntmps91
 go_upto_region 3 with fail
 generalize hW0:((w.alloc _).alloc _).alloc _=W0 at *
 clear hW0 t0 t1 t2 t3 d5
 obtain ⟨_,_,e2,_⟩:=Ud HA0.out.b1
 go_cut [44] (fun bv wd=>bv=.bool (decide (0 < ky∧jy r ky=false))∧CAt wd w #[strB nm,.int .i64 kd,.int .i64 ky,nilV] #[strB nm,.int .i64 kd,.int .i64 ky,.int .i64 0,nilV] nilV [] nilV [])
 case first =>
  by_cases hk:0 < ky
  ·go_wp2_with fail
   refine (HSE.out W0 (HLK.out.later HA0.out.below)).mono ?_
   rintro e w1 ⟨rfl,hb1⟩
   have HA1:=hid (HA0.out.later hb1)
   clear hb1 e2
   cases hs:jy r ky with
   | false =>
    rw [HSC.out.2 hs]
    go_wp2
    go_meet
    case rel=>exact ⟨by simp [hk,hs],HA1.out⟩
   | true =>
    obtain ⟨b,l,hbl⟩:∃ b l,jl r ky=b :: l:=by
     have:=HSL.out hs
     match hq:jl r ky with
     | []=>rw [hq] at this;cases this
     | b :: l=>exact ⟨b,l,rfl⟩
    rw [hbl]
    go_wp2
    go_meet
    case rel=>exact ⟨by simp [hs],HA1.out⟩
  ·obtain rfl:ky=0:=by omega
   go_wp2
   go_meet
   case rel=>exact ⟨by simp,HA0.out⟩
 case rest =>
  obtain ⟨hbv,hA⟩:=hcut
  subst hbv
  have HA1:=hid hA
  clear hA HA0 e2
  by_cases hlk:0 < ky∧jy r ky=false
  ·rw [aw hlk] at HFD
   have hd:decide (0 < ky∧jy r ky=false)=true:=cH hlk
   rw [hd]
   obtain ⟨_,_,_,g3,_⟩:=UA HA1.out.b2
   have f3:=frozen_of_row wc (w.heap.size+2) 3 _ _ HA1.out.b2
   go_upto_region 5 with fail
   have HE2:Hid (CAt (wc.setCell ⟨w.heap.size+2,3,none⟩ (.int .i64 1)) w #[strB nm,.int .i64 kd,.int .i64 ky,nilV] #[strB nm,.int .i64 kd,.int .i64 ky,.int .i64 1,nilV] nilV [] nilV []):=HA1.out.setF 3 (.int .i64 1)
   clear g3 f3
   generalize hye:wc.setCell _ _=ye at *
   clear hye
   go_wp2_with (first|(refine wpList_load_row rfl 91 (.tmp 11) rfl (w.heap.size+2) rfl 91 #[strB nm,.int .i64 kd,.int .i64 ky,.int .i64 1,nilV] (0,0) _ HE2.out.b2 Tryz.underlying91 rfl (by kernel_rfl) ?_)|(refine wpList_store_row rfl 91 (.tmp 8) (.tmp 46) rfl w.heap.size #[strB nm,.int .i64 kd,.int .i64 ky,.int .i64 1,nilV] rfl rfl 91 found0 HE2.out.b0 (by kernel_rfl) rfl (by simp [Value.oneCell']) ?_))
   have HoE:=hid (setRow_heap ye w.heap.size _ #[strB nm,.int .i64 kd,.int .i64 ky,.int .i64 1,nilV] 91 (0,0) HE2.out.b0)
   have HBE:=hid (HE2.out.below.trans (jg (QN ye w.heap.size #[strB nm,.int .i64 kd,.int .i64 ky,.int .i64 1,nilV]) (ae _) HE2.out.below.size))
   generalize hze:ye.setRow _ _=ze at *
   clear hze
   rw [HZD.out _ _ HFD.out,aj (by decide),HFD.out]
   exact bodyPost_ret (v:=.tuple #[.agg #[strB nm,.int .i64 kd,.int .i64 ky,.int .i64 1,nilV],nilV]) (qt (p:=8) (q:=9) rfl _ _ _ _ _ rfl rfl (run_loadVar_row (P:=Tryz.prog) ze w.heap.size 91 91 #[strB nm,.int .i64 kd,.int .i64 ky,.int .i64 1,nilV] (0,0) _ HoE.out Tryz.underlying91 rfl (by kernel_rfl))) rfl ⟨HBE.out,nilV,nilV,rfl,World.ownsRow_nil _ _ _ _,(fun x hx=>by cases hx),World.ownsRow_nil _ _ _ _,ah _⟩
  ·rw [aj hlk] at HFD
   have hd:decide (0 < ky∧jy r ky=false)=false:=aS hlk
   rw [hd]
   have HSL8:Hid (0 < ky→(jl r ky).length≤1000):=fun h=>by
    have:jy r ky=true:=by
     cases hq:jy r ky with
     | true=>rfl
     | false=>exact absurd ⟨h,hq⟩ hlk
    rw [HSL.out this]
    decide
   clear hd hlk HSC HSL HSE
   go_wp2
   go_loopw [12,13,14] (fun cv sv i wr=>∃ (k:Nat) (cells:List CellB) (Z:List SealB),k≤L.length∧i=.int .i64 (k:Int)∧jK pre r kd ky c (some []) (L.take k) (M.take k)=some cells∧CAt wr w #[strB nm,.int .i64 kd,.int .i64 ky,nilV] #[strB nm,.int .i64 kd,.int .i64 ky,.int .i64 0,nilV] cv cells sv Z∧(∀ x ∈ cells,qr x)∧zF pre r ky c L M k=Z∧Z.length≤k) (fun _ _ i _=>L.length - (intOf i).toNat)
   case atStart=>exact ⟨0,[],[],ah _,rfl,by simp [jK],HA1.out,(by intro x hx;cases hx),Lp,ae _⟩
   case round =>
    obtain ⟨k,cells,Z,hkL,rfl,hcf,hA,hsm,hzf,hnk⟩:=hrel
    obtain ⟨va,vc,rfl⟩:=jr hA.cellrow
    obtain ⟨za,zc,rfl⟩:=jr hA.sealrow
    have HCF:=hid hcf
    have HA:=hid hA
    have HSMC:=hid hsm
    have HZF:=hid hzf
    clear hcf hA hsm hzf HA1
    have d6:=(xA (jb HA.out.below HT1.out)).2.2.2.2.2.2.1
    by_cases hlt:k < L.length
    ·have hki:(k:Int) < (L.length:Int):=by omega
     have hkm:k < M.length:=by omega
     have hkmi:(k:Int) < (M.length:Int):=by omega
     obtain ⟨sg,hsg,hsgl,s0,s1,s2,s3,s4,s5⟩:=VB (jx HT3.out HA.out.below) k hlt
     have hsg':=hsg
     subst hsg'
     have HBX:=hid (qm wr #[strB [(L[k]).sort],.int .i64 ((L[k]).g:Int),.int .i64 ((L[k]).c:Int),.int .i64 ((L[k]).p:Int),.int .i64 ((L[k]).start:Int),.int .i64 ((L[k]).many:Int)] 161).2.2.2
     have HAB:=hid (HA.out.alloc (.cells #[strB [(L[k]).sort],.int .i64 ((L[k]).g:Int),.int .i64 ((L[k]).c:Int),.int .i64 ((L[k]).p:Int),.int .i64 ((L[k]).start:Int),.int .i64 ((L[k]).many:Int)] 161))
     have hBw:=HA.out.size
     have HMOK:=hid (HMO.out k hlt hkm)
     have hq:=HSM.out L[k] (al hlt)
     have hss:=HSS.out L[k] (al hlt)
     have HGS:Hid (L[k]?=some L[k]):=ay hlt
     have HGM:Hid (M[k]?=some M[k]):=ay hkm
     go_upto_region 12 with fail
     clear s0 s1 s2 s3 s4 s5 d6 HA
     generalize hwx:wr.alloc _=wx at *
     clear hwx
     generalize hBB:wr.heap.size=B at *
     clear hBB
     obtain ⟨pg,hpg,_,p0⟩:=Tz (jx HT4.out HAB.out.below) k hkm
     subst hpg
     obtain ⟨_,_,_,_,_,_,_,d7,_⟩:=xA (jb HAB.out.below HT1.out)
     have HMA:=hid (fun y (hb:Below w.heap.size w y)=>Lz (jx HT5.out hb) k hkm)
     generalize L[k]=s at *
     generalize hmk:M[k]=m at *
     clear hmk
     have HST:=hid (IL pre r kd ky c HGS.out HGM.out HCF.out)
     obtain ⟨x0,x1,x2,x3,x4,x5⟩:=JU HBX.out
     by_cases hcc:s.c=c
     ·rw [aw hcc] at HST
      have hne:((s.c:Int) != (c:Int))=false:=by simp [hcc]
      have HCC:=hid hcc
      clear hcc
      obtain ⟨_,_,e2,_⟩:=Ud HAB.out.b1
      go_upto_if 76 with fail
      clear x0 x1 x2 x3 x4 x5 d7 p0
      go_cut [13,16,17,76] (fun sv' pv' okv _ wd=>∃ Z' ok p,pv'=strB p∧okv=.bool ok∧ok=(zE pre r ky s m).isSome∧(∀ q,zE pre r ky s m=some q→p=q)∧CAt wd w #[strB nm,.int .i64 kd,.int .i64 ky,nilV] #[strB nm,.int .i64 kd,.int .i64 ky,.int .i64 0,nilV] (.slice va cells.length vc) cells sv' Z'∧zF pre r ky c L M (k+1)=Z'∧Z'.length≤k+1∧wd.heap[B]?=some (.cells #[strB [s.sort],.int .i64 (s.g:Int),.int .i64 (s.c:Int),.int .i64 (s.p:Int),.int .i64 (s.start:Int),.int .i64 (s.many:Int)] 161 (0,0)))
      case first =>
       by_cases hk:0 < ky
       ·have HPF:Hid (zE pre r ky s m=qw (jl r ky) m.nonce (qo pre s.sort s.g s.c s.p) m.body):=by
         show _=_
         unfold zE
         rw [aj (by omega)]
        have hmo:=HMOK.out
        rw [HCC.out,Qd hc,HKY.out] at hmo
        have hmo2:m.nonce.length=4∧m.body.length≤65535:=by
         rcases hmo with h|h
         ·omega
         ·exact ⟨h.2.2.1,h.2.2.2.2⟩
        obtain ⟨sec,hsec⟩:∃ sec,sec=jl r ky:=⟨_,rfl⟩
        obtain ⟨bd,hbd⟩:∃ bd,bd=qo pre s.sort s.g s.c s.p:=⟨_,rfl⟩
        obtain ⟨oo,hoo⟩:∃ oo,oo=(zE pre r ky s m).isSome:=⟨_,rfl⟩
        have HOO:=hid hoo
        have HBD:Hid (∀ w',Calls Tryz.prog 86 #[strB pre,strB [s.sort],.int .i64 (s.g:Int),.int .i64 (s.c:Int),.int .i64 (s.p:Int)] w' fun e w2=>e=.returned (strB bd)∧Below w'.heap.size w' w2):=fun w'=>by
         rw [hbd]
         exact Ge pre s.sort s.g s.c s.p w' hpre (by omega) (by omega) (by omega)
        have HOP:Hid (∀ w',LiesK w' ra r→Calls Tryz.prog 89 #[.slice ra r.length rcap,.int .i64 ky,strB bd,.agg #[strB m.nonce,strB m.body]] w' fun e w2=>Below w'.heap.size w' w2∧∃ p,e=.returned (.tuple #[.agg #[strB sec,strB m.nonce,strB bd,strB m.body],strB p,.bool oo])∧∀ q,zE pre r ky s m=some q→p=q):=fun w' h=>by
         have hbl:=XH pre s.sort s.g s.c s.p hpre
         have h2:=Uw ra rcap r ky (qo pre s.sort s.g s.c s.p) m.nonce m.body w' h hrm (HSL8.out hk) (by omega) (by omega) (by unfold maxLen;omega)
         rw [hoo,hsec,hbd,HPF.out]
         exact h2
        have HZN:Hid (zF pre r ky c L M (k+1)=Z++[⟨sec,m.nonce,bd,m.body⟩]):=by
         show _=_
         rw [hsec,hbd,Lv HGS.out HGM.out HCC.out (by omega),HZF.out]
        clear hsec hbd hoo hmo
        obtain ⟨eg,heg,_⟩:=HMA.out wx HAB.out.below
        subst heg
        have HS17:Hid (∀ w',CAt w' w #[strB nm,.int .i64 kd,.int .i64 ky,nilV] #[strB nm,.int .i64 kd,.int .i64 ky,.int .i64 0,nilV] (.slice va cells.length vc) cells (.slice za Z.length zc) Z→w'.heap[B]?=some (.cells #[strB [s.sort],.int .i64 (s.g:Int),.int .i64 (s.c:Int),.int .i64 (s.p:Int),.int .i64 (s.start:Int),.int .i64 (s.many:Int)] 161 (0,0))→w'.cell? ⟨w.heap.size+1,2,none⟩=some (.int .i64 ky)∧w'.cell? ⟨B,0,none⟩=some (strB [s.sort])∧w'.cell? ⟨B,1,none⟩=some (.int .i64 (s.g:Int))∧w'.cell? ⟨B,2,none⟩=some (.int .i64 (s.c:Int))∧w'.cell? ⟨B,3,none⟩=some (.int .i64 (s.p:Int))∧w'.cell? ⟨T,8,none⟩=some (.slice (some ⟨eg,0,none⟩) M.length ec)∧w'.cell? ⟨eg,k*2,none⟩=some (strB m.nonce)∧w'.cell? ⟨eg,k*2+1,none⟩=some (strB m.body)):=fun y hA hB=>by
         obtain ⟨g,hg,_,h1,h2⟩:=HMA.out y hA.below
         simp only [aP,cy,cG] at hg
         subst hg
         obtain ⟨y0,y1,y2,y3,_⟩:=JU hB
         exact ⟨(Ud hA.b1).2.2.1,y0,y1,y2,y3,(xA (jb hA.below HT1.out)).2.2.2.2.2.2.2.2,h1,h2⟩
        have HBS:=hid (qm wx seal0 40).2.2.2
        have HAC:=hid (HAB.out.alloc (.cells seal0 40))
        have HBC:=hid (JK (.cells seal0 40) HBX.out)
        have HZB:=hid (zT HAB.out.sealrow (ae _))
        have HVB:=hid (zT HAB.out.cellrow (ae _))
        have hB2:=HAB.out.size
        have hBl:B < wx.heap.size:=(ag.1 HBX.out).1
        clear HAB HBX
        go_upto_region 17 with fail
        clear e2
        generalize hwy:wx.alloc _=wy at *
        clear hwy
        generalize hBs:wx.heap.size=B2 at *
        clear hBs
        have hS:=HS17.out wy HAC.out HBC.out
        refine wp_region_held_drew (S:=fun w'=>w'.cell? ⟨w.heap.size+1,2,none⟩=some (.int .i64 ky)∧w'.cell? ⟨B,0,none⟩=some (strB [s.sort])∧w'.cell? ⟨B,1,none⟩=some (.int .i64 (s.g:Int))∧w'.cell? ⟨B,2,none⟩=some (.int .i64 (s.c:Int))∧w'.cell? ⟨B,3,none⟩=some (.int .i64 (s.p:Int))∧w'.cell? ⟨T,8,none⟩=some (.slice (some ⟨eg,0,none⟩) M.length ec)∧w'.cell? ⟨eg,k*2,none⟩=some (strB m.nonce)∧w'.cell? ⟨eg,k*2+1,none⟩=some (strB m.body)) (by kernel_rfl) hS (fun hHeld=>?_)
        refine tk 0 (.slice ra r.length rcap) ?_
        refine tk 1 (.pointer (some ⟨w.heap.size+1,2,none⟩)) ?_
        refine tk 2 (.int .i64 ky) ?_
        refine tk 3 (strB pre) ?_
        refine tk 4 (.pointer (some ⟨B,0,none⟩)) ?_
        refine tk 5 (strB [s.sort]) ?_
        refine tk 6 (.pointer (some ⟨B,1,none⟩)) ?_
        refine tk 7 (.int .i64 (s.g:Int)) ?_
        refine tk 8 (.pointer (some ⟨B,2,none⟩)) ?_
        refine tk 9 (.int .i64 (s.c:Int)) ?_
        refine tk 10 (.pointer (some ⟨B,3,none⟩)) ?_
        refine tk 11 (.int .i64 (s.p:Int)) ?_
        refine tk 13 (.pointer (some ⟨T,0,none⟩)) ?_
        refine tk 14 (.pointer (some ⟨T,0,none⟩)) ?_
        refine tk 15 (.pointer (some ⟨T,8,none⟩)) ?_
        refine tk 16 (.slice (some ⟨eg,0,none⟩) M.length ec) ?_
        refine tk 17 (.int .i64 (k:Int)) ?_
        refine tk 18 (.pointer (some ⟨eg,k*2,none⟩)) ?_
        refine tk 19 (.agg #[strB m.nonce,strB m.body]) ?_
        simp only [jA,jB,jC,Act.put,jD,jE,jF]
        refine rd 12 (fun K hK=>?_)
        simp only [jA,jB,jC]
        go_simp
        go_at_call 86
        refine (HBD.out _).mono ?_
        rintro e y1 ⟨rfl,hb1⟩
        replace hb1:=ji hb1
        have HA1:=hid (HAC.out.later hb1)
        have HB1:=hid (jb hb1 HBC.out)
        have HS1:=hid (jb hb1 HBS.out)
        clear hb1 hS HAC HBC HBS
        have hS:=HS17.out y1 HA1.out HB1.out
        try go_wp2_with fail
        refine hK.out _ _ hS (fun hHeld=>?_)
        clear hK K
        try simp only [jA,jB,jC,Act.put,jD,jE,jF]
        refine rd 20 (fun K hK=>?_)
        simp only [jA,jB,jC]
        go_simp
        go_at_call 89
        refine (HOP.out _ (HLK.out.later HA1.out.below)).mono ?_
        rintro e y2 ⟨hb2,p,rfl,hpq⟩
        have HPQ:=hid hpq
        have HA2:=hid (HA1.out.later hb2)
        have HB2:=hid (jb hb2 HB1.out)
        have HS2:=hid (jb hb2 HS1.out)
        clear hb2 hS hpq HA1 HB1 HS1
        have hS:=HS17.out y2 HA2.out HB2.out
        try go_wp2_with fail
        refine hK.out _ _ hS (fun hHeld=>?_)
        clear hK K
        try simp only [jA,jB,jC,Act.put,jD,jE,jF]
        refine tk 21 (.tuple #[.agg #[strB sec,strB m.nonce,strB bd,strB m.body],strB p,.bool oo]) ?_
        refine tk 22 (.agg #[strB sec,strB m.nonce,strB bd,strB m.body]) ?_
        refine tk 23 (strB p) ?_
        refine tk 24 (.bool oo) ?_
        simp only [jA,jB,jC,Act.put,jD,jE,jF]
        refine rd 25 (fun K hK=>?_)
        simp only [jA,jB,jC]
        rw [aw (by simp [Region.wanted])]
        refine wp_store_row 40 (.tmp 18) (.tmp 100) rfl B2 #[strB sec,strB m.nonce,strB bd,strB m.body] rfl rfl 40 seal0 HS2.out (by kernel_rfl) rfl (by simp [Value.oneCell']) ?_
        have HA3:=hid (HA2.out.rowB B2 #[strB sec,strB m.nonce,strB bd,strB m.body] hB2 HVB.out HZB.out)
        have HB3:=hid (qp (QN y2 B2 #[strB sec,strB m.nonce,strB bd,strB m.body]) HB2.out (by omega))
        have HS3:=hid (setRow_heap y2 B2 _ #[strB sec,strB m.nonce,strB bd,strB m.body] 40 (0,0) HS2.out)
        clear hS HA2 HB2 HS2
        have hS:=HS17.out _ HA3.out HB3.out
        refine hK.out _ _ hS (fun hHeld=>?_)
        clear hK K
        try simp only [jA,jB,jC,Act.put,jD,jE,jF]
        refine tk 26 (strB p) ?_
        refine tk 27 (.bool oo) ?_
        simp only [jA,jB,jC,Act.put,jD,jE,jF]
        refine wpAnyH_done (by kernel_rfl) ?_ _
        clear hHeld hS
        generalize hy3:y2.setRow _ _=y3 at *
        clear hy3
        obtain ⟨i0,hi,hz0,hz1,hz2⟩:=info_parts Tryz.infoSealed
        go_wp2_with (first|(refine wpList_load_row rfl 40 (.tmp 18) rfl B2 rfl 40 #[strB sec,strB m.nonce,strB bd,strB m.body] (0,0) _ HS3.out Tryz.underlying40 rfl (by kernel_rfl) ?_)|(at_builtin;refine wpList_append_own _ rfl (.tmp 103) (.tmp 105) 28 rfl (w.heap.size+3) 40 i0 _ 4 64 Tryz.underlying28 hi hz0 hz1 hz2 rfl (by decide) _ _ _ rfl (HA3.out.sealrow.alloc _) ⟨_,0,none⟩ 1 1 [strB sec,strB m.nonce,strB bd,strB m.body] rfl rfl (qq y3 #[strB sec,strB m.nonce,strB bd,strB m.body] 40) (by intro u hu;simp at hu;rcases hu with rfl|rfl|rfl|rfl<;>rfl) (by unfold maxLen;omega) (by omega) (by have:=HA3.out.size;simp;omega) ?_;intro v4 w4 hown4 hgr4 _))
        have HA4:=hid ((HA3.out.alloc (.cells #[strB sec,strB m.nonce,strB bd,strB m.body] 40)).sealUp (Z':=Z++[⟨sec,m.nonce,bd,m.body⟩]) hgr4 (by rw [KO,ab];exact hown4))
        have HB4:=hid (jq hgr4 (HA3.out.sealrow.alloc (.cells #[strB sec,strB m.nonce,strB bd,strB m.body] 40)) (JK (.cells #[strB sec,strB m.nonce,strB bd,strB m.body] 40) HB3.out) (by decide))
        clear hown4 hgr4 HA3 HB3 HS3
        go_wp2
        go_meet
        case rel=>exact ⟨_,oo,p,rfl,rfl,HOO.out,HPQ.out,HA4.out,HZN.out,by rw [ab];simp;omega,HB4.out⟩
       ·have hk00:ky=0:=by omega
        go_wp2
        go_meet
        case rel=>exact ⟨Z,true,m.plain,rfl,rfl,by unfold zE;rw [aw hk00];rfl,fun q hq=>by unfold zE at hq;rw [aw hk00] at hq;injection hq,HAB.out,(Pe hk00).trans HZF.out,by omega,HBX.out⟩
      case rest =>
       obtain ⟨Z',ok,p,hpv,hov,hok,hpq,hA,hz',hn',hBX⟩:=hcut
       subst hpv hov
       have HAD:=hid hA
       have HBD:=hid hBX
       have HPQ:=hid hpq
       have HOK:=hid hok
       have HZF':=hid hz'
       clear hz'
       obtain ⟨zb,zd,hze⟩:=jr hA.sealrow
       subst hze
       clear hA hBX hpq hok HAB HBX
       obtain ⟨x0,x1,x2,x3,x4,x5⟩:=JU HBD.out
       obtain ⟨_,e1,e2,_⟩:=Ud HAD.out.b1
       cases ok with
       | false =>
        have HPN:Hid (zE pre r ky s m=none):=by
         show _=_
         cases hq:zE pre r ky s m with
         | none=>rfl
         | some q=>have:=HOK.out;rw [hq] at this;cases this
        have HSN:Hid (QI pre r kd ky cells s m=none):=by
         show _=_
         unfold QI
         rw [HPN.out]
        rw [HSN.out] at HST
        rw [Zh pre r kd ky c hML HST.out] at HFD
        clear x0 x1 x2 x3 x4 x5 e1 e2
        go_upto_region 26 with fail
        obtain ⟨_,_,_,g3,_⟩:=UA HAD.out.b2
        have f3:=frozen_of_row wc (w.heap.size+2) 3 _ _ HAD.out.b2
        go_upto_region 27 with fail
        have HE2:Hid (CAt (wc.setCell ⟨w.heap.size+2,3,none⟩ (.int .i64 2)) w #[strB nm,.int .i64 kd,.int .i64 ky,nilV] #[strB nm,.int .i64 kd,.int .i64 ky,.int .i64 2,nilV] (.slice va cells.length vc) cells (.slice zb Z'.length zd) Z'):=HAD.out.setF 3 (.int .i64 2)
        clear g3 f3
        generalize hye:wc.setCell _ _=ye at *
        clear hye
        go_wp2_with (first|(refine wpList_load_row rfl 91 (.tmp 11) rfl (w.heap.size+2) rfl 91 #[strB nm,.int .i64 kd,.int .i64 ky,.int .i64 2,nilV] (0,0) _ HE2.out.b2 Tryz.underlying91 rfl (by kernel_rfl) ?_)|(refine wpList_store_row rfl 91 (.tmp 8) (.tmp 144) rfl w.heap.size #[strB nm,.int .i64 kd,.int .i64 ky,.int .i64 2,nilV] rfl rfl 91 found0 HE2.out.b0 (by kernel_rfl) rfl (by simp [Value.oneCell']) ?_))
        have HoE:=hid (setRow_heap ye w.heap.size _ #[strB nm,.int .i64 kd,.int .i64 ky,.int .i64 2,nilV] 91 (0,0) HE2.out.b0)
        have HBE:=hid (HE2.out.below.trans (jg (QN ye w.heap.size #[strB nm,.int .i64 kd,.int .i64 ky,.int .i64 2,nilV]) (ae _) HE2.out.below.size))
        generalize hze:ye.setRow _ _=ze at *
        clear hze
        rw [HZD.out _ _ HFD.out,aj (by decide),HFD.out]
        exact bodyPost_ret (v:=.tuple #[.agg #[strB nm,.int .i64 kd,.int .i64 ky,.int .i64 2,nilV],nilV]) (qt (p:=8) (q:=9) rfl _ _ _ _ _ rfl rfl (run_loadVar_row (P:=Tryz.prog) ze w.heap.size 91 91 #[strB nm,.int .i64 kd,.int .i64 ky,.int .i64 2,nilV] (0,0) _ HoE.out Tryz.underlying91 rfl (by kernel_rfl))) rfl ⟨HBE.out,nilV,nilV,rfl,World.ownsRow_nil _ _ _ _,(fun x hx=>by cases hx),World.ownsRow_nil _ _ _ _,ah _⟩
       | true =>
        have HPS:Hid (zE pre r ky s m=some p):=by
         show _=_
         cases hq:zE pre r ky s m with
         | none=>have:=HOK.out;rw [hq] at this;cases this
         | some q=>rw [HPQ.out q hq]
        have hpl:p.length≤65535:=by
         have hmo:=HMOK.out
         rw [HCC.out,Qd hc,HKY.out] at hmo
         exact Dk hmo HPS.out
        have HSF:Hid (QI pre r kd ky cells s m=if s.sort=77 then (if p=JL kd (cells.drop s.start) then some cells else none) else match xg kd p with
          | none=>none
          | some l=>if l.length=s.many then some (cells++l) else none):=by
         show _=_
         unfold QI
         rw [HPS.out]
         rfl
        rcases hss with hso|hso
        ·rw [aj (by rw [hso];decide)] at HSF
         rw [hso] at x0
         have hvc:=(Ng HAD.out.cellrow).1
         obtain ⟨i1,hi1,hy0,hy1,hy2⟩:=info_parts Tryz.infoCell
         have hcl:=(HTH.out k cells HCF.out).1
         go_wp2_with fail
         clear x0 x1 x2 x3 x4 e1 e2
         refine (CQ kd p wc hkd (by unfold maxLen;omega)).mono ?_
         rintro e w5 ⟨v,rfl,hpa,hb5⟩
         have HA5:=hid (HAD.out.later hb5)
         have HB5:=hid (jb hb5 HBD.out)
         clear hb5 HAD HBD x5
         have x5:=(JU HB5.out).2.2.2.2.2
         cases hu:xg kd p with
         | none =>
          rw [hu] at hpa HSF
          simp only [Ep] at hpa
          obtain ⟨a2,cap2,hv⟩:=hpa
          subst hv
          rw [HSF.out] at HST
          rw [Zh pre r kd ky c hML HST.out] at HFD
          rw [show (none:Option (List CellB)).isSome=false from rfl]
          go_upto_region 26 with (at_builtin;refine xS rfl (.tmp 138) (.tmp 139) 59 rfl 58 i1 Tryz.underlying59 hi1 va cells.length vc rfl hvc a2 cap2 rfl ?_)
          clear x5
          obtain ⟨_,_,_,g3,_⟩:=UA HA5.out.b2
          have f3:=frozen_of_row w5 (w.heap.size+2) 3 _ _ HA5.out.b2
          go_upto_region 27 with fail
          have HE2:Hid (CAt (w5.setCell ⟨w.heap.size+2,3,none⟩ (.int .i64 2)) w #[strB nm,.int .i64 kd,.int .i64 ky,nilV] #[strB nm,.int .i64 kd,.int .i64 ky,.int .i64 2,nilV] (.slice va cells.length vc) cells (.slice zb Z'.length zd) Z'):=HA5.out.setF 3 (.int .i64 2)
          clear g3 f3
          generalize hye:w5.setCell _ _=ye at *
          clear hye
          go_wp2_with (first|(refine wpList_load_row rfl 91 (.tmp 11) rfl (w.heap.size+2) rfl 91 #[strB nm,.int .i64 kd,.int .i64 ky,.int .i64 2,nilV] (0,0) _ HE2.out.b2 Tryz.underlying91 rfl (by kernel_rfl) ?_)|(refine wpList_store_row rfl 91 (.tmp 8) (.tmp 144) rfl w.heap.size #[strB nm,.int .i64 kd,.int .i64 ky,.int .i64 2,nilV] rfl rfl 91 found0 HE2.out.b0 (by kernel_rfl) rfl (by simp [Value.oneCell']) ?_))
          have HoE:=hid (setRow_heap ye w.heap.size _ #[strB nm,.int .i64 kd,.int .i64 ky,.int .i64 2,nilV] 91 (0,0) HE2.out.b0)
          have HBE:=hid (HE2.out.below.trans (jg (QN ye w.heap.size #[strB nm,.int .i64 kd,.int .i64 ky,.int .i64 2,nilV]) (ae _) HE2.out.below.size))
          generalize hze:ye.setRow _ _=ze at *
          clear hze
          rw [HZD.out _ _ HFD.out,aj (by decide),HFD.out]
          exact bodyPost_ret (v:=.tuple #[.agg #[strB nm,.int .i64 kd,.int .i64 ky,.int .i64 2,nilV],nilV]) (qt (p:=8) (q:=9) rfl _ _ _ _ _ rfl rfl (run_loadVar_row (P:=Tryz.prog) ze w.heap.size 91 91 #[strB nm,.int .i64 kd,.int .i64 ky,.int .i64 2,nilV] (0,0) _ HoE.out Tryz.underlying91 rfl (by kernel_rfl))) rfl ⟨HBE.out,nilV,nilV,rfl,World.ownsRow_nil _ _ _ _,(fun x hx=>by cases hx),World.ownsRow_nil _ _ _ _,ah _⟩
         | some l =>
          have hl60:l.length≤60:=by
           have:=(Zg hu).1
           simp only [qD,au,az] at this
           exact this.1.2
          have HSL2:Hid (∀ x ∈ cells++l,qr x):=fun x hx=>by
           rcases aM.1 hx with h|h
           ·exact HSMC.out x h
           ·exact GB hu x h
          rw [hu] at hpa HSF
          simp only [Ep] at hpa
          obtain ⟨a2,cap2,hv,hlies⟩:=hpa
          subst hv
          have HLI:=hid hlies
          clear hlies hu
          rw [show (some l).isSome=true from rfl]
          simp only at HSF
          by_cases hlm:l.length=s.many
          ·rw [aw hlm] at HSF
           have hbq:((l.length:Int) == (s.many:Int))=true:=by rw [cI];omega
           rw [HSF.out] at HST
           by_cases hl0:l.length=0
           ·obtain rfl:l=[]:=ao hl0
            rw [aB] at HST
            have hbz:((0:Int) == (s.many:Int))=true:=by rw [cI];simp only [aR] at hlm;omega
            clear hl0 hlm hbq
            go_wp2_with (at_builtin;refine xS rfl (.tmp 138) (.tmp 139) 59 rfl 58 i1 Tryz.underlying59 hi1 va cells.length vc rfl hvc a2 cap2 rfl ?_)
            clear x5 hbz
            go_wp2
            go_roundw
            case rel=>exact ⟨k+1,cells,Z',by omega,by go_num,HST.out,HA5.out,HSMC.out,HZF'.out,by omega⟩
            case measure=>simp [intOf];omega
           ·have hl1:0 < l.length:=by omega
            obtain ⟨b2,off2,ha2,_,hcell⟩:=HLI.out.at_ (ai hl1)
            subst ha2
            have HCL:=hid (Lies.cells hcell)
            have hz5:=HA5.out.size
            clear hcell hl0 hlm
            go_wp2_with (at_builtin;refine wpList_append_lies _ rfl _ _ _ rfl (w.heap.size+3) 58 i1 _ 3 32 Tryz.underlying59 hi1 hy0 hy1 hy2 rfl (by omega) _ cells.length (jO cells) rfl HA5.out.cellrow ⟨b2,off2,none⟩ l.length cap2 (jO l) rfl (Jt l) HCL.out (Kh l) hl1 (by unfold maxLen;omega) (by omega) (by omega) _ rfl ?_;intro gg gc w6 hown6 hgr6 hat6 hlt6)
            have HA6:Hid (CAt w6 w #[strB nm,.int .i64 kd,.int .i64 ky,nilV] #[strB nm,.int .i64 kd,.int .i64 ky,.int .i64 0,nilV] (.slice (some ⟨gg,0,none⟩) (cells.length+l.length) gc) (cells++l) (.slice zb Z'.length zd) Z'):=HA5.out.cellsUp hgr6 (by
             rw [Js,ab]
             exact hown6)
            clear hown6 hgr6 hat6 hlt6 x5 hbq HCL
            go_wp2
            go_roundw
            case rel=>exact ⟨k+1,cells++l,Z',by omega,by go_num,HST.out,HA6.out,HSL2.out,HZF'.out,by omega⟩
            case measure=>simp [intOf];omega
          ·rw [aj hlm] at HSF
           have hbq:((l.length:Int) == (s.many:Int))=false:=by rw [aQ];omega
           rw [HSF.out] at HST
           rw [Zh pre r kd ky c hML HST.out] at HFD
           by_cases hl0:l.length=0
           ·obtain rfl:l=[]:=ao hl0
            have hbz:((0:Int) == (s.many:Int))=false:=by rw [aQ];simp only [aR] at hlm;omega
            clear hl0 hlm hbq
            go_upto_region 26 with (at_builtin;refine xS rfl (.tmp 138) (.tmp 139) 59 rfl 58 i1 Tryz.underlying59 hi1 va cells.length vc rfl hvc a2 cap2 rfl ?_)
            clear x5 hbz
            obtain ⟨_,_,_,g3,_⟩:=UA HA5.out.b2
            have f3:=frozen_of_row w5 (w.heap.size+2) 3 _ _ HA5.out.b2
            go_upto_region 27 with fail
            have HE2:Hid (CAt (w5.setCell ⟨w.heap.size+2,3,none⟩ (.int .i64 2)) w #[strB nm,.int .i64 kd,.int .i64 ky,nilV] #[strB nm,.int .i64 kd,.int .i64 ky,.int .i64 2,nilV] (.slice va cells.length vc) cells (.slice zb Z'.length zd) Z'):=HA5.out.setF 3 (.int .i64 2)
            clear g3 f3
            generalize hye:w5.setCell _ _=ye at *
            clear hye
            go_wp2_with (first|(refine wpList_load_row rfl 91 (.tmp 11) rfl (w.heap.size+2) rfl 91 #[strB nm,.int .i64 kd,.int .i64 ky,.int .i64 2,nilV] (0,0) _ HE2.out.b2 Tryz.underlying91 rfl (by kernel_rfl) ?_)|(refine wpList_store_row rfl 91 (.tmp 8) (.tmp 144) rfl w.heap.size #[strB nm,.int .i64 kd,.int .i64 ky,.int .i64 2,nilV] rfl rfl 91 found0 HE2.out.b0 (by kernel_rfl) rfl (by simp [Value.oneCell']) ?_))
            have HoE:=hid (setRow_heap ye w.heap.size _ #[strB nm,.int .i64 kd,.int .i64 ky,.int .i64 2,nilV] 91 (0,0) HE2.out.b0)
            have HBE:=hid (HE2.out.below.trans (jg (QN ye w.heap.size #[strB nm,.int .i64 kd,.int .i64 ky,.int .i64 2,nilV]) (ae _) HE2.out.below.size))
            generalize hze:ye.setRow _ _=ze at *
            clear hze
            rw [HZD.out _ _ HFD.out,aj (by decide),HFD.out]
            exact bodyPost_ret (v:=.tuple #[.agg #[strB nm,.int .i64 kd,.int .i64 ky,.int .i64 2,nilV],nilV]) (qt (p:=8) (q:=9) rfl _ _ _ _ _ rfl rfl (run_loadVar_row (P:=Tryz.prog) ze w.heap.size 91 91 #[strB nm,.int .i64 kd,.int .i64 ky,.int .i64 2,nilV] (0,0) _ HoE.out Tryz.underlying91 rfl (by kernel_rfl))) rfl ⟨HBE.out,nilV,nilV,rfl,World.ownsRow_nil _ _ _ _,(fun x hx=>by cases hx),World.ownsRow_nil _ _ _ _,ah _⟩
           ·have hl1:0 < l.length:=by omega
            obtain ⟨b2,off2,ha2,_,hcell⟩:=HLI.out.at_ (ai hl1)
            subst ha2
            have HCL:=hid (Lies.cells hcell)
            have hz5:=HA5.out.size
            clear hcell hl0 hlm
            go_upto_region 26 with (at_builtin;refine wpList_append_lies _ rfl _ _ _ rfl (w.heap.size+3) 58 i1 _ 3 32 Tryz.underlying59 hi1 hy0 hy1 hy2 rfl (by omega) _ cells.length (jO cells) rfl HA5.out.cellrow ⟨b2,off2,none⟩ l.length cap2 (jO l) rfl (Jt l) HCL.out (Kh l) hl1 (by unfold maxLen;omega) (by omega) (by omega) _ rfl ?_;intro gg gc w6 hown6 hgr6 hat6 hlt6)
            have HA6:Hid (CAt w6 w #[strB nm,.int .i64 kd,.int .i64 ky,nilV] #[strB nm,.int .i64 kd,.int .i64 ky,.int .i64 0,nilV] (.slice (some ⟨gg,0,none⟩) (cells.length+l.length) gc) (cells++l) (.slice zb Z'.length zd) Z'):=HA5.out.cellsUp hgr6 (by
             rw [Js,ab]
             exact hown6)
            clear hown6 hgr6 hat6 hlt6 x5 hbq HCL
            obtain ⟨_,_,_,g3,_⟩:=UA HA6.out.b2
            have f3:=frozen_of_row w6 (w.heap.size+2) 3 _ _ HA6.out.b2
            go_upto_region 27 with fail
            have HE2:Hid (CAt (w6.setCell ⟨w.heap.size+2,3,none⟩ (.int .i64 2)) w #[strB nm,.int .i64 kd,.int .i64 ky,nilV] #[strB nm,.int .i64 kd,.int .i64 ky,.int .i64 2,nilV] (.slice (some ⟨gg,0,none⟩) (cells.length+l.length) gc) (cells++l) (.slice zb Z'.length zd) Z'):=HA6.out.setF 3 (.int .i64 2)
            clear g3 f3
            generalize hye:w6.setCell _ _=ye at *
            clear hye
            go_wp2_with (first|(refine wpList_load_row rfl 91 (.tmp 11) rfl (w.heap.size+2) rfl 91 #[strB nm,.int .i64 kd,.int .i64 ky,.int .i64 2,nilV] (0,0) _ HE2.out.b2 Tryz.underlying91 rfl (by kernel_rfl) ?_)|(refine wpList_store_row rfl 91 (.tmp 8) (.tmp 144) rfl w.heap.size #[strB nm,.int .i64 kd,.int .i64 ky,.int .i64 2,nilV] rfl rfl 91 found0 HE2.out.b0 (by kernel_rfl) rfl (by simp [Value.oneCell']) ?_))
            have HoE:=hid (setRow_heap ye w.heap.size _ #[strB nm,.int .i64 kd,.int .i64 ky,.int .i64 2,nilV] 91 (0,0) HE2.out.b0)
            have HBE:=hid (HE2.out.below.trans (jg (QN ye w.heap.size #[strB nm,.int .i64 kd,.int .i64 ky,.int .i64 2,nilV]) (ae _) HE2.out.below.size))
            generalize hze:ye.setRow _ _=ze at *
            clear hze
            rw [HZD.out _ _ HFD.out,aj (by decide),HFD.out]
            exact bodyPost_ret (v:=.tuple #[.agg #[strB nm,.int .i64 kd,.int .i64 ky,.int .i64 2,nilV],nilV]) (qt (p:=8) (q:=9) rfl _ _ _ _ _ rfl rfl (run_loadVar_row (P:=Tryz.prog) ze w.heap.size 91 91 #[strB nm,.int .i64 kd,.int .i64 ky,.int .i64 2,nilV] (0,0) _ HoE.out Tryz.underlying91 rfl (by kernel_rfl))) rfl ⟨HBE.out,nilV,nilV,rfl,World.ownsRow_nil _ _ _ _,(fun x hx=>by cases hx),World.ownsRow_nil _ _ _ _,ah _⟩
        ·rw [aw hso] at HSF
         have hst:=(HTH.out k cells HCF.out).2 s HGS.out hso HCC.out
         have hcl:=(HTH.out k cells HCF.out).1
         rw [hso] at x0
         have hvc:=(Ng HAD.out.cellrow).1
         obtain ⟨vg,hvg⟩:∃ vg,va=some ⟨vg,0,none⟩:=by
          rcases HAD.out.cellrow.2 with ⟨h0,h1⟩|⟨g,cap,cur,hv,_⟩
          ·omega
          ·injection hv with hv1 _ _
           exact ⟨g,hv1⟩
         subst hvg
         obtain ⟨_,_,hva,_,hlies⟩:=JF HAD.out.cellrow (fun x hx=>⟨(HSMC.out x hx).1,(HSMC.out x hx).2.1,ar (HSMC.out x hx).2.2 (by decide)⟩)
         injection hva with hva1 hva2 hva3
         subst hva1 hva3
         clear hva2
         have hld:(cells.drop s.start).length=cells.length - s.start:=an
         have HLD:Hid (Lies wc (some ⟨vg,s.start*3,none⟩) (cells.drop s.start)):=by
          obtain ⟨b,off,hbo,hb1,hb2⟩:=hlies.at_ (ai (by omega))
          simp only [aP,cy,cG] at hbo
          obtain ⟨rfl,rfl⟩:=hbo
          have h:=Lies.part hlies.ok hb1 hb2 s.start (cells.length - s.start)
          rw [aC (by omega),bK] at h
          exact h
         obtain ⟨MT,hMT⟩:∃ MT,MT=JL kd (cells.drop s.start):=⟨_,rfl⟩
         rw [← hMT] at HSF
         have HMT:Hid (∀ w',Below wc.heap.size wc w'→Calls Tryz.prog 145 #[.int .i64 kd,.slice (some ⟨vg,s.start*3,none⟩) (cells.length - s.start) (vc - s.start)] w' fun e w2=>e=.returned (strB MT)∧Below w'.heap.size w' w2):=fun w' hw'=>by
          have h:=IY kd (some ⟨vg,s.start*3,none⟩) (vc - s.start) (cells.drop s.start) w' (by omega) (fun x hx=>HSMC.out x (List.mem_of_mem_drop hx)) (HLD.out.later hw')
          rw [hld] at h
          rw [hMT]
          exact h
         clear hMT hlies hld HLD
         have i1:(0:Int)≤(s.start:Int):=by omega
         have i2:(s.start:Int)≤(cells.length:Int):=by omega
         have i3:(cells.length:Int)≤(vc:Int):=by omega
         have i6:¬ vc=s.start:=by omega
         have i8:(cells.length:Int) - (s.start:Int)=((cells.length - s.start:Nat):Int):=by omega
         go_upto_region 20 with fail
         clear x0 x1 x2 x3 x5 e2
         by_cases hpm:p=MT
         ·rw [aw hpm] at HSF
          have hpq:(p == MT)=true:=by rw [hpm];simp
          clear hpm
          rw [HSF.out] at HST
          refine wp_region_held_drew (S:=fun w'=>w'.cell? ⟨w.heap.size+1,1,none⟩=some (.int .i64 kd)∧w'.cell? ⟨B,4,none⟩=some (.int .i64 (s.start:Int))) (by kernel_rfl) ⟨e1,x4⟩ (fun hHeld=>?_)
          refine tk 0 (strB p) ?_
          refine tk 1 (.pointer (some ⟨w.heap.size+1,1,none⟩)) ?_
          refine tk 2 (.int .i64 kd) ?_
          refine tk 3 (.slice (some ⟨vg,0,none⟩) cells.length vc) ?_
          refine tk 4 (.pointer (some ⟨B,4,none⟩)) ?_
          refine tk 5 (.int .i64 (s.start:Int)) ?_
          refine tk 6 (.slice (some ⟨vg,s.start*3,none⟩) (cells.length - s.start) (vc - s.start)) ?_
          simp only [jA,jB,jC,Act.put,jD,jE,jF]
          refine rd 7 (fun K hK=>?_)
          simp only [jA,jB,jC]
          go_simp
          go_at_call 145
          refine (HMT.out _ (qe (Below.refl _ _))).mono ?_
          rintro e w5 ⟨rfl,hb5⟩
          replace hb5:=ji hb5
          have HA5:=hid (HAD.out.later hb5)
          have HB5:=hid (jb hb5 HBD.out)
          clear hb5 HAD HBD e1 x4
          have e1:=(Ud HA5.out.b1).2.1
          have x4:=(JU HB5.out).2.2.2.2.1
          try go_wp2_with fail
          refine hK.out _ _ ⟨e1,x4⟩ (fun hHeld=>?_)
          clear hK K
          try simp only [jA,jB,jC,Act.put,jD,jE,jF]
          refine tk 8 (.bool true) ?_
          refine tk 9 (.bool true) ?_
          simp only [jA,jB,jC,Act.put,jD,jE,jF]
          refine wpAnyH_done (by kernel_rfl) ?_ _
          clear hHeld e1 x4
          clear hpq
          go_wp2
          go_roundw
          case rel=>exact ⟨k+1,cells,Z',by omega,by go_num,HST.out,HA5.out,HSMC.out,HZF'.out,by omega⟩
          case measure=>simp [intOf];omega
         ·rw [aj hpm] at HSF
          have hpq:(p == MT)=false:=by simp [hpm]
          clear hpm
          rw [HSF.out] at HST
          rw [Zh pre r kd ky c hML HST.out] at HFD
          refine wp_region_held_drew (S:=fun w'=>w'.cell? ⟨w.heap.size+1,1,none⟩=some (.int .i64 kd)∧w'.cell? ⟨B,4,none⟩=some (.int .i64 (s.start:Int))) (by kernel_rfl) ⟨e1,x4⟩ (fun hHeld=>?_)
          refine tk 0 (strB p) ?_
          refine tk 1 (.pointer (some ⟨w.heap.size+1,1,none⟩)) ?_
          refine tk 2 (.int .i64 kd) ?_
          refine tk 3 (.slice (some ⟨vg,0,none⟩) cells.length vc) ?_
          refine tk 4 (.pointer (some ⟨B,4,none⟩)) ?_
          refine tk 5 (.int .i64 (s.start:Int)) ?_
          refine tk 6 (.slice (some ⟨vg,s.start*3,none⟩) (cells.length - s.start) (vc - s.start)) ?_
          simp only [jA,jB,jC,Act.put,jD,jE,jF]
          refine rd 7 (fun K hK=>?_)
          simp only [jA,jB,jC]
          go_simp
          go_at_call 145
          refine (HMT.out _ (qe (Below.refl _ _))).mono ?_
          rintro e w5 ⟨rfl,hb5⟩
          replace hb5:=ji hb5
          have HA5:=hid (HAD.out.later hb5)
          have HB5:=hid (jb hb5 HBD.out)
          clear hb5 HAD HBD e1 x4
          have e1:=(Ud HA5.out.b1).2.1
          have x4:=(JU HB5.out).2.2.2.2.1
          try go_wp2_with fail
          refine hK.out _ _ ⟨e1,x4⟩ (fun hHeld=>?_)
          clear hK K
          try simp only [jA,jB,jC,Act.put,jD,jE,jF]
          refine tk 8 (.bool false) ?_
          refine tk 9 (.bool false) ?_
          simp only [jA,jB,jC,Act.put,jD,jE,jF]
          refine wpAnyH_done (by kernel_rfl) ?_ _
          clear hHeld e1 x4
          clear hpq
          go_upto_region 26 with fail
          obtain ⟨_,_,_,g3,_⟩:=UA HA5.out.b2
          have f3:=frozen_of_row w5 (w.heap.size+2) 3 _ _ HA5.out.b2
          go_upto_region 27 with fail
          have HE2:Hid (CAt (w5.setCell ⟨w.heap.size+2,3,none⟩ (.int .i64 2)) w #[strB nm,.int .i64 kd,.int .i64 ky,nilV] #[strB nm,.int .i64 kd,.int .i64 ky,.int .i64 2,nilV] (.slice (some ⟨vg,0,none⟩) cells.length vc) cells (.slice zb Z'.length zd) Z'):=HA5.out.setF 3 (.int .i64 2)
          clear g3 f3
          generalize hye:w5.setCell _ _=ye at *
          clear hye
          go_wp2_with (first|(refine wpList_load_row rfl 91 (.tmp 11) rfl (w.heap.size+2) rfl 91 #[strB nm,.int .i64 kd,.int .i64 ky,.int .i64 2,nilV] (0,0) _ HE2.out.b2 Tryz.underlying91 rfl (by kernel_rfl) ?_)|(refine wpList_store_row rfl 91 (.tmp 8) (.tmp 144) rfl w.heap.size #[strB nm,.int .i64 kd,.int .i64 ky,.int .i64 2,nilV] rfl rfl 91 found0 HE2.out.b0 (by kernel_rfl) rfl (by simp [Value.oneCell']) ?_))
          have HoE:=hid (setRow_heap ye w.heap.size _ #[strB nm,.int .i64 kd,.int .i64 ky,.int .i64 2,nilV] 91 (0,0) HE2.out.b0)
          have HBE:=hid (HE2.out.below.trans (jg (QN ye w.heap.size #[strB nm,.int .i64 kd,.int .i64 ky,.int .i64 2,nilV]) (ae _) HE2.out.below.size))
          generalize hze:ye.setRow _ _=ze at *
          clear hze
          rw [HZD.out _ _ HFD.out,aj (by decide),HFD.out]
          exact bodyPost_ret (v:=.tuple #[.agg #[strB nm,.int .i64 kd,.int .i64 ky,.int .i64 2,nilV],nilV]) (qt (p:=8) (q:=9) rfl _ _ _ _ _ rfl rfl (run_loadVar_row (P:=Tryz.prog) ze w.heap.size 91 91 #[strB nm,.int .i64 kd,.int .i64 ky,.int .i64 2,nilV] (0,0) _ HoE.out Tryz.underlying91 rfl (by kernel_rfl))) rfl ⟨HBE.out,nilV,nilV,rfl,World.ownsRow_nil _ _ _ _,(fun x hx=>by cases hx),World.ownsRow_nil _ _ _ _,ah _⟩
     ·rw [aj hcc] at HST
      have hne:((s.c:Int) != (c:Int))=true:=by simp;omega
      go_wp2
      go_roundw
      case rel=>exact ⟨k+1,cells,Z,by omega,by go_num,HST.out,HAB.out,HSMC.out,(SR HGS.out HGM.out hcc).trans HZF.out,by omega⟩
      case measure=>simp [intOf];omega
    ·have hke:k=L.length:=by omega
     have hki:¬ (k:Int) < (L.length:Int):=by omega
     subst hke
     rw [aF,← hML,aF] at HCF
     rw [HCF.out] at HFD
     simp only at HFD
     obtain ⟨_,_,_,_,g4⟩:=UA HA.out.b2
     have f4:=frozen_of_row wr (w.heap.size+2) 4 _ _ HA.out.b2
     go_upto_region 29 with fail
     have HE2:Hid (CAt (wr.setCell ⟨w.heap.size+2,4,none⟩ (.slice va cells.length vc)) w #[strB nm,.int .i64 kd,.int .i64 ky,nilV] #[strB nm,.int .i64 kd,.int .i64 ky,.int .i64 0,.slice va cells.length vc] (.slice va cells.length vc) cells (.slice za Z.length zc) Z):=HA.out.setF 4 (.slice va cells.length vc)
     clear g4 f4 HA d6
     generalize hye:wr.setCell _ _=ye at *
     clear hye
     go_wp2_with (first|(refine wpList_load_row rfl 91 (.tmp 11) rfl (w.heap.size+2) rfl 91 #[strB nm,.int .i64 kd,.int .i64 ky,.int .i64 0,.slice va cells.length vc] (0,0) _ HE2.out.b2 Tryz.underlying91 rfl (by kernel_rfl) ?_)|(refine wpList_store_row rfl 91 (.tmp 8) (.tmp 147) rfl w.heap.size #[strB nm,.int .i64 kd,.int .i64 ky,.int .i64 0,.slice va cells.length vc] rfl rfl 91 found0 HE2.out.b0 (by kernel_rfl) rfl (by simp [Value.oneCell']) ?_))
     have hgr:=QN ye w.heap.size #[strB nm,.int .i64 kd,.int .i64 ky,.int .i64 0,.slice va cells.length vc]
     have HoE:=hid (setRow_heap ye w.heap.size _ #[strB nm,.int .i64 kd,.int .i64 ky,.int .i64 0,.slice va cells.length vc] 91 (0,0) HE2.out.b0)
     have HBE:=hid (HE2.out.below.trans (jg hgr (ae _) HE2.out.below.size))
     have HCE:=hid (jw (HE2.out.cellrow.kept hgr (Jq HE2.out.cellrow (by omega))) (Nat.le_add_right w.heap.size 3))
     have HZE:=hid (jw (HE2.out.sealrow.kept hgr (Jq HE2.out.sealrow (by omega))) (Nat.le_add_right w.heap.size 3))
     clear hgr HE2
     generalize hze:ye.setRow _ _=ze at *
     clear hze
     rw [HZD.out _ _ HFD.out,aw rfl,HZF.out,HFD.out]
     exact bodyPost_ret (v:=.tuple #[.agg #[strB nm,.int .i64 kd,.int .i64 ky,.int .i64 0,.slice va cells.length vc],.slice za Z.length zc]) (qt (p:=8) (q:=9) rfl _ _ _ _ _ rfl rfl (run_loadVar_row (P:=Tryz.prog) ze w.heap.size 91 91 #[strB nm,.int .i64 kd,.int .i64 ky,.int .i64 0,.slice va cells.length vc] (0,0) _ HoE.out Tryz.underlying91 rfl (by kernel_rfl))) rfl ⟨HBE.out,_,_,rfl,HCE.out,HSMC.out,HZE.out,by omega⟩
end
end Go.Proofs.YthhpbhpfagoapaaGreat
