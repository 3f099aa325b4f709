import Derived.Test.YthhpbhpfagoapaaGreatJAT
import Derived.Test.YthhpbhpfagoapaaGreatJAR
import Derived.Test.YthhpbhpfagoapaaGreatJAZ
import Derived.Test.YthhpbhpfagoapaaGreatJAM
namespace Go.Proofs.YthhpbhpfagoapaaGreat
set_option linter.unusedVariables false
set_option linter.unusedSimpArgs false
set_option maxRecDepth 100000
set_option maxHeartbeats 16000000
open Go.RowKit
section
theorem PA {kind:Int} {l:List CellB} (h:jR kind l=true) (hok:∀ c ∈ l,okC c):(∀ c ∈ l,qt c)∧l.length≤60:=by
 unfold jR at h
 simp only [Bool.and_eq_true,Bool.or_eq_true,decide_eq_true_eq,List.all_eq_true] at h
 obtain ⟨⟨hk,hl⟩,hf⟩:=h
 refine ⟨fun c hc=>?_,hl⟩
 obtain ⟨h0,h1,_⟩:=hok c hc
 refine ⟨h0,h1,?_⟩
 have:=hf c hc
 unfold qM at this
 split at this
 ·simp at this;rw [this.2];simp
 ·split at this
  ·simp at this;rw [this];simp
  ·simp at this;exact this.2
def RW (kind:Int) (l:List CellB):List UInt8:=if jR kind l=true then xg kind l else []
def Rr (kind:Int) (l:List CellB):Int:=if jR kind l=true then 0 else 5
end
section
def Zs (P:List (ColB × Value)):List Value:=P.flatMap fun p=>[strB p.1.name,.int .i64 p.1.kind,.int .i64 p.1.key,p.2]
theorem ZI (l:List (ColB × Value)):(Zs l).length=l.length*4:=VK _ 4 (fun _=>rfl) l
theorem Ej (a b:List (ColB × Value)):Zs (a++b)=Zs a++Zs b:=by simp [Zs]
theorem EN (l:List (ColB × Value)) (j:Nat) (h:j < l.length):(Zs l)[j*4]?=some (strB (l[j]).1.name)∧(Zs l)[j*4+1]?=some (.int .i64 (l[j]).1.kind)∧(Zs l)[j*4+2]?=some (.int .i64 (l[j]).1.key)∧(Zs l)[j*4+3]?=some (l[j]).2 :=
 ⟨QA _ 4 (fun _=>rfl) l j 0 h (by decide),QA _ 4 (fun _=>rfl) l j 1 h (by decide),QA _ 4 (fun _=>rfl) l j 2 h (by decide),QA _ 4 (fun _=>rfl) l j 3 h (by decide)⟩
abbrev markCol:ColB:=⟨[109,97,114,107],-77,0,[]⟩
def LH:ColB × Value:=(markCol,.slice none 0 0)
theorem Tryz.infoColumn:(Tryz.prog.info? 61).map (fun i=>(i.zero,i.size,i.bytes))=some (some (.agg #[.string ⟨#[]⟩,.int .i64 0,.int .i64 0,.slice none 0 0]),4,56):=by kernel_rfl
abbrev OwnT (W:World) (base g n:Nat) (P:List (ColB × Value)):Prop:=W.ownsRow base 61 4 (.slice (some ⟨g,0,none⟩) n n) n (Zs P)
theorem OwnT.heap {W:World} {base g n:Nat} {P:List (ColB × Value)} (h:OwnT W base g n P):∃ cur,W.heap[g]?=some (.cells cur 61 (0,0)):=by
 rcases h.2 with ⟨h',_⟩|⟨g',cap',cur,h',_,hg,_⟩
 ·simp at h'
 ·simp only [Value.slice.injEq,Option.some.injEq,Addr.mk.injEq,and_true,true_and] at h'
  obtain ⟨rfl,rfl⟩:=h'
  exact ⟨cur,hg⟩
theorem OwnT.at_ {W:World} {base g n:Nat} {P:List (ColB × Value)} (h:OwnT W base g n P) (j:Nat) (hj:j < P.length) :
  W.cell? ⟨g,j*4,none⟩=some (strB (P[j]).1.name)∧W.cell? ⟨g,j*4+1,none⟩=some (.int .i64 (P[j]).1.kind)∧W.cell? ⟨g,j*4+2,none⟩=some (.int .i64 (P[j]).1.key)∧W.cell? ⟨g,j*4+3,none⟩=some (P[j]).2:=by
 have hn:=h.1
 rw [ZI] at hn
 obtain ⟨h1,h2,h3,h4⟩:=EN P j hj
 exact ⟨by rw [h.cellAt _ (by omega)];exact h1,by rw [h.cellAt _ (by omega)];exact h2,by rw [h.cellAt _ (by omega)];exact h3,by rw [h.cellAt _ (by omega)];exact h4⟩
def OwnCells (w:World) (base:Nat) (v:Value) (l:List CellB):Prop :=
 ∃ g,v=.slice (some ⟨g,0,none⟩) l.length (l.length+8)∧w.ownsRow base 58 3 (.slice (some ⟨g,0,none⟩) (l.length+8) (l.length+8)) (l.length+8) (jX (Av l 8))
theorem OwnCells.keptT {T:List TypeId} {B:Nat} {w w':World} {base:Nat} {v:Value} {l:List CellB} (h:OwnCells w base v l) (hk:KeptT T B w w') (hT:¬ 58 ∈ T):OwnCells w' base v l:=by
 obtain ⟨g,hv,ho⟩:=h
 exact ⟨g,hv,hk.owns ho hT⟩
theorem JC {W W':World} {base e size n:Nat} {v:Value} {xs:List Value} (h:W.ownsRow base e size v n xs) (hb:Below W.heap.size W W'):W'.ownsRow base e size v n xs :=
 h.kept (AY hb) (Classical.em _)
theorem OwnCells.later {w w':World} {base:Nat} {v:Value} {l:List CellB} (h:OwnCells w base v l) (hb:Below w.heap.size w w'):OwnCells w' base v l:=by
 obtain ⟨g,hv,ho⟩:=h
 exact ⟨g,hv,JC ho hb⟩
theorem OwnCells.base_ {w:World} {b b':Nat} {v:Value} {l:List CellB} (h:OwnCells w b v l) (hb:b'≤b):OwnCells w b' v l:=by
 obtain ⟨g,hv,h1,h2⟩:=h
 refine ⟨g,hv,h1,?_⟩
 rcases h2 with h2|⟨g,cap,cur,hv,hg,rest⟩
 ·exact .inl h2
 ·exact .inr ⟨g,cap,cur,hv,Nat.le_trans hb hg,rest⟩
structure HandedT (w:World) (base g:Nat) (t:List ColB):Prop where
 ex:∃ P:List (ColB × Value),P.map Prod.fst=t∧(∀ p ∈ P,OwnCells w base p.2 p.1.cells)∧OwnT w base g (t.length+8) (P++List.replicate 8 LH)
theorem HandedT.later {w w':World} {base g:Nat} {t:List ColB} (h:HandedT w base g t) (hb:Below w.heap.size w w'):HandedT w' base g t:=by
 obtain ⟨P,h1,h2,h3⟩:=h.ex
 exact ⟨P,h1,fun p hp=>(h2 p hp).later hb,JC h3 hb⟩
theorem HandedT.keptT {T:List TypeId} {B:Nat} {w w':World} {base g:Nat} {t:List ColB} (h:HandedT w base g t) (hk:KeptT T B w w') (hT:¬ 58 ∈ T) (hT2:¬ 61 ∈ T):HandedT w' base g t:=by
 obtain ⟨P,h1,h2,h3⟩:=h.ex
 exact ⟨P,h1,fun p hp=>(h2 p hp).keptT hk hT,hk.owns h3 hT2⟩
theorem LiesT.parts {w:World} {a:Option Addr} {t:List ColB} (h:LiesT w a t):∀ c ∈ t,(∀ x ∈ c.cells,okC x)∧c.cells.length*32≤140737488351232:=by
 intro c hc
 obtain ⟨k,hk,rfl⟩:=List.mem_iff_getElem.1 hc
 obtain ⟨b,off,_,_,hcell⟩:=h.at_ (List.ne_nil_of_length_pos (by omega))
 obtain ⟨_,_,_,v,_,ca,cap,_,_,hl,hm⟩:=hcell k hk
 exact ⟨hl.ok,hm⟩
theorem HandedT.lies {w w0:World} {base g:Nat} {t:List ColB} {a:Option Addr} (h:HandedT w base g t) (hl:LiesT w0 a t):LiesT w (some ⟨g,0,none⟩) t:=by
 obtain ⟨P,h1,h2,h3⟩:=h.ex
 have hp:=hl.parts
 have hlen:P.length=t.length:=by rw [← h1,List.length_map]
 refine ⟨hl.ok,fun hne=>⟨g,0,rfl,(h3.lt g rfl).2,fun j hj=>?_⟩⟩
 have hjP:j < P.length:=by omega
 obtain ⟨c1,c2,c3,c4⟩:=h3.at_ j (by rw [List.length_append];omega)
 rw [List.getElem_append_left hjP] at c1 c2 c3 c4
 have e:P[j].1=t[j]:=by
  have:(P.map Prod.fst)[j]'(by rw [List.length_map];exact hjP)=t[j]:=by simp only [h1]
  simpa using this
 rw [e] at c1 c2 c3
 simp only [Nat.zero_add]
 refine ⟨c1,c2,c3,_,c4,?_⟩
 obtain ⟨gi,hv,ho⟩:=h2 P[j] (List.getElem_mem _)
 rw [e] at hv ho
 obtain ⟨p1,p2⟩:=hp t[j] (List.getElem_mem _)
 rw [Et] at ho
 exact ⟨_,_,hv,by omega,Az ho p1,p2⟩
end
end Go.Proofs.YthhpbhpfagoapaaGreat
