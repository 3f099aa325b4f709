import Derived.Test.YthhpbhpfagoapaaGreatJAA
import Derived.Test.YthhpbhpfagoapaaGreatJAZ
import Derived.Test.YthhpbhpfagoapaaGreatJAH
import Derived.Deep.RegionHeld3
import Derived.Deep.AppendLies
namespace Go.Proofs.YthhpbhpfagoapaaGreat
set_option linter.unusedVariables false
set_option linter.unusedSimpArgs false
set_option maxRecDepth 100000
set_option maxHeartbeats 16000000
open Go.RowKit
section
theorem Cn (w:World):Calls Tryz.prog 194 #[.slice none 0 0] w fun e w'=>e=.returned (strB [])∧Below w.heap.size w w':=by
 obtain ⟨i0,hi,hz0,hz1,hz2⟩:=info_parts Tryz.infoU8
 go_enter Tryz.func194,Tryz.ntmps194
 go_wp2
 go_loop [3,11] (fun t i=>i=.int .i64 0∧t=.int .i64 0) (fun _ _=>0)
 case atStart=>exact ⟨rfl,rfl⟩
 case round =>
  obtain ⟨rfl,rfl⟩:=hrel
  go_wp2_with (at_make;refine wpList_make_own _ rfl (.const (.int .i64 0)) (.tmp 20) 149 rfl w.heap.size 5 i0 (.int .u8 0) 1 Tryz.underlying149 hi hz0 hz1 .i64 .i64 _ 0 rfl rfl rfl (by rw [hz2];omega) (by unfold maxLen;omega) (ae _) ?_;intro w3 hown hgr)
  have hB3:Below w.heap.size w w3:=(Below.refl _ _).grown hgr (ae _) (fun _ h=>by cases h)
  clear hgr
  go_loopw [6,24] (fun v i wr=>i=.int .i64 0∧wr.ownsRow w.heap.size 5 1 v 0 (qL [])∧Below w.heap.size w wr) (fun _ _ _=>0)
  case atStart=>exact ⟨rfl,hown,hB3⟩
  case round =>
   clear hown hB3
   obtain ⟨rfl,hown,hB⟩:=hrel
   have hcv:=Vg hown
   go_wp2
   go_ret
   exact ⟨rfl,hB⟩
abbrev modV (sort:UInt8) (g c p:Nat):Value:=.agg #[strB [sort],.int .i64 (g:Int),.int .i64 (c:Int),.int .i64 (p:Int)]
def BoxM (w:World) (q:Nat) (sort:UInt8) (g c p:Nat):Prop :=
 w.cell? ⟨q,0,none⟩=some (strB [sort])∧w.cell? ⟨q,1,none⟩=some (.int .i64 (g:Int))∧w.cell? ⟨q,2,none⟩=some (.int .i64 (c:Int))∧w.cell? ⟨q,3,none⟩=some (.int .i64 (p:Int))
theorem BoxM.later {w w':World} {q g c p:Nat} {sort:UInt8} (h:BoxM w q sort g c p) (hb:Below w.heap.size w w') (hq:q < w.heap.size):BoxM w' q sort g c p:=by
 obtain ⟨h0,h1,h2,h3⟩:=h
 exact ⟨(hb.cell (p:=⟨q,_,none⟩) hq).trans h0,(hb.cell (p:=⟨q,_,none⟩) hq).trans h1,(hb.cell (p:=⟨q,_,none⟩) hq).trans h2,(hb.cell (p:=⟨q,_,none⟩) hq).trans h3⟩
theorem BoxM.alloc {w:World} {q g c p:Nat} {sort:UInt8} (h:BoxM w q sort g c p) (o:Obj):BoxM (w.alloc o) q sort g c p:=by
 obtain ⟨h0,h1,h2,h3⟩:=h
 exact ⟨jc o h0,jc o h1,jc o h2,jc o h3⟩
theorem BoxM.drew {w:World} {q g c p:Nat} {sort:UInt8} (h:BoxM w q sort g c p):BoxM w.drew q sort g c p:=h
def Joins (w:World) (v:Value) (f:List UInt8):Prop:=∀ w',Below w.heap.size w w'→Calls Tryz.prog 194 #[v] w' fun e w2=>e=.returned (strB f)∧Below w'.heap.size w' w2
theorem Mi (w:World):Joins w (.slice none 0 0) []:=fun w' _=>Cn w'
theorem Yp (sort:UInt8) (g c p:Nat) (pre:List UInt8) (bv:Value) (f:List UInt8) (w:World) (hg:g≤65535) (hc:c≤65535) (hp:p≤65535) (hpre:pre.length≤20) (hf:f.length≤5000) (hJ:Joins w bv f) :
  Calls Tryz.prog 171 #[modV sort g c p,strB pre,bv] w fun e w'=>e=.returned (strB (qo pre sort g c p++f))∧Below w.heap.size w w':=by
 have HJ:=hid hJ
 clear hJ
 have HE:Hid ([xB pre,[sort],qE (g:Int),qE (c:Int),qE (p:Int),f].flatten=qo pre sort g c p++f):=by simp [Hid,qo]
 have hxl:(xB pre).length≤40:=by have:=jM pre.length (by omega);simp only [xB,ab];omega
 go_enter Tryz.func171,Tryz.ntmps171
 go_wp2_with fail
 obtain ⟨hb0,hs0,hc0,_⟩:=qm w #[strB [sort],.int .i64 (g:Int),.int .i64 (c:Int),.int .i64 (p:Int)] 111
 have X0:BoxM _ w.heap.size sort g c p:=⟨hc0 0,hc0 1,hc0 2,hc0 3⟩
 have Hb0:=hid hb0
 clear hc0 hb0
 generalize w.alloc _=wb at *
 generalize hX:xB pre=X at *
 generalize hG:qE (g:Int)=G at *
 generalize hC:qE (c:Int)=C at *
 generalize hP:qE (p:Int)=P at *
 have HT:Hid (∀ w',Calls Tryz.prog 204 #[strB pre] w' fun e w2=>e=.returned (strB X)∧Below w'.heap.size w' w2):=by
  intro w';rw [← hX];exact Rh pre w' (by omega)
 have HG:Hid (∀ w',Calls Tryz.prog 220 #[.int .i64 (g:Int)] w' fun e w2=>e=.returned (strB G)∧Below w'.heap.size w' w2):=by
  intro w';rw [← hG];exact KV _ w' (by omega) (by omega)
 have HC:Hid (∀ w',Calls Tryz.prog 220 #[.int .i64 (c:Int)] w' fun e w2=>e=.returned (strB C)∧Below w'.heap.size w' w2):=by
  intro w';rw [← hC];exact KV _ w' (by omega) (by omega)
 have HP:Hid (∀ w',Calls Tryz.prog 220 #[.int .i64 (p:Int)] w' fun e w2=>e=.returned (strB P)∧Below w'.heap.size w' w2):=by
  intro w';rw [← hP];exact KV _ w' (by omega) (by omega)
 have hGl:G.length=2:=by rw [← hG];rfl
 have hCl:C.length=2:=by rw [← hC];rfl
 have hPl:P.length=2:=by rw [← hP];rfl
 clear hX hG hC hP
 go_region_held3 (fun w'=>w'.cell? ⟨w.heap.size,0,none⟩=some (strB [sort])∧w'.cell? ⟨w.heap.size,1,none⟩=some (.int .i64 (g:Int))∧w'.cell? ⟨w.heap.size,2,none⟩=some (.int .i64 (c:Int))∧w'.cell? ⟨w.heap.size,3,none⟩=some (.int .i64 (p:Int)))
  (first|exact X6|exact X5.alloc _|exact X5|exact X4|exact X3|exact X2|exact X1|exact X0)
  (first
   | (go_at_call 204;refine (HT.out _).mono ?_;rintro e w1 ⟨rfl,hb1⟩;replace hb1:=ji hb1;have X1:=X0.later hb1 hs0;have hs1:=aa hs0 hb1.size)
   | (go_at_call_of 220 (Value.int IntKind.i64 (g:Int));refine (HG.out _).mono ?_;rintro e w2 ⟨rfl,hb2⟩;have X2:=X1.later hb2 hs1;have hs2:=aa hs1 hb2.size)
   | (go_at_call_of 220 (Value.int IntKind.i64 (c:Int));refine (HC.out _).mono ?_;rintro e w3 ⟨rfl,hb3⟩;have X3:=X2.later hb3 hs2;have hs3:=aa hs2 hb3.size)
   | (go_at_call_of 220 (Value.int IntKind.i64 (p:Int));refine (HP.out _).mono ?_;rintro e w4 ⟨rfl,hb4⟩;have X4:=X3.later hb4 hs3;have hs4:=aa hs3 hb4.size)
   | (go_at_call_of 194 bv;refine (HJ.out _ ?_).mono ?_;exact (((Hb0.out.trans (hb1.mono Hb0.out.size)).trans (hb2.mono (ar Hb0.out.size hb1.size))).trans (hb3.mono (ar (ar Hb0.out.size hb1.size) hb2.size))).trans (hb4.mono (ar (ar (ar Hb0.out.size hb1.size) hb2.size) hb3.size));rintro e w5 ⟨rfl,hb5⟩;have X5:=X4.later hb5 hs4;have hs5:=aa hs4 hb5.size)
   | (go_at_call 194;refine (Xy [X,[sort],G,C,P,f] #[strB X,strB [sort],strB G,strB C,strB P,strB f] 6 _ _ ?_ rfl rfl ?_ ?_).mono ?_;(first|rfl|simp);decide;(simp;omega);rintro e w6 ⟨rfl,hb6⟩;have X6:=X5.later hb6 hs5))
 have hB1:=Hb0.out.trans (hb1.mono Hb0.out.size)
 have hB2:=hB1.trans (hb2.mono hB1.size)
 have hB3:=hB2.trans (hb3.mono hB2.size)
 have hB4:=hB3.trans (hb4.mono hB3.size)
 have hB5:=hB4.trans (hb5.mono hB4.size)
 have HB6:=hid (hB5.trans (hb6.mono hB5.size))
 clear X0 X1 X2 X3 X4 X5 X6 hb1 hb2 hb3 hb4 hb5 hb6 hB1 hB2 hB3 hB4 hB5
 go_wp2
 go_ret
 exact ⟨qC (by rw [← HE.out];simp),HB6.out⟩
end
section
def zI (ps:List Nat):List Value:=ps.map fun (n:Nat)=>Value.int .i64 (n:Int)
theorem jq {w w':World} {u:Value} {base e size n q:Nat} {xs:List Value} {C:Array Value} {t:TypeId} (hg:w.grownBy w' u.ownBlock) (ho:w.ownsRow base e size u n xs) (h:w.heap[q]?=some (.cells C t (0,0))) (ht:t≠e) :
  w'.heap[q]?=some (.cells C t (0,0)):=by
 rw [hg.block q (ag.1 h).1 ?_]
 ·exact h
 ·intro hq
  rcases ho.2 with ⟨rfl,_⟩|⟨g,cap,cur,rfl,_,hgg,_⟩
  ·simp [Value.ownBlock] at hq
  ·simp [Value.ownBlock] at hq
   subst hq
   rw [h] at hgg
   cases hgg
   exact ht rfl
theorem jb {w w':World} {q:Nat} {o:Obj} (hb:Below w.heap.size w w') (h:w.heap[q]?=some o):w'.heap[q]?=some o :=
 (hb.block q (ag.1 h).1).trans h
theorem jt {w:World} {q:Nat} {o:Obj} (o':Obj) (h:w.heap[q]?=some o):(w.alloc o').heap[q]?=some o :=
 (World.grownBy_alloc w o' none).block q (ag.1 h).1 (by simp) |>.trans h
theorem Ht {w:World} {q:Nat} {x y z u:Value} {t:TypeId} (h:w.heap[q]?=some (.cells #[x,y,z,u] t (0,0))):w.cell? ⟨q,0,none⟩=some x∧w.cell? ⟨q,1,none⟩=some y∧w.cell? ⟨q,2,none⟩=some z :=
 ⟨by rw [jd h];rfl,by rw [jd h];rfl,by rw [jd h];rfl⟩
theorem Vm {α:Type} (f:α→List UInt8) (l:List α) (k:Nat) (h:k < l.length):(l.take (k+1)).flatMap f=(l.take k).flatMap f++f l[k]:=by
 rw [ax h,bf];simp
theorem Tl {w:World} {base:Nat} {pv:Value} {ps:List Nat} (h:w.ownsRow base 3 1 pv ps.length (zI ps)) :
  ∃ pa pc,pv=.slice pa ps.length pc∧∀ j (hj:j < ps.length),∃ g,pa=some ⟨g,0,none⟩∧g < w.heap.size∧w.cell? ⟨g,j,none⟩=some (.int .i64 ((ps[j]:Nat):Int)):=by
 rcases h.2 with ⟨rfl,h0⟩|⟨g,cap,cur,rfl,_⟩
 ·exact ⟨none,0,by rw [h0],fun j hj=>by omega⟩
 ·refine ⟨some ⟨g,0,none⟩,cap,rfl,fun j hj=>⟨g,rfl,(h.lt g rfl).2,?_⟩⟩
  rw [h.cellAt j (by omega)]
  simp [zI,hj]
end
end Go.Proofs.YthhpbhpfagoapaaGreat
