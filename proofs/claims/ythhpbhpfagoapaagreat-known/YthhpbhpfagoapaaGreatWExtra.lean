import Derived.Test.YthhpbhpfagoapaaGreatWTab
import Derived.Test.YthhpbhpfagoapaaGreatJAE
import Derived.Deep.RegionHeld3
namespace Go.Proofs.YthhpbhpfagoapaaGreat
set_option linter.unusedVariables false
set_option linter.unusedSimpArgs false
set_option maxRecDepth 100000
set_option maxHeartbeats 16000000
open Go.RowKit
theorem head_does (p:PlanB) (w:World) (h0:1≤p.foot) (h1:p.foot≤9) :
  Calls Tryz.prog 139 #[planV p] w fun e w'=>e=.returned (strB (startB p))∧Below w.heap.size w w':=by
 have HS:Hid (startB p=[67,70]++[if p.told=true then 79 else 69]++[byB p.foot]):=rfl
 have hwf:IntKind.u8.wrap p.foot=p.foot:=by simp only [IntKind.wrap_u8];omega
 obtain ⟨a,b,c,d⟩:=p
 simp only at *
 cases d with
 | true =>
  go_enter Tryz.func139,Tryz.ntmps139
  go_wp2_with fail
  refine (byteS_any c _ (by omega) (by omega)).mono ?_
  rintro e w1 ⟨rfl,hb1⟩
  go_wp2_with fail
  refine (join_lit [[67,70],[79],[byB c]] _ 3 w1 rfl rfl (by decide) (by simp)).mono ?_
  rintro e w2 ⟨rfl,hb2⟩
  go_wp2
  go_ret
  exact ⟨ret_str (by rw [HS.out];simp),(below_alloc hb1).trans (hb2.mono (below_alloc hb1).size)⟩
 | false =>
  go_enter Tryz.func139,Tryz.ntmps139
  go_wp2_with fail
  refine (byteS_any c _ (by omega) (by omega)).mono ?_
  rintro e w1 ⟨rfl,hb1⟩
  go_wp2_with fail
  refine (join_lit [[67,70],[69],[byB c]] _ 3 w1 rfl rfl (by decide) (by simp)).mono ?_
  rintro e w2 ⟨rfl,hb2⟩
  go_wp2
  go_ret
  exact ⟨ret_str (by rw [HS.out];simp),(below_alloc hb1).trans (hb2.mono (below_alloc hb1).size)⟩
theorem join_none (w:World):Calls Tryz.prog 194 #[.slice none 0 0] w fun e w'=>e=.returned (strB [])∧Below w.heap.size w w':=by
 obtain ⟨i0,hi,hz0,hz1,hz2⟩:=info_parts Tryz.infoU8
 go_enter Tryz.func194,Tryz.ntmps194
 go_wp2
 go_loop [3,11] (fun t i=>i=.int .i64 0∧t=.int .i64 0) (fun _ _=>0)
 case atStart=>exact ⟨rfl,rfl⟩
 case round =>
  obtain ⟨rfl,rfl⟩:=hrel
  go_wp2_with (at_make;refine wpList_make_own _ rfl (.const (.int .i64 0)) (.tmp 20) 149 rfl w.heap.size 5 i0 (.int .u8 0) 1 Tryz.underlying149 hi hz0 hz1 .i64 .i64 _ 0 rfl rfl rfl (by rw [hz2];omega) (by unfold maxLen;omega) (Nat.le_refl _) ?_;intro w3 hown hgr)
  have hB3:Below w.heap.size w w3:=(Below.refl _ _).grown hgr (Nat.le_refl _) (fun _ h=>by cases h)
  clear hgr
  go_loopw [6,24] (fun v i wr=>i=.int .i64 0∧wr.ownsRow w.heap.size 5 1 v 0 (cellsB [])∧Below w.heap.size w wr) (fun _ _ _=>0)
  case atStart=>exact ⟨rfl,hown,hB3⟩
  case round =>
   clear hown hB3
   obtain ⟨rfl,hown,hB⟩:=hrel
   have hcv:=conv_any hown
   go_wp2
   go_ret
   exact ⟨rfl,hB⟩
abbrev modV (sort:UInt8) (g c p:Nat):Value:=.agg #[strB [sort],.int .i64 (g:Int),.int .i64 (c:Int),.int .i64 (p:Int)]
def BoxM (w:World) (q:Nat) (sort:UInt8) (g c p:Nat):Prop :=
 w.cell? ⟨q,0,none⟩=some (strB [sort])∧w.cell? ⟨q,1,none⟩=some (.int .i64 (g:Int))∧w.cell? ⟨q,2,none⟩=some (.int .i64 (c:Int))∧w.cell? ⟨q,3,none⟩=some (.int .i64 (p:Int))
theorem BoxM.later {w w':World} {q g c p:Nat} {sort:UInt8} (h:BoxM w q sort g c p) (hb:Below w.heap.size w w') (hq:q < w.heap.size):BoxM w' q sort g c p:=by
 obtain ⟨h0,h1,h2,h3⟩:=h
 exact ⟨(hb.cell (p:=⟨q,_,none⟩) hq).trans h0,(hb.cell (p:=⟨q,_,none⟩) hq).trans h1,(hb.cell (p:=⟨q,_,none⟩) hq).trans h2,(hb.cell (p:=⟨q,_,none⟩) hq).trans h3⟩
theorem BoxM.alloc {w:World} {q g c p:Nat} {sort:UInt8} (h:BoxM w q sort g c p) (o:Obj):BoxM (w.alloc o) q sort g c p:=by
 obtain ⟨h0,h1,h2,h3⟩:=h
 exact ⟨cell_alloc_keep o h0,cell_alloc_keep o h1,cell_alloc_keep o h2,cell_alloc_keep o h3⟩
def Joins (w:World) (v:Value) (f:List UInt8):Prop:=∀ w',Below w.heap.size w w'→Calls Tryz.prog 194 #[v] w' fun e w2=>e=.returned (strB f)∧Below w'.heap.size w' w2
theorem joins_none (w:World):Joins w (.slice none 0 0) []:=fun w' _=>join_none w'
theorem extra_any (sort:UInt8) (g c p:Nat) (pre:List UInt8) (bv:Value) (f:List UInt8) (w:World) (hg:g≤65535) (hc:c≤65535) (hp:p≤65535) (hpre:pre.length≤20) (hf:f.length≤5000) (hJ:Joins w bv f) :
  Calls Tryz.prog 171 #[modV sort g c p,strB pre,bv] w fun e w'=>e=.returned (strB (boundB pre sort g c p++f))∧Below w.heap.size w w':=by
 have HJ:=hid hJ
 clear hJ
 have HE:Hid ([xB pre,[sort],twoB (g:Int),twoB (c:Int),twoB (p:Int),f].flatten=boundB pre sort g c p++f):=by simp [Hid,boundB]
 have hxl:(xB pre).length≤40:=by have:=uB_len10 pre.length (by omega);simp only [xB,List.length_append];omega
 go_enter Tryz.func171,Tryz.ntmps171
 go_wp2_with fail
 obtain ⟨hb0,hs0,hc0,_⟩:=boxedW w #[strB [sort],.int .i64 (g:Int),.int .i64 (c:Int),.int .i64 (p:Int)] 111
 have X0:BoxM _ w.heap.size sort g c p:=⟨hc0 0,hc0 1,hc0 2,hc0 3⟩
 have Hb0:=hid hb0
 clear hc0 hb0
 generalize w.alloc _=wb at *
 generalize hX:xB pre=X at *
 generalize hG:twoB (g:Int)=G at *
 generalize hC:twoB (c:Int)=C at *
 generalize hP:twoB (p:Int)=P at *
 have HT:Hid (∀ w',Calls Tryz.prog 204 #[strB pre] w' fun e w2=>e=.returned (strB X)∧Below w'.heap.size w' w2):=by
  intro w';rw [← hX];exact text_any pre w' (by omega)
 have HG:Hid (∀ w',Calls Tryz.prog 220 #[.int .i64 (g:Int)] w' fun e w2=>e=.returned (strB G)∧Below w'.heap.size w' w2):=by
  intro w';rw [← hG];exact two_any _ w' (by omega) (by omega)
 have HC:Hid (∀ w',Calls Tryz.prog 220 #[.int .i64 (c:Int)] w' fun e w2=>e=.returned (strB C)∧Below w'.heap.size w' w2):=by
  intro w';rw [← hC];exact two_any _ w' (by omega) (by omega)
 have HP:Hid (∀ w',Calls Tryz.prog 220 #[.int .i64 (p:Int)] w' fun e w2=>e=.returned (strB P)∧Below w'.heap.size w' w2):=by
  intro w';rw [← hP];exact two_any _ w' (by omega) (by omega)
 have hGl:G.length=2:=by rw [← hG];rfl
 have hCl:C.length=2:=by rw [← hC];rfl
 have hPl:P.length=2:=by rw [← hP];rfl
 clear hX hG hC hP
 go_region_held3 (fun w'=>w'.cell? ⟨w.heap.size,0,none⟩=some (strB [sort])∧w'.cell? ⟨w.heap.size,1,none⟩=some (.int .i64 (g:Int))∧w'.cell? ⟨w.heap.size,2,none⟩=some (.int .i64 (c:Int))∧w'.cell? ⟨w.heap.size,3,none⟩=some (.int .i64 (p:Int)))
  (first|exact X6|exact X5.alloc _|exact X5|exact X4|exact X3|exact X2|exact X1|exact X0)
  (first
   | (go_at_call 204;refine (HT.out _).mono ?_;rintro e w1 ⟨rfl,hb1⟩;replace hb1:=below_undrew hb1;have X1:=X0.later hb1 hs0;have hs1:=Nat.lt_of_lt_of_le hs0 hb1.size)
   | (go_at_call_of 220 (Value.int IntKind.i64 (g:Int));refine (HG.out _).mono ?_;rintro e w2 ⟨rfl,hb2⟩;have X2:=X1.later hb2 hs1;have hs2:=Nat.lt_of_lt_of_le hs1 hb2.size)
   | (go_at_call_of 220 (Value.int IntKind.i64 (c:Int));refine (HC.out _).mono ?_;rintro e w3 ⟨rfl,hb3⟩;have X3:=X2.later hb3 hs2;have hs3:=Nat.lt_of_lt_of_le hs2 hb3.size)
   | (go_at_call_of 220 (Value.int IntKind.i64 (p:Int));refine (HP.out _).mono ?_;rintro e w4 ⟨rfl,hb4⟩;have X4:=X3.later hb4 hs3;have hs4:=Nat.lt_of_lt_of_le hs3 hb4.size)
   | (go_at_call_of 194 bv;refine (HJ.out _ ?_).mono ?_;exact (((Hb0.out.trans (hb1.mono Hb0.out.size)).trans (hb2.mono (Nat.le_trans Hb0.out.size hb1.size))).trans (hb3.mono (Nat.le_trans (Nat.le_trans Hb0.out.size hb1.size) hb2.size))).trans (hb4.mono (Nat.le_trans (Nat.le_trans (Nat.le_trans Hb0.out.size hb1.size) hb2.size) hb3.size));rintro e w5 ⟨rfl,hb5⟩;have X5:=X4.later hb5 hs4;have hs5:=Nat.lt_of_lt_of_le hs4 hb5.size)
   | (go_at_call 194;refine (join_at [X,[sort],G,C,P,f] #[strB X,strB [sort],strB G,strB C,strB P,strB f] 6 _ _ ?_ rfl rfl ?_ ?_).mono ?_;(first|rfl|simp);decide;(simp;omega);rintro e w6 ⟨rfl,hb6⟩;have X6:=X5.later hb6 hs5))
 have hB1:=Hb0.out.trans (hb1.mono Hb0.out.size)
 have hB2:=hB1.trans (hb2.mono hB1.size)
 have hB3:=hB2.trans (hb3.mono hB2.size)
 have hB4:=hB3.trans (hb4.mono hB3.size)
 have hB5:=hB4.trans (hb5.mono hB4.size)
 have HB6:=hid (hB5.trans (hb6.mono hB5.size))
 clear X0 X1 X2 X3 X4 X5 X6 hb1 hb2 hb3 hb4 hb5 hb6 hB1 hB2 hB3 hB4 hB5
 go_wp2
 go_ret
 exact ⟨ret_str (by rw [← HE.out];simp),HB6.out⟩
end Go.Proofs.YthhpbhpfagoapaaGreat
