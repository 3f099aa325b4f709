import Derived.Test.YthhpbhpfagoapaaGreatJAD
namespace Go.Proofs.YthhpbhpfagoapaaGreat
set_option linter.unusedVariables false
set_option linter.unusedSimpArgs false
set_option maxRecDepth 100000
set_option maxHeartbeats 16000000
open Go.RowKit
theorem isWayI (a num:Int) (f r Bn:Nat) (w:World) (h:w.cell? ⟨Bn,0,none⟩=some (.int .u8 num)) :
  Calls Tryz.prog 251 #[.agg #[.int .u8 a,fnV f,fnV r],.pointer (some ⟨Bn,0,none⟩)] w fun e w'=>e=.returned (.bool (a == num))∧Below w.heap.size w w':=by
 have hlt:=World.block_lt_of_cell? w _ h
 go_enter Tryz.func251,Tryz.ntmps251
 go_wp2
 go_ret
 exact ⟨rfl,(Below.refl _ _).alloc (Nat.le_refl _) _⟩
def wayAtI (num:Int):Int:=if num=0 then 0 else if num=1 then 1 else if num=2 then 2 else -1
theorem indexI (g Bn:Nat) (num:Int) (w:World) (hg:g < w.heap.size) (hw:NumW w g) (h:w.cell? ⟨Bn,0,none⟩=some (.int .u8 num)) :
  Calls Tryz.prog 250 #[.slice (some ⟨g,0,none⟩) 3 3,.func (.func 251) #[] #[.pointer (some ⟨Bn,0,none⟩)]] w fun e w'=>e=.returned (.int .i64 (wayAtI num))∧Below w.heap.size w w':=by
 have Hw:=hid hw
 have Hn:=hid h
 have hlt:=World.block_lt_of_cell? w _ h
 clear hw h
 go_enter Tryz.func250,Tryz.ntmps250
 go_wp2
 go_loopw [8] (fun i wr=>∃ k:Nat,k≤3∧i=.int .i64 (k:Int)∧(0 < k→num≠0)∧(1 < k→num≠1)∧(2 < k→num≠2)∧Below w.heap.size w wr) (fun i _=>3 - (intOf i).toNat)
 case atStart=>exact ⟨0,by omega,rfl,fun h=>by omega,fun h=>by omega,fun h=>by omega,Below.refl _ _⟩
 case round =>
  obtain ⟨k,hk,rfl,n0,n1,n2,hB⟩:=hrel
  have hwl:=Hw.out.later hg hB
  have hnum:=(hB.cell (p:=⟨Bn,0,none⟩) hlt).trans Hn.out
  have N0:=hid n0
  have N1:=hid n1
  have N2:=hid n2
  clear n0 n1 n2
  rcases (show k=0∨k=1∨k=2∨k=3 by omega) with rfl|rfl|rfl|rfl
  ·have c0:wr.cell? ⟨g,0,none⟩=some (.int .u8 0):=way_cell hwl 0 rfl
   have c1:wr.cell? ⟨g,1,none⟩=some (fnV 181):=way_cell hwl 1 rfl
   have c2:wr.cell? ⟨g,2,none⟩=some (fnV 182):=way_cell hwl 2 rfl
   clear hwl
   go_wp2_with fail
   refine (isWayI 0 num 181 182 Bn _ hnum).mono ?_
   rintro e w2 ⟨rfl,hb2⟩
   have hB2:=hB.trans (hb2.mono hB.size)
   clear hB hb2 c0 c1 c2 hnum
   by_cases hne:num=0
   ·have hb:((0:Int) == num)=true:=by simp [hne]
    have Hne:=hid hne
    clear hne
    go_wp2
    go_ret
    exact ⟨ret_int (by unfold wayAtI;rw [if_pos Hne.out]),hB2⟩
   ·have hb:((0:Int) == num)=false:=by rw [beq_eq_false_iff_ne];exact fun h=>hne h.symm
    have Hne:=hid hne
    clear hne
    go_wp2
    go_roundw
    case rel=>exact ⟨1,by omega,by go_num,fun _=>Hne.out,fun h=>by omega,fun h=>by omega,hB2⟩
    case measure=>simp [intOf]
  ·have c0:wr.cell? ⟨g,3,none⟩=some (.int .u8 1):=way_cell hwl 3 rfl
   have c1:wr.cell? ⟨g,4,none⟩=some (fnV 183):=way_cell hwl 4 rfl
   have c2:wr.cell? ⟨g,5,none⟩=some (fnV 184):=way_cell hwl 5 rfl
   clear hwl
   go_wp2_with fail
   refine (isWayI 1 num 183 184 Bn _ hnum).mono ?_
   rintro e w2 ⟨rfl,hb2⟩
   have hB2:=hB.trans (hb2.mono hB.size)
   clear hB hb2 c0 c1 c2 hnum
   by_cases hne:num=1
   ·have hb:((1:Int) == num)=true:=by simp [hne]
    have Hne:=hid hne
    clear hne
    go_wp2
    go_ret
    exact ⟨ret_int (by unfold wayAtI;rw [if_neg (N0.out (by omega)),if_pos Hne.out]),hB2⟩
   ·have hb:((1:Int) == num)=false:=by rw [beq_eq_false_iff_ne];exact fun h=>hne h.symm
    have Hne:=hid hne
    clear hne
    go_wp2
    go_roundw
    case rel=>exact ⟨2,by omega,by go_num,fun _=>N0.out (by omega),fun _=>Hne.out,fun h=>by omega,hB2⟩
    case measure=>simp [intOf]
  ·have c0:wr.cell? ⟨g,6,none⟩=some (.int .u8 2):=way_cell hwl 6 rfl
   have c1:wr.cell? ⟨g,7,none⟩=some (fnV 185):=way_cell hwl 7 rfl
   have c2:wr.cell? ⟨g,8,none⟩=some (fnV 186):=way_cell hwl 8 rfl
   clear hwl
   go_wp2_with fail
   refine (isWayI 2 num 185 186 Bn _ hnum).mono ?_
   rintro e w2 ⟨rfl,hb2⟩
   have hB2:=hB.trans (hb2.mono hB.size)
   clear hB hb2 c0 c1 c2 hnum
   by_cases hne:num=2
   ·have hb:((2:Int) == num)=true:=by simp [hne]
    have Hne:=hid hne
    clear hne
    go_wp2
    go_ret
    exact ⟨ret_int (by unfold wayAtI;rw [if_neg (N0.out (by omega)),if_neg (N1.out (by omega)),if_pos Hne.out]),hB2⟩
   ·have hb:((2:Int) == num)=false:=by rw [beq_eq_false_iff_ne];exact fun h=>hne h.symm
    have Hne:=hid hne
    clear hne
    go_wp2
    go_roundw
    case rel=>exact ⟨3,by omega,by go_num,fun _=>N0.out (by omega),fun _=>N1.out (by omega),fun _=>Hne.out,hB2⟩
    case measure=>simp [intOf]
  ·go_wp2
   go_ret
   exact ⟨ret_int (by unfold wayAtI;rw [if_neg (N0.out (by omega)),if_neg (N1.out (by omega)),if_neg (N2.out (by omega))]),hB⟩
theorem isWayT (a num:Int) (f r Bn:Nat) (w:World) (h:w.cell? ⟨Bn,0,none⟩=some (.int .u8 num)) :
  Calls Tryz.prog 253 #[.agg #[.int .u8 a,fnV f,fnV r],.pointer (some ⟨Bn,0,none⟩)] w fun e w'=>e=.returned (.bool (a == num))∧Below w.heap.size w w':=by
 have hlt:=World.block_lt_of_cell? w _ h
 go_enter Tryz.func253,Tryz.ntmps253
 go_wp2
 go_ret
 exact ⟨rfl,(Below.refl _ _).alloc (Nat.le_refl _) _⟩
def wayAtT (num:Int):Int:=if num=0 then 0 else if num=3 then 1 else if num=4 then 2 else -1
theorem indexT (g Bn:Nat) (num:Int) (w:World) (hg:g < w.heap.size) (hw:TxtW w g) (h:w.cell? ⟨Bn,0,none⟩=some (.int .u8 num)) :
  Calls Tryz.prog 252 #[.slice (some ⟨g,0,none⟩) 3 3,.func (.func 253) #[] #[.pointer (some ⟨Bn,0,none⟩)]] w fun e w'=>e=.returned (.int .i64 (wayAtT num))∧Below w.heap.size w w':=by
 have Hw:=hid hw
 have Hn:=hid h
 have hlt:=World.block_lt_of_cell? w _ h
 clear hw h
 go_enter Tryz.func252,Tryz.ntmps252
 go_wp2
 go_loopw [8] (fun i wr=>∃ k:Nat,k≤3∧i=.int .i64 (k:Int)∧(0 < k→num≠0)∧(1 < k→num≠3)∧(2 < k→num≠4)∧Below w.heap.size w wr) (fun i _=>3 - (intOf i).toNat)
 case atStart=>exact ⟨0,by omega,rfl,fun h=>by omega,fun h=>by omega,fun h=>by omega,Below.refl _ _⟩
 case round =>
  obtain ⟨k,hk,rfl,n0,n1,n2,hB⟩:=hrel
  have hwl:=Hw.out.later hg hB
  have hnum:=(hB.cell (p:=⟨Bn,0,none⟩) hlt).trans Hn.out
  have N0:=hid n0
  have N1:=hid n1
  have N2:=hid n2
  clear n0 n1 n2
  rcases (show k=0∨k=1∨k=2∨k=3 by omega) with rfl|rfl|rfl|rfl
  ·have c0:wr.cell? ⟨g,0,none⟩=some (.int .u8 0):=way_cell hwl 0 rfl
   have c1:wr.cell? ⟨g,1,none⟩=some (fnV 196):=way_cell hwl 1 rfl
   have c2:wr.cell? ⟨g,2,none⟩=some (fnV 197):=way_cell hwl 2 rfl
   clear hwl
   go_wp2_with fail
   refine (isWayT 0 num 196 197 Bn _ hnum).mono ?_
   rintro e w2 ⟨rfl,hb2⟩
   have hB2:=hB.trans (hb2.mono hB.size)
   clear hB hb2 c0 c1 c2 hnum
   by_cases hne:num=0
   ·have hb:((0:Int) == num)=true:=by simp [hne]
    have Hne:=hid hne
    clear hne
    go_wp2
    go_ret
    exact ⟨ret_int (by unfold wayAtT;rw [if_pos Hne.out]),hB2⟩
   ·have hb:((0:Int) == num)=false:=by rw [beq_eq_false_iff_ne];exact fun h=>hne h.symm
    have Hne:=hid hne
    clear hne
    go_wp2
    go_roundw
    case rel=>exact ⟨1,by omega,by go_num,fun _=>Hne.out,fun h=>by omega,fun h=>by omega,hB2⟩
    case measure=>simp [intOf]
  ·have c0:wr.cell? ⟨g,3,none⟩=some (.int .u8 3):=way_cell hwl 3 rfl
   have c1:wr.cell? ⟨g,4,none⟩=some (fnV 198):=way_cell hwl 4 rfl
   have c2:wr.cell? ⟨g,5,none⟩=some (fnV 199):=way_cell hwl 5 rfl
   clear hwl
   go_wp2_with fail
   refine (isWayT 3 num 198 199 Bn _ hnum).mono ?_
   rintro e w2 ⟨rfl,hb2⟩
   have hB2:=hB.trans (hb2.mono hB.size)
   clear hB hb2 c0 c1 c2 hnum
   by_cases hne:num=3
   ·have hb:((3:Int) == num)=true:=by simp [hne]
    have Hne:=hid hne
    clear hne
    go_wp2
    go_ret
    exact ⟨ret_int (by unfold wayAtT;rw [if_neg (N0.out (by omega)),if_pos Hne.out]),hB2⟩
   ·have hb:((3:Int) == num)=false:=by rw [beq_eq_false_iff_ne];exact fun h=>hne h.symm
    have Hne:=hid hne
    clear hne
    go_wp2
    go_roundw
    case rel=>exact ⟨2,by omega,by go_num,fun _=>N0.out (by omega),fun _=>Hne.out,fun h=>by omega,hB2⟩
    case measure=>simp [intOf]
  ·have c0:wr.cell? ⟨g,6,none⟩=some (.int .u8 4):=way_cell hwl 6 rfl
   have c1:wr.cell? ⟨g,7,none⟩=some (fnV 200):=way_cell hwl 7 rfl
   have c2:wr.cell? ⟨g,8,none⟩=some (fnV 201):=way_cell hwl 8 rfl
   clear hwl
   go_wp2_with fail
   refine (isWayT 4 num 200 201 Bn _ hnum).mono ?_
   rintro e w2 ⟨rfl,hb2⟩
   have hB2:=hB.trans (hb2.mono hB.size)
   clear hB hb2 c0 c1 c2 hnum
   by_cases hne:num=4
   ·have hb:((4:Int) == num)=true:=by simp [hne]
    have Hne:=hid hne
    clear hne
    go_wp2
    go_ret
    exact ⟨ret_int (by unfold wayAtT;rw [if_neg (N0.out (by omega)),if_neg (N1.out (by omega)),if_pos Hne.out]),hB2⟩
   ·have hb:((4:Int) == num)=false:=by rw [beq_eq_false_iff_ne];exact fun h=>hne h.symm
    have Hne:=hid hne
    clear hne
    go_wp2
    go_roundw
    case rel=>exact ⟨3,by omega,by go_num,fun _=>N0.out (by omega),fun _=>N1.out (by omega),fun _=>Hne.out,hB2⟩
    case measure=>simp [intOf]
  ·go_wp2
   go_ret
   exact ⟨ret_int (by unfold wayAtT;rw [if_neg (N0.out (by omega)),if_neg (N1.out (by omega)),if_neg (N2.out (by omega))]),hB⟩
end Go.Proofs.YthhpbhpfagoapaaGreat
