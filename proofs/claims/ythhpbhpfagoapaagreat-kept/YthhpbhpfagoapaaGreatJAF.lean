import Derived.Test.YthhpbhpfagoapaaGreatDCellsT
import Derived.Test.YthhpbhpfagoapaaGreatJAJ
import Derived.Defers
import Derived.Recover
import Derived.Laws.Pointers
import Derived.Test.YthhpbhpfagoapaaGreatJAK
namespace Go.Proofs.YthhpbhpfagoapaaGreat
set_option linter.unusedVariables false
set_option linter.unusedSimpArgs false
set_option maxRecDepth 100000
set_option maxHeartbeats 16000000
open Go.RowKit
section
theorem catch_panicking (p:Addr) (b:Bool) (u:TypeId) (pv:Value) (older:List PanicEntry) (w:World) (hc:w.cell? p=some (.bool b)) (hz:w.frozen? p=false) :
  CallsD Tryz.prog 129 #[.pointer (some p)] (.panicking ({ v:=.iface u pv,recovered:=false } :: older)) w fun e u' w' =>
   e=.returned (.tuple #[])∧u'=.panicking ({ v:=.iface u pv,recovered:=true } :: older)∧w'=w.setCell p (.bool false):=by
 refine callsD_of_wpS Tryz.func129 rfl fun c₀ cs hu=>?_
 apply wpS_region
 simp [wpOpsS,go_sem,recoverD,hu,Tryz.ntmps129,Exit.thenS,hc,hz,bodyPostS,results,Tryz.results129]
theorem catch_idle (p:Addr) (b:Bool) (w:World) (hc:w.cell? p=some (.bool b)) (hz:w.frozen? p=false) :
  CallsD Tryz.prog 129 #[.pointer (some p)] .returning w fun e u' w'=>e=.returned (.tuple #[])∧u'=.returning∧w'=w.setCell p (.bool true):=by
 refine callsD_of_wpS Tryz.func129 rfl fun c₀ cs hu=>?_
 apply wpS_region
 simp [wpOpsS,go_sem,recoverD,hu,Tryz.ntmps129,Exit.thenS,hc,hz,bodyPostS,results,Tryz.results129]
 cases c₀
 simp_all
theorem cells_does (kind:Int) (s:List UInt8) (w:World) (hk:kind=0∨kind=1) (hs:s.length≤maxLen) :
  Calls Tryz.prog 70 #[.int .i64 kind,strB s] w (Unpaged kind s w):=by
 have Hs:=hid hs
 clear hs
 rcases hk with rfl|rfl
 ·go_enter Tryz.func70,Tryz.ntmps70
  go_wp2_with fail
  refine (numbers_any w).mono ?_
  rintro e w1 ⟨g,rfl,hg,hw,hb1⟩
  have Hw:=hid hw
  clear hw
  go_wp2_with fail
  refine (cellsI g s _ Hs.out hg Hw.out).mono ?_
  rintro e w2 ⟨hb2,⟨rfl,hn⟩|⟨l,a,cap,rfl,hu,hl⟩⟩
  ·go_wp2
   exact ⟨rfl,hb1.trans (hb2.mono hb1.size),.inl ⟨rfl,hn⟩⟩
  ·have Hu:=hid hu
   clear hu
   go_wp2
   go_ret
   exact ⟨hb1.trans (hb2.mono hb1.size),.inr ⟨l,a,cap,rfl,Hu.out,hl⟩⟩
 ·go_enter Tryz.func70,Tryz.ntmps70
  go_wp2_with fail
  refine (texts_any w).mono ?_
  rintro e w1 ⟨g,rfl,hg,hw,hb1⟩
  have Hw:=hid hw
  clear hw
  go_wp2_with fail
  refine (cellsT g s _ Hs.out hg Hw.out).mono ?_
  rintro e w2 ⟨hb2,⟨rfl,hn⟩|⟨l,a,cap,rfl,hu,hl⟩⟩
  ·go_wp2
   exact ⟨rfl,hb1.trans (hb2.mono hb1.size),.inl ⟨rfl,hn⟩⟩
  ·have Hu:=hid hu
   clear hu
   go_wp2
   go_ret
   exact ⟨hb1.trans (hb2.mono hb1.size),.inr ⟨l,a,cap,rfl,Hu.out,hl⟩⟩
theorem work_does (kind:Int) (s:List UInt8) (B1 B2:Nat) (w:World) (hk:kind=0∨kind=1) (hs:s.length≤maxLen) (h1:w.cell? ⟨B1,0,none⟩=some (.int .i64 kind)) (h2:w.cell? ⟨B2,0,none⟩=some (strB s)) :
  Calls Tryz.prog 69 #[.pointer (some ⟨B1,0,none⟩),.pointer (some ⟨B2,0,none⟩)] w (Unpaged kind s w):=by
 have Hs:=hid hs
 have Hk:=hid hk
 clear hs hk
 go_enter Tryz.func69,Tryz.ntmps69
 go_wp2_with fail
 refine (cells_does kind s _ Hk.out Hs.out).mono ?_
 rintro e w2 ⟨hb2,⟨rfl,hn⟩|⟨l,a,cap,rfl,hu,hl⟩⟩
 ·go_wp2
  exact ⟨rfl,hb2,.inl ⟨rfl,hn⟩⟩
 ·have Hu:=hid hu
  clear hu
  go_wp2
  go_ret
  exact ⟨hb2,.inr ⟨l,a,cap,rfl,Hu.out,hl⟩⟩
theorem lies_set {w:World} {a:Option Addr} {l:List CellB} {B:Nat} {x:Value} {t:TypeId} (h:Lies w a l) (hb:w.heap[B]?=some (.cells #[x] t (0,0))) (v:Value):Lies (w.setCell ⟨B,0,none⟩ v) a l:=by
 refine ⟨h.ok,fun hne=>?_⟩
 obtain ⟨b,off,ha,hlt,hc⟩:=h.at_ hne
 have hne2:b≠B:=by
  rintro rfl
  obtain ⟨_,h2,_⟩:=hc 0 (List.length_pos_iff.2 hne)
  rw [cell_of_row w b _ #[x] t (0,0) hb] at h2
  simp at h2
 have k:∀ j,(w.setCell ⟨B,0,none⟩ v).cell? ⟨b,j,none⟩=w.cell? ⟨b,j,none⟩:=fun j=>World.cell?_of_block (heap_setCell_other w ⟨B,0,none⟩ b v (fun e=>hne2 e))
 refine ⟨b,off,ha,by simpa using hlt,fun j hj=>?_⟩
 obtain ⟨h1,h2,h3⟩:=hc j hj
 exact ⟨(k _).trans h1,(k _).trans h2,(k _).trans h3⟩
theorem attempt_does (kind:Int) (s:List UInt8) (B1 B2:Nat) (w:World) (hk:kind=0∨kind=1) (hs:s.length≤maxLen) (h1:w.cell? ⟨B1,0,none⟩=some (.int .i64 kind)) (h2:w.cell? ⟨B2,0,none⟩=some (strB s)) :
  Calls Tryz.prog 68 #[.func (.func 69) #[] #[.pointer (some ⟨B1,0,none⟩),.pointer (some ⟨B2,0,none⟩)]] w fun e w'=>Below w.heap.size w w' ∧
   ((unpageB kind s=none∧e=.returned (.tuple #[.slice none 0 0,.bool false]))∨∃ l a cap,unpageB kind s=some l∧e=.returned (.tuple #[.slice a l.length cap,.bool true])∧Lies w' a l):=by
 have hmf:∀ (fn:Fn) (first cap:Array Value) (w:World),(Instr.makeFunc fn first cap).run Tryz.prog w=.ok (.func fn first cap) w:=fun _ _ _ _=>rfl
 have Hs:=hid hs
 have Hk:=hid hk
 have H1:=hid h1
 have H2:=hid h2
 clear hs hk h1 h2
 go_enter_defers Tryz.func68,Tryz.ntmps68
 go_wp2_with fail
 have hb0:Below w.heap.size w (w.alloc (Obj.cells #[Value.bool false] 4)):=(Below.refl _ _).alloc (Nat.le_refl _) _
 refine (work_does kind s B1 B2 _ Hk.out Hs.out (cell_alloc_keep _ H1.out) (cell_alloc_keep _ H2.out)).mono ?_
 rintro e w2 ⟨hb2,ho⟩
 have hc2:w2.cell? ⟨w.heap.size,0,none⟩=some (.bool false):=(hb2.cell (p:=⟨w.heap.size,0,none⟩) (by show w.heap.size < (w.alloc _).heap.size;simp)).trans (World.cell?_alloc_mark ..)
 have hz2:w2.frozen? ⟨w.heap.size,0,none⟩=false:=(hb2.frozen (p:=⟨w.heap.size,0,none⟩) (by show w.heap.size < (w.alloc _).heap.size;simp)).trans (World.frozen?_alloc_at _ _ _ _ rfl)
 have HB2:=hid (hb0.trans (hb2.mono hb0.size))
 have Hblk:Hid (w2.heap[w.heap.size]?=some (.cells #[.bool false] 4 (0,0))):=(hb2.block w.heap.size (by simp)).trans (heap_alloc_new w _)
 have hlt2:w.heap.size < w2.heap.size:=World.block_lt_of_cell? w2 _ hc2
 rcases ho with ⟨rfl,hn⟩|⟨l,a,cap,rfl,hu,hl⟩
 ·have Hn:=hid hn
  clear hn hb2 hb0
  go_wp2
  refine leaves_cons (f:=129) (args:=#[.pointer (some ⟨w.heap.size,0,none⟩)]) (by simp) (by simp [go_sem]) ?_
  refine (catch_panicking ⟨w.heap.size,0,none⟩ false 9 _ [] _ hc2 hz2).mono ?_
  rintro e u' w'' ⟨rfl,rfl,rfl⟩
  have hW:=World.cell?_setCell_same w2 ⟨w.heap.size,0,none⟩ (.bool false) hc2
  have HBW:=hid (HB2.out.setCell (p:=⟨w.heap.size,0,none⟩) (Nat.le_refl _) (.bool false))
  generalize w2.setCell _ _=W at *
  simp [Leaves,settle,results,Tryz.results68,go_sem,hW]
  exact ⟨HBW.out,Hn.out⟩
 ·have Hu:=hid hu
  have Hl:=hid hl
  clear hu hl hb2 hb0
  go_wp2
  refine leaves_cons (f:=129) (args:=#[.pointer (some ⟨w.heap.size,0,none⟩)]) (by simp) (by simp [go_sem]) ?_
  refine (catch_idle ⟨w.heap.size,0,none⟩ true _ ?_ ?_).mono ?_
  ·exact World.cell?_setCell_same w2 ⟨w.heap.size,0,none⟩ (.bool true) hc2
  ·simp [hz2]
  rintro e u' w'' ⟨rfl,rfl,rfl⟩
  have hW1:=World.cell?_setCell_same w2 ⟨w.heap.size,0,none⟩ (.bool true) hc2
  have hW:=World.cell?_setCell_same _ ⟨w.heap.size,0,none⟩ (.bool true) hW1
  have HBW:=hid ((HB2.out.setCell (p:=⟨w.heap.size,0,none⟩) (Nat.le_refl _) (.bool true)).setCell (p:=⟨w.heap.size,0,none⟩) (Nat.le_refl _) (.bool true))
  have hk2:(w2.setCell ⟨w.heap.size,0,none⟩ (.bool true)).heap[w.heap.size]?=some (.cells #[.bool true] 4 (0,0)):=by
   rw [heap_setCell_same w2 w.heap.size 0 _ 4 (.bool true) Hblk.out]
   rfl
  have HLW:=hid (lies_set (lies_set Hl.out Hblk.out (.bool true)) hk2 (.bool true))
  clear hW1 hk2
  generalize (w2.setCell _ _).setCell _ _=W at *
  simp [Leaves,settle,results,Tryz.results68,go_sem,hW]
  exact ⟨HBW.out,l,Hu.out,a,⟨rfl,rfl⟩,HLW.out⟩
theorem unpack_does:UnpackDoes:=by
 intro kind page w h0 h1 hs
 obtain ⟨⟨pl⟩⟩:=page
 have hs':pl.length≤maxLen:=by simpa [ByteArray.size] using hs
 show Calls Tryz.prog 24 #[.int .i64 kind,strB pl] w fun e w'=>∃ v,e=.returned (.tuple #[v,.int .i64 (errU (unpageB kind pl))])∧PageAns w' v (unpageB kind pl)∧Below w.heap.size w w'
 generalize pl=s at *
 have hmf:∀ (fn:Fn) (first cap:Array Value) (w:World),(Instr.makeFunc fn first cap).run Tryz.prog w=.ok (.func fn first cap) w:=fun _ _ _ _=>rfl
 have Hs:=hid hs'
 clear hs hs'
 cases hk:(decide (kind=0) || decide (kind=1)) with
 | false =>
  have Hk:=hid hk
  have HN:Hid (unpageB kind s=none):=unpage_none (fun l2 h2=>by
   have:=h2.1
   unfold cellsOkB at this
   rw [hk] at this
   simp at this)
  clear hk
  go_enter Tryz.func24,Tryz.ntmps24
  go_wp2_with fail
  refine (kind_any kind _).mono ?_
  rintro e w1 ⟨rfl,rfl⟩
  rw [Hk.out]
  go_wp2
  go_ret2
  refine ⟨.slice none 0 0,?_,?_,((Below.refl _ _).alloc (Nat.le_refl _) _).alloc (by simp) _⟩
  ·rw [HN.out];rfl
  ·rw [HN.out];exact ⟨none,0,rfl⟩
 | true =>
  have hk2:kind=0∨kind=1:=by simpa using hk
  have Hk2:=hid hk2
  have Hk:=hid hk
  clear hk hk2
  have HB0:=hid (((Below.refl w.heap.size w).alloc (Nat.le_refl _) (Obj.cells #[.int .i64 kind] 3)).alloc (by simp) (Obj.cells #[strB s] 9))
  have HC1:Hid (((w.alloc (Obj.cells #[.int .i64 kind] 3)).alloc (Obj.cells #[strB s] 9)).cell? ⟨w.heap.size,0,none⟩=some (.int .i64 kind)):=cell_alloc_keep _ (World.cell?_alloc_mark ..)
  have HC2:Hid (((w.alloc (Obj.cells #[.int .i64 kind] 3)).alloc (Obj.cells #[strB s] 9)).cell? ⟨w.heap.size+1,0,none⟩=some (strB s)):=by
   have h:((w.alloc (Obj.cells #[.int .i64 kind] 3)).alloc (Obj.cells #[strB s] 9)).cell? ⟨(w.alloc (Obj.cells #[.int .i64 kind] 3)).heap.size,0,none⟩=some (strB s):=World.cell?_alloc_mark ..
   have e:(w.alloc (Obj.cells #[.int .i64 kind] 3)).heap.size=w.heap.size+1:=by simp
   rw [e] at h
   exact h
  go_enter Tryz.func24,Tryz.ntmps24
  go_wp2_with fail
  refine (kind_any kind _).mono ?_
  rintro e w1 ⟨rfl,rfl⟩
  rw [Hk.out]
  go_wp2_with fail
  refine (attempt_does kind s w.heap.size (w.heap.size+1) _ Hk2.out Hs.out HC1.out HC2.out).mono ?_
  rintro e w2 ⟨hb2,⟨hn,rfl⟩|⟨l,a,cap,hu,rfl,hl⟩⟩
  ·have HN:=hid hn
   have HB2:=hid (HB0.out.trans (hb2.mono HB0.out.size))
   clear hn hb2
   go_wp2
   go_ret2
   refine ⟨.slice none 0 0,?_,?_,HB2.out⟩
   ·rw [HN.out];rfl
   ·rw [HN.out];exact ⟨none,0,rfl⟩
  ·have HU:=hid hu
   have Hl:=hid hl
   have HB2:=hid (HB0.out.trans (hb2.mono HB0.out.size))
   clear hu hb2 hl
   go_wp2
   go_ret2
   refine ⟨.slice a l.length cap,?_,?_,HB2.out⟩
   ·rw [HU.out];rfl
   ·rw [HU.out];exact ⟨a,cap,rfl,Hl.out⟩
end
section
theorem sameK (a a2:Option Addr) (cap cap2:Nat) (l:List CellB) (w:World) (hm:l.length≤maxLen) (hl:Lies w a l) (hl2:Lies w a2 l) :
  Calls Tryz.prog 25 #[.slice a l.length cap,.slice a2 l.length cap2] w fun e w'=>e=.returned (.bool true)∧Below w.heap.size w w':=by
 have Hl:=hid hl
 have Hl2:=hid hl2
 clear hl hl2
 unfold maxLen at hm
 have hne:((l.length:Int) != (l.length:Int))=false:=by simp
 go_enter Tryz.func25,Tryz.ntmps25
 go_wp2
 go_loopw [5] (fun i wr=>∃ k:Nat,k≤l.length∧i=.int .i64 (k:Int)∧Below w.heap.size w wr) (fun i _=>l.length - (intOf i).toNat)
 case atStart=>exact ⟨0,Nat.zero_le _,rfl,Below.refl _ _⟩
 case round =>
  obtain ⟨k,hk,rfl,hB⟩:=hrel
  by_cases hlt:k < l.length
  ·obtain ⟨b,off,rfl,hbw,hcell⟩:=(Hl.out.later hB).at_ (List.ne_nil_of_length_pos (by omega))
   obtain ⟨g1,g2,g3⟩:=hcell k hlt
   obtain ⟨b',off',rfl,hbw',hcell'⟩:=(Hl2.out.later hB).at_ (List.ne_nil_of_length_pos (by omega))
   obtain ⟨k1,k2,k3⟩:=hcell' k hlt
   clear hcell hcell'
   generalize l[k]=c at *
   have hki:(k:Int) < (l.length:Int):=by omega
   go_wp2_with fail
   go_quiet (fail)
   go_wp2_with fail
   go_roundw
   case rel=>exact ⟨k+1,by omega,by go_num,below_drewN hB nq⟩
   case measure=>simp [intOf];omega
  ·go_wp2
   go_ret
   exact ⟨rfl,hB⟩
end
end Go.Proofs.YthhpbhpfagoapaaGreat
