import Derived.Test.YthhpbhpfagoapaaGreatRTk
import Derived.Test.YthhpbhpfagoapaaGreatDRead3
import Derived.Laws.CopyOwn
import Derived.Deep.RegionLaw
import Derived.Test.YthhpbhpfagoapaaGreatJAP
namespace Go.Proofs.YthhpbhpfagoapaaGreat
set_option linter.unusedVariables false
set_option linter.unusedSimpArgs false
set_option maxRecDepth 100000
set_option maxHeartbeats 16000000
open Go.RowKit
section
theorem Tryz.infoBool:(Tryz.prog.info? 4).map (fun i=>(i.zero,i.size,i.bytes))=some (some (.bool false),1,1):=by kernel_rfl
theorem and32 (n:Nat) (h:n < 4294967296):bits .and .u64 (n:Int) 4294967295=(n:Int):=by
 have h1:=u64_and_nat n 4294967295 (by omega) (by decide)
 have h2:n &&& 4294967295=n:=by
  rw [show 4294967295=2 ^ 32 - 1 by decide,Nat.and_two_pow_sub_one_eq_mod]
  omega
 rw [h2] at h1
 exact h1
theorem mul64_any (n:Nat) (w:World) (h:n≤60) :
  Calls Tryz.prog 273 #[.int .u64 1,.int .u64 (n:Int)] w fun e w'=>e=.returned (.tuple #[.int .u64 0,.int .u64 (n:Int)])∧w'=w:=by
 have h1:=and32 n (by omega)
 have h2:bits .and .u64 1 4294967295=1:=and32 1 (by omega)
 have h3:(n:Int) / 4294967296=0:=by omega
 have h4:bits .and .u64 0 4294967295=0:=and32 0 (by omega)
 go_enter Tryz.func273,Tryz.ntmps273
 go_wp2
 go_ret2
 exact ⟨rfl,rfl⟩
theorem own_block {w:World} {base e g N:Nat} {xs:List Value} (h:w.ownsRow base e 1 (.slice (some ⟨g,0,none⟩) N N) N xs):w.heap[g]?=some (.cells xs.toArray e (0,0)):=by
 rcases h.2 with ⟨h1,_⟩|⟨g',cap,cur,h1,_,h3,_,_,h6,h7⟩
 ·cases h1
 ·simp only [Value.slice.injEq,Option.some.injEq,Addr.mk.injEq,and_true] at h1
  obtain ⟨rfl,_,rfl⟩:=h1
  rw [h3]
  have:cur.toList=xs:=by
   rw [← h7,List.take_of_length_le]
   simp [h6]
  rw [← this]
theorem splice_rep (N n k:Nat) (v z:Value) (h:n+k≤N):splice (List.replicate n v++List.replicate (N - n) z) n (List.replicate k v)=List.replicate (n+k) v++List.replicate (N - (n+k)) z:=by
 unfold splice
 rw [List.take_append_of_le_length (by simp),List.take_of_length_le (by simp),List.length_replicate,List.drop_append,List.drop_of_length_le (by simp),List.length_replicate]
 rw [List.nil_append,List.drop_replicate,← List.append_assoc,List.replicate_append_replicate]
 congr 2
 omega
def repC (N n:Nat) (v z:Value):List Value:=List.replicate n v++List.replicate (N - n) z
theorem repC_splice (N n k:Nat) (v z:Value) (h:n+k≤N):splice (repC N n v z) n (List.replicate k v)=repC N (n+k) v z:=splice_rep N n k v z h
theorem repC_length (N n:Nat) (v z:Value) (h:n≤N):(repC N n v z).length=N:=by simp [repC];omega
theorem repC_full (N:Nat) (v z:Value):repC N N v z=List.replicate N v:=by simp [repC]
theorem repC_src {w:World} {g N n k:Nat} {v z:Value} {t:TypeId} (h:w.heap[g]?=some (.cells (repC N n v z).toArray t (0,0))) (hk:k≤n):∀ j u,(List.replicate k v)[j]?=some u→w.cell? ((⟨g,0,none⟩:Addr).add j)=some u:=by
 intro j u hj
 have hadd:(⟨g,0,none⟩:Addr).add j=⟨g,j,none⟩:=by unfold Addr.add;split<;>simp_all
 have hlt:j < k:=by
  rcases Nat.lt_or_ge j k with h1|h1
  ·exact h1
  ·rw [List.getElem?_eq_none (by simp;omega)] at hj;cases hj
 rw [List.getElem?_replicate,if_pos hlt] at hj
 rw [hadd,cell_of_row w g j _ t (0,0) h,← hj]
 simp only [repC,List.getElem?_toArray]
 rw [List.getElem?_append_left (by simp;omega),List.getElem?_replicate,if_pos (by omega)]
theorem make_block {w:World} {base e g N:Nat} {z v:Value} (h:w.ownsRow base e 1 (.slice (some ⟨g,0,none⟩) N N) N (madeCells z.cells (N*1)).toList) (hz:z.cells=#[z]) :
  w.heap[g]?=some (.cells (repC N 0 v z).toArray e (0,0)):=by
 have h1:=own_block h
 rw [hz,toList_madeCells_one] at h1
 simpa [repC] using h1
theorem mul_any (n:Nat) (w:World) (h:n≤60) :
  Calls Tryz.prog 267 #[.int .u64 1,.int .u64 (n:Int)] w fun e w'=>e=.returned (.tuple #[.int .u64 0,.int .u64 (n:Int)])∧w'=w:=by
 go_enter Tryz.func267,Tryz.ntmps267
 go_wp2_with fail
 refine (mul64_any n _ h).mono ?_
 rintro e w1 ⟨rfl,rfl⟩
 go_wp2
 go_ret2
 exact ⟨rfl,rfl⟩
theorem repeatI (x:Int) (G cap N:Nat) (w:World) (hN:N≤60) (hG:w.cell? ⟨G,0,none⟩=some (.int .i64 x)) :
  Calls Tryz.prog 243 #[.slice (some ⟨G,0,none⟩) 1 cap,.int .i64 (N:Int)] w fun e w'=>∃ g,e=.returned (.slice (some ⟨g,0,none⟩) N N)∧w'.heap[g]?=some (.cells (List.replicate N (.int .i64 x)).toArray 3 (0,0))∧Below w.heap.size w w':=by
 obtain ⟨i0,hi,hz0,hz1,hz2⟩:=info_parts Tryz.infoInt
 have hsz:(Tryz.prog.info? 3).map (·.size)=some 1:=by rw [hi];simp [hz1]
 have HG:=hid hG
 have hGlt:=World.block_lt_of_cell? w _ hG
 have hw1:IntKind.u64.wrap (N:Int)=(N:Int):=i64_u64 (by omega) (by omega)
 have hw2:IntKind.i64.wrap (N:Int)=(N:Int):=u64_i64 (by omega) (by omega)
 clear hG
 go_enter Tryz.func243,Tryz.ntmps243
 go_wp2_with fail
 refine (mul_any N _ hN).mono ?_
 rintro e w1 ⟨rfl,rfl⟩
 have HG1:=HG
 by_cases hN0:N=0
 ·subst hN0
  go_wp2_with (first
   | (at_make;refine wpList_make_full _ rfl (.tmp 29) (.tmp 29) 82 rfl w1.heap.size 3 i0 (.int .i64 0) 1 Tryz.underlying82 hi hz0 hz1 .i64 .i64 _ _ 0 rfl rfl rfl rfl (by rw [hz2];omega) (by unfold maxLen;omega) (Nat.le_refl _) ?_;intro w3 hown hgr;have hgb:=make_block (v:=.int .i64 x) hown rfl;have hB3:Below w1.heap.size w1 w3:=(Below.refl _ _).grown hgr (Nat.le_refl _) (fun _ h=>by cases h);clear hown hgr)
   | (refine wpList_copy_splice rfl (.tmp 31) (.tmp 32) 82 82 rfl 3 Tryz.underlying82 hsz _ _ _ _ _ _ rfl rfl w1.heap.size 0 _ 3 hgb [] (by simp) (fun h=>by simp at h) (by simp) (fun _ h=>by cases h) w1.heap.size w1 hB3 (Nat.le_refl _) ?_;intro w4 hg4 hb4))
  go_loopw [8] (fun i wr=>i=.int .i64 0∧wr=w4) (fun _ _=>0)
  case atStart=>exact ⟨rfl,rfl⟩
  case round =>
   obtain ⟨rfl,rfl⟩:=hrel
   go_wp2
   go_ret
   exact ⟨w1.heap.size,rfl,by simpa [splice,repC] using hg4.out,hb4⟩
 ·have hN1:1≤N:=by omega
  have hmin:Nat.min 1 N=1:=Nat.min_eq_left hN1
  have HN0:=hid hN0
  clear hN0
  go_wp2_with (first
   | (at_make;refine wpList_make_full _ rfl (.tmp 29) (.tmp 29) 82 rfl w1.heap.size 3 i0 (.int .i64 0) 1 Tryz.underlying82 hi hz0 hz1 .i64 .i64 _ _ N rfl rfl rfl rfl (by rw [hz2];omega) (by unfold maxLen;omega) (Nat.le_refl _) ?_;intro w3 hown hgr;have hgb:=make_block (v:=.int .i64 x) hown rfl;have hB3:Below w1.heap.size w1 w3:=(Below.refl _ _).grown hgr (Nat.le_refl _) (fun _ h=>by cases h);clear hown hgr)
   | (refine wpList_copy_splice rfl (.tmp 31) (.tmp 32) 82 82 rfl 3 Tryz.underlying82 hsz _ _ _ _ _ _ rfl rfl w1.heap.size 0 _ 3 hgb (List.replicate 1 (.int .i64 x)) ?c0 ?c1 ?c2 ?c3 w1.heap.size w1 hB3 (Nat.le_refl _) ?_))
  case c0=>rw [List.length_replicate];exact hmin.symm
  case c1 =>
   intro j v hj
   cases j with
   | zero =>
    simp at hj
    subst hj
    exact (hB3.cell (p:=⟨G,0,none⟩) hGlt).trans HG.out
   | succ j=>simp at hj
  case c2=>rw [repC_length _ _ _ _ (by omega)];simp;omega
  case c3=>intro v hv;simp at hv;subst hv;rfl
  intro w4 hg4 hb4
  have HB4:Hid (w4.heap[w1.heap.size]?=some (.cells (repC N 1 (.int .i64 x) (.int .i64 0)).toArray 3 (0,0))):=by
   have h2:=repC_splice N 0 1 (.int .i64 x) (.int .i64 0) (by omega)
   have h1:=hg4.out
   simp only [List.replicate_one,Nat.zero_add] at h1 h2
   rw [h2] at h1
   exact h1
  clear hgb hB3 hg4 hmin
  go_wp2_with fail
  go_loopw [8] (fun i wr=>∃ n:Nat,1≤n∧n≤N∧i=.int .i64 (n:Int)∧Hid (wr.heap[w1.heap.size]?=some (.cells (repC N n (.int .i64 x) (.int .i64 0)).toArray 3 (0,0)))∧Below w1.heap.size w1 wr) (fun i _=>N - (intOf i).toNat)
  case atStart=>exact ⟨1,Nat.le_refl _,hN1,rfl,HB4,hb4⟩
  case round =>
   clear HB4 hb4
   obtain ⟨n,hn1,hnN,rfl,HB,hB⟩:=hrel
   by_cases hlt:n < N
   ·have hk0:(0:Int)≤(n:Int):=by omega
    have hk1:(n:Int)≤(N:Int):=by omega
    have hki:(n:Int) < (N:Int):=by omega
    go_wp2_with fail
    have hNn:¬ N=n:=by omega
    have hmk:Nat.min n (N - n)≤n:=Nat.min_le_left _ _
    have hmk0:Nat.min n (N - n)≤N - n:=Nat.min_le_right _ _
    have hmk2:n+Nat.min n (N - n)≤N:=by omega
    have hmk3:1≤Nat.min n (N - n):=Nat.le_min.2 ⟨hn1,by omega⟩
    have HC:=hid (repC_src (k:=Nat.min n (N - n)) HB.out hmk)
    generalize hmm:Nat.min n (N - n)=m at *
    have Hmm:=hid hmm
    clear hmm
    refine wp_region_held_drew (S:=fun w'=>True) (by kernel_rfl) trivial (fun hHeld=>?_)
    refine tk 0 (.int .i64 (n:Int)) ?_
    refine tk 1 (.slice (some ⟨w1.heap.size,0,none⟩) N N) ?_
    refine tk 2 (.int .i64 (n:Int)) ?_
    refine tk 3 (.slice (some ⟨w1.heap.size,n,none⟩) (N - n) (N - n)) ?_
    refine tk 4 (.slice (some ⟨w1.heap.size,0,none⟩) N N) ?_
    refine tk 5 (.int .i64 (n:Int)) ?_
    refine tk 6 (.slice (some ⟨w1.heap.size,0,none⟩) n N) ?_
    simp only [jA,jB,jC,Act.put,jD,jE,jF]
    refine rd 7 (fun K hK=>?_)
    refine step_copy_splice (w:=wr.drew) (by rfl) (.tmp 41) (.tmp 44) 82 82 (by rfl) 3 Tryz.underlying82 hsz _ _ _ _ _ _ (by rfl) (by rfl) w1.heap.size n _ 3 HB.out (List.replicate m (.int .i64 x)) (by rw [List.length_replicate];exact Hmm.out.symm) (fun _=>⟨rfl,_,rfl,HC.out⟩) (by rw [repC_length _ _ _ _ (by omega),List.length_replicate];exact hmk2) (fun u hu=>by rw [List.mem_replicate] at hu;rw [hu.2];rfl) w1.heap.size w1 (show Below w1.heap.size w1 wr.drew from below_drewN hB 1) (Nat.le_refl _) ?_
    intro w5 hg5 hb5
    have HB5:Hid (w5.heap[w1.heap.size]?=some (.cells (repC N (n+m) (.int .i64 x) (.int .i64 0)).toArray 3 (0,0))):=by
     have h1:=hg5.out
     rw [repC_splice N n m _ _ hmk2] at h1
     exact h1
    rw [List.length_replicate]
    clear hg5
    try go_wp2_with fail
    refine hK.out _ _ trivial (fun hHeld=>?_)
    clear hK K
    try simp only [jA,jB,jC,Act.put,jD,jE,jF]
    refine rd 8 (fun K hK=>?_)
    simp only [jA,jB,jC]
    go_simp
    try go_wp2_with fail
    refine hK.out _ _ trivial (fun hHeld=>?_)
    clear hK K
    try simp only [jA,jB,jC,Act.put,jD,jE,jF]
    refine rd 9 (fun K hK=>?_)
    simp only [jA,jB,jC]
    go_simp
    try go_wp2_with fail
    refine hK.out _ _ trivial (fun hHeld=>?_)
    clear hK K
    try simp only [jA,jB,jC,Act.put,jD,jE,jF]
    refine wpAnyH_done (by kernel_rfl) ?_ _
    have hwn:IntKind.i64.wrap ((n:Int)+(m:Int))=((n+m:Nat):Int):=by rw [IntKind.wrap_i64];omega
    rw [hwn]
    clear hwn
    go_wp2_with fail
    go_roundw
    case rel=>exact ⟨n+m,by omega,hmk2,rfl,HB5,hb5⟩
    case measure=>simp [intOf];omega
   ·have hne:n=N:=by omega
    subst hne
    have hki:decide ((n:Int) < (n:Int))=false:=by simp
    go_wp2
    go_ret
    exact ⟨w1.heap.size,rfl,by have:=HB.out;rw [repC_full] at this;exact this,hB⟩
theorem repeatB (x:Bool) (G cap N:Nat) (w:World) (hN:N≤60) (hG:w.cell? ⟨G,0,none⟩=some (.bool x)) :
  Calls Tryz.prog 249 #[.slice (some ⟨G,0,none⟩) 1 cap,.int .i64 (N:Int)] w fun e w'=>∃ g,e=.returned (.slice (some ⟨g,0,none⟩) N N)∧w'.heap[g]?=some (.cells (List.replicate N (.bool x)).toArray 4 (0,0))∧Below w.heap.size w w':=by
 obtain ⟨i0,hi,hz0,hz1,hz2⟩:=info_parts Tryz.infoBool
 have hsz:(Tryz.prog.info? 4).map (·.size)=some 1:=by rw [hi];simp [hz1]
 have HG:=hid hG
 have hGlt:=World.block_lt_of_cell? w _ hG
 have hw1:IntKind.u64.wrap (N:Int)=(N:Int):=i64_u64 (by omega) (by omega)
 have hw2:IntKind.i64.wrap (N:Int)=(N:Int):=u64_i64 (by omega) (by omega)
 clear hG
 go_enter Tryz.func249,Tryz.ntmps249
 go_wp2_with fail
 refine (mul_any N _ hN).mono ?_
 rintro e w1 ⟨rfl,rfl⟩
 have HG1:=HG
 by_cases hN0:N=0
 ·subst hN0
  go_wp2_with (first
   | (at_make;refine wpList_make_full _ rfl (.tmp 29) (.tmp 29) 282 rfl w1.heap.size 4 i0 (.bool false) 1 Tryz.underlying282 hi hz0 hz1 .i64 .i64 _ _ 0 rfl rfl rfl rfl (by rw [hz2];omega) (by unfold maxLen;omega) (Nat.le_refl _) ?_;intro w3 hown hgr;have hgb:=make_block (v:=.bool x) hown rfl;have hB3:Below w1.heap.size w1 w3:=(Below.refl _ _).grown hgr (Nat.le_refl _) (fun _ h=>by cases h);clear hown hgr)
   | (refine wpList_copy_splice rfl (.tmp 31) (.tmp 32) 282 282 rfl 4 Tryz.underlying282 hsz _ _ _ _ _ _ rfl rfl w1.heap.size 0 _ 4 hgb [] (by simp) (fun h=>by simp at h) (by simp) (fun _ h=>by cases h) w1.heap.size w1 hB3 (Nat.le_refl _) ?_;intro w4 hg4 hb4))
  go_loopw [8] (fun i wr=>i=.int .i64 0∧wr=w4) (fun _ _=>0)
  case atStart=>exact ⟨rfl,rfl⟩
  case round =>
   obtain ⟨rfl,rfl⟩:=hrel
   go_wp2
   go_ret
   exact ⟨w1.heap.size,rfl,by simpa [splice,repC] using hg4.out,hb4⟩
 ·have hN1:1≤N:=by omega
  have hmin:Nat.min 1 N=1:=Nat.min_eq_left hN1
  have HN0:=hid hN0
  clear hN0
  go_wp2_with (first
   | (at_make;refine wpList_make_full _ rfl (.tmp 29) (.tmp 29) 282 rfl w1.heap.size 4 i0 (.bool false) 1 Tryz.underlying282 hi hz0 hz1 .i64 .i64 _ _ N rfl rfl rfl rfl (by rw [hz2];omega) (by unfold maxLen;omega) (Nat.le_refl _) ?_;intro w3 hown hgr;have hgb:=make_block (v:=.bool x) hown rfl;have hB3:Below w1.heap.size w1 w3:=(Below.refl _ _).grown hgr (Nat.le_refl _) (fun _ h=>by cases h);clear hown hgr)
   | (refine wpList_copy_splice rfl (.tmp 31) (.tmp 32) 282 282 rfl 4 Tryz.underlying282 hsz _ _ _ _ _ _ rfl rfl w1.heap.size 0 _ 4 hgb (List.replicate 1 (.bool x)) ?c0 ?c1 ?c2 ?c3 w1.heap.size w1 hB3 (Nat.le_refl _) ?_))
  case c0=>rw [List.length_replicate];exact hmin.symm
  case c1 =>
   intro j v hj
   cases j with
   | zero =>
    simp at hj
    subst hj
    exact (hB3.cell (p:=⟨G,0,none⟩) hGlt).trans HG.out
   | succ j=>simp at hj
  case c2=>rw [repC_length _ _ _ _ (by omega)];simp;omega
  case c3=>intro v hv;simp at hv;subst hv;rfl
  intro w4 hg4 hb4
  have HB4:Hid (w4.heap[w1.heap.size]?=some (.cells (repC N 1 (.bool x) (.bool false)).toArray 4 (0,0))):=by
   have h2:=repC_splice N 0 1 (.bool x) (.bool false) (by omega)
   have h1:=hg4.out
   simp only [List.replicate_one,Nat.zero_add] at h1 h2
   rw [h2] at h1
   exact h1
  clear hgb hB3 hg4 hmin
  go_wp2_with fail
  go_loopw [8] (fun i wr=>∃ n:Nat,1≤n∧n≤N∧i=.int .i64 (n:Int)∧Hid (wr.heap[w1.heap.size]?=some (.cells (repC N n (.bool x) (.bool false)).toArray 4 (0,0)))∧Below w1.heap.size w1 wr) (fun i _=>N - (intOf i).toNat)
  case atStart=>exact ⟨1,Nat.le_refl _,hN1,rfl,HB4,hb4⟩
  case round =>
   clear HB4 hb4
   obtain ⟨n,hn1,hnN,rfl,HB,hB⟩:=hrel
   by_cases hlt:n < N
   ·have hk0:(0:Int)≤(n:Int):=by omega
    have hk1:(n:Int)≤(N:Int):=by omega
    have hki:(n:Int) < (N:Int):=by omega
    go_wp2_with fail
    have hNn:¬ N=n:=by omega
    have hmk:Nat.min n (N - n)≤n:=Nat.min_le_left _ _
    have hmk0:Nat.min n (N - n)≤N - n:=Nat.min_le_right _ _
    have hmk2:n+Nat.min n (N - n)≤N:=by omega
    have hmk3:1≤Nat.min n (N - n):=Nat.le_min.2 ⟨hn1,by omega⟩
    have HC:=hid (repC_src (k:=Nat.min n (N - n)) HB.out hmk)
    generalize hmm:Nat.min n (N - n)=m at *
    have Hmm:=hid hmm
    clear hmm
    refine wp_region_held_drew (S:=fun w'=>True) (by kernel_rfl) trivial (fun hHeld=>?_)
    refine tk 0 (.int .i64 (n:Int)) ?_
    refine tk 1 (.slice (some ⟨w1.heap.size,0,none⟩) N N) ?_
    refine tk 2 (.int .i64 (n:Int)) ?_
    refine tk 3 (.slice (some ⟨w1.heap.size,n,none⟩) (N - n) (N - n)) ?_
    refine tk 4 (.slice (some ⟨w1.heap.size,0,none⟩) N N) ?_
    refine tk 5 (.int .i64 (n:Int)) ?_
    refine tk 6 (.slice (some ⟨w1.heap.size,0,none⟩) n N) ?_
    simp only [jA,jB,jC,Act.put,jD,jE,jF]
    refine rd 7 (fun K hK=>?_)
    refine step_copy_splice (w:=wr.drew) (by rfl) (.tmp 41) (.tmp 44) 282 282 (by rfl) 4 Tryz.underlying282 hsz _ _ _ _ _ _ (by rfl) (by rfl) w1.heap.size n _ 4 HB.out (List.replicate m (.bool x)) (by rw [List.length_replicate];exact Hmm.out.symm) (fun _=>⟨rfl,_,rfl,HC.out⟩) (by rw [repC_length _ _ _ _ (by omega),List.length_replicate];exact hmk2) (fun u hu=>by rw [List.mem_replicate] at hu;rw [hu.2];rfl) w1.heap.size w1 (show Below w1.heap.size w1 wr.drew from below_drewN hB 1) (Nat.le_refl _) ?_
    intro w5 hg5 hb5
    have HB5:Hid (w5.heap[w1.heap.size]?=some (.cells (repC N (n+m) (.bool x) (.bool false)).toArray 4 (0,0))):=by
     have h1:=hg5.out
     rw [repC_splice N n m _ _ hmk2] at h1
     exact h1
    rw [List.length_replicate]
    clear hg5
    try go_wp2_with fail
    refine hK.out _ _ trivial (fun hHeld=>?_)
    clear hK K
    try simp only [jA,jB,jC,Act.put,jD,jE,jF]
    refine rd 8 (fun K hK=>?_)
    simp only [jA,jB,jC]
    go_simp
    try go_wp2_with fail
    refine hK.out _ _ trivial (fun hHeld=>?_)
    clear hK K
    try simp only [jA,jB,jC,Act.put,jD,jE,jF]
    refine rd 9 (fun K hK=>?_)
    simp only [jA,jB,jC]
    go_simp
    try go_wp2_with fail
    refine hK.out _ _ trivial (fun hHeld=>?_)
    clear hK K
    try simp only [jA,jB,jC,Act.put,jD,jE,jF]
    refine wpAnyH_done (by kernel_rfl) ?_ _
    have hwn:IntKind.i64.wrap ((n:Int)+(m:Int))=((n+m:Nat):Int):=by rw [IntKind.wrap_i64];omega
    rw [hwn]
    clear hwn
    go_wp2_with fail
    go_roundw
    case rel=>exact ⟨n+m,by omega,hmk2,rfl,HB5,hb5⟩
    case measure=>simp [intOf];omega
   ·have hne:n=N:=by omega
    subst hne
    have hki:decide ((n:Int) < (n:Int))=false:=by simp
    go_wp2
    go_ret
    exact ⟨w1.heap.size,rfl,by have:=HB.out;rw [repC_full] at this;exact this,hB⟩
end
section
theorem hasKeys_any (a:Option Addr) (cap:Nat) (j:JobB) (ra:Option Addr) (rcap:Nat) (r:List KeyB) (w:World) (hj:LiesJ w a cap j) (hr:LiesK w ra r) (hrm:r.length≤maxLen) :
  Calls Tryz.prog 137 #[jobV (.slice a j.table.length cap) j,.slice ra r.length rcap] w fun e w'=>e=.returned (.bool (hasTo j.table r j.table.length && hasNumB r j.plan.foot))∧Below w.heap.size w w':=by
 have Hj:=hid hj
 have Hr:=hid hr
 have hlen:=hj.len
 unfold maxLen at hlen
 clear hj hr
 go_enter Tryz.func137,Tryz.ntmps137
 go_wp2
 obtain ⟨hb0,hs1,_,_⟩:=boxedW w #[.slice a j.table.length cap,.int .i64 j.plan.group,.int .i64 j.plan.page,.int .i64 j.plan.foot,.bool j.plan.told,strB j.pre,.int .i64 j.draw] 26
 have Hx0:=hid (boxJ_new w (.slice a j.table.length cap) j 26)
 have Hj0:=hid (Hj.out.later hb0)
 have Hr0:=hid (Hr.out.later hb0)
 have Hb0:=hid hb0
 clear hb0
 generalize w.alloc _=w0 at *
 go_loopw [14] (fun i wr=>∃ k:Nat,k≤j.table.length∧i=.int .i64 k∧hasTo j.table r k=true∧Below w0.heap.size w0 wr) (fun i _=>j.table.length - (intOf i).toNat)
 case atStart=>exact ⟨0,Nat.zero_le _,rfl,rfl,Below.refl _ _⟩
 case round =>
  obtain ⟨k,hkl,rfl,hall,hB⟩:=hrel
  have Hall:=hid hall
  clear hall
  by_cases hlt:k < j.table.length
  ·obtain ⟨b,off,rfl,hbw,hcell⟩:=(Hj0.out.table.later hB).at_ (List.ne_nil_of_length_pos (by omega))
   obtain ⟨g1,g2,g3,v,g4,ca,cap2,rfl,_⟩:=hcell k hlt
   clear hcell
   have hki:(k:Int) < (j.table.length:Int):=by omega
   have HT:=hid (hasTo_succ (r:=r) hlt)
   have HNo:Hid ((decide ((j.table[k]).key=0) || hasNumB r (j.table[k]).key)=false→hasTo j.table r j.table.length=false):=by
    intro h
    simp only [hasTo,List.take_length,List.all_eq_false]
    exact ⟨j.table[k],List.getElem_mem hlt,by rw [h];simp⟩
   go_wp2_with fail
   obtain ⟨hbb,hsb,hcb,_⟩:=boxedW wr #[strB (j.table[k]).name,.int .i64 (j.table[k]).kind,.int .i64 (j.table[k]).key,.slice ca (j.table[k]).cells.length cap2] 61
   have y2:=hcb 2
   simp only [List.getElem?_toArray,List.getElem?_cons_zero,List.getElem?_cons_succ] at y2
   have hBb:=hB.trans (hbb.mono hB.size)
   clear hcb hbb g1 g2 g3 g4 hB hbw
   generalize wr.alloc _=wb at *
   refine (secret_any ra rcap r (j.table[k]).key wb hrm (Hr0.out.later hBb)).mono ?_
   rintro e w2 ⟨rfl,hb2⟩
   have z2:=(hb2.cell (p:=⟨wr.heap.size,2,none⟩) hsb).trans y2
   have hB2:=hBb.trans (hb2.mono hBb.size)
   have HBB:=hid (Hb0.out.trans (hB2.mono Hb0.out.size))
   clear y2 hBb hb2
   generalize secretB r (j.table[k]).key=sv at *
   cases hn:hasNumB r (j.table[k]).key with
   | true =>
    have HT2:Hid (hasTo j.table r (k+1)=true):=by show _=_;rw [HT.out,Hall.out,hn];simp
    clear hn HT
    go_wp2
    go_roundw
    case rel=>exact ⟨k+1,by omega,by go_num,HT2.out,hB2⟩
    case measure=>simp [intOf];omega
   | false =>
    rw [hn] at HT HNo
    clear hn
    by_cases hk0:(j.table[k]).key=0
    ·have HT2:Hid (hasTo j.table r (k+1)=true):=by show _=_;rw [HT.out,Hall.out];simp [hk0]
     rw [hk0] at z2
     clear HT HNo hk0
     go_wp2
     go_roundw
     case rel=>exact ⟨k+1,by omega,by go_num,HT2.out,hB2⟩
     case measure=>simp [intOf];omega
    ·have hk1:((j.table[k]).key != 0)=true:=by simp [hk0]
     have HX:Hid (hasTo j.table r j.table.length=false):=HNo.out (by simp [hk0])
     clear HT HNo hk0
     go_wp2
     go_ret
     exact ⟨ret_bool (by rw [HX.out];rfl),HBB.out⟩
  ·have hke:k=j.table.length:=by omega
   subst hke
   obtain ⟨x0,x1,x2,x3,x4,x5,x6⟩:=Hx0.out.later hs1 hB
   clear x0 x1 x2 x4 x5 x6
   go_wp2_with fail
   refine (secret_any ra rcap r j.plan.foot _ hrm (Hr0.out.later hB)).mono ?_
   rintro e w2 ⟨rfl,hb2⟩
   have hB2:=hB.trans (hb2.mono hB.size)
   have HBB:=hid (Hb0.out.trans (hB2.mono Hb0.out.size))
   clear x3 hb2 hB hB2
   generalize secretB r j.plan.foot=sv at *
   go_wp2
   go_ret
   exact ⟨ret_bool (by rw [Hall.out];rfl),HBB.out⟩
theorem checkJob_any (a:Option Addr) (cap:Nat) (j:JobB) (ra:Option Addr) (rcap:Nat) (r:List KeyB) (w:World) (hj:LiesJ w a cap j) (hr:LiesK w ra r) (hrm:r.length≤maxLen) :
  Calls Tryz.prog 75 #[jobV (.slice a j.table.length cap) j,.slice ra r.length rcap] w fun e w'=>e=.returned (.int .i64 (jobErrB j r))∧Below w.heap.size w w':=by
 have Hj:=hid hj
 have Hr:=hid hr
 have hlen:=hj.len
 have hpre:=hj.pre
 have Hpre:=hid hpre
 unfold maxLen at hlen hpre
 clear hj hr
 have HE:Hid (jobErrB j r=if tableOkB j.table=false then 5 else if planB2 j=false then 7 else if ringOkB r=false then 1 else if missesB j r=true then 8 else 0):=rfl
 have HP2:Hid (planB2 j=(planOkB j.plan && (decide (j.pre.length≤20) && (decide (0≤j.draw) && decide (j.draw≤65535))))):=rfl
 have HHM:=hid (has_misses (j:=j) (r:=r))
 go_enter Tryz.func75,Tryz.ntmps75
 go_wp2_with fail
 obtain ⟨hb0,hs1,_,_⟩:=boxedW w #[.slice a j.table.length cap,.int .i64 j.plan.group,.int .i64 j.plan.page,.int .i64 j.plan.foot,.bool j.plan.told,strB j.pre,.int .i64 j.draw] 26
 have Hx0:=hid (boxJ_new w (.slice a j.table.length cap) j 26)
 have Hj0:=hid (Hj.out.later hb0)
 have Hr0:=hid (Hr.out.later hb0)
 have Hb0:=hid hb0
 clear hb0
 generalize w.alloc _=w0 at *
 refine (isTable_any a cap j.table w0 Hj.out.len Hj.out.cap_ Hj0.out.table).mono ?_
 rintro e w1 ⟨rfl,hb1⟩
 obtain ⟨x0,x1,x2,x3,x4,x5,x6⟩:=Hx0.out.later hs1 hb1
 have HB1:=hid (Hb0.out.trans (hb1.mono Hb0.out.size))
 cases ht:tableOkB j.table with
 | false =>
  have Ht:=hid ht
  clear ht
  go_wp2
  go_ret
  exact ⟨ret_int (by rw [HE.out,Ht.out];rfl),HB1.out⟩
 | true =>
  have Ht:=hid ht
  clear ht
  go_wp2_with fail
  refine (isPlan_any j.plan _).mono ?_
  rintro e w2 ⟨rfl,hb2⟩
  have hB2:=hb1.trans (hb2.mono hb1.size)
  have HB2:=hid (Hb0.out.trans (hB2.mono Hb0.out.size))
  clear x0 x1 x2 x3 x4 x5 x6 hb1 hb2
  obtain ⟨x0,x1,x2,x3,x4,x5,x6⟩:=Hx0.out.later hs1 hB2
  cases hp1:planOkB j.plan with
  | false =>
   have HX:Hid (planB2 j=false):=by show _=_;rw [HP2.out,hp1];rfl
   clear hp1
   go_wp2
   go_ret
   exact ⟨ret_int (by rw [HE.out,Ht.out,HX.out];rfl),HB2.out⟩
  | true =>
   rw [hp1] at HP2
   clear hp1
   go_wp2_with fail
   refine (isPrefix_any j.pre _ Hpre.out).mono ?_
   rintro e w3 ⟨rfl,rfl⟩
   cases hp2:decide (j.pre.length≤20) with
   | false =>
    have HX:Hid (planB2 j=false):=by show _=_;rw [HP2.out,hp2];rfl
    clear hp2
    go_wp2
    go_ret
    exact ⟨ret_int (by rw [HE.out,Ht.out,HX.out];rfl),HB2.out⟩
   | true =>
    rw [hp2] at HP2
    clear hp2
    go_wp2_with fail
    refine (isDraw_any j.draw _).mono ?_
    rintro e w3 ⟨rfl,rfl⟩
    cases hp3:(decide (0≤j.draw) && decide (j.draw≤65535)) with
    | false =>
     have HX:Hid (planB2 j=false):=by show _=_;rw [HP2.out,hp3];rfl
     clear hp3
     go_wp2
     go_ret
     exact ⟨ret_int (by rw [HE.out,Ht.out,HX.out];rfl),HB2.out⟩
    | true =>
     have HX:Hid (planB2 j=true):=by show _=_;rw [HP2.out,hp3];rfl
     clear hp3
     go_wp2_with fail
     refine (isRing_any ra rcap r _ hrm (Hr0.out.later hB2)).mono ?_
     rintro e w3 ⟨rfl,hb3⟩
     have hB3:=hB2.trans (hb3.mono hB2.size)
     have HB3:=hid (Hb0.out.trans (hB3.mono Hb0.out.size))
     clear x0 x1 x2 x3 x4 x5 x6 hB2 hb3
     obtain ⟨x0,x1,x2,x3,x4,x5,x6⟩:=Hx0.out.later hs1 hB3
     cases hk:ringOkB r with
     | false =>
      have Hk:=hid hk
      clear hk
      go_wp2
      go_ret
      exact ⟨ret_int (by rw [HE.out,Ht.out,HX.out,Hk.out];rfl),HB3.out⟩
     | true =>
      have Hk:=hid hk
      clear hk
      go_wp2_with fail
      refine (hasKeys_any a cap j ra rcap r _ (Hj0.out.later hB3) (Hr0.out.later hB3) hrm).mono ?_
      rintro e w4 ⟨rfl,hb4⟩
      have HB4:=hid (HB3.out.trans (hb4.mono HB3.out.size))
      rw [HHM.out Ht.out]
      clear x0 x1 x2 x3 x4 x5 x6 hB3 hb4
      cases hms:missesB j r with
      | true =>
       have Hms:=hid hms
       clear hms
       go_wp2
       go_ret
       exact ⟨ret_int (by rw [HE.out,Ht.out,HX.out,Hk.out,Hms.out];rfl),HB4.out⟩
      | false =>
       have Hms:=hid hms
       clear hms
       go_wp2
       go_ret
       exact ⟨ret_int (by rw [HE.out,Ht.out,HX.out,Hk.out,Hms.out];rfl),HB4.out⟩
end
end Go.Proofs.YthhpbhpfagoapaaGreat
