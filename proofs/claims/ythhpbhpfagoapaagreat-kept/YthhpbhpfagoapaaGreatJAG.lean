import Derived.Test.YthhpbhpfagoapaaGreatRTk
import Derived.Test.YthhpbhpfagoapaaGreatJAC
import Derived.Laws.CopyOwn
import Derived.Deep.RegionLaw
import Derived.Deep.LoopGhost
namespace Go.Proofs.YthhpbhpfagoapaaGreat
set_option linter.unusedVariables false
set_option linter.unusedSimpArgs false
set_option maxRecDepth 100000
set_option maxHeartbeats 16000000
open Go.RowKit
section
theorem Tryz.infoBool:(Tryz.prog.info? 4).map (fun i=>(i.zero,i.size,i.bytes))=some (some (.bool false),1,1):=by kernel_rfl
theorem Pz (n:Nat) (h:n < 4294967296):bits .and .u64 (n:Int) 4294967295=(n:Int):=by
 have h1:=u64_and_nat n 4294967295 (by omega) (by decide)
 have h2:n &&& 4294967295=n:=by
  rw [show 4294967295=2 ^ 32 - 1 by decide,Nat.and_two_pow_sub_one_eq_mod]
  omega
 rw [h2] at h1
 exact h1
theorem CS (n:Nat) (w:World) (h:n≤60) :
  Calls Tryz.prog 273 #[.int .u64 1,.int .u64 (n:Int)] w fun e w'=>e=.returned (.tuple #[.int .u64 0,.int .u64 (n:Int)])∧w'=w:=by
 have h1:=Pz n (by omega)
 have h2:bits .and .u64 1 4294967295=1:=Pz 1 (by omega)
 have h3:(n:Int) / 4294967296=0:=by omega
 have h4:bits .and .u64 0 4294967295=0:=Pz 0 (by omega)
 go_enter Tryz.func273,Tryz.ntmps273
 go_wp2
 go_ret2
 exact ⟨rfl,rfl⟩
theorem CI {w:World} {base e g N:Nat} {xs:List Value} (h:w.ownsRow base e 1 (.slice (some ⟨g,0,none⟩) N N) N xs):w.heap[g]?=some (.cells xs.toArray e (0,0)):=by
 rcases h.2 with ⟨h1,_⟩|⟨g',cap,cur,h1,_,h3,_,_,h6,h7⟩
 ·cases h1
 ·simp only [Value.slice.injEq,Option.some.injEq,Addr.mk.injEq,and_true] at h1
  obtain ⟨rfl,_,rfl⟩:=h1
  rw [h3]
  have:cur.toList=xs:=by
   rw [← h7,List.take_of_length_le]
   simp [h6]
  rw [← this]
theorem Db (N n k:Nat) (v z:Value) (h:n+k≤N):splice (List.replicate n v++List.replicate (N - n) z) n (List.replicate k v)=List.replicate (n+k) v++List.replicate (N - (n+k)) z:=by
 unfold splice
 rw [List.take_append_of_le_length (by simp),List.take_of_length_le (by simp),List.length_replicate,List.drop_append,List.drop_of_length_le (by simp),List.length_replicate]
 rw [List.nil_append,List.drop_replicate,← List.append_assoc,List.replicate_append_replicate]
 congr 2
 omega
def Ki (N n:Nat) (v z:Value):List Value:=List.replicate n v++List.replicate (N - n) z
theorem XM (N n k:Nat) (v z:Value) (h:n+k≤N):splice (Ki N n v z) n (List.replicate k v)=Ki N (n+k) v z:=Db N n k v z h
theorem XR (N n:Nat) (v z:Value) (h:n≤N):(Ki N n v z).length=N:=by simp [Ki];omega
theorem Rt (N:Nat) (v z:Value):Ki N N v z=List.replicate N v:=by simp [Ki]
theorem Ir {w:World} {g N n k:Nat} {v z:Value} {t:TypeId} (h:w.heap[g]?=some (.cells (Ki N n v z).toArray t (0,0))) (hk:k≤n):∀ j u,(List.replicate k v)[j]?=some u→w.cell? ((⟨g,0,none⟩:Addr).add j)=some u:=by
 intro j u hj
 have hadd:(⟨g,0,none⟩:Addr).add j=⟨g,j,none⟩:=by unfold Addr.add;split<;>simp_all
 have hlt:j < k:=by
  rcases Nat.lt_or_ge j k with h1|h1
  ·exact h1
  ·rw [List.getElem?_eq_none (by simp;omega)] at hj;cases hj
 rw [List.getElem?_replicate,if_pos hlt] at hj
 rw [hadd,cell_of_row w g j _ t (0,0) h,← hj]
 simp only [Ki,List.getElem?_toArray]
 rw [List.getElem?_append_left (by simp;omega),List.getElem?_replicate,if_pos (by omega)]
theorem ZL {w:World} {base e g N:Nat} {z v:Value} (h:w.ownsRow base e 1 (.slice (some ⟨g,0,none⟩) N N) N (madeCells z.cells (N*1)).toList) (hz:z.cells=#[z]) :
  w.heap[g]?=some (.cells (Ki N 0 v z).toArray e (0,0)):=by
 have h1:=CI h
 rw [hz,toList_madeCells_one] at h1
 simpa [Ki] using h1
theorem DH (n:Nat) (w:World) (h:n≤60) :
  Calls Tryz.prog 267 #[.int .u64 1,.int .u64 (n:Int)] w fun e w'=>e=.returned (.tuple #[.int .u64 0,.int .u64 (n:Int)])∧w'=w:=by
 go_enter Tryz.func267,Tryz.ntmps267
 go_wp2_with fail
 refine (CS n _ h).mono ?_
 rintro e w1 ⟨rfl,rfl⟩
 go_wp2
 go_ret2
 exact ⟨rfl,rfl⟩
theorem Sh (x:Int) (G cap N:Nat) (w:World) (hN:N≤60) (hG:w.cell? ⟨G,0,none⟩=some (.int .i64 x)) :
  Calls Tryz.prog 243 #[.slice (some ⟨G,0,none⟩) 1 cap,.int .i64 (N:Int)] w fun e w'=>∃ g,e=.returned (.slice (some ⟨g,0,none⟩) N N)∧w'.heap[g]?=some (.cells (List.replicate N (.int .i64 x)).toArray 3 (0,0))∧Below w.heap.size w w':=by
 obtain ⟨i0,hi,hz0,hz1,hz2⟩:=info_parts Tryz.infoInt
 have hsz:(Tryz.prog.info? 3).map (·.size)=some 1:=by rw [hi];simp [hz1]
 have HG:=hid hG
 have hGlt:=World.block_lt_of_cell? w _ hG
 have hw1:IntKind.u64.wrap (N:Int)=(N:Int):=Uv (by omega) (by omega)
 have hw2:IntKind.i64.wrap (N:Int)=(N:Int):=KT (by omega) (by omega)
 clear hG
 go_enter Tryz.func243,Tryz.ntmps243
 go_wp2_with fail
 refine (DH N _ hN).mono ?_
 rintro e w1 ⟨rfl,rfl⟩
 have HG1:=HG
 by_cases hN0:N=0
 ·subst hN0
  go_wp2_with (first
   | (at_make;refine wpList_make_full _ rfl (.tmp 29) (.tmp 29) 82 rfl w1.heap.size 3 i0 (.int .i64 0) 1 Tryz.underlying82 hi hz0 hz1 .i64 .i64 _ _ 0 rfl rfl rfl rfl (by rw [hz2];omega) (by unfold maxLen;omega) (Nat.le_refl _) ?_;intro w3 hown hgr;have hgb:=ZL (v:=.int .i64 x) hown rfl;have hB3:Below w1.heap.size w1 w3:=(Below.refl _ _).grown hgr (Nat.le_refl _) (fun _ h=>by cases h);clear hown hgr)
   | (refine wpList_copy_splice rfl (.tmp 31) (.tmp 32) 82 82 rfl 3 Tryz.underlying82 hsz _ _ _ _ _ _ rfl rfl w1.heap.size 0 _ 3 hgb [] (by simp) (fun h=>by simp at h) (by simp) (fun _ h=>by cases h) w1.heap.size w1 hB3 (Nat.le_refl _) ?_;intro w4 hg4 hb4))
  go_loopw [8] (fun i wr=>i=.int .i64 0∧wr=w4) (fun _ _=>0)
  case atStart=>exact ⟨rfl,rfl⟩
  case round =>
   obtain ⟨rfl,rfl⟩:=hrel
   go_wp2
   go_ret
   exact ⟨w1.heap.size,rfl,by simpa [splice,Ki] using hg4.out,hb4⟩
 ·have hN1:1≤N:=by omega
  have hmin:Nat.min 1 N=1:=Nat.min_eq_left hN1
  have HN0:=hid hN0
  clear hN0
  go_wp2_with (first
   | (at_make;refine wpList_make_full _ rfl (.tmp 29) (.tmp 29) 82 rfl w1.heap.size 3 i0 (.int .i64 0) 1 Tryz.underlying82 hi hz0 hz1 .i64 .i64 _ _ N rfl rfl rfl rfl (by rw [hz2];omega) (by unfold maxLen;omega) (Nat.le_refl _) ?_;intro w3 hown hgr;have hgb:=ZL (v:=.int .i64 x) hown rfl;have hB3:Below w1.heap.size w1 w3:=(Below.refl _ _).grown hgr (Nat.le_refl _) (fun _ h=>by cases h);clear hown hgr)
   | (refine wpList_copy_splice rfl (.tmp 31) (.tmp 32) 82 82 rfl 3 Tryz.underlying82 hsz _ _ _ _ _ _ rfl rfl w1.heap.size 0 _ 3 hgb (List.replicate 1 (.int .i64 x)) ?c0 ?c1 ?c2 ?c3 w1.heap.size w1 hB3 (Nat.le_refl _) ?_))
  case c0=>rw [List.length_replicate];exact hmin.symm
  case c1 =>
   intro j v hj
   cases j with
   | zero =>
    simp at hj
    subst hj
    exact (hB3.cell (p:=⟨G,0,none⟩) hGlt).trans HG.out
   | succ j=>simp at hj
  case c2=>rw [XR _ _ _ _ (by omega)];simp;omega
  case c3=>intro v hv;simp at hv;subst hv;rfl
  intro w4 hg4 hb4
  have HB4:Hid (w4.heap[w1.heap.size]?=some (.cells (Ki N 1 (.int .i64 x) (.int .i64 0)).toArray 3 (0,0))):=by
   have h2:=XM N 0 1 (.int .i64 x) (.int .i64 0) (by omega)
   have h1:=hg4.out
   simp only [List.replicate_one,Nat.zero_add] at h1 h2
   rw [h2] at h1
   exact h1
  clear hgb hB3 hg4 hmin
  go_wp2_with fail
  go_loopw [8] (fun i wr=>∃ n:Nat,1≤n∧n≤N∧i=.int .i64 (n:Int)∧Hid (wr.heap[w1.heap.size]?=some (.cells (Ki N n (.int .i64 x) (.int .i64 0)).toArray 3 (0,0)))∧Below w1.heap.size w1 wr) (fun i _=>N - (intOf i).toNat)
  case atStart=>exact ⟨1,Nat.le_refl _,hN1,rfl,HB4,hb4⟩
  case round =>
   clear HB4 hb4
   obtain ⟨n,hn1,hnN,rfl,HB,hB⟩:=hrel
   by_cases hlt:n < N
   ·have hk0:(0:Int)≤(n:Int):=by omega
    have hk1:(n:Int)≤(N:Int):=by omega
    have hki:(n:Int) < (N:Int):=by omega
    go_wp2_with fail
    have hNn:¬ N=n:=by omega
    have hmk:Nat.min n (N - n)≤n:=Nat.min_le_left _ _
    have hmk0:Nat.min n (N - n)≤N - n:=Nat.min_le_right _ _
    have hmk2:n+Nat.min n (N - n)≤N:=by omega
    have hmk3:1≤Nat.min n (N - n):=Nat.le_min.2 ⟨hn1,by omega⟩
    have HC:=hid (Ir (k:=Nat.min n (N - n)) HB.out hmk)
    generalize hmm:Nat.min n (N - n)=m at *
    have Hmm:=hid hmm
    clear hmm
    refine wp_region_held_drew (S:=fun w'=>True) (by kernel_rfl) trivial (fun hHeld=>?_)
    refine tk 0 (.int .i64 (n:Int)) ?_
    refine tk 1 (.slice (some ⟨w1.heap.size,0,none⟩) N N) ?_
    refine tk 2 (.int .i64 (n:Int)) ?_
    refine tk 3 (.slice (some ⟨w1.heap.size,n,none⟩) (N - n) (N - n)) ?_
    refine tk 4 (.slice (some ⟨w1.heap.size,0,none⟩) N N) ?_
    refine tk 5 (.int .i64 (n:Int)) ?_
    refine tk 6 (.slice (some ⟨w1.heap.size,0,none⟩) n N) ?_
    simp only [jA,jB,jC,Act.put,jD,jE,jF]
    refine rd 7 (fun K hK=>?_)
    refine step_copy_splice (w:=wr.drew) (by rfl) (.tmp 41) (.tmp 44) 82 82 (by rfl) 3 Tryz.underlying82 hsz _ _ _ _ _ _ (by rfl) (by rfl) w1.heap.size n _ 3 HB.out (List.replicate m (.int .i64 x)) (by rw [List.length_replicate];exact Hmm.out.symm) (fun _=>⟨rfl,_,rfl,HC.out⟩) (by rw [XR _ _ _ _ (by omega),List.length_replicate];exact hmk2) (fun u hu=>by rw [List.mem_replicate] at hu;rw [hu.2];rfl) w1.heap.size w1 (show Below w1.heap.size w1 wr.drew from below_drewN hB 1) (Nat.le_refl _) ?_
    intro w5 hg5 hb5
    have HB5:Hid (w5.heap[w1.heap.size]?=some (.cells (Ki N (n+m) (.int .i64 x) (.int .i64 0)).toArray 3 (0,0))):=by
     have h1:=hg5.out
     rw [XM N n m _ _ hmk2] at h1
     exact h1
    rw [List.length_replicate]
    clear hg5
    try go_wp2_with fail
    refine hK.out _ _ trivial (fun hHeld=>?_)
    clear hK K
    try simp only [jA,jB,jC,Act.put,jD,jE,jF]
    refine rd 8 (fun K hK=>?_)
    simp only [jA,jB,jC]
    go_simp
    try go_wp2_with fail
    refine hK.out _ _ trivial (fun hHeld=>?_)
    clear hK K
    try simp only [jA,jB,jC,Act.put,jD,jE,jF]
    refine rd 9 (fun K hK=>?_)
    simp only [jA,jB,jC]
    go_simp
    try go_wp2_with fail
    refine hK.out _ _ trivial (fun hHeld=>?_)
    clear hK K
    try simp only [jA,jB,jC,Act.put,jD,jE,jF]
    refine wpAnyH_done (by kernel_rfl) ?_ _
    have hwn:IntKind.i64.wrap ((n:Int)+(m:Int))=((n+m:Nat):Int):=by rw [IntKind.wrap_i64];omega
    rw [hwn]
    clear hwn
    go_wp2_with fail
    go_roundw
    case rel=>exact ⟨n+m,by omega,hmk2,rfl,HB5,hb5⟩
    case measure=>simp [intOf];omega
   ·have hne:n=N:=by omega
    subst hne
    have hki:decide ((n:Int) < (n:Int))=false:=by simp
    go_wp2
    go_ret
    exact ⟨w1.heap.size,rfl,by have:=HB.out;rw [Rt] at this;exact this,hB⟩
theorem Gm (x:Bool) (G cap N:Nat) (w:World) (hN:N≤60) (hG:w.cell? ⟨G,0,none⟩=some (.bool x)) :
  Calls Tryz.prog 249 #[.slice (some ⟨G,0,none⟩) 1 cap,.int .i64 (N:Int)] w fun e w'=>∃ g,e=.returned (.slice (some ⟨g,0,none⟩) N N)∧w'.heap[g]?=some (.cells (List.replicate N (.bool x)).toArray 4 (0,0))∧Below w.heap.size w w':=by
 obtain ⟨i0,hi,hz0,hz1,hz2⟩:=info_parts Tryz.infoBool
 have hsz:(Tryz.prog.info? 4).map (·.size)=some 1:=by rw [hi];simp [hz1]
 have HG:=hid hG
 have hGlt:=World.block_lt_of_cell? w _ hG
 have hw1:IntKind.u64.wrap (N:Int)=(N:Int):=Uv (by omega) (by omega)
 have hw2:IntKind.i64.wrap (N:Int)=(N:Int):=KT (by omega) (by omega)
 clear hG
 go_enter Tryz.func249,Tryz.ntmps249
 go_wp2_with fail
 refine (DH N _ hN).mono ?_
 rintro e w1 ⟨rfl,rfl⟩
 have HG1:=HG
 by_cases hN0:N=0
 ·subst hN0
  go_wp2_with (first
   | (at_make;refine wpList_make_full _ rfl (.tmp 29) (.tmp 29) 282 rfl w1.heap.size 4 i0 (.bool false) 1 Tryz.underlying282 hi hz0 hz1 .i64 .i64 _ _ 0 rfl rfl rfl rfl (by rw [hz2];omega) (by unfold maxLen;omega) (Nat.le_refl _) ?_;intro w3 hown hgr;have hgb:=ZL (v:=.bool x) hown rfl;have hB3:Below w1.heap.size w1 w3:=(Below.refl _ _).grown hgr (Nat.le_refl _) (fun _ h=>by cases h);clear hown hgr)
   | (refine wpList_copy_splice rfl (.tmp 31) (.tmp 32) 282 282 rfl 4 Tryz.underlying282 hsz _ _ _ _ _ _ rfl rfl w1.heap.size 0 _ 4 hgb [] (by simp) (fun h=>by simp at h) (by simp) (fun _ h=>by cases h) w1.heap.size w1 hB3 (Nat.le_refl _) ?_;intro w4 hg4 hb4))
  go_loopw [8] (fun i wr=>i=.int .i64 0∧wr=w4) (fun _ _=>0)
  case atStart=>exact ⟨rfl,rfl⟩
  case round =>
   obtain ⟨rfl,rfl⟩:=hrel
   go_wp2
   go_ret
   exact ⟨w1.heap.size,rfl,by simpa [splice,Ki] using hg4.out,hb4⟩
 ·have hN1:1≤N:=by omega
  have hmin:Nat.min 1 N=1:=Nat.min_eq_left hN1
  have HN0:=hid hN0
  clear hN0
  go_wp2_with (first
   | (at_make;refine wpList_make_full _ rfl (.tmp 29) (.tmp 29) 282 rfl w1.heap.size 4 i0 (.bool false) 1 Tryz.underlying282 hi hz0 hz1 .i64 .i64 _ _ N rfl rfl rfl rfl (by rw [hz2];omega) (by unfold maxLen;omega) (Nat.le_refl _) ?_;intro w3 hown hgr;have hgb:=ZL (v:=.bool x) hown rfl;have hB3:Below w1.heap.size w1 w3:=(Below.refl _ _).grown hgr (Nat.le_refl _) (fun _ h=>by cases h);clear hown hgr)
   | (refine wpList_copy_splice rfl (.tmp 31) (.tmp 32) 282 282 rfl 4 Tryz.underlying282 hsz _ _ _ _ _ _ rfl rfl w1.heap.size 0 _ 4 hgb (List.replicate 1 (.bool x)) ?c0 ?c1 ?c2 ?c3 w1.heap.size w1 hB3 (Nat.le_refl _) ?_))
  case c0=>rw [List.length_replicate];exact hmin.symm
  case c1 =>
   intro j v hj
   cases j with
   | zero =>
    simp at hj
    subst hj
    exact (hB3.cell (p:=⟨G,0,none⟩) hGlt).trans HG.out
   | succ j=>simp at hj
  case c2=>rw [XR _ _ _ _ (by omega)];simp;omega
  case c3=>intro v hv;simp at hv;subst hv;rfl
  intro w4 hg4 hb4
  have HB4:Hid (w4.heap[w1.heap.size]?=some (.cells (Ki N 1 (.bool x) (.bool false)).toArray 4 (0,0))):=by
   have h2:=XM N 0 1 (.bool x) (.bool false) (by omega)
   have h1:=hg4.out
   simp only [List.replicate_one,Nat.zero_add] at h1 h2
   rw [h2] at h1
   exact h1
  clear hgb hB3 hg4 hmin
  go_wp2_with fail
  go_loopw [8] (fun i wr=>∃ n:Nat,1≤n∧n≤N∧i=.int .i64 (n:Int)∧Hid (wr.heap[w1.heap.size]?=some (.cells (Ki N n (.bool x) (.bool false)).toArray 4 (0,0)))∧Below w1.heap.size w1 wr) (fun i _=>N - (intOf i).toNat)
  case atStart=>exact ⟨1,Nat.le_refl _,hN1,rfl,HB4,hb4⟩
  case round =>
   clear HB4 hb4
   obtain ⟨n,hn1,hnN,rfl,HB,hB⟩:=hrel
   by_cases hlt:n < N
   ·have hk0:(0:Int)≤(n:Int):=by omega
    have hk1:(n:Int)≤(N:Int):=by omega
    have hki:(n:Int) < (N:Int):=by omega
    go_wp2_with fail
    have hNn:¬ N=n:=by omega
    have hmk:Nat.min n (N - n)≤n:=Nat.min_le_left _ _
    have hmk0:Nat.min n (N - n)≤N - n:=Nat.min_le_right _ _
    have hmk2:n+Nat.min n (N - n)≤N:=by omega
    have hmk3:1≤Nat.min n (N - n):=Nat.le_min.2 ⟨hn1,by omega⟩
    have HC:=hid (Ir (k:=Nat.min n (N - n)) HB.out hmk)
    generalize hmm:Nat.min n (N - n)=m at *
    have Hmm:=hid hmm
    clear hmm
    refine wp_region_held_drew (S:=fun w'=>True) (by kernel_rfl) trivial (fun hHeld=>?_)
    refine tk 0 (.int .i64 (n:Int)) ?_
    refine tk 1 (.slice (some ⟨w1.heap.size,0,none⟩) N N) ?_
    refine tk 2 (.int .i64 (n:Int)) ?_
    refine tk 3 (.slice (some ⟨w1.heap.size,n,none⟩) (N - n) (N - n)) ?_
    refine tk 4 (.slice (some ⟨w1.heap.size,0,none⟩) N N) ?_
    refine tk 5 (.int .i64 (n:Int)) ?_
    refine tk 6 (.slice (some ⟨w1.heap.size,0,none⟩) n N) ?_
    simp only [jA,jB,jC,Act.put,jD,jE,jF]
    refine rd 7 (fun K hK=>?_)
    refine step_copy_splice (w:=wr.drew) (by rfl) (.tmp 41) (.tmp 44) 282 282 (by rfl) 4 Tryz.underlying282 hsz _ _ _ _ _ _ (by rfl) (by rfl) w1.heap.size n _ 4 HB.out (List.replicate m (.bool x)) (by rw [List.length_replicate];exact Hmm.out.symm) (fun _=>⟨rfl,_,rfl,HC.out⟩) (by rw [XR _ _ _ _ (by omega),List.length_replicate];exact hmk2) (fun u hu=>by rw [List.mem_replicate] at hu;rw [hu.2];rfl) w1.heap.size w1 (show Below w1.heap.size w1 wr.drew from below_drewN hB 1) (Nat.le_refl _) ?_
    intro w5 hg5 hb5
    have HB5:Hid (w5.heap[w1.heap.size]?=some (.cells (Ki N (n+m) (.bool x) (.bool false)).toArray 4 (0,0))):=by
     have h1:=hg5.out
     rw [XM N n m _ _ hmk2] at h1
     exact h1
    rw [List.length_replicate]
    clear hg5
    try go_wp2_with fail
    refine hK.out _ _ trivial (fun hHeld=>?_)
    clear hK K
    try simp only [jA,jB,jC,Act.put,jD,jE,jF]
    refine rd 8 (fun K hK=>?_)
    simp only [jA,jB,jC]
    go_simp
    try go_wp2_with fail
    refine hK.out _ _ trivial (fun hHeld=>?_)
    clear hK K
    try simp only [jA,jB,jC,Act.put,jD,jE,jF]
    refine rd 9 (fun K hK=>?_)
    simp only [jA,jB,jC]
    go_simp
    try go_wp2_with fail
    refine hK.out _ _ trivial (fun hHeld=>?_)
    clear hK K
    try simp only [jA,jB,jC,Act.put,jD,jE,jF]
    refine wpAnyH_done (by kernel_rfl) ?_ _
    have hwn:IntKind.i64.wrap ((n:Int)+(m:Int))=((n+m:Nat):Int):=by rw [IntKind.wrap_i64];omega
    rw [hwn]
    clear hwn
    go_wp2_with fail
    go_roundw
    case rel=>exact ⟨n+m,by omega,hmk2,rfl,HB5,hb5⟩
    case measure=>simp [intOf];omega
   ·have hne:n=N:=by omega
    subst hne
    have hki:decide ((n:Int) < (n:Int))=false:=by simp
    go_wp2
    go_ret
    exact ⟨w1.heap.size,rfl,by have:=HB.out;rw [Rt] at this;exact this,hB⟩
end
section
theorem VV (n:Nat) (l:List CellB) (a b:Nat):∃ m,jN n l (a+b)=jN n l a++m:=by
 induction b with
 | zero=>exact ⟨[],by simp⟩
 | succ b ih =>
  obtain ⟨m,hm⟩:=ih
  exact ⟨m++xu n l (a+b),by rw [← Nat.add_assoc,jN,hm,List.append_assoc]⟩
def TJ (dom:List CellB→Prop) (rest:List UInt8) (acc:List CellB) (r:List UInt8):Prop :=
 ∀ l2 q,dom l2→rest=jN 2 l2 l2.length++q→l2.take acc.length=acc∧EM l2 acc.length∧rest=jN 2 l2 acc.length++r
theorem IT (dom:List CellB→Prop) (rest:List UInt8):TJ dom rest [] rest:=fun l2 q _ h=>⟨rfl,.inl rfl,rfl⟩
def YT (count:Nat) (l:List CellB):Prop:=l.length=count∧∀ c ∈ l,okI c
theorem ZX {count:Nat} {rest r:List UInt8} {acc:List CellB} (h:TJ (YT count) rest acc r) (hlt:acc.length < count) (l2:List CellB) (q:List UInt8) (hd:YT count l2) (hr:rest=jN 2 l2 l2.length++q) :
  ∃ (rr:Nat) (v:Int) (m:List UInt8),0 < rr∧rr≤count - acc.length∧inI v∧r=uB rr++(zB v++m)∧l2.take (acc.length+rr)=acc++List.replicate rr ⟨false,v,[]⟩∧EM l2 (acc.length+rr)∧rest=jN 2 l2 (acc.length+rr)++m:=by
 obtain ⟨h1,h2,h3⟩:=h l2 q hd hr
 have hk:acc.length < l2.length:=by rw [hd.1];exact hlt
 generalize hkk:acc.length=k at *
 have hs:=NP l2 k hk h2
 have hp:=Gt l2 k hk
 have hle:=Gw (l2[k]).int (l2.drop k)
 rw [List.length_drop] at hle
 have hend:=Iz l2 k hk
 have hval:=Gv l2 k
 generalize hrr:zT (l2[k]).int (l2.drop k)=rr at *
 have hs1:=hs rr (by omega) (Nat.le_refl _)
 obtain ⟨m0,hm0⟩:=VV 2 l2 (k+rr) (l2.length - (k+rr))
 rw [show k+rr+(l2.length - (k+rr))=l2.length by omega] at hm0
 have hokk:=hd.2 l2[k] (List.getElem_mem hk)
 refine ⟨rr,(l2[k]).int,m0++q,by omega,by rw [← hd.1];omega,hokk.2.2,?_,?_,hend,?_⟩
 ·have e1:jN 2 l2 k++r=jN 2 l2 k++(uB rr++(zB (l2[k]).int++(m0++q))):=by
   rw [← h3,hr,hm0,hs1];simp only [List.append_assoc]
  exact List.append_cancel_left e1
 ·have e2:l2.take (k+rr)=l2.take k++(l2.drop k).take rr:=by rw [List.take_add]
  rw [e2,h1]
  congr 1
  apply List.ext_getElem
  ·rw [List.length_take,List.length_drop,List.length_replicate];omega
  ·intro j hj1 hj2
   rw [List.length_replicate] at hj2
   rw [List.getElem_take,List.getElem_drop,List.getElem_replicate]
   have hv:=hval j hk (by rw [hrr];exact hj2)
   rw [qD l2 (k+j) (by omega)] at hv
   have ho:=hd.2 l2[k+j] (List.getElem_mem _)
   obtain ⟨o1,o2,_⟩:=ho
   generalize l2[k+j]=c at *
   obtain ⟨cn,ci,ct⟩:=c
   simp only at o1 o2 hv
   subst o1 o2 hv
   rfl
 ·rw [hr,hm0,List.append_assoc]
theorem KH (p:Nat) (s rest:List UInt8) (n:Int) (most:Nat) (w:World) (h:n=(most:Int)) (hs:s.length≤maxLen) (hm:most≤1000000) (hp:qp w p s rest) :
  Calls Tryz.prog 242 #[.pointer (some ⟨p,0,none⟩),.int .i64 n] w (VW (fun n:Nat=>n≤most) uB (fun n=>.int .i64 (n:Int)) p s rest w):=by
 subst h
 exact ZO p s rest most w hs hm hp
theorem Xz {w0 w2 w3:World} {p n ty sz:Nat} {s r:List UInt8} {v:Value} {xs:List Value} (hrd:qp w2 p s r) (hp:p < w0.heap.size) (hG:w0.grownBy w2 (some p)) (hown:w2.ownsRow w0.heap.size ty sz v n xs)
  (hgr:w2.grownBy w3 v.ownBlock):qp w3 p s r∧w0.grownBy w3 (some p):=by
 have hlt:=xh hrd
 have hne:some p≠v.ownBlock:=by
  intro h
  have:=(hown.lt p h.symm).1
  omega
 obtain ⟨at_,h1,h2,h3⟩:=hrd
 exact ⟨⟨at_,(hgr.block p hlt hne).trans h1,h2,h3⟩,Jr hG hgr (fun k hk=>(hown.lt k hk).1)⟩
theorem MQ (g p count:Nat) (s rest:List UInt8) (w:World) (hs:s.length≤maxLen) (hc:count≤60) (hp:qp w p s rest) :
  Calls Tryz.prog 186 #[numC g,.pointer (some ⟨p,0,none⟩),.int .i64 (count:Int)] w (QS 3 Qx (YT count) (fun l=>jN 2 l l.length) p s rest w):=by
 obtain ⟨i0,hi,hz0,hz1,hz2⟩:=info_parts Tryz.infoInt
 have Hs:=hid hs
 have Hp:=hid hp
 have hplt:=xh hp
 clear hs hp
 go_enter Tryz.func186,Tryz.ntmps186
 go_wp2
 obtain ⟨hb0,hs0,hc0⟩:=zx w #[.slice (some ⟨g,0,none⟩) 3 3,fnV 187,fnV 188,fnV 189,fnV 190,fnV 191,fnV 192] 215
 have hc1:_=some (fnV 192):=hc0 6
 have Hc:=hid hc1
 have Hp0:=hid (qy Hp.out hb0 hplt)
 have Hb0:=hid hb0
 have hs1:=Nat.lt_of_lt_of_eq (Nat.lt_succ_self w.heap.size) hs0.symm
 have hplt0:=Nat.lt_of_lt_of_le hplt hb0.size
 clear hc0 hc1 hb0 hs0
 generalize w.alloc _=w0 at *
 go_loopg [7] count (fun gk v wr=>∃ (acc:List CellB) (r:List UInt8),acc.length+gk=count∧(∀ c ∈ acc,okI c)∧wr.ownsRow w0.heap.size 3 1 v acc.length (Qx acc)∧qp wr p s r∧w0.grownBy wr (some p)∧TJ (YT count) rest acc r)
 case atStart=>exact ⟨[],rest,Nat.zero_add _,(fun c h=>zy h),World.ownsRow_nil _ _ _ _,Hp0.out,jK _ _,IT _ _⟩
 case round =>
  obtain ⟨acc,r,hal,hok,hown,hrd,hg,hleft⟩:=hrel
  have Hal:=hid hal
  have Hok:=hid hok
  have Hleft:=hid hleft
  have Hg:=hid hg
  have hln:=NQ hown wr
  have hln1:acc.length≤count:=by omega
  clear hok hleft hal
  by_cases hlt:acc.length < count
  ·have hi1:(acc.length:Int) < (count:Int):=by omega
   have hcf0:=(hg.cell_far ⟨w.heap.size,6,none⟩ hs1 (by intro h;simp at h;omega)).trans Hc.out
   have Hcf0:=hid hcf0
   clear hg hcf0
   go_wp2_with fail
   refine (KH p s r _ (count - acc.length) _ (by omega) Hs.out (by omega) hrd).mono ?_
   rintro e w2 ⟨hg2,⟨rfl,hno⟩|⟨n,r2,hn,rfl,hrd2,hu⟩⟩
   ·go_wp2
    refine ⟨rfl,jd (jw (jK w _) Hb0.out) (jd Hg.out hg2),.inl ⟨rfl,fun l2 q hl2 h=>?_⟩⟩
    obtain ⟨rr,v,m,k1,k2,k3,k4,_⟩:=ZX Hleft.out hlt l2 q hl2 h
    exact hno rr _ k2 k4
   ·have Hu:=hid hu
    have hn1:n≤count - acc.length:=hn
    have hown2:=zw hown hplt0 hg2
    have hG2:=jd Hg.out hg2
    have Hcf2:Hid (w2.cell? ⟨w.heap.size,6,none⟩=some (fnV 192)):=(hg2.cell_far ⟨w.heap.size,6,none⟩ (Nat.lt_of_lt_of_le hs1 Hg.out.size) (by intro h;simp at h;omega)).trans Hcf0.out
    clear hown hrd hu hg2 hln
    by_cases hn0:0 < n
    ·have hn0i:(0:Int) < (n:Int):=by omega
     have hcf2:=Hcf2.out
     go_wp2_with fail
     refine (jW _).mono ?_
     rintro e w2' ⟨rfl,rfl⟩
     go_wp2_with fail
     refine (Kg p s r2 0 _ Hs.out ⟨by decide,by decide⟩ hrd2).mono ?_
     rintro e w3 ⟨hg3,⟨rfl,hno⟩|⟨x,r3,hx,rfl,hrd3,hu3⟩⟩
     ·go_wp2
      refine ⟨rfl,jd (jw (jK w _) Hb0.out) (jd hG2 hg3),.inl ⟨rfl,fun l2 q hl2 h=>?_⟩⟩
      obtain ⟨rr,v,m,k1,k2,k3,k4,_⟩:=ZX Hleft.out hlt l2 q hl2 h
      obtain ⟨e1,e2⟩:=Hu.out rr _ k2 k4
      exact hno v m k3 (by show _=zB (wrap64 (v - 0))++m;rw [Vv v k3.1 k3.2];exact e2.symm)
     ·have Hu3:=hid hu3
      have Hx:=hid hx
      have hown3:=zw hown2 hplt0 hg3
      have hG3:=jd hG2 hg3
      clear hown2 hrd2 hu3 hg3 hG2 hcf2 hx
      go_wp2_with fail
      refine (Sh x w3.heap.size 1 n _ (by omega) (World.cell?_alloc_mark ..)).mono ?_
      rintro e w4 ⟨g4,rfl,hb4,hB4⟩
      have hB4':Below w3.heap.size w3 w4:=xk hB4
      have hown4:=jm hown3 hB4'
      have hrd4:=qy hrd3 hB4' (xh hrd3)
      have hG4:=jw hG3 hB4'
      have HN4:=hid (World.news_of_block hb4)
      clear hB4 hB4' hown3 hrd3 hG3 hb4
      go_wp2_with (at_builtin;refine wpList_append_own _ rfl (.tmp 29) (.tmp 33) 82 rfl w0.heap.size 3 i0 (.int .i64 0) 1 8 Tryz.underlying82 hi hz0 hz1 hz2 rfl (by decide) _ _ _ rfl hown4 ⟨g4,0,none⟩ n n (List.replicate n (.int .i64 x)) rfl ?c0 ?c1 ?c2 ?c3 ?c4 ?c5 ?_)
      case c0=>simp
      case c1=>intro j u hj;exact HN4.out j u (by simpa using hj)
      case c2=>intro u hu;rw [List.mem_replicate] at hu;rw [hu.2];rfl
      case c3=>unfold maxLen;omega
      case c4=>omega
      case c5=>have:=hG4.size;omega
      intro v5 w5 hown5 hgr5 _
      have HR:=hid (Xz hrd4 hplt0 hG4 hown4 hgr5)
      have HO5:=hid hown5
      have HX:Hid (Qx (acc++List.replicate n ⟨false,x,[]⟩)=Qx acc++List.replicate n (.int .i64 x)):=by simp [Hid,Qx]
      have HLN:Hid ((acc++List.replicate n (⟨false,x,[]⟩:CellB)).length=acc.length+n):=by simp [Hid]
      clear hown4 hown5 hgr5 hG4 hrd4 HN4
      go_wp2
      go_roundg (count - acc.length - n)
      case measure=>have:=Hal.out;omega
      case rel =>
       refine ⟨acc++List.replicate n ⟨false,x,[]⟩,r3,?_,?_,?_,HR.out.1,HR.out.2,?_⟩
       ·rw [HLN.out];omega
       ·intro c hc
        rcases List.mem_append.1 hc with h|h
        ·exact Hok.out c h
        ·rw [List.mem_replicate] at h;rw [h.2];exact ⟨rfl,rfl,Hx.out⟩
       ·rw [HX.out,HLN.out];exact HO5.out
       ·intro l2 q hl2 h
        obtain ⟨rr,v,m,k1,k2,k3,k4,k5,k6,k7⟩:=ZX Hleft.out hlt l2 q hl2 h
        obtain ⟨e1,e2⟩:=Hu.out rr _ k2 k4
        obtain ⟨e3,e4⟩:=Hu3.out v m k3 (by show _=zB (wrap64 (v - 0))++m;rw [Vv v k3.1 k3.2];exact e2.symm)
        subst e1 e3 e4
        rw [HLN.out]
        exact ⟨k5,k6,k7⟩
    ·have hn0i:decide ((0:Int) < (n:Int))=false:=by simp;omega
     go_wp2_with fail
     refine (qK _).mono ?_
     rintro e w2' ⟨rfl,rfl⟩
     go_wp2
     refine ⟨rfl,jd (jw (jK w _) Hb0.out) hG2,.inl ⟨rfl,fun l2 q hl2 h=>?_⟩⟩
     obtain ⟨rr,v,m,k1,k2,k3,k4,_⟩:=ZX Hleft.out hlt l2 q hl2 h
     obtain ⟨e1,e2⟩:=Hu.out rr _ k2 k4
     omega
  ·have hke:acc.length=count:=by omega
   have hi1:decide ((acc.length:Int) < (count:Int))=false:=by simp;omega
   have Hke:=hid hke
   have Hown:=hid hown
   have Hrd:=hid hrd
   clear hg hown hrd hke
   go_wp2
   go_ret
   refine ⟨jd (jw (jK w _) Hb0.out) Hg.out,.inr ⟨acc,r,_,⟨Hke.out,Hok.out⟩,rfl,jI Hown.out Hb0.out.size,Hrd.out,fun l2 q hl2 h=>?_⟩⟩
   obtain ⟨e1,e2,e3⟩:=Hleft.out l2 q hl2 h
   rw [Hke.out,← hl2.1,List.take_length] at e1
   subst e1
   refine ⟨rfl,?_⟩
   have e4:jN 2 l2 l2.length++q=jN 2 l2 l2.length++r:=h.symm.trans e3
   exact List.append_cancel_left e4
end
end Go.Proofs.YthhpbhpfagoapaaGreat
