import Derived.Test.YthhpbhpfagoapabGreatRTk
import Derived.Test.YthhpbhpfagoapabGreatDRead3
import Derived.Laws.CopyOwn
import Derived.Deep.RegionLaw
namespace Go.Proofs.YthhpbhpfagoapabGreat
set_option linter.unusedVariables false
set_option linter.unusedSimpArgs false
set_option maxRecDepth 100000
set_option maxHeartbeats 16000000
open Go.RowKit
theorem Tryz.infoBool:(Tryz.prog.info? 4).map (fun i=>(i.zero,i.size,i.bytes))=some (some (.bool false),1,1):=by kernel_rfl
theorem Ld (n:Nat) (h:n < 4294967296):bits .and .u64 (n:Int) 4294967295=(n:Int):=by
 have h1:=u64_and_nat n 4294967295 (by omega) (by decide)
 have h2:n &&& 4294967295=n:=by
  rw [show 4294967295=2 ^ 32 - 1 by decide,Nat.and_two_pow_sub_one_eq_mod]
  omega
 rw [h2] at h1
 exact h1
theorem Tp (n:Nat) (w:World) (h:n≤60) :
  Calls Tryz.prog 188 #[.int .u64 1,.int .u64 (n:Int)] w fun e w'=>e=.returned (.tuple #[.int .u64 0,.int .u64 (n:Int)])∧w'=w:=by
 have h1:=Ld n (by omega)
 have h2:bits .and .u64 1 4294967295=1:=Ld 1 (by omega)
 have h3:(n:Int) / 4294967296=0:=by omega
 have h4:bits .and .u64 0 4294967295=0:=Ld 0 (by omega)
 go_enter Tryz.func188,Tryz.ntmps188
 go_wp2
 go_ret2
 exact ⟨rfl,rfl⟩
theorem TG {w:World} {base e g N:Nat} {xs:List Value} (h:w.ownsRow base e 1 (.slice (some ⟨g,0,none⟩) N N) N xs):w.heap[g]?=some (.cells xs.toArray e (0,0)):=by
 rcases h.2 with ⟨h1,_⟩|⟨g',cap,cur,h1,_,h3,_,_,h6,h7⟩
 ·cases h1
 ·simp only [Value.slice.injEq,Option.some.injEq,Addr.mk.injEq,and_true] at h1
  obtain ⟨rfl,_,rfl⟩:=h1
  rw [h3]
  have:cur.toList=xs:=by
   rw [← h7,List.take_of_length_le]
   simp [h6]
  rw [← this]
theorem Ca (N n k:Nat) (v z:Value) (h:n+k≤N):splice (List.replicate n v++List.replicate (N - n) z) n (List.replicate k v)=List.replicate (n+k) v++List.replicate (N - (n+k)) z:=by
 unfold splice
 rw [List.take_append_of_le_length (by simp),List.take_of_length_le (by simp),List.length_replicate,List.drop_append,List.drop_of_length_le (by simp),List.length_replicate]
 rw [List.nil_append,List.drop_replicate,← List.append_assoc,List.replicate_append_replicate]
 congr 2
 omega
def KN (N n:Nat) (v z:Value):List Value:=List.replicate n v++List.replicate (N - n) z
theorem Zz (N n k:Nat) (v z:Value) (h:n+k≤N):splice (KN N n v z) n (List.replicate k v)=KN N (n+k) v z:=Ca N n k v z h
theorem ZB (N n:Nat) (v z:Value) (h:n≤N):(KN N n v z).length=N:=by simp [KN];omega
theorem Yr (N:Nat) (v z:Value):KN N N v z=List.replicate N v:=by simp [KN]
theorem IM {w:World} {g N n k:Nat} {v z:Value} {t:TypeId} (h:w.heap[g]?=some (.cells (KN N n v z).toArray t (0,0))) (hk:k≤n):∀ j u,(List.replicate k v)[j]?=some u→w.cell? ((⟨g,0,none⟩:Addr).add j)=some u:=by
 intro j u hj
 have hadd:(⟨g,0,none⟩:Addr).add j=⟨g,j,none⟩:=by unfold Addr.add;split<;>simp_all
 have hlt:j < k:=by
  rcases Nat.lt_or_ge j k with h1|h1
  ·exact h1
  ·rw [List.getElem?_eq_none (by simp;omega)] at hj;cases hj
 rw [List.getElem?_replicate,if_pos hlt] at hj
 rw [hadd,cell_of_row w g j _ t (0,0) h,← hj]
 simp only [KN,List.getElem?_toArray]
 rw [List.getElem?_append_left (by simp;omega),List.getElem?_replicate,if_pos (by omega)]
theorem Kk {w:World} {base e g N:Nat} {z v:Value} (h:w.ownsRow base e 1 (.slice (some ⟨g,0,none⟩) N N) N (madeCells z.cells (N*1)).toList) (hz:z.cells=#[z]) :
  w.heap[g]?=some (.cells (KN N 0 v z).toArray e (0,0)):=by
 have h1:=TG h
 rw [hz,toList_madeCells_one] at h1
 simpa [KN] using h1
theorem Cr (n:Nat) (w:World) (h:n≤60) :
  Calls Tryz.prog 186 #[.int .u64 1,.int .u64 (n:Int)] w fun e w'=>e=.returned (.tuple #[.int .u64 0,.int .u64 (n:Int)])∧w'=w:=by
 go_enter Tryz.func186,Tryz.ntmps186
 go_wp2_with fail
 refine (Tp n _ h).mono ?_
 rintro e w1 ⟨rfl,rfl⟩
 go_wp2
 go_ret2
 exact ⟨rfl,rfl⟩
theorem Lg (x:Int) (G cap N:Nat) (w:World) (hN:N≤60) (hG:w.cell? ⟨G,0,none⟩=some (.int .i64 x)) :
  Calls Tryz.prog 177 #[.slice (some ⟨G,0,none⟩) 1 cap,.int .i64 (N:Int)] w fun e w'=>∃ g,e=.returned (.slice (some ⟨g,0,none⟩) N N)∧w'.heap[g]?=some (.cells (List.replicate N (.int .i64 x)).toArray 3 (0,0))∧Below w.heap.size w w':=by
 obtain ⟨i0,hi,hz0,hz1,hz2⟩:=info_parts Tryz.infoInt
 have hsz:(Tryz.prog.info? 3).map (·.size)=some 1:=by rw [hi];simp [hz1]
 have HG:=hid hG
 have hGlt:=World.block_lt_of_cell? w _ hG
 have hw1:IntKind.u64.wrap (N:Int)=(N:Int):=VF (by omega) (by omega)
 have hw2:IntKind.i64.wrap (N:Int)=(N:Int):=Un (by omega) (by omega)
 clear hG
 go_enter Tryz.func177,Tryz.ntmps177
 go_wp2_with fail
 refine (Cr N _ hN).mono ?_
 rintro e w1 ⟨rfl,rfl⟩
 have HG1:=HG
 by_cases hN0:N=0
 ·subst hN0
  go_wp2_with (first
   | (at_make;refine wpList_make_full _ rfl (.tmp 29) (.tmp 29) 22 rfl w1.heap.size 3 i0 (.int .i64 0) 1 Tryz.underlying22 hi hz0 hz1 .i64 .i64 _ _ 0 rfl rfl rfl rfl (by rw [hz2];omega) (by unfold maxLen;omega) (Nat.le_refl _) ?_;intro w3 hown hgr;have hgb:=Kk (v:=.int .i64 x) hown rfl;have hB3:Below w1.heap.size w1 w3:=(Below.refl _ _).grown hgr (Nat.le_refl _) (fun _ h=>by cases h);clear hown hgr)
   | (refine wpList_copy_splice rfl (.tmp 31) (.tmp 32) 22 22 rfl 3 Tryz.underlying22 hsz _ _ _ _ _ _ rfl rfl w1.heap.size 0 _ 3 hgb [] (by simp) (fun h=>by simp at h) (by simp) (fun _ h=>by cases h) w1.heap.size w1 hB3 (Nat.le_refl _) ?_;intro w4 hg4 hb4))
  go_loopw [8] (fun i wr=>i=.int .i64 0∧wr=w4) (fun _ _=>0)
  case atStart=>exact ⟨rfl,rfl⟩
  case round =>
   obtain ⟨rfl,rfl⟩:=hrel
   go_wp2
   go_ret
   exact ⟨w1.heap.size,rfl,by simpa [splice,KN] using hg4.out,hb4⟩
 ·have hN1:1≤N:=by omega
  have hmin:Nat.min 1 N=1:=Nat.min_eq_left hN1
  have HN0:=hid hN0
  clear hN0
  go_wp2_with (first
   | (at_make;refine wpList_make_full _ rfl (.tmp 29) (.tmp 29) 22 rfl w1.heap.size 3 i0 (.int .i64 0) 1 Tryz.underlying22 hi hz0 hz1 .i64 .i64 _ _ N rfl rfl rfl rfl (by rw [hz2];omega) (by unfold maxLen;omega) (Nat.le_refl _) ?_;intro w3 hown hgr;have hgb:=Kk (v:=.int .i64 x) hown rfl;have hB3:Below w1.heap.size w1 w3:=(Below.refl _ _).grown hgr (Nat.le_refl _) (fun _ h=>by cases h);clear hown hgr)
   | (refine wpList_copy_splice rfl (.tmp 31) (.tmp 32) 22 22 rfl 3 Tryz.underlying22 hsz _ _ _ _ _ _ rfl rfl w1.heap.size 0 _ 3 hgb (List.replicate 1 (.int .i64 x)) ?c0 ?c1 ?c2 ?c3 w1.heap.size w1 hB3 (Nat.le_refl _) ?_))
  case c0=>rw [List.length_replicate];exact hmin.symm
  case c1 =>
   intro j v hj
   cases j with
   | zero =>
    simp at hj
    subst hj
    exact (hB3.cell (p:=⟨G,0,none⟩) hGlt).trans HG.out
   | succ j=>simp at hj
  case c2=>rw [ZB _ _ _ _ (by omega)];simp;omega
  case c3=>intro v hv;simp at hv;subst hv;rfl
  intro w4 hg4 hb4
  have HB4:Hid (w4.heap[w1.heap.size]?=some (.cells (KN N 1 (.int .i64 x) (.int .i64 0)).toArray 3 (0,0))):=by
   have h2:=Zz N 0 1 (.int .i64 x) (.int .i64 0) (by omega)
   have h1:=hg4.out
   simp only [List.replicate_one,Nat.zero_add] at h1 h2
   rw [h2] at h1
   exact h1
  clear hgb hB3 hg4 hmin
  go_wp2_with fail
  go_loopw [8] (fun i wr=>∃ n:Nat,1≤n∧n≤N∧i=.int .i64 (n:Int)∧Hid (wr.heap[w1.heap.size]?=some (.cells (KN N n (.int .i64 x) (.int .i64 0)).toArray 3 (0,0)))∧Below w1.heap.size w1 wr) (fun i _=>N - (intOf i).toNat)
  case atStart=>exact ⟨1,Nat.le_refl _,hN1,rfl,HB4,hb4⟩
  case round =>
   clear HB4 hb4
   obtain ⟨n,hn1,hnN,rfl,HB,hB⟩:=hrel
   by_cases hlt:n < N
   ·have hk0:(0:Int)≤(n:Int):=by omega
    have hk1:(n:Int)≤(N:Int):=by omega
    have hki:(n:Int) < (N:Int):=by omega
    go_wp2_with fail
    have hNn:¬ N=n:=by omega
    have hmk:Nat.min n (N - n)≤n:=Nat.min_le_left _ _
    have hmk0:Nat.min n (N - n)≤N - n:=Nat.min_le_right _ _
    have hmk2:n+Nat.min n (N - n)≤N:=by omega
    have hmk3:1≤Nat.min n (N - n):=Nat.le_min.2 ⟨hn1,by omega⟩
    have HC:=hid (IM (k:=Nat.min n (N - n)) HB.out hmk)
    generalize hmm:Nat.min n (N - n)=m at *
    have Hmm:=hid hmm
    clear hmm
    refine wp_region_held_drew (S:=fun w'=>True) (by kernel_rfl) trivial (fun hHeld=>?_)
    refine tk 0 (.int .i64 (n:Int)) ?_
    refine tk 1 (.slice (some ⟨w1.heap.size,0,none⟩) N N) ?_
    refine tk 2 (.int .i64 (n:Int)) ?_
    refine tk 3 (.slice (some ⟨w1.heap.size,n,none⟩) (N - n) (N - n)) ?_
    refine tk 4 (.slice (some ⟨w1.heap.size,0,none⟩) N N) ?_
    refine tk 5 (.int .i64 (n:Int)) ?_
    refine tk 6 (.slice (some ⟨w1.heap.size,0,none⟩) n N) ?_
    simp only [jA,jB,jC,Act.put,jD,jE,jF]
    refine rd 7 (fun K hK=>?_)
    refine step_copy_splice (w:=wr.drew) (by rfl) (.tmp 41) (.tmp 44) 22 22 (by rfl) 3 Tryz.underlying22 hsz _ _ _ _ _ _ (by rfl) (by rfl) w1.heap.size n _ 3 HB.out (List.replicate m (.int .i64 x)) (by rw [List.length_replicate];exact Hmm.out.symm) (fun _=>⟨rfl,_,rfl,HC.out⟩) (by rw [ZB _ _ _ _ (by omega),List.length_replicate];exact hmk2) (fun u hu=>by rw [List.mem_replicate] at hu;rw [hu.2];rfl) w1.heap.size w1 (show Below w1.heap.size w1 wr.drew from below_drewN hB 1) (Nat.le_refl _) ?_
    intro w5 hg5 hb5
    have HB5:Hid (w5.heap[w1.heap.size]?=some (.cells (KN N (n+m) (.int .i64 x) (.int .i64 0)).toArray 3 (0,0))):=by
     have h1:=hg5.out
     rw [Zz N n m _ _ hmk2] at h1
     exact h1
    rw [List.length_replicate]
    clear hg5
    try go_wp2_with fail
    refine hK.out _ _ trivial (fun hHeld=>?_)
    clear hK K
    try simp only [jA,jB,jC,Act.put,jD,jE,jF]
    refine rd 8 (fun K hK=>?_)
    simp only [jA,jB,jC]
    go_simp
    try go_wp2_with fail
    refine hK.out _ _ trivial (fun hHeld=>?_)
    clear hK K
    try simp only [jA,jB,jC,Act.put,jD,jE,jF]
    refine rd 9 (fun K hK=>?_)
    simp only [jA,jB,jC]
    go_simp
    try go_wp2_with fail
    refine hK.out _ _ trivial (fun hHeld=>?_)
    clear hK K
    try simp only [jA,jB,jC,Act.put,jD,jE,jF]
    refine wpAnyH_done (by kernel_rfl) ?_ _
    have hwn:IntKind.i64.wrap ((n:Int)+(m:Int))=((n+m:Nat):Int):=by rw [IntKind.wrap_i64];omega
    rw [hwn]
    clear hwn
    go_wp2_with fail
    go_roundw
    case rel=>exact ⟨n+m,by omega,hmk2,rfl,HB5,hb5⟩
    case measure=>simp [intOf];omega
   ·have hne:n=N:=by omega
    subst hne
    have hki:decide ((n:Int) < (n:Int))=false:=by simp
    go_wp2
    go_ret
    exact ⟨w1.heap.size,rfl,by have:=HB.out;rw [Yr] at this;exact this,hB⟩
theorem Nk (x:Bool) (G cap N:Nat) (w:World) (hN:N≤60) (hG:w.cell? ⟨G,0,none⟩=some (.bool x)) :
  Calls Tryz.prog 181 #[.slice (some ⟨G,0,none⟩) 1 cap,.int .i64 (N:Int)] w fun e w'=>∃ g,e=.returned (.slice (some ⟨g,0,none⟩) N N)∧w'.heap[g]?=some (.cells (List.replicate N (.bool x)).toArray 4 (0,0))∧Below w.heap.size w w':=by
 obtain ⟨i0,hi,hz0,hz1,hz2⟩:=info_parts Tryz.infoBool
 have hsz:(Tryz.prog.info? 4).map (·.size)=some 1:=by rw [hi];simp [hz1]
 have HG:=hid hG
 have hGlt:=World.block_lt_of_cell? w _ hG
 have hw1:IntKind.u64.wrap (N:Int)=(N:Int):=VF (by omega) (by omega)
 have hw2:IntKind.i64.wrap (N:Int)=(N:Int):=Un (by omega) (by omega)
 clear hG
 go_enter Tryz.func181,Tryz.ntmps181
 go_wp2_with fail
 refine (Cr N _ hN).mono ?_
 rintro e w1 ⟨rfl,rfl⟩
 have HG1:=HG
 by_cases hN0:N=0
 ·subst hN0
  go_wp2_with (first
   | (at_make;refine wpList_make_full _ rfl (.tmp 29) (.tmp 29) 237 rfl w1.heap.size 4 i0 (.bool false) 1 Tryz.underlying237 hi hz0 hz1 .i64 .i64 _ _ 0 rfl rfl rfl rfl (by rw [hz2];omega) (by unfold maxLen;omega) (Nat.le_refl _) ?_;intro w3 hown hgr;have hgb:=Kk (v:=.bool x) hown rfl;have hB3:Below w1.heap.size w1 w3:=(Below.refl _ _).grown hgr (Nat.le_refl _) (fun _ h=>by cases h);clear hown hgr)
   | (refine wpList_copy_splice rfl (.tmp 31) (.tmp 32) 237 237 rfl 4 Tryz.underlying237 hsz _ _ _ _ _ _ rfl rfl w1.heap.size 0 _ 4 hgb [] (by simp) (fun h=>by simp at h) (by simp) (fun _ h=>by cases h) w1.heap.size w1 hB3 (Nat.le_refl _) ?_;intro w4 hg4 hb4))
  go_loopw [8] (fun i wr=>i=.int .i64 0∧wr=w4) (fun _ _=>0)
  case atStart=>exact ⟨rfl,rfl⟩
  case round =>
   obtain ⟨rfl,rfl⟩:=hrel
   go_wp2
   go_ret
   exact ⟨w1.heap.size,rfl,by simpa [splice,KN] using hg4.out,hb4⟩
 ·have hN1:1≤N:=by omega
  have hmin:Nat.min 1 N=1:=Nat.min_eq_left hN1
  have HN0:=hid hN0
  clear hN0
  go_wp2_with (first
   | (at_make;refine wpList_make_full _ rfl (.tmp 29) (.tmp 29) 237 rfl w1.heap.size 4 i0 (.bool false) 1 Tryz.underlying237 hi hz0 hz1 .i64 .i64 _ _ N rfl rfl rfl rfl (by rw [hz2];omega) (by unfold maxLen;omega) (Nat.le_refl _) ?_;intro w3 hown hgr;have hgb:=Kk (v:=.bool x) hown rfl;have hB3:Below w1.heap.size w1 w3:=(Below.refl _ _).grown hgr (Nat.le_refl _) (fun _ h=>by cases h);clear hown hgr)
   | (refine wpList_copy_splice rfl (.tmp 31) (.tmp 32) 237 237 rfl 4 Tryz.underlying237 hsz _ _ _ _ _ _ rfl rfl w1.heap.size 0 _ 4 hgb (List.replicate 1 (.bool x)) ?c0 ?c1 ?c2 ?c3 w1.heap.size w1 hB3 (Nat.le_refl _) ?_))
  case c0=>rw [List.length_replicate];exact hmin.symm
  case c1 =>
   intro j v hj
   cases j with
   | zero =>
    simp at hj
    subst hj
    exact (hB3.cell (p:=⟨G,0,none⟩) hGlt).trans HG.out
   | succ j=>simp at hj
  case c2=>rw [ZB _ _ _ _ (by omega)];simp;omega
  case c3=>intro v hv;simp at hv;subst hv;rfl
  intro w4 hg4 hb4
  have HB4:Hid (w4.heap[w1.heap.size]?=some (.cells (KN N 1 (.bool x) (.bool false)).toArray 4 (0,0))):=by
   have h2:=Zz N 0 1 (.bool x) (.bool false) (by omega)
   have h1:=hg4.out
   simp only [List.replicate_one,Nat.zero_add] at h1 h2
   rw [h2] at h1
   exact h1
  clear hgb hB3 hg4 hmin
  go_wp2_with fail
  go_loopw [8] (fun i wr=>∃ n:Nat,1≤n∧n≤N∧i=.int .i64 (n:Int)∧Hid (wr.heap[w1.heap.size]?=some (.cells (KN N n (.bool x) (.bool false)).toArray 4 (0,0)))∧Below w1.heap.size w1 wr) (fun i _=>N - (intOf i).toNat)
  case atStart=>exact ⟨1,Nat.le_refl _,hN1,rfl,HB4,hb4⟩
  case round =>
   clear HB4 hb4
   obtain ⟨n,hn1,hnN,rfl,HB,hB⟩:=hrel
   by_cases hlt:n < N
   ·have hk0:(0:Int)≤(n:Int):=by omega
    have hk1:(n:Int)≤(N:Int):=by omega
    have hki:(n:Int) < (N:Int):=by omega
    go_wp2_with fail
    have hNn:¬ N=n:=by omega
    have hmk:Nat.min n (N - n)≤n:=Nat.min_le_left _ _
    have hmk0:Nat.min n (N - n)≤N - n:=Nat.min_le_right _ _
    have hmk2:n+Nat.min n (N - n)≤N:=by omega
    have hmk3:1≤Nat.min n (N - n):=Nat.le_min.2 ⟨hn1,by omega⟩
    have HC:=hid (IM (k:=Nat.min n (N - n)) HB.out hmk)
    generalize hmm:Nat.min n (N - n)=m at *
    have Hmm:=hid hmm
    clear hmm
    refine wp_region_held_drew (S:=fun w'=>True) (by kernel_rfl) trivial (fun hHeld=>?_)
    refine tk 0 (.int .i64 (n:Int)) ?_
    refine tk 1 (.slice (some ⟨w1.heap.size,0,none⟩) N N) ?_
    refine tk 2 (.int .i64 (n:Int)) ?_
    refine tk 3 (.slice (some ⟨w1.heap.size,n,none⟩) (N - n) (N - n)) ?_
    refine tk 4 (.slice (some ⟨w1.heap.size,0,none⟩) N N) ?_
    refine tk 5 (.int .i64 (n:Int)) ?_
    refine tk 6 (.slice (some ⟨w1.heap.size,0,none⟩) n N) ?_
    simp only [jA,jB,jC,Act.put,jD,jE,jF]
    refine rd 7 (fun K hK=>?_)
    refine step_copy_splice (w:=wr.drew) (by rfl) (.tmp 41) (.tmp 44) 237 237 (by rfl) 4 Tryz.underlying237 hsz _ _ _ _ _ _ (by rfl) (by rfl) w1.heap.size n _ 4 HB.out (List.replicate m (.bool x)) (by rw [List.length_replicate];exact Hmm.out.symm) (fun _=>⟨rfl,_,rfl,HC.out⟩) (by rw [ZB _ _ _ _ (by omega),List.length_replicate];exact hmk2) (fun u hu=>by rw [List.mem_replicate] at hu;rw [hu.2];rfl) w1.heap.size w1 (show Below w1.heap.size w1 wr.drew from below_drewN hB 1) (Nat.le_refl _) ?_
    intro w5 hg5 hb5
    have HB5:Hid (w5.heap[w1.heap.size]?=some (.cells (KN N (n+m) (.bool x) (.bool false)).toArray 4 (0,0))):=by
     have h1:=hg5.out
     rw [Zz N n m _ _ hmk2] at h1
     exact h1
    rw [List.length_replicate]
    clear hg5
    try go_wp2_with fail
    refine hK.out _ _ trivial (fun hHeld=>?_)
    clear hK K
    try simp only [jA,jB,jC,Act.put,jD,jE,jF]
    refine rd 8 (fun K hK=>?_)
    simp only [jA,jB,jC]
    go_simp
    try go_wp2_with fail
    refine hK.out _ _ trivial (fun hHeld=>?_)
    clear hK K
    try simp only [jA,jB,jC,Act.put,jD,jE,jF]
    refine rd 9 (fun K hK=>?_)
    simp only [jA,jB,jC]
    go_simp
    try go_wp2_with fail
    refine hK.out _ _ trivial (fun hHeld=>?_)
    clear hK K
    try simp only [jA,jB,jC,Act.put,jD,jE,jF]
    refine wpAnyH_done (by kernel_rfl) ?_ _
    have hwn:IntKind.i64.wrap ((n:Int)+(m:Int))=((n+m:Nat):Int):=by rw [IntKind.wrap_i64];omega
    rw [hwn]
    clear hwn
    go_wp2_with fail
    go_roundw
    case rel=>exact ⟨n+m,by omega,hmk2,rfl,HB5,hb5⟩
    case measure=>simp [intOf];omega
   ·have hne:n=N:=by omega
    subst hne
    have hki:decide ((n:Int) < (n:Int))=false:=by simp
    go_wp2
    go_ret
    exact ⟨w1.heap.size,rfl,by have:=HB.out;rw [Yr] at this;exact this,hB⟩
end Go.Proofs.YthhpbhpfagoapabGreat
