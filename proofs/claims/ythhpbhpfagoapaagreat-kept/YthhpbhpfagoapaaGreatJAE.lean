import Derived.Test.YthhpbhpfagoapaaGreatJAC
import Derived.Deep.AppendLies
import Derived.Deep.RegionHeld3
import Derived.Test.YthhpbhpfagoapaaGreatJAN
namespace Go.Proofs.YthhpbhpfagoapaaGreat
set_option linter.unusedVariables false
set_option linter.unusedSimpArgs false
set_option maxRecDepth 100000
set_option maxHeartbeats 16000000
open Go.RowKit
section
def RowAt (l:List CellB) (k:Nat):Prop:=k=0∨l.length≤k∨(nthB l k).int≠(prevB l k).int
theorem rowI_at (l:List CellB) (k:Nat) (h:k < l.length):rowI (l[k]).int (l.drop k)=rowI (l[k]).int (l.drop (k+1))+1:=by
 rw [List.drop_eq_getElem_cons h]
 simp [rowI]
theorem rows_eq (l:List CellB) (k j:Nat) (h:k < l.length) (hj:j < rowI (l[k]).int (l.drop k)):(nthB l (k+j)).int=(l[k]).int:=by
 obtain ⟨h1,h2⟩:=rowI_lt _ _ j hj
 rw [List.getElem_drop] at h2
 rw [List.length_drop] at h1
 rw [nthB_at l (k+j) (by omega)]
 exact h2
theorem rows_steps (l:List CellB) (k:Nat) (h:k < l.length) (hr:RowAt l k):∀ j,0 < j→j≤rowI (l[k]).int (l.drop k) →
  stepsTo 2 l (k+j)=stepsTo 2 l k++(uB (rowI (l[k]).int (l.drop k))++zB (l[k]).int):=by
 intro j
 induction j with
 | zero=>intro h0;omega
 | succ j ih =>
  intro _ hj
  rcases Nat.eq_zero_or_pos j with h0|h0
  ·subst h0
   rw [Nat.zero_add,stepsTo]
   congr 1
   have:k=0∨(nthB l k).int≠(prevB l k).int:=by
    rcases hr with h1|h1|h1
    ·exact .inl h1
    ·omega
    ·exact .inr h1
   simp only [stepB]
   rw [if_pos this,nthB_at l k h,rowI_at l k h]
  ·have e1:=rows_eq l k j h (by omega)
   have e2:=rows_eq l k (j - 1) h (by omega)
   have e3:prevB l (k+j)=nthB l (k+(j - 1)):=by
    unfold prevB
    rw [if_neg (by omega)]
    congr 1
    omega
   rw [← Nat.add_assoc,stepsTo,ih h0 (by omega)]
   have:stepB 2 l (k+j)=[]:=by
    simp only [stepB]
    rw [if_neg]
    intro hc
    rcases hc with hc|hc
    ·omega
    ·apply hc;rw [e1,e3,e2]
   rw [this,List.append_nil]
theorem rows_end (l:List CellB) (k:Nat) (h:k < l.length):RowAt l (k+rowI (l[k]).int (l.drop k)):=by
 by_cases hl:l.length≤k+rowI (l[k]).int (l.drop k)
 ·exact .inr (.inl hl)
 ·have h2:=rowI_end (l[k]).int (l.drop k) (by rw [List.length_drop];omega)
  rw [List.getElem_drop] at h2
  have hp:=rowI_at l k h
  have e2:=rows_eq l k (rowI (l[k]).int (l.drop k) - 1) h (by omega)
  refine .inr (.inr ?_)
  have e3:prevB l (k+rowI (l[k]).int (l.drop k))=nthB l (k+(rowI (l[k]).int (l.drop k) - 1)):=by
   unfold prevB
   rw [if_neg (by omega)]
   congr 1
   omega
  rw [e3,e2,nthB_at l _ (by omega)]
  exact h2
theorem wrap64_in (n:Int) (h0:-9223372036854775808≤n) (h1:n≤9223372036854775807):wrap64 (n - 0)=n:=by
 unfold wrap64;omega
theorem numStep0 (v:Int) (w:World) (h2:-9223372036854775808≤v) (h3:v≤9223372036854775807) :
  Calls Tryz.prog 191 #[.int .i64 0,.int .i64 v] w fun e w'=>e=.returned (strB (zB v))∧Below w.heap.size w w':=by
 have:=numStep_any 0 v w (by decide) (by decide) h2 h3
 rw [wrap64_in v h2 h3] at this
 exact this
theorem cell_alloc_keep {w:World} {a:Addr} {v:Value} (o:Obj) (h:w.cell? a=some v):(w.alloc o).cell? a=some v:=by
 exact (World.cell?_alloc_lt w o a (World.block_lt_of_cell? w _ h)).trans h
theorem cell_grown_keep {w w':World} {u v:Value} {base e size n:Nat} {xs:List Value} {a:Addr} (hg:w.grownBy w' u.ownBlock) (ho:w.ownsRow base e size u n xs) (h:w.cell? a=some v) (hb:a.block < base):w'.cell? a=some v:=by
 have hne:some a.block≠u.ownBlock:=by
  intro he
  have:=(ho.lt a.block he.symm).1
  omega
 exact (hg.cell_far a (World.block_lt_of_cell? w _ h) hne).trans h
theorem rowsI (g b cap:Nat) (l:List CellB) (w:World) (hs:Small l) (hl:IntsLie w b l) :
  Calls Tryz.prog 185 #[numC g,.slice (some ⟨b,0,none⟩) l.length cap] w fun e w'=>e=.returned (strB (wayB 2 l))∧Below w.heap.size w w':=by
 obtain ⟨i0,hi,hz0,hz1,hz2⟩:=info_parts Tryz.infoStr
 have Hs:=hid hs
 have Hl:=hid hl
 have hn:=hs.few
 clear hs hl
 go_enter Tryz.func185,Tryz.ntmps185
 go_wp2
 obtain ⟨hb0,hs0,hc0⟩:=boxed w #[.slice (some ⟨g,0,none⟩) 3 3,fnV 187,fnV 188,fnV 189,fnV 190,fnV 191,fnV 192] 215
 have hc:_=some (fnV 191):=hc0 5
 have Hl0:=hid (Hl.out.later hb0)
 have Hb0:=hid hb0
 have Hc:=hid hc
 have hs1:=Nat.lt_of_lt_of_eq (Nat.lt_succ_self w.heap.size) hs0.symm
 clear hc0 hc hb0 hs0
 generalize w.alloc _=w0 at *
 go_loopw [5,7] (fun v i wr=>∃ (ps:List (List UInt8)) (k:Nat),k≤l.length∧i=.int .i64 (k:Int)∧ps.length≤2*k∧(0 < k→ps≠[])∧wr.ownsRow w0.heap.size 9 1 v ps.length (strs ps)∧ps.flatten=stepsTo 2 l k∧RowAt l k∧Below w0.heap.size w0 wr)
  (fun _ i _=>l.length - (intOf i).toNat)
 case atStart=>exact ⟨[],0,Nat.zero_le _,rfl,Nat.zero_le _,fun h=>absurd h (Nat.lt_irrefl _),World.ownsRow_nil _ _ _ _,rfl,.inl rfl,Below.refl _ _⟩
 case round =>
  obtain ⟨ps,k,hkl,rfl,hpl,hps,hown,hfl,hra,hB⟩:=hrel
  have Hfl:=hid hfl
  have Hps:=hid hps
  have Hra:=hid hra
  clear hfl hps hra
  have hst:=stepsTo_len 2 l Hs.out.small hn k
  by_cases hlt:k < l.length
  ·obtain ⟨W1,rfl⟩:∃ W1,W1=wr:=⟨_,rfl⟩
   have hki:(k:Int) < (l.length:Int):=by omega
   have Hcell:=hid (Hl0.out.later hB).cell
   have hck:=(Hl0.out.later hB).cell k hlt
   have hbw:=(Hl0.out.later hB).lt
   have Hbl:=hid Hl0.out.lt
   have hcf:=(hB.cell (p:=⟨w.heap.size,5,none⟩) hs1).trans Hc.out
   have hsm:=Hs.out.small l[k] (List.getElem_mem hlt)
   obtain ⟨hv0,hv1,_⟩:=hsm
   have HST:=hid (rows_steps l k hlt Hra.out)
   have HRE:=hid (rows_end l k hlt)
   have HRL:=hid (rowI_lt (l[k]).int (l.drop k))
   have HRX:=hid (rowI_end (l[k]).int (l.drop k))
   have hrp:=rowI_at l k hlt
   have hrp2:0 < rowI (l[k]).int (l.drop k):=by omega
   have hrl:=rowI_le (l[k]).int (l.drop k)
   rw [List.length_drop] at hrl
   clear hrp
   generalize rowI (l[k]).int (l.drop k)=r at *
   generalize (l[k]).int=vv at *
   go_wp2_with fail
   go_loopw [8] (fun i wi=>∃ m:Nat,m≤r∧i=.int .i64 ((k+m:Nat):Int)∧Below W1.heap.size W1 wi) (fun i _=>100 - (intOf i).toNat)
   case atStart=>exact ⟨0,Nat.zero_le _,rfl,Below.refl _ _⟩
   case round =>
    obtain ⟨m,hm,rfl,hBi⟩:=hrel
    have hck2:=(hBi.cell (p:=⟨b,k,none⟩) hbw).trans hck
    by_cases hmr:m < r
    ·have hkm:k+m < l.length:=by omega
     have g1:=(hBi.cell (p:=⟨b,k+m,none⟩) hbw).trans (Hcell.out (k+m) hkm)
     have hnb:(l[k+m]).int=vv:=by
      obtain ⟨_,h2⟩:=HRL.out m hmr
      rw [List.getElem_drop] at h2
      exact h2
     rw [hnb] at g1
     have hkmi:((k+m:Nat):Int) < (l.length:Int):=by omega
     generalize hkm2:k+m=q at *
     have Hkm2:=hid hkm2
     clear hkm2 hnb
     have hee:(vv == vv)=true:=by simp
     go_wp2_with fail
     go_quiet (fail)
     go_wp2
     go_roundw
     case rel=>exact ⟨m+1,by omega,by rw [← Nat.add_assoc,Hkm2.out];go_num,below_drewN hBi nq⟩
     case measure=>simp [intOf];omega
    ·have hmr2:m=r:=by omega
     subst hmr2
     go_upto_region 6 with fail
     go_cut [28] (fun t wd=>t=.bool false∧Below W1.heap.size W1 wd)
     case first =>
      by_cases hend:k+m < l.length
      ·have g1:=(hBi.cell (p:=⟨b,k+m,none⟩) hbw).trans (Hcell.out (k+m) hend)
       have hnb:((l[k+m]).int == vv)=false:=by
        have h2:=HRX.out (by rw [List.length_drop];omega)
        rw [List.getElem_drop] at h2
        simpa using h2
       have hkmi:((k+m:Nat):Int) < (l.length:Int):=by omega
       generalize (l[k+m]).int=v2 at *
       generalize k+m=q at *
       go_quiet (fail)
       go_wp2_with fail
       go_meet
       case rel=>exact ⟨rfl,below_drewN hBi nq⟩
      ·have hkmi:decide (((k+m:Nat):Int) < (l.length:Int))=false:=by simp;omega
       generalize k+m=q at *
       go_quiet (fail)
       go_wp2_with fail
       go_meet
       case rel=>exact ⟨rfl,below_drewN hBi nq⟩
     case rest =>
      obtain ⟨rfl,hBj⟩:=hcut
      have hck3:=(hBj.cell (p:=⟨b,k,none⟩) hbw).trans hck
      have hcf3:=(hBj.cell (p:=⟨w.heap.size,5,none⟩) (Nat.lt_of_lt_of_le hs1 hB.size)).trans hcf
      have hownc:=own_after hown hBj
      have hBc:=hB.trans (hBj.mono hB.size)
      have hbc:b < wc.heap.size:=Nat.lt_of_lt_of_le hbw hBj.size
      have hwc:w.heap.size < wc.heap.size:=Nat.lt_of_lt_of_le (Nat.lt_of_lt_of_le hs1 hB.size) hBj.size
      have HX:Hid (ps.flatten++(uB m++zB vv)=stepsTo 2 l (k+m)):=by
       show _=_
       rw [Hfl.out];exact (HST.out m hrp2 (Nat.le_refl _)).symm
      clear hck hcf hck2 hown hBj hBi hB
      have hk0:(0:Int)≤(k:Int):=by omega
      go_wp2_with fail
      go_region_held3 (fun w'=>w'.cell? ⟨w.heap.size,5,none⟩=some (fnV 191)∧w'.cell? ⟨b,k,none⟩=some (.int .i64 vv)) (first|(exact ⟨hcf3,hck3⟩)|(exact ⟨x1,y1⟩)|(exact ⟨x2,y2⟩)|(exact ⟨cell_alloc_keep _ x2,cell_alloc_keep _ y2⟩)|(exact ⟨x3,y3⟩))
       (first
        | (go_at_call 241;refine (count_eq _ m _ ?_ ?_).mono ?_;(rw [IntKind.wrap_i64];omega);omega;rintro e w5 ⟨rfl,hb5⟩;have x1:=(hb5.cell (p:=⟨w.heap.size,5,none⟩) hwc).trans hcf3;have y1:=(hb5.cell (p:=⟨b,k,none⟩) hbc).trans hck3)
        | (go_at_call 191;refine (numStep0 vv _ hv0 hv1).mono ?_;rintro e w6 ⟨rfl,hb6⟩;have x2:=(hb6.cell (p:=⟨w.heap.size,5,none⟩) (Nat.lt_of_lt_of_le hwc hb5.size)).trans x1;have y2:=(hb6.cell (p:=⟨b,k,none⟩) (Nat.lt_of_lt_of_le hbc hb5.size)).trans y1)
        | (refine step_append_lies _ (by rfl) _ _ _ (by rfl) w0.heap.size 9 i0 _ 1 16 Tryz.underlying71 hi hz0 hz1 hz2 rfl (by omega) _ ps.length (strs ps) (by rfl) ((own_after (own_after hownc (below_undrew hb5)) hb6).alloc _) ⟨w6.heap.size,0,none⟩ 2 2 [strB (uB m),strB (zB vv)] (by rfl) (by rfl) (World.news_of_block (cs:=#[strB (uB m),strB (zB vv)]) (t:=9) (fr:=(0,0)) (heap_alloc_new w6 _)) (by simp [Value.oneCell']) (by omega) (by unfold maxLen;omega) (by omega) (by have:=hBc.size;have:=hb5.size;have:=hb6.size;simp at *;omega) _ rfl ?_;intro gg cc w7 hown7 hgr7 hat7 hlt7;have x3:=cell_grown_keep hgr7 ((own_after (own_after hownc (below_undrew hb5)) hb6).alloc _) (cell_alloc_keep _ x2) hs1;have y3:=cell_grown_keep hgr7 ((own_after (own_after hownc (below_undrew hb5)) hb6).alloc _) (cell_alloc_keep _ y2) Hbl.out))
      have hb5':=below_undrew hb5
      have hB5:=hBc.trans (hb5'.mono hBc.size)
      have hB6:=hB5.trans (hb6.mono hB5.size)
      have HR:=hid (strs_push (qs:=[uB m,zB vv]) _ rfl hB6 (own_after (own_after hownc hb5') hb6) hown7 hgr7)
      clear x1 x2 x3 y1 y2 y3 hcf3 hck3 hownc hBc hb5 hb5' hb6 hB5 hB6 hown7 hgr7 hat7 hlt7
      go_wp2
      go_roundw
      case rel=>exact ⟨ps++[uB m,zB vv],k+m,by omega,rfl,by simp;omega,fun _=>by simp,by simpa using HR.out.1,by rw [List.flatten_append,← HX.out];simp,HRE.out,HR.out.2⟩
      case measure=>simp [intOf];omega
  ·have hke:k=l.length:=by omega
   subst hke
   have hpn:ps≠[]:=Hps.out (List.length_pos_iff.2 Hs.out.some_)
   have HF:Hid (ps.flatten=wayB 2 l):=by
    show ps.flatten=wayB 2 l
    rw [Hfl.out];simp [wayB]
   have hfl2:ps.flatten.length≤1000000:=by rw [Hfl.out];omega
   have Hpn:=hid hpn
   clear hpn
   have hki:decide ((l.length:Int) < (l.length:Int))=false:=by simp
   go_wp2_with fail
   refine (join_own ps w0.heap.size ps.length _ _ hown Hpn.out (by omega) hfl2).mono ?_
   rintro e w2 ⟨rfl,hb2⟩
   go_wp2
   go_ret
   have hz:=Hb0.out.size
   have hBB:=Hb0.out.trans (hB.mono hz)
   exact ⟨ret_str HF.out,hBB.trans (hb2.mono hBB.size)⟩
end
section
def texts (D:List CellB):List (List UInt8):=D.map (·.text)
theorem firstB_append (A B:List CellB) (t:List UInt8):firstB (A++B) t=if firstB A t < A.length then firstB A t else A.length+firstB B t:=by
 induction A with
 | nil=>simp
 | cons c A ih =>
  simp only [List.cons_append,firstB,List.length_cons]
  by_cases h:c.text=t
  ·simp [h]
  ·simp only [if_neg h,ih]
   by_cases h2:firstB A t < A.length
   ·simp [h2]
   ·simp [h2];omega
theorem firstB_found (A:List CellB) (t:List UInt8):firstB A t < A.length ↔ ∃ c ∈ A,c.text=t:=by
 constructor
 ·intro h
  induction A with
  | nil=>simp at h
  | cons c A ih =>
   by_cases hc:c.text=t
   ·exact ⟨c,by simp,hc⟩
   ·simp only [firstB,if_neg hc,List.length_cons] at h
    obtain ⟨d,hd,ht⟩:=ih (by omega)
    exact ⟨d,by simp [hd],ht⟩
 ·intro h
  exact (firstB_at A t h).1
theorem diffTo_from (l:List CellB) (k:Nat) (hk:k≤l.length):∀ c ∈ diffTo l k,∃ j,∃ h:j < l.length,j < k∧c=l[j]:=by
 induction k with
 | zero=>intro c hc;simp [diffTo] at hc
 | succ k ih =>
  intro c hc
  simp only [diffTo,List.mem_append] at hc
  rcases hc with hc|hc
  ·obtain ⟨j,h,h1,h2⟩:=ih (by omega) c hc
   exact ⟨j,h,by omega,h2⟩
  ·split at hc
   ·simp only [List.mem_cons,List.not_mem_nil,or_false] at hc
    exact ⟨k,by omega,by omega,by rw [hc,nthB_at l k (by omega)]⟩
   ·cases hc
theorem diff_known (l:List CellB) (k:Nat) (hk:k < l.length):firstB (diffTo l k) (l[k]).text < (diffTo l k).length ↔ firstB l (l[k]).text≠k:=by
 rw [firstB_found]
 constructor
 ·rintro ⟨c,hc,ht⟩ he
  obtain ⟨j,hj,hjk,rfl⟩:=diffTo_from l k (by omega) c hc
  have:=firstB_le l j hj
  rw [ht,he] at this
  omega
 ·intro hne
  have hle:=firstB_le l k hk
  obtain ⟨h1,h2⟩:=firstB_at l (l[k]).text ⟨l[k],List.getElem_mem hk,rfl⟩
  exact ⟨_,diffTo_has l _ h1 (by rw [h2]) k (by omega) (by omega),h2⟩
theorem diffTo_step (l:List CellB) (k:Nat) (hk:k < l.length):diffTo l (k+1)=if firstB (diffTo l k) (l[k]).text < (diffTo l k).length then diffTo l k else diffTo l k++[l[k]]:=by
 have h:=diff_known l k hk
 simp only [diffTo,nthB_at l k hk]
 by_cases hf:firstB l (l[k]).text=k
 ·rw [if_pos hf,if_neg (fun h2=>h.1 h2 hf)]
 ·rw [if_neg hf,if_pos (h.2 hf),List.append_nil]
theorem diffTo_prefix (l:List CellB) (k j:Nat):∃ B,diffTo l (k+j)=diffTo l k++B:=by
 induction j with
 | zero=>exact ⟨[],by simp⟩
 | succ j ih =>
  obtain ⟨B,hB⟩:=ih
  rw [← Nat.add_assoc,diffTo,hB]
  exact ⟨_,by rw [List.append_assoc]⟩
theorem place_eq (l:List CellB) (k:Nat) (hk:k < l.length):firstB (diffB l) (l[k]).text=if firstB (diffTo l k) (l[k]).text < (diffTo l k).length then firstB (diffTo l k) (l[k]).text else (diffTo l k).length:=by
 obtain ⟨B,hB⟩:=diffTo_prefix l (k+1) (l.length - (k+1))
 rw [show k+1+(l.length - (k+1))=l.length by omega] at hB
 unfold diffB
 rw [hB,diffTo_step l k hk]
 by_cases hf:firstB (diffTo l k) (l[k]).text < (diffTo l k).length
 ·rw [if_pos hf,if_pos hf,firstB_append,if_pos hf]
 ·have hfe:firstB (diffTo l k) (l[k]).text=(diffTo l k).length:=by have:=firstB_len (diffTo l k) (l[k]).text;omega
  rw [if_neg hf,if_neg hf,List.append_assoc,firstB_append,if_neg hf]
  simp [firstB]
theorem words_steps (D:List CellB) (k:Nat):wordsTo D k=uB D.length++stepsTo 5 D k:=by
 induction k with
 | zero=>simp [wordsTo,stepsTo]
 | succ k ih=>simp only [wordsTo,stepsTo,ih,stepB,List.append_assoc]
theorem index_any (D:List CellB) (t:List UInt8) (base:Nat) (v:Value) (w:World) (hn:D.length≤1000) (h:w.ownsRow base 9 1 v D.length (strs (texts D))) :
  Calls Tryz.prog 246 #[v,strB t] w fun e w'=>e=.returned (.int .i64 (if firstB D t < D.length then (firstB D t:Int) else -1))∧w'=w:=by
 have HL:=hid (firstB_lt D t)
 have HF:=hid (firstB_found D t)
 have hle:=firstB_len D t
 have HA:Hid (∀ h:firstB D t < D.length,(D[firstB D t]).text=t):=by
  intro h
  exact (firstB_at D t ((firstB_found D t).1 h)).2
 generalize firstB D t=q at *
 rcases h.2 with ⟨rfl,h0⟩|⟨gd,cap,cur,rfl,_⟩
 ·have hq:¬ q < D.length:=by omega
  rw [if_neg hq]
  go_enter Tryz.func246,Tryz.ntmps246
  go_wp2
  go_loopw [8] (fun i wr=>i=.int .i64 0∧wr=w) (fun i _=>0)
  case atStart=>exact ⟨rfl,rfl⟩
  case round =>
   obtain ⟨rfl,rfl⟩:=hrel
   go_wp2
   go_ret
   exact ⟨rfl,rfl⟩
 ·have HC:Hid (∀ j (h:j < D.length),w.cell? ⟨gd,j,none⟩=some (strB (D[j]).text)):=by
   intro j hj
   rw [h.cellAt j (by omega)]
   simp [strs,texts,hj]
  clear h
  go_enter Tryz.func246,Tryz.ntmps246
  go_wp2
  go_loopw [8] (fun i wr=>∃ k:Nat,k≤q∧i=.int .i64 (k:Int)∧wr=w) (fun i _=>q - (intOf i).toNat)
  case atStart=>exact ⟨0,Nat.zero_le _,rfl,rfl⟩
  case round =>
   obtain ⟨k,hk,rfl,rfl⟩:=hrel
   by_cases hkq:k < q
   ·have hlt:k < D.length:=by omega
    have hck:=HC.out k hlt
    have hne:(t == (D[k]).text)=false:=by
     simpa using fun h2:t=(D[k]).text=>HL.out k hkq hlt h2.symm
    go_wp2
    go_roundw
    case rel=>exact ⟨k+1,by omega,by go_num,trivial⟩
    case measure=>simp [intOf];omega
   ·have hke:k=q:=by omega
    subst hke
    by_cases hlt:k < D.length
    ·have hck:=HC.out k hlt
     rw [HA.out hlt] at hck
     go_wp2
     go_ret
     exact ⟨rfl,rfl⟩
    ·go_wp2
     go_ret
     exact ⟨rfl,rfl⟩
theorem own_len {w:World} {base n:Nat} {v:Value} {xs:List Value} (h:w.ownsRow base 9 1 v n xs) (w':World) :
  Sem.run Tryz.prog (Builtin.len_ #[71] 3 #[v]) w'=.ok (.int .i64 (n:Int)) w':=by
 rcases h.2 with ⟨rfl,rfl⟩|⟨g,cap,cur,rfl,_⟩
 ·exact run_len_slice (P:=Tryz.prog) w' 71 3 _ _ _ (by rw [Tryz.underlying71];rfl)
 ·exact run_len_slice (P:=Tryz.prog) w' 71 3 _ _ _ (by rw [Tryz.underlying71];rfl)
def Apart (d p:Value):Prop:=∀ k,d.ownBlock=some k→p.ownBlock≠some k
theorem two_push {w wr w2:World} {d p:Value} {n np g cc k H:Nat} {ps qs pp:List (List UInt8)} (o:Obj) (hH:H=wr.heap.size+1) (hB:Below w.heap.size w wr) (hd:wr.ownsRow w.heap.size 9 1 d n (strs ps))
  (hp:wr.ownsRow w.heap.size 9 1 p np (strs pp)) (hap:Apart d p) (h2:w2.ownsRow w.heap.size 9 1 (.slice (some ⟨g,0,none⟩) k cc) k (strs ps++strs qs))
  (hg:(wr.alloc o).grownBy w2 d.ownBlock) (hat:d.ownBlock=some g∨g=H) :
  w2.ownsRow w.heap.size 9 1 (.slice (some ⟨g,0,none⟩) k cc) k (strs (ps++qs))∧w2.ownsRow w.heap.size 9 1 p np (strs pp)∧Apart (.slice (some ⟨g,0,none⟩) k cc) p∧Below w.heap.size w w2:=by
 refine ⟨by rw [strs_append];exact h2,(hp.alloc o).kept hg ?_,?_,(hB.alloc hB.size o).grown hg (by have:=hB.size;simp;omega) (fun k hk=>(hd.lt k hk).1)⟩
 ·cases hpo:p.ownBlock with
  | none=>exact .inl rfl
  | some x=>exact .inr fun he=>hap x he.symm hpo
 ·intro k' hk' hpk
  have hgk:g=k':=by simpa [Value.ownBlock] using hk'
  subst hgk
  rcases hat with h|h
  ·exact hap g h hpk
  ·have:=(hp.lt g hpk).2
   omega
theorem Apart.symm {d p:Value} (h:Apart d p):Apart p d:=fun k hp hd=>h k hd hp
abbrev BoxT (w:World) (g B:Nat):Prop:=w.cell? ⟨B,0,none⟩=some (.slice (some ⟨g,0,none⟩) 3 3)∧w.cell? ⟨B,1,none⟩=some (fnV 202)∧w.cell? ⟨B,2,none⟩=some (fnV 203)∧w.cell? ⟨B,3,none⟩=some (fnV 204)∧w.cell? ⟨B,4,none⟩=some (fnV 205)∧w.cell? ⟨B,5,none⟩=some (fnV 206)∧w.cell? ⟨B,6,none⟩=some (fnV 207)
abbrev BoxI (w:World) (g B:Nat):Prop:=w.cell? ⟨B,0,none⟩=some (.slice (some ⟨g,0,none⟩) 3 3)∧w.cell? ⟨B,1,none⟩=some (fnV 187)∧w.cell? ⟨B,2,none⟩=some (fnV 188)∧w.cell? ⟨B,3,none⟩=some (fnV 189)∧w.cell? ⟨B,4,none⟩=some (fnV 190)∧w.cell? ⟨B,5,none⟩=some (fnV 191)∧w.cell? ⟨B,6,none⟩=some (fnV 192)
theorem boxT_later {w w':World} {g B b:Nat} (h:BoxT w g B) (hb:Below b w w') (hl:B < b):BoxT w' g B:=by
 obtain ⟨h0,h1,h2,h3,h4,h5,h6⟩:=h
 exact ⟨(hb.cell (p:=⟨B,0,none⟩) hl).trans h0,(hb.cell (p:=⟨B,1,none⟩) hl).trans h1,(hb.cell (p:=⟨B,2,none⟩) hl).trans h2,(hb.cell (p:=⟨B,3,none⟩) hl).trans h3,(hb.cell (p:=⟨B,4,none⟩) hl).trans h4,(hb.cell (p:=⟨B,5,none⟩) hl).trans h5,(hb.cell (p:=⟨B,6,none⟩) hl).trans h6⟩
theorem boxI_later {w w':World} {g B b:Nat} (h:BoxI w g B) (hb:Below b w w') (hl:B < b):BoxI w' g B:=by
 obtain ⟨h0,h1,h2,h3,h4,h5,h6⟩:=h
 exact ⟨(hb.cell (p:=⟨B,0,none⟩) hl).trans h0,(hb.cell (p:=⟨B,1,none⟩) hl).trans h1,(hb.cell (p:=⟨B,2,none⟩) hl).trans h2,(hb.cell (p:=⟨B,3,none⟩) hl).trans h3,(hb.cell (p:=⟨B,4,none⟩) hl).trans h4,(hb.cell (p:=⟨B,5,none⟩) hl).trans h5,(hb.cell (p:=⟨B,6,none⟩) hl).trans h6⟩
theorem boxT_alloc {w:World} {g B:Nat} (o:Obj) (h:BoxT w g B):BoxT (w.alloc o) g B:=by
 obtain ⟨h0,h1,h2,h3,h4,h5,h6⟩:=h
 exact ⟨cell_alloc_keep o h0,cell_alloc_keep o h1,cell_alloc_keep o h2,cell_alloc_keep o h3,cell_alloc_keep o h4,cell_alloc_keep o h5,cell_alloc_keep o h6⟩
theorem boxI_alloc {w:World} {g B:Nat} (o:Obj) (h:BoxI w g B):BoxI (w.alloc o) g B:=by
 obtain ⟨h0,h1,h2,h3,h4,h5,h6⟩:=h
 exact ⟨cell_alloc_keep o h0,cell_alloc_keep o h1,cell_alloc_keep o h2,cell_alloc_keep o h3,cell_alloc_keep o h4,cell_alloc_keep o h5,cell_alloc_keep o h6⟩
theorem own_texts {w:World} {base n:Nat} {v:Value} {D:List CellB} (h:w.ownsRow base 9 1 v n (strs (texts D))) (hD:D≠[]):∃ b cap,v=.slice (some ⟨b,0,none⟩) D.length cap∧TextsLie w b D:=by
 have hl:D.length=n:=by simpa [strs,texts] using h.1
 rcases h.2 with ⟨rfl,rfl⟩|⟨g,cap,cur,rfl,_⟩
 ·exact absurd (List.eq_nil_of_length_eq_zero hl) hD
 ·refine ⟨g,cap,by rw [hl],(h.lt g rfl).2,fun j hj=>?_⟩
  rw [h.cellAt j (by omega)]
  simp [strs,texts,hj]
theorem below_undrew5 {w w1 w2 w3 w4 w5:World} (hb1:Below w.heap.size w w1) (hb2:Below w1.drew.heap.size w1.drew w2) (hb3:Below w2.heap.size w2 w3) (hb4:Below w3.heap.size w3 w4) (hb5:Below w4.heap.size w4 w5):Below w.heap.size w w5:=by
 have h:=below_undrew4 hb1 hb2 hb3 hb4
 exact h.trans (hb5.mono h.size)
theorem placesT (g b cap:Nat) (l:List CellB) (w:World) (hs:Small l) (hl:TextsLie w b l) :
  Calls Tryz.prog 198 #[txtC g,.slice (some ⟨b,0,none⟩) l.length cap] w fun e w'=>e=.returned (strB (wayB 3 l))∧Below w.heap.size w w':=by
 obtain ⟨i0,hi,hz0,hz1,hz2⟩:=info_parts Tryz.infoStr
 have Hs:=hid hs
 have Hl:=hid hl
 have hn:=hs.few
 clear hs hl
 go_enter Tryz.func198,Tryz.ntmps198
 go_wp2
 obtain ⟨hb0,hs0,hc0⟩:=boxed w #[.slice (some ⟨g,0,none⟩) 3 3,fnV 202,fnV 203,fnV 204,fnV 205,fnV 206,fnV 207] 225
 have Hc:Hid (BoxT _ g w.heap.size):=⟨hc0 0,hc0 1,hc0 2,hc0 3,hc0 4,hc0 5,hc0 6⟩
 have Hl0:=hid (Hl.out.later hb0)
 have Hb0:=hid hb0
 have hs1:=Nat.lt_of_lt_of_eq (Nat.lt_succ_self w.heap.size) hs0.symm
 clear hc0 hb0 hs0
 generalize w.alloc _=w0 at *
 go_loopw [5,6,12] (fun d v i wr=>∃ (ps:List (List UInt8)) (k:Nat),k≤l.length∧i=.int .i64 (k:Int)∧ps.length=k∧wr.ownsRow w0.heap.size 9 1 d (diffTo l k).length (strs (texts (diffTo l k)))∧wr.ownsRow w0.heap.size 9 1 v ps.length (strs ps)∧Apart d v∧ps.flatten=stepsTo 3 l k∧Below w0.heap.size w0 wr)
  (fun _ _ i _=>l.length - (intOf i).toNat)
 case atStart=>exact ⟨[],0,Nat.zero_le _,rfl,rfl,World.ownsRow_nil _ _ _ _,World.ownsRow_nil _ _ _ _,fun k h=>by simp [Value.ownBlock] at h,rfl,Below.refl _ _⟩
 case round =>
  obtain ⟨ps,k,hkl,rfl,hpl,hd,hp,hap,hfl,hB⟩:=hrel
  have Hfl:=hid hfl
  have Hap:=hid hap
  clear hfl hap
  have hst:=stepsTo_len 3 l Hs.out.small hn k
  have hdl:=diffTo_len l k
  by_cases hlt:k < l.length
  ·have hck:=(Hl0.out.later hB).cell k hlt
   have HT:Hid (stepB 3 l k=uB (firstB (diffB l) (l[k]).text)):=by
    show stepB 3 l k=_
    simp only [stepB,nthB_at l k hlt]
   have HP:=hid (place_eq l k hlt)
   have HD:=hid (diffTo_step l k hlt)
   have hpn:ps.length≤60:=by omega
   go_wp2_with fail
   refine (index_any (diffTo l k) (l[k]).text w0.heap.size _ _ (by omega) hd).mono ?_
   rintro e w2 ⟨rfl,rfl⟩
   by_cases hf:firstB (diffTo l k) (l[k]).text < (diffTo l k).length
   ·have HP2:Hid (firstB (diffB l) (l[k]).text=firstB (diffTo l k) (l[k]).text):=by
     have:=HP.out;rw [if_pos hf] at this;exact this
    have HD2:Hid (diffTo l (k+1)=diffTo l k):=by
     have:=HD.out;rw [if_pos hf] at this;exact this
    rw [if_pos hf]
    generalize diffTo l k=D at *
    generalize firstB D (l[k]).text=q at *
    go_wp2_with fail
    refine (count_any q _ (by omega)).mono ?_
    rintro e w3 ⟨rfl,hb3⟩
    have hd3:=own_after hd hb3
    have hp3:=own_after hp hb3
    have hB3:=hB.trans (hb3.mono hB.size)
    clear hd hp hB hb3 hck
    go_wp2_with (at_builtin;refine wpList_append_lies _ rfl (.tmp 27) (.tmp 30) 71 rfl w0.heap.size 9 i0 (.string ⟨#[]⟩) 1 16 Tryz.underlying71 hi hz0 hz1 hz2 rfl (by decide) _ _ _ rfl (hp3.alloc _) ⟨_,0,none⟩ 1 1 [strB (uB q)] rfl rfl ?c1 ?c2 (by decide) ?c3 ?c4 ?c5 (w3.heap.size+1) ?c6 ?_)
    case c1=>exact cell_laid w3 #[strB (uB q)] 9
    case c2=>intro u hu;simp at hu;subst hu;rfl
    case c3=>unfold maxLen;omega
    case c4=>omega
    case c5=>have:=hB3.size;simp;omega
    case c6=>simp
    intro gg cc w4 hown4 hgr4 hat4 hlt4
    have HR:=hid (two_push (qs:=[uB q]) _ rfl hB3 hp3 hd3 Hap.out.symm hown4 hgr4 hat4)
    clear hd3 hp3 hB3 hown4 hgr4 hat4 hlt4
    go_wp2
    go_roundw
    case rel=>exact ⟨ps++[uB q],k+1,by omega,by go_num,by simp;omega,by rw [HD2.out];exact HR.out.2.1,by rw [show (ps++[uB q]).length=k+1 by simp [hpl]];exact HR.out.1,HR.out.2.2.1.symm,by rw [List.flatten_append,Hfl.out,stepsTo,HT.out,HP2.out];simp,HR.out.2.2.2⟩
    case measure=>simp [intOf];omega
   ·have HP2:Hid (firstB (diffB l) (l[k]).text=(diffTo l k).length):=by
     have:=HP.out;rw [if_neg hf] at this;exact this
    have HD2:Hid (diffTo l (k+1)=diffTo l k++[l[k]]):=by
     have:=HD.out;rw [if_neg hf] at this;exact this
    rw [if_neg hf]
    clear hf HP HD
    generalize diffTo l k=D at *
    generalize hlk:l[k]=c at *
    have Hlk:=hid hlk
    clear hlk
    have hln:=own_len hd w2
    go_wp2_with (at_builtin;refine wpList_append_lies _ rfl (.tmp 23) (.tmp 25) 71 rfl w0.heap.size 9 i0 (.string ⟨#[]⟩) 1 16 Tryz.underlying71 hi hz0 hz1 hz2 rfl (by decide) _ _ _ rfl (hd.alloc _) ⟨_,0,none⟩ 1 1 [strB c.text] rfl rfl ?d1 ?d2 (by decide) ?d3 ?d4 ?d5 _ rfl ?_)
    case d1=>exact cell_laid _ #[strB c.text] 9
    case d2=>intro u hu;simp at hu;subst hu;rfl
    case d3=>unfold maxLen;omega
    case d4=>omega
    case d5=>have:=hB.size;simp;omega
    intro gd cd w5 hown5 hgr5 hat5 hlt5
    obtain ⟨hd5,hp5,hap5,hB5⟩:=two_push (qs:=[c.text]) _ (by simp) hB hd hp Hap.out hown5 hgr5 hat5
    have Hap5:=hid hap5
    clear hd hp hB hown5 hgr5 hat5 hlt5 hap5 hck
    go_wp2_with fail
    refine (count_any D.length _ (by omega)).mono ?_
    rintro e w3 ⟨rfl,hb3⟩
    have hd3:=own_after hd5 hb3
    have hp3:=own_after hp5 hb3
    have hB3:=hB5.trans (hb3.mono hB5.size)
    clear hd5 hp5 hB5 hb3
    go_wp2_with (at_builtin;refine wpList_append_lies _ rfl (.tmp 27) (.tmp 30) 71 rfl w0.heap.size 9 i0 (.string ⟨#[]⟩) 1 16 Tryz.underlying71 hi hz0 hz1 hz2 rfl (by decide) _ _ _ rfl (hp3.alloc _) ⟨_,0,none⟩ 1 1 [strB (uB D.length)] rfl rfl ?c1 ?c2 (by decide) ?c3 ?c4 ?c5 (w3.heap.size+1) ?c6 ?_)
    case c1=>exact cell_laid w3 #[strB (uB D.length)] 9
    case c2=>intro u hu;simp at hu;subst hu;rfl
    case c3=>unfold maxLen;omega
    case c4=>omega
    case c5=>have:=hB3.size;simp;omega
    case c6=>simp
    intro gg cc w4 hown4 hgr4 hat4 hlt4
    have HR:=hid (two_push (qs:=[uB D.length]) _ rfl hB3 hp3 hd3 Hap5.out.symm hown4 hgr4 hat4)
    clear hd3 hp3 hB3 hown4 hgr4 hat4 hlt4
    have HTX:Hid (texts (D++[c])=texts D++[c.text]):=by simp [Hid,texts]
    go_wp2
    go_roundw
    case rel=>exact ⟨ps++[uB D.length],k+1,by omega,by go_num,by simp;omega,by rw [HD2.out,HTX.out,show (D++[c]).length=D.length+1 by simp];exact HR.out.2.1,by rw [show (ps++[uB D.length]).length=k+1 by simp [hpl]];exact HR.out.1,HR.out.2.2.1.symm,by rw [List.flatten_append,Hfl.out,stepsTo,HT.out,HP2.out];simp,HR.out.2.2.2⟩
    case measure=>simp [intOf];omega
  ·have hke:k=l.length:=by omega
   subst hke
   have hDn:diffTo l l.length≠[]:=by
    intro h0
    have h1:=Hs.out.some_
    cases l with
    | nil=>exact h1 rfl
    | cons c l =>
     obtain ⟨d,hd,_⟩:=diffB_has (c :: l) 0 (by simp)
     unfold diffB at hd
     rw [h0] at hd
     cases hd
   have HW:Hid (wayB 3 l=uB (diffTo l l.length).length++(wayB 5 (diffTo l l.length)++stepsTo 3 l l.length)):=by
    show wayB 3 l=_
    simp only [wayB,diffB,if_true,words_steps]
    simp
   have HDs:Hid (Small (diffTo l l.length)):=⟨fun c hc=>Hs.out.small c (diffTo_mem l l.length (Nat.le_refl _) c hc),by omega,hDn⟩
   have hw5:=wayB_len 5 (diffTo l l.length) HDs.out.small HDs.out.few
   have hbx:=boxT_later Hc.out hB hs1
   have hwr:w.heap.size < wr.heap.size:=Nat.lt_of_lt_of_le hs1 hB.size
   obtain ⟨bd,cd,rfl,htl⟩:=own_texts hd hDn
   have Htl:=hid htl
   have Hbx:=hid hbx
   obtain ⟨x0,x1,x2,x3,x4,x5,x6⟩:=hbx
   have hps:ps≠[]:=by
    intro h
    subst h
    exact Hs.out.some_ (List.eq_nil_of_length_eq_zero hpl.symm)
   have hfl2:ps.flatten.length≤10000:=by rw [Hfl.out];omega
   have Hps:=hid hps
   have hu:=uB_len10 (diffTo l l.length).length (by omega)
   have HU0:Hid (∀ w',Calls Tryz.prog 241 #[.int .i64 ((diffTo l l.length).length:Int)] w' fun e w2=>e=.returned (strB (uB (diffTo l l.length).length))∧Below w'.heap.size w' w2):=fun w'=>count_any _ w' (by omega)
   clear hd htl hps hDn
   generalize diffTo l l.length=D at *
   have HE:Hid (∀ w',TextsLie w' bd D→Calls Tryz.prog 196 #[txtC g,.slice (some ⟨bd,0,none⟩) D.length cd] w' fun e w2=>e=.returned (strB (wayB 5 D))∧Below w'.heap.size w' w2):=fun w' h=>eachT g bd cd D w' HDs.out h
   have HJ:Hid (∀ w',w'.ownsRow w0.heap.size 9 1 u6 ps.length (strs ps)→Calls Tryz.prog 194 #[u6] w' fun e w2=>e=.returned (strB ps.flatten)∧Below w'.heap.size w' w2):=fun w' h=>join_own ps w0.heap.size ps.length u6 w' h Hps.out (by omega) (by omega)
   have HRes:Hid (uB D.length++(wayB 5 D++ps.flatten)=wayB 3 l):=by
    show _=_
    rw [HW.out,Hfl.out]
   clear HW Hfl HDs
   generalize wayB 5 D=W5 at *
   generalize ps.flatten=F at *
   generalize uB D.length=U at *
   have HU:Hid (∀ w',Calls Tryz.prog 241 #[.int .i64 (D.length:Int)] w' fun e w2=>e=.returned (strB U)∧Below w'.heap.size w' w2):=HU0
   go_wp2_with fail
   go_region_held3 (fun w'=>w'.cell? ⟨w.heap.size,0,none⟩=some (.slice (some ⟨g,0,none⟩) 3 3)∧w'.cell? ⟨w.heap.size,1,none⟩=some (fnV 202)∧w'.cell? ⟨w.heap.size,2,none⟩=some (fnV 203)∧w'.cell? ⟨w.heap.size,3,none⟩=some (fnV 204)∧w'.cell? ⟨w.heap.size,4,none⟩=some (fnV 205)∧w'.cell? ⟨w.heap.size,5,none⟩=some (fnV 206)∧w'.cell? ⟨w.heap.size,6,none⟩=some (fnV 207)) (first|exact Hbx.out|exact X1|exact X2|exact X3|exact boxT_alloc _ X3|exact X4)
    (first
     | (go_at_call 241;refine (HU.out _).mono ?_;rintro e w3 ⟨rfl,hb3⟩;have X1:=boxT_later Hbx.out (below_undrew hb3) hwr)
     | (go_at_call 196;refine (HE.out _ (Htl.out.later (below_undrew hb3))).mono ?_;rintro e w4 ⟨rfl,hb4⟩;have X2:=boxT_later X1 hb4 (Nat.lt_of_lt_of_le hwr hb3.size))
     | (go_at_call 194;have Z5:=hb5.size;refine (join_lit [U,W5,F] #[strB U,strB W5,strB F] 3 _ rfl rfl ?_ ?_).mono ?_;decide;(simp;omega);rintro e w6 ⟨rfl,hb6⟩;have X4:=boxT_later X3 hb6 (Nat.lt_of_lt_of_le hwr (Nat.le_trans hb3.size (Nat.le_trans hb4.size hb5.size))))
     | (go_at_call 194;refine (HJ.out _ (own_after (own_after hp (below_undrew hb3)) hb4)).mono ?_;rintro e w5 ⟨rfl,hb5⟩;have X3:=boxT_later X2 hb5 (Nat.lt_of_lt_of_le hwr (Nat.le_trans hb3.size hb4.size))))
   have hz:=Hb0.out.size
   have hBB:=Hb0.out.trans (hB.mono hz)
   have HB6:=hid (below_undrew5 hBB hb3 hb4 hb5 hb6)
   clear X1 X2 X3 X4 x0 x1 x2 x3 x4 x5 x6 hb3 hb4 hb5 hb6 hB hp hz hBB
   go_wp2
   go_ret
   exact ⟨ret_str HRes.out,HB6.out⟩
end
section
theorem way_cell {w:World} {g:Nat} {C:Array Value} {t:TypeId} (h:w.heap[g]?=some (.cells C t (0,0))) (j:Nat) {v:Value} (hv:C[j]?=some v):w.cell? ⟨g,j,none⟩=some v:=by
 rw [cell_of_row w g j C t (0,0) h]
 exact hv
theorem conv_byte (w:World) (q:Nat) (a:Int) (h0:0≤a) (h1:a≤255) (h:w.cell? ⟨q,0,none⟩=some (.int .u8 a)) :
  Sem.run Tryz.prog (convert 149 9 (.slice (some ⟨q,0,none⟩) 1 1)) w=.ok (strB [byB a]) w:=by
 refine run_convert_bytes_back (P:=Tryz.prog) _ 149 9 5 ⟨q,0,none⟩ 1 [byB a] Tryz.underlying149 Tryz.underlying5 Tryz.underlying9 ?_
 intro j hj
 match j,hj with
 | 0,_=>simpa [Addr.add,byB_toNat a h0 h1] using h
theorem byteS_any (a:Int) (w:World) (h0:0≤a) (h1:a≤255) :
  Calls Tryz.prog 214 #[.int .u8 a] w fun e w'=>e=.returned (strB [byB a])∧Below w.heap.size w w':=by
 have hc:=conv_byte (w.alloc (.cells #[.int .u8 a] 5)) w.heap.size a h0 h1 (World.cell?_alloc_mark ..)
 go_enter Tryz.func214,Tryz.ntmps214
 go_wp2
 go_ret
 exact ⟨rfl,(Below.refl _ _).alloc (Nat.le_refl _) _⟩
theorem join_at (ps:List (List UInt8)) (C:Array Value) (n:Nat) (w:World) (G:Nat) (hG:w.heap.size=G) (hC:C=(strs ps).toArray) (hl:ps.length=n) (hn:n≤1000) (hs:ps.flatten.length≤1000000) :
  Calls Tryz.prog 194 #[.slice (some ⟨G,0,none⟩) n n] (w.alloc (.cells C 9)) fun e w'=>e=.returned (strB ps.flatten)∧Below w.heap.size w w':=by
 subst hG
 exact join_lit ps C n w hC hl hn hs
theorem bestTo_ne (kind:Int) (l:List CellB) (k:Nat):bestTo kind l (k+1)≠[]:=by
 induction k with
 | zero=>simp [bestTo,candB]
 | succ k ih =>
  rw [bestTo]
  split
  ·simp [candB]
  ·exact ih
theorem below_self_drew (w:World):Below w.heap.size w w.drew:=below_undrew (Below.refl _ _)
theorem below_alloc {w w':World} {o:Obj} (h:Below (w.alloc o).heap.size (w.alloc o) w'):Below w.heap.size w w' :=
 ((Below.refl _ _).alloc (Nat.le_refl _) _).trans (h.mono (by simp))
abbrev SI (w:World) (G:Nat) (e:Int) (F g B:Nat):Prop:=w.cell? ⟨G,0,none⟩=some (.int .u8 e)∧w.cell? ⟨G,1,none⟩=some (fnV F)∧BoxI w g B
abbrev ST (w:World) (G:Nat) (e:Int) (F g B:Nat):Prop:=w.cell? ⟨G,0,none⟩=some (.int .u8 e)∧w.cell? ⟨G,1,none⟩=some (fnV F)∧BoxT w g B
theorem sI_later {w w':World} {G F g B b:Nat} {e:Int} (h:SI w G e F g B) (hb:Below b w w') (hG:G < b) (hl:B < b):SI w' G e F g B :=
 ⟨(hb.cell (p:=⟨G,0,none⟩) hG).trans h.1,(hb.cell (p:=⟨G,1,none⟩) hG).trans h.2.1,boxI_later h.2.2 hb hl⟩
theorem sT_later {w w':World} {G F g B b:Nat} {e:Int} (h:ST w G e F g B) (hb:Below b w w') (hG:G < b) (hl:B < b):ST w' G e F g B :=
 ⟨(hb.cell (p:=⟨G,0,none⟩) hG).trans h.1,(hb.cell (p:=⟨G,1,none⟩) hG).trans h.2.1,boxT_later h.2.2 hb hl⟩
theorem sI_alloc {w:World} {G F g B:Nat} {e:Int} (o:Obj) (h:SI w G e F g B):SI (w.alloc o) G e F g B:=⟨cell_alloc_keep o h.1,cell_alloc_keep o h.2.1,boxI_alloc o h.2.2⟩
theorem sT_alloc {w:World} {G F g B:Nat} {e:Int} (o:Obj) (h:ST w G e F g B):ST (w.alloc o) G e F g B:=⟨cell_alloc_keep o h.1,cell_alloc_keep o h.2.1,boxT_alloc o h.2.2⟩
end
end Go.Proofs.YthhpbhpfagoapaaGreat
