import Derived.Test.YthhpbhpfagoapaaGreatWExtra
import Derived.Test.YthhpbhpfagoapaaGreatJAB
namespace Go.Proofs.YthhpbhpfagoapaaGreat
set_option linter.unusedVariables false
set_option linter.unusedSimpArgs false
set_option maxRecDepth 100000
set_option maxHeartbeats 16000000
open Go.RowKit
theorem least_take (D:List CellB) (k:Nat) (h:k < D.length) (x:Int):leastB (D.take (k+1)) x=if (D[k]).int < leastB (D.take k) x then (D[k]).int else leastB (D.take k) x:=by
 unfold leastB
 rw [List.take_succ_eq_append_getElem h,List.foldl_append]
 rfl
theorem most_take (D:List CellB) (k:Nat) (h:k < D.length) (x:Int):mostB (D.take (k+1)) x=if mostB (D.take k) x < (D[k]).int then (D[k]).int else mostB (D.take k) x:=by
 unfold mostB
 rw [List.take_succ_eq_append_getElem h,List.foldl_append]
 rfl
theorem firstInt_eq {D:List CellB} (h:0 < D.length):firstInt D=(D[0]).int:=by
 cases D with
 | nil=>simp at h
 | cons c D=>rfl
theorem least_one {D:List CellB} (h:0 < D.length):leastB (D.take 1) (firstInt D)=firstInt D:=by
 cases D with
 | nil=>simp at h
 | cons c D=>simp [leastB,firstInt]
theorem most_one {D:List CellB} (h:0 < D.length):mostB (D.take 1) (firstInt D)=firstInt D:=by
 cases D with
 | nil=>simp at h
 | cons c D=>simp [mostB,firstInt]
theorem min_does (b cap:Nat) (D:List CellB) (w:World) (h1:0 < D.length) (hn:D.length≤60) (hs:∀ c ∈ D,smallC c) (hl:IntsLie w b D) :
  Calls Tryz.prog 261 #[.slice (some ⟨b,0,none⟩) D.length cap] w fun e w'=>e=.returned (.int .i64 (leastB D (firstInt D)))∧w'=w:=by
 obtain ⟨hb,hc⟩:=hl
 have h1i:¬ (D.length:Int) < 1:=by omega
 have h0i:(0:Int) < (D.length:Int):=by omega
 have c0:=hc 0 h1
 have HF:=hid (firstInt_eq h1)
 have HO:=hid (least_one h1)
 have HR:=hid (fun k=>least_range (D.take k) (fun c hc=>hs c (List.mem_of_mem_take hc)) (firstInt D) (firstInt_range D hs))
 rw [← HF.out] at c0
 go_enter Tryz.func261,Tryz.ntmps261
 go_wp2
 go_loop [3,4] (fun m i=>∃ k:Nat,1≤k∧k≤D.length∧i=.int .i64 k∧m=.int .i64 (leastB (D.take k) (firstInt D))) (fun _ i=>D.length - (intOf i).toNat)
 case atStart=>exact ⟨1,by omega,by omega,rfl,by rw [HO.out,HF.out]⟩
 case round =>
  obtain ⟨k,hk1,hkl,rfl,rfl⟩:=hrel
  by_cases hlt:k < D.length
  ·have hki:(k:Int) < (D.length:Int):=by omega
   have ck:=hc k hlt
   have HT:=hid (least_take D k hlt (firstInt D))
   obtain ⟨r1,r2⟩:=HR.out k
   obtain ⟨s1,s2,_⟩:=hs D[k] (List.getElem_mem hlt)
   clear hc c0
   generalize leastB (D.take k) (firstInt D)=M at *
   generalize (D[k]).int=x at *
   by_cases hx:x < M
   ·go_wp2
    go_round
    case rel=>exact ⟨k+1,by omega,by omega,by go_num,by rw [HT.out,if_pos hx]⟩
    case measure=>simp [intOf];omega
   ·have hx2:¬ x < M:=hx
    go_wp2
    go_round
    case rel=>exact ⟨k+1,by omega,by omega,by go_num,by rw [HT.out,if_neg hx]⟩
    case measure=>simp [intOf];omega
  ·have hke:k=D.length:=by omega
   subst hke
   rw [List.take_length]
   go_wp2
   go_ret
   exact ⟨rfl,rfl⟩
theorem max_does (b cap:Nat) (D:List CellB) (w:World) (h1:0 < D.length) (hn:D.length≤60) (hs:∀ c ∈ D,smallC c) (hl:IntsLie w b D) :
  Calls Tryz.prog 262 #[.slice (some ⟨b,0,none⟩) D.length cap] w fun e w'=>e=.returned (.int .i64 (mostB D (firstInt D)))∧w'=w:=by
 obtain ⟨hb,hc⟩:=hl
 have h1i:¬ (D.length:Int) < 1:=by omega
 have h0i:(0:Int) < (D.length:Int):=by omega
 have c0:=hc 0 h1
 have HF:=hid (firstInt_eq h1)
 have HO:=hid (most_one h1)
 have HR:=hid (fun k=>most_range (D.take k) (fun c hc=>hs c (List.mem_of_mem_take hc)) (firstInt D) (firstInt_range D hs))
 rw [← HF.out] at c0
 go_enter Tryz.func262,Tryz.ntmps262
 go_wp2
 go_loop [3,4] (fun m i=>∃ k:Nat,1≤k∧k≤D.length∧i=.int .i64 k∧m=.int .i64 (mostB (D.take k) (firstInt D))) (fun _ i=>D.length - (intOf i).toNat)
 case atStart=>exact ⟨1,by omega,by omega,rfl,by rw [HO.out,HF.out]⟩
 case round =>
  obtain ⟨k,hk1,hkl,rfl,rfl⟩:=hrel
  by_cases hlt:k < D.length
  ·have hki:(k:Int) < (D.length:Int):=by omega
   have ck:=hc k hlt
   have HT:=hid (most_take D k hlt (firstInt D))
   obtain ⟨r1,r2⟩:=HR.out k
   obtain ⟨s1,s2,_⟩:=hs D[k] (List.getElem_mem hlt)
   clear hc c0
   generalize mostB (D.take k) (firstInt D)=M at *
   generalize (D[k]).int=x at *
   by_cases hx:M < x
   ·go_wp2
    go_round
    case rel=>exact ⟨k+1,by omega,by omega,by go_num,by rw [HT.out,if_pos hx]⟩
    case measure=>simp [intOf];omega
   ·have hx2:¬ M < x:=hx
    go_wp2
    go_round
    case rel=>exact ⟨k+1,by omega,by omega,by go_num,by rw [HT.out,if_neg hx]⟩
    case measure=>simp [intOf];omega
  ·have hke:k=D.length:=by omega
   subst hke
   rw [List.take_length]
   go_wp2
   go_ret
   exact ⟨rfl,rfl⟩
theorem meta_noInts (kind:Int) (l:List CellB) (h:kind≠0∨valuesB l=[]):metaB kind l=uB (l.length - (valuesB l).length)++[0]:=by
 unfold metaB
 rw [if_neg (by rintro ⟨h1,h2⟩;rcases h with h|h;exact h h1;exact h2 h)]
theorem meta_ints (l:List CellB) (h:valuesB l≠[]):metaB 0 l=uB (l.length - (valuesB l).length)++([1]++zB (leastB (valuesB l) (firstInt (valuesB l)))++zB (mostB (valuesB l) (firstInt (valuesB l)))):=by
 unfold metaB
 rw [if_pos ⟨rfl,h⟩]
def nullN (l:List CellB) (k:Nat):Nat:=k - (valuesB (l.take k)).length
theorem nullN_step (l:List CellB) (k:Nat) (h:k < l.length):nullN l (k+1)=nullN l k+(if (l[k]).null=true then 1 else 0):=by
 unfold nullN
 have hv:=valuesB_len (l.take k)
 rw [List.length_take] at hv
 rw [valuesB_step l k h,List.length_append]
 split<;>simp<;>omega
theorem nullN_le (l:List CellB) (k:Nat):nullN l k≤k:=Nat.sub_le _ _
theorem nullN_all (l:List CellB):nullN l l.length=l.length - (valuesB l).length:=by unfold nullN;rw [List.take_length]
theorem metaT_does (kind:Int) (a:Option Addr) (cap:Nat) (l:List CellB) (w:World) (hk:kind≠0) (hn:l.length≤60) (hl:Lies w a l) :
  Calls Tryz.prog 234 #[.int .i64 kind,.slice a l.length cap] w fun e w'=>e=.returned (strB (metaB kind l))∧Below w.heap.size w w':=by
 have Hl:=hid hl
 have hk2:(kind == 0)=false:=by simp [hk]
 have HM:=hid (meta_noInts kind l (.inl hk))
 rw [← nullN_all] at HM
 clear hl hk
 go_enter Tryz.func234,Tryz.ntmps234
 go_wp2
 go_loopw [5,6,13] (fun v m i wr=>∃ k:Nat,k≤l.length∧i=.int .i64 (k:Int)∧m=.int .i64 ((nullN l k:Nat):Int)∧v=.slice none 0 0∧Below w.heap.size w wr) (fun _ _ i _=>l.length - (intOf i).toNat)
 case atStart=>exact ⟨0,Nat.zero_le _,rfl,rfl,rfl,Below.refl _ _⟩
 case round =>
  obtain ⟨k,hkl,rfl,rfl,rfl,hB⟩:=hrel
  have hvl:=nullN_le l k
  by_cases hlt:k < l.length
  ·obtain ⟨b,off,rfl,hbw,hcell⟩:=(Hl.out.later hB).at_ (List.ne_nil_of_length_pos (by omega))
   obtain ⟨g1,g2,g3⟩:=hcell k hlt
   clear hcell
   have HV:=hid (nullN_step l k hlt)
   have hki:(k:Int) < (l.length:Int):=by omega
   have HB1:=hid (hB.alloc hB.size (Obj.cells #[.bool (l[k]).null,.int .i64 (l[k]).int,strB (l[k]).text] 58))
   cases hnl:(l[k]).null with
   | true =>
    rw [hnl] at g1 HB1 HV
    clear hnl
    generalize nullN l k=q at *
    go_wp2
    go_roundw
    case rel=>exact ⟨k+1,by omega,by go_num,by rw [HV.out];go_num,rfl,HB1.out⟩
    case measure=>simp [intOf];omega
   | false =>
    rw [hnl] at g1 HB1 HV
    clear hnl
    generalize nullN l k=q at *
    go_wp2
    go_roundw
    case rel=>exact ⟨k+1,by omega,by go_num,by rw [HV.out];rfl,rfl,HB1.out⟩
    case measure=>simp [intOf];omega
  ·have hke:k=l.length:=by omega
   subst hke
   have hul:=uB_len10 (nullN l l.length) (by omega)
   generalize nullN l l.length=q at *
   go_wp2_with fail
   refine (count_any q _ (by omega)).mono ?_
   rintro e w1 ⟨rfl,hb1⟩
   go_wp2_with fail
   refine (byteS_any 0 _ (by decide) (by decide)).mono ?_
   rintro e w2 ⟨rfl,hb2⟩
   generalize uB q=U at *
   go_wp2_with fail
   refine (join_lit [U,[byB 0]] _ 2 w2 rfl rfl (by decide) (by simp;omega)).mono ?_
   rintro e w3 ⟨rfl,hb3⟩
   have hB1:=hB.trans (hb1.mono hB.size)
   have hB2:=hB1.trans (hb2.mono hB1.size)
   have hB3:=hB2.trans (hb3.mono hB2.size)
   go_wp2
   go_ret
   exact ⟨ret_str (by rw [HM.out];simp [byB]),hB3⟩
theorem metaI_does (a:Option Addr) (cap:Nat) (l:List CellB) (w:World) (hn:l.length≤60) (hs:∀ c ∈ l,smallC c) (hl:Lies w a l) :
  Calls Tryz.prog 234 #[.int .i64 0,.slice a l.length cap] w fun e w'=>e=.returned (strB (metaB 0 l))∧Below w.heap.size w w':=by
 obtain ⟨i0,hi,hz0,hz1,hz2⟩:=info_parts Tryz.infoInt
 have Hl:=hid hl
 have Hs:=hid hs
 clear hl hs
 go_enter Tryz.func234,Tryz.ntmps234
 go_wp2
 go_loopw [5,6,13] (fun v m i wr=>∃ k:Nat,k≤l.length∧i=.int .i64 (k:Int)∧m=.int .i64 ((nullN l k:Nat):Int)∧wr.ownsRow w.heap.size 3 1 v (valuesB (l.take k)).length (ints (valuesB (l.take k)))∧Below w.heap.size w wr) (fun _ _ i _=>l.length - (intOf i).toNat)
 case atStart=>exact ⟨0,Nat.zero_le _,rfl,rfl,World.ownsRow_nil _ _ _ _,Below.refl _ _⟩
 case round =>
  obtain ⟨k,hkl,rfl,rfl,hown,hB⟩:=hrel
  have hvl:=nullN_le l k
  have hv2:=valuesB_len (l.take k)
  rw [List.length_take] at hv2
  by_cases hlt:k < l.length
  ·obtain ⟨b,off,rfl,hbw,hcell⟩:=(Hl.out.later hB).at_ (List.ne_nil_of_length_pos (by omega))
   obtain ⟨g1,g2,g3⟩:=hcell k hlt
   clear hcell
   have HV:=hid (nullN_step l k hlt)
   have HV2:=hid (valuesB_step l k hlt)
   have hki:(k:Int) < (l.length:Int):=by omega
   have hB1:=hB.alloc hB.size (Obj.cells #[.bool (l[k]).null,.int .i64 (l[k]).int,strB (l[k]).text] 58)
   have hown1:=hown.alloc (Obj.cells #[.bool (l[k]).null,.int .i64 (l[k]).int,strB (l[k]).text] 58)
   clear hown hB
   cases hnl:(l[k]).null with
   | true =>
    rw [hnl] at g1 hB1 HV HV2 hown1
    have HB1:=hid hB1
    have HO1:=hid hown1
    clear hnl hB1 hown1
    generalize nullN l k=q at *
    go_wp2
    go_roundw
    case rel=>exact ⟨k+1,by omega,by go_num,by rw [HV.out];go_num,by rw [HV2.out];simpa using HO1.out,HB1.out⟩
    case measure=>simp [intOf];omega
   | false =>
    rw [hnl] at g1 hB1 HV HV2 hown1
    clear hnl
    generalize nullN l k=q at *
    generalize valuesB (l.take k)=V at *
    go_wp2_with (at_builtin;refine wpList_append_own _ rfl (.tmp 23) (.tmp 26) 82 rfl w.heap.size 3 i0 (.int .i64 0) 1 8 Tryz.underlying82 hi hz0 hz1 hz2 rfl (by decide) _ _ _ rfl (hown1.alloc _) ⟨_,0,none⟩ 1 1 [.int .i64 (l[k]).int] rfl rfl ?c1 ?c2 ?c3 ?c4 ?c5 ?_)
    case c1 =>
     have hcl:=cell_laid (wr.alloc (Obj.cells #[.bool false,.int .i64 (l[k]).int,strB (l[k]).text] 58)) #[.int .i64 (l[k]).int] 3
     have e:(wr.alloc (Obj.cells #[.bool false,.int .i64 (l[k]).int,strB (l[k]).text] 58)).heap.size=wr.heap.size+1:=by simp
     rw [e] at hcl
     exact hcl
    case c2=>intro u hu;simp at hu;subst hu;rfl
    case c3=>unfold maxLen;omega
    case c4=>omega
    case c5=>have:=hB1.size;simp at *;omega
    intro v3 w3 hown3 hgr3 _
    have HO3:=hid hown3
    have HB3:=hid ((hB1.alloc hB1.size _).grown hgr3 (by have:=hB1.size;simp at *;omega) (fun k hk=>(hown1.lt k hk).1))
    clear hown1 hown3 hgr3 hB1
    go_wp2
    go_roundw
    case rel=>exact ⟨k+1,by omega,by go_num,by rw [HV.out];rfl,by rw [HV2.out];simpa [ints] using HO3.out,HB3.out⟩
    case measure=>simp [intOf];omega
  ·have hke:k=l.length:=by omega
   subst hke
   have hul:=uB_len10 (nullN l l.length) (by omega)
   rw [List.take_length] at hown hv2
   have hln:=ints_len hown
   by_cases hv0:valuesB l=[]
   ·have HM:=hid (meta_noInts 0 l (.inr hv0))
    rw [← nullN_all] at HM
    have hv1:(valuesB l).length=0:=by rw [hv0];rfl
    rw [hv1] at hln
    have hln2:=hln wr
    clear hln hv0 hv1 hown
    generalize nullN l l.length=q at *
    go_wp2_with fail
    refine (count_any q _ (by omega)).mono ?_
    rintro e w1 ⟨rfl,hb1⟩
    go_wp2_with fail
    refine (byteS_any 0 _ (by decide) (by decide)).mono ?_
    rintro e w2 ⟨rfl,hb2⟩
    generalize uB q=U at *
    go_wp2_with fail
    refine (join_lit [U,[byB 0]] _ 2 w2 rfl rfl (by decide) (by simp;omega)).mono ?_
    rintro e w3 ⟨rfl,hb3⟩
    have hB1:=hB.trans (hb1.mono hB.size)
    have hB2:=hB1.trans (hb2.mono hB1.size)
    have hB3:=hB2.trans (hb3.mono hB2.size)
    go_wp2
    go_ret
    exact ⟨ret_str (by rw [HM.out];simp [byB]),hB3⟩
   ·have HM:=hid (meta_ints l hv0)
    rw [← nullN_all] at HM
    have hln2:=hln wr
    have hvp0:=List.length_pos_iff.2 hv0
    have hvp:(((valuesB l).length:Int) == 0)=false:=by simp;omega
    obtain ⟨bv,cv,rfl,hvl2⟩:=ints_lie hown hv0
    have Hvl:=hid hvl2
    have HSm:Hid (∀ c ∈ valuesB l,smallC c):=fun c hc=>Hs.out c (List.mem_filter.1 hc).1
    have hfi:=firstInt_range _ HSm.out
    have hlr:=least_range _ HSm.out _ hfi
    have hmr:=most_range _ HSm.out _ hfi
    have hz1:=zB_len _ hlr.1 hlr.2
    have hz2:=zB_len _ hmr.1 hmr.2
    have Hmin:=hid (min_does bv cv (valuesB l) wr hvp0 (by omega) HSm.out hvl2)
    have Hmax:=hid (max_does bv cv (valuesB l) wr hvp0 (by omega) HSm.out hvl2)
    clear hln hv0 hown hvl2 HSm Hvl hfi
    generalize nullN l l.length=q at *
    generalize leastB (valuesB l) (firstInt (valuesB l))=lo at *
    generalize mostB (valuesB l) (firstInt (valuesB l))=hi2 at *
    generalize (valuesB l).length=vl at *
    obtain ⟨lr1,lr2⟩:=hlr
    obtain ⟨mr1,mr2⟩:=hmr
    go_wp2_with fail
    refine Hmin.out.mono ?_
    rintro e w0 ⟨rfl,rfl⟩
    go_wp2_with fail
    refine Hmax.out.mono ?_
    rintro e w0' ⟨rfl,rfl⟩
    go_wp2_with fail
    refine (count_any q _ (by omega)).mono ?_
    rintro e w1 ⟨rfl,hb1⟩
    go_wp2_with fail
    refine (byteS_any 1 _ (by decide) (by decide)).mono ?_
    rintro e w2 ⟨rfl,hb2⟩
    go_wp2_with fail
    refine (signed_any lo _ lr1 lr2).mono ?_
    rintro e w3 ⟨rfl,hb3⟩
    go_wp2_with fail
    refine (signed_any hi2 _ mr1 mr2).mono ?_
    rintro e w4 ⟨rfl,hb4⟩
    generalize uB q=U at *
    generalize zB lo=Z1 at *
    generalize zB hi2=Z2 at *
    go_wp2_with fail
    refine (join_lit [U,[byB 1],Z1,Z2] _ 4 w4 rfl rfl (by decide) (by simp;omega)).mono ?_
    rintro e w5 ⟨rfl,hb5⟩
    have hB1:=hB.trans (hb1.mono hB.size)
    have hB2:=hB1.trans (hb2.mono hB1.size)
    have hB3:=hB2.trans (hb3.mono hB2.size)
    have hB4:=hB3.trans (hb4.mono hB3.size)
    have hB5:=hB4.trans (hb5.mono hB4.size)
    go_wp2
    go_ret
    exact ⟨ret_str (by rw [HM.out];simp [byB]),hB5⟩
theorem meta_does (kind:Int) (a:Option Addr) (cap:Nat) (l:List CellB) (w:World) (hn:l.length≤60) (hs:∀ c ∈ l,smallC c) (hl:Lies w a l) :
  Calls Tryz.prog 234 #[.int .i64 kind,.slice a l.length cap] w fun e w'=>e=.returned (strB (metaB kind l))∧Below w.heap.size w w':=by
 by_cases hk:kind=0
 ·subst hk;exact metaI_does a cap l w hn hs hl
 ·exact metaT_does kind a cap l w hk hn hl
end Go.Proofs.YthhpbhpfagoapaaGreat
