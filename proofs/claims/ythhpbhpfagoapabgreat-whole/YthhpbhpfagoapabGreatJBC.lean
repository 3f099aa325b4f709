import Derived.Test.YthhpbhpfagoapabGreatJAZ
import Derived.Test.YthhpbhpfagoapabGreatJAD
import Derived.Test.YthhpbhpfagoapabGreatJAT
import Derived.Test.YthhpbhpfagoapabGreatJAL
namespace Go.Proofs.YthhpbhpfagoapabGreat
set_option linter.unusedVariables false
set_option linter.unusedSimpArgs false
set_option maxRecDepth 100000
set_option maxHeartbeats 16000000
open Go.RowKit
section
theorem Cj (D:List CellB) (k:Nat) (h:k < D.length) (x:Int):QM (D.take (k+1)) x=if (D[k]).int < QM (D.take k) x then (D[k]).int else QM (D.take k) x:=by
 unfold QM
 rw [List.take_succ_eq_append_getElem h,List.foldl_append]
 rfl
theorem Sn (D:List CellB) (k:Nat) (h:k < D.length) (x:Int):ZI (D.take (k+1)) x=if ZI (D.take k) x < (D[k]).int then (D[k]).int else ZI (D.take k) x:=by
 unfold ZI
 rw [List.take_succ_eq_append_getElem h,List.foldl_append]
 rfl
theorem Nb {D:List CellB} (h:0 < D.length):qT D=(D[0]).int:=by
 cases D with
 | nil=>simp at h
 | cons c D=>rfl
theorem Pi {D:List CellB} (h:0 < D.length):QM (D.take 1) (qT D)=qT D:=by
 cases D with
 | nil=>simp at h
 | cons c D=>simp [QM,qT]
theorem Ba {D:List CellB} (h:0 < D.length):ZI (D.take 1) (qT D)=qT D:=by
 cases D with
 | nil=>simp at h
 | cons c D=>simp [ZI,qT]
theorem Lp (b cap:Nat) (D:List CellB) (w:World) (h1:0 < D.length) (hn:D.length≤60) (hs:∀ c ∈ D,qF c) (hl:IntsLie w b D) :
  Calls Tryz.prog 129 #[.slice (some ⟨b,0,none⟩) D.length cap] w fun e w'=>e=.returned (.int .i64 (QM D (qT D)))∧w'=w:=by
 obtain ⟨hb,hc⟩:=hl
 have h1i:¬ (D.length:Int) < 1:=by omega
 have h0i:(0:Int) < (D.length:Int):=by omega
 have c0:=hc 0 h1
 have HF:=hid (Nb h1)
 have HO:=hid (Pi h1)
 have HR:=hid (fun k=>Ui (D.take k) (fun c hc=>hs c (List.mem_of_mem_take hc)) (qT D) (Qz D hs))
 rw [← HF.out] at c0
 go_enter Tryz.func129,Tryz.ntmps129
 go_wp2
 go_loop [3,4] (fun m i=>∃ k:Nat,1≤k∧k≤D.length∧i=.int .i64 k∧m=.int .i64 (QM (D.take k) (qT D))) (fun _ i=>D.length - (intOf i).toNat)
 case atStart=>exact ⟨1,by omega,by omega,rfl,by rw [HO.out,HF.out]⟩
 case round =>
  obtain ⟨k,hk1,hkl,rfl,rfl⟩:=hrel
  by_cases hlt:k < D.length
  ·have hki:(k:Int) < (D.length:Int):=by omega
   have ck:=hc k hlt
   have HT:=hid (Cj D k hlt (qT D))
   obtain ⟨r1,r2⟩:=HR.out k
   obtain ⟨s1,s2,_⟩:=hs D[k] (List.getElem_mem hlt)
   clear hc c0
   generalize QM (D.take k) (qT D)=M at *
   generalize (D[k]).int=x at *
   by_cases hx:x < M
   ·go_wp2
    go_round
    case rel=>exact ⟨k+1,by omega,by omega,by go_num,by rw [HT.out,if_pos hx]⟩
    case measure=>simp [intOf];omega
   ·have hx2:¬ x < M:=hx
    go_wp2
    go_round
    case rel=>exact ⟨k+1,by omega,by omega,by go_num,by rw [HT.out,if_neg hx]⟩
    case measure=>simp [intOf];omega
  ·have hke:k=D.length:=by omega
   subst hke
   rw [List.take_length]
   go_wp2
   go_ret
   exact ⟨rfl,rfl⟩
theorem SG (b cap:Nat) (D:List CellB) (w:World) (h1:0 < D.length) (hn:D.length≤60) (hs:∀ c ∈ D,qF c) (hl:IntsLie w b D) :
  Calls Tryz.prog 130 #[.slice (some ⟨b,0,none⟩) D.length cap] w fun e w'=>e=.returned (.int .i64 (ZI D (qT D)))∧w'=w:=by
 obtain ⟨hb,hc⟩:=hl
 have h1i:¬ (D.length:Int) < 1:=by omega
 have h0i:(0:Int) < (D.length:Int):=by omega
 have c0:=hc 0 h1
 have HF:=hid (Nb h1)
 have HO:=hid (Ba h1)
 have HR:=hid (fun k=>Vp (D.take k) (fun c hc=>hs c (List.mem_of_mem_take hc)) (qT D) (Qz D hs))
 rw [← HF.out] at c0
 go_enter Tryz.func130,Tryz.ntmps130
 go_wp2
 go_loop [3,4] (fun m i=>∃ k:Nat,1≤k∧k≤D.length∧i=.int .i64 k∧m=.int .i64 (ZI (D.take k) (qT D))) (fun _ i=>D.length - (intOf i).toNat)
 case atStart=>exact ⟨1,by omega,by omega,rfl,by rw [HO.out,HF.out]⟩
 case round =>
  obtain ⟨k,hk1,hkl,rfl,rfl⟩:=hrel
  by_cases hlt:k < D.length
  ·have hki:(k:Int) < (D.length:Int):=by omega
   have ck:=hc k hlt
   have HT:=hid (Sn D k hlt (qT D))
   obtain ⟨r1,r2⟩:=HR.out k
   obtain ⟨s1,s2,_⟩:=hs D[k] (List.getElem_mem hlt)
   clear hc c0
   generalize ZI (D.take k) (qT D)=M at *
   generalize (D[k]).int=x at *
   by_cases hx:M < x
   ·go_wp2
    go_round
    case rel=>exact ⟨k+1,by omega,by omega,by go_num,by rw [HT.out,if_pos hx]⟩
    case measure=>simp [intOf];omega
   ·have hx2:¬ M < x:=hx
    go_wp2
    go_round
    case rel=>exact ⟨k+1,by omega,by omega,by go_num,by rw [HT.out,if_neg hx]⟩
    case measure=>simp [intOf];omega
  ·have hke:k=D.length:=by omega
   subst hke
   rw [List.take_length]
   go_wp2
   go_ret
   exact ⟨rfl,rfl⟩
theorem GU (kind:Int) (l:List CellB) (h:kind≠0∨jm l=[]):Qv kind l=uB (l.length - (jm l).length)++[0]:=by
 unfold Qv
 rw [if_neg (by rintro ⟨h1,h2⟩;rcases h with h|h;exact h h1;exact h2 h)]
theorem TI (l:List CellB) (h:jm l≠[]):Qv 0 l=uB (l.length - (jm l).length)++([1]++zB (QM (jm l) (qT (jm l)))++zB (ZI (jm l) (qT (jm l)))):=by
 unfold Qv
 rw [if_pos ⟨rfl,h⟩]
def Xw (l:List CellB) (k:Nat):Nat:=k - (jm (l.take k)).length
theorem Yg (l:List CellB) (k:Nat) (h:k < l.length):Xw l (k+1)=Xw l k+(if (l[k]).null=true then 1 else 0):=by
 unfold Xw
 have hv:=Zz (l.take k)
 rw [List.length_take] at hv
 rw [JV l k h,List.length_append]
 split<;>simp<;>omega
theorem DM (l:List CellB) (k:Nat):Xw l k≤k:=Nat.sub_le _ _
theorem Gl (l:List CellB):Xw l l.length=l.length - (jm l).length:=by unfold Xw;rw [List.take_length]
theorem Mm (kind:Int) (a:Option Addr) (cap:Nat) (l:List CellB) (w:World) (hk:kind≠0) (hn:l.length≤60) (hl:Lies w a l) :
  Calls Tryz.prog 113 #[.int .i64 kind,.slice a l.length cap] w fun e w'=>e=.returned (strB (Qv kind l))∧Below w.heap.size w w':=by
 have Hl:=hid hl
 have hk2:(kind == 0)=false:=by simp [hk]
 have HM:=hid (GU kind l (.inl hk))
 rw [← Gl] at HM
 clear hl hk
 go_enter Tryz.func113,Tryz.ntmps113
 go_wp2
 go_loopw [5,6,13] (fun v m i wr=>∃ k:Nat,k≤l.length∧i=.int .i64 (k:Int)∧m=.int .i64 ((Xw l k:Nat):Int)∧v=.slice none 0 0∧Below w.heap.size w wr) (fun _ _ i _=>l.length - (intOf i).toNat)
 case atStart=>exact ⟨0,Nat.zero_le _,rfl,rfl,rfl,Below.refl _ _⟩
 case round =>
  obtain ⟨k,hkl,rfl,rfl,rfl,hB⟩:=hrel
  have hvl:=DM l k
  by_cases hlt:k < l.length
  ·obtain ⟨b,off,rfl,hbw,hcell⟩:=(Hl.out.later hB).at_ (List.ne_nil_of_length_pos (by omega))
   obtain ⟨g1,g2,g3⟩:=hcell k hlt
   clear hcell
   have HV:=hid (Yg l k hlt)
   have hki:(k:Int) < (l.length:Int):=by omega
   have HB1:=hid (hB.alloc hB.size (Obj.cells #[.bool (l[k]).null,.int .i64 (l[k]).int,strB (l[k]).text] 34))
   cases hnl:(l[k]).null with
   | true =>
    rw [hnl] at g1 HB1 HV
    clear hnl
    generalize Xw l k=q at *
    go_wp2
    go_roundw
    case rel=>exact ⟨k+1,by omega,by go_num,by rw [HV.out];go_num,rfl,HB1.out⟩
    case measure=>simp [intOf];omega
   | false =>
    rw [hnl] at g1 HB1 HV
    clear hnl
    generalize Xw l k=q at *
    go_wp2
    go_roundw
    case rel=>exact ⟨k+1,by omega,by go_num,by rw [HV.out];rfl,rfl,HB1.out⟩
    case measure=>simp [intOf];omega
  ·have hke:k=l.length:=by omega
   subst hke
   have hul:=qa (Xw l l.length) (by omega)
   generalize Xw l l.length=q at *
   go_wp2_with fail
   refine (zy q _ (by omega)).mono ?_
   rintro e w1 ⟨rfl,hb1⟩
   go_wp2_with fail
   refine (zR 0 _ (by decide) (by decide)).mono ?_
   rintro e w2 ⟨rfl,hb2⟩
   generalize uB q=U at *
   go_wp2_with fail
   refine (QF [U,[byB 0]] _ 2 w2 rfl rfl (by decide) (by simp;omega)).mono ?_
   rintro e w3 ⟨rfl,hb3⟩
   have hB1:=hB.trans (hb1.mono hB.size)
   have hB2:=hB1.trans (hb2.mono hB1.size)
   have hB3:=hB2.trans (hb3.mono hB2.size)
   go_wp2
   go_ret
   exact ⟨xj (by rw [HM.out];simp [byB]),hB3⟩
theorem Cc (a:Option Addr) (cap:Nat) (l:List CellB) (w:World) (hn:l.length≤60) (hs:∀ c ∈ l,qF c) (hl:Lies w a l) :
  Calls Tryz.prog 113 #[.int .i64 0,.slice a l.length cap] w fun e w'=>e=.returned (strB (Qv 0 l))∧Below w.heap.size w w':=by
 obtain ⟨i0,hi,hz0,hz1,hz2⟩:=info_parts Tryz.infoInt
 have Hl:=hid hl
 have Hs:=hid hs
 clear hl hs
 go_enter Tryz.func113,Tryz.ntmps113
 go_wp2
 go_loopw [5,6,13] (fun v m i wr=>∃ k:Nat,k≤l.length∧i=.int .i64 (k:Int)∧m=.int .i64 ((Xw l k:Nat):Int)∧wr.ownsRow w.heap.size 3 1 v (jm (l.take k)).length (Xe (jm (l.take k)))∧Below w.heap.size w wr) (fun _ _ i _=>l.length - (intOf i).toNat)
 case atStart=>exact ⟨0,Nat.zero_le _,rfl,rfl,World.ownsRow_nil _ _ _ _,Below.refl _ _⟩
 case round =>
  obtain ⟨k,hkl,rfl,rfl,hown,hB⟩:=hrel
  have hvl:=DM l k
  have hv2:=Zz (l.take k)
  rw [List.length_take] at hv2
  by_cases hlt:k < l.length
  ·obtain ⟨b,off,rfl,hbw,hcell⟩:=(Hl.out.later hB).at_ (List.ne_nil_of_length_pos (by omega))
   obtain ⟨g1,g2,g3⟩:=hcell k hlt
   clear hcell
   have HV:=hid (Yg l k hlt)
   have HV2:=hid (JV l k hlt)
   have hki:(k:Int) < (l.length:Int):=by omega
   have hB1:=hB.alloc hB.size (Obj.cells #[.bool (l[k]).null,.int .i64 (l[k]).int,strB (l[k]).text] 34)
   have hown1:=hown.alloc (Obj.cells #[.bool (l[k]).null,.int .i64 (l[k]).int,strB (l[k]).text] 34)
   clear hown hB
   cases hnl:(l[k]).null with
   | true =>
    rw [hnl] at g1 hB1 HV HV2 hown1
    have HB1:=hid hB1
    have HO1:=hid hown1
    clear hnl hB1 hown1
    generalize Xw l k=q at *
    go_wp2
    go_roundw
    case rel=>exact ⟨k+1,by omega,by go_num,by rw [HV.out];go_num,by rw [HV2.out];simpa using HO1.out,HB1.out⟩
    case measure=>simp [intOf];omega
   | false =>
    rw [hnl] at g1 hB1 HV HV2 hown1
    clear hnl
    generalize Xw l k=q at *
    generalize jm (l.take k)=V at *
    go_wp2_with (at_builtin;refine wpList_append_own _ rfl (.tmp 23) (.tmp 26) 22 rfl w.heap.size 3 i0 (.int .i64 0) 1 8 Tryz.underlying22 hi hz0 hz1 hz2 rfl (by decide) _ _ _ rfl (hown1.alloc _) ⟨_,0,none⟩ 1 1 [.int .i64 (l[k]).int] rfl rfl ?c1 ?c2 ?c3 ?c4 ?c5 ?_)
    case c1 =>
     have hcl:=qE (wr.alloc (Obj.cells #[.bool false,.int .i64 (l[k]).int,strB (l[k]).text] 34)) #[.int .i64 (l[k]).int] 3
     have e:(wr.alloc (Obj.cells #[.bool false,.int .i64 (l[k]).int,strB (l[k]).text] 34)).heap.size=wr.heap.size+1:=by simp
     rw [e] at hcl
     exact hcl
    case c2=>intro u hu;simp at hu;subst hu;rfl
    case c3=>unfold maxLen;omega
    case c4=>omega
    case c5=>have:=hB1.size;simp at *;omega
    intro v3 w3 hown3 hgr3 _
    have HO3:=hid hown3
    have HB3:=hid ((hB1.alloc hB1.size _).grown hgr3 (by have:=hB1.size;simp at *;omega) (fun k hk=>(hown1.lt k hk).1))
    clear hown1 hown3 hgr3 hB1
    go_wp2
    go_roundw
    case rel=>exact ⟨k+1,by omega,by go_num,by rw [HV.out];rfl,by rw [HV2.out];simpa [Xe] using HO3.out,HB3.out⟩
    case measure=>simp [intOf];omega
  ·have hke:k=l.length:=by omega
   subst hke
   have hul:=qa (Xw l l.length) (by omega)
   rw [List.take_length] at hown hv2
   have hln:=Yk hown
   by_cases hv0:jm l=[]
   ·have HM:=hid (GU 0 l (.inr hv0))
    rw [← Gl] at HM
    have hv1:(jm l).length=0:=by rw [hv0];rfl
    rw [hv1] at hln
    have hln2:=hln wr
    clear hln hv0 hv1 hown
    generalize Xw l l.length=q at *
    go_wp2_with fail
    refine (zy q _ (by omega)).mono ?_
    rintro e w1 ⟨rfl,hb1⟩
    go_wp2_with fail
    refine (zR 0 _ (by decide) (by decide)).mono ?_
    rintro e w2 ⟨rfl,hb2⟩
    generalize uB q=U at *
    go_wp2_with fail
    refine (QF [U,[byB 0]] _ 2 w2 rfl rfl (by decide) (by simp;omega)).mono ?_
    rintro e w3 ⟨rfl,hb3⟩
    have hB1:=hB.trans (hb1.mono hB.size)
    have hB2:=hB1.trans (hb2.mono hB1.size)
    have hB3:=hB2.trans (hb3.mono hB2.size)
    go_wp2
    go_ret
    exact ⟨xj (by rw [HM.out];simp [byB]),hB3⟩
   ·have HM:=hid (TI l hv0)
    rw [← Gl] at HM
    have hln2:=hln wr
    have hvp0:=List.length_pos_iff.2 hv0
    have hvp:(((jm l).length:Int) == 0)=false:=by simp;omega
    obtain ⟨bv,cv,rfl,hvl2⟩:=DK hown hv0
    have Hvl:=hid hvl2
    have HSm:Hid (∀ c ∈ jm l,qF c):=fun c hc=>Hs.out c (List.mem_filter.1 hc).1
    have hfi:=Qz _ HSm.out
    have hlr:=Ui _ HSm.out _ hfi
    have hmr:=Vp _ HSm.out _ hfi
    have hz1:=Gi _ hlr.1 hlr.2
    have hz2:=Gi _ hmr.1 hmr.2
    have Hmin:=hid (Lp bv cv (jm l) wr hvp0 (by omega) HSm.out hvl2)
    have Hmax:=hid (SG bv cv (jm l) wr hvp0 (by omega) HSm.out hvl2)
    clear hln hv0 hown hvl2 HSm Hvl hfi
    generalize Xw l l.length=q at *
    generalize QM (jm l) (qT (jm l))=lo at *
    generalize ZI (jm l) (qT (jm l))=hi2 at *
    generalize (jm l).length=vl at *
    obtain ⟨lr1,lr2⟩:=hlr
    obtain ⟨mr1,mr2⟩:=hmr
    go_wp2_with fail
    refine Hmin.out.mono ?_
    rintro e w0 ⟨rfl,rfl⟩
    go_wp2_with fail
    refine Hmax.out.mono ?_
    rintro e w0' ⟨rfl,rfl⟩
    go_wp2_with fail
    refine (zy q _ (by omega)).mono ?_
    rintro e w1 ⟨rfl,hb1⟩
    go_wp2_with fail
    refine (zR 1 _ (by decide) (by decide)).mono ?_
    rintro e w2 ⟨rfl,hb2⟩
    go_wp2_with fail
    refine (Vj lo _ lr1 lr2).mono ?_
    rintro e w3 ⟨rfl,hb3⟩
    go_wp2_with fail
    refine (Vj hi2 _ mr1 mr2).mono ?_
    rintro e w4 ⟨rfl,hb4⟩
    generalize uB q=U at *
    generalize zB lo=Z1 at *
    generalize zB hi2=Z2 at *
    go_wp2_with fail
    refine (QF [U,[byB 1],Z1,Z2] _ 4 w4 rfl rfl (by decide) (by simp;omega)).mono ?_
    rintro e w5 ⟨rfl,hb5⟩
    have hB1:=hB.trans (hb1.mono hB.size)
    have hB2:=hB1.trans (hb2.mono hB1.size)
    have hB3:=hB2.trans (hb3.mono hB2.size)
    have hB4:=hB3.trans (hb4.mono hB3.size)
    have hB5:=hB4.trans (hb5.mono hB4.size)
    go_wp2
    go_ret
    exact ⟨xj (by rw [HM.out];simp [byB]),hB5⟩
theorem YR (kind:Int) (a:Option Addr) (cap:Nat) (l:List CellB) (w:World) (hn:l.length≤60) (hs:∀ c ∈ l,qF c) (hl:Lies w a l) :
  Calls Tryz.prog 113 #[.int .i64 kind,.slice a l.length cap] w fun e w'=>e=.returned (strB (Qv kind l))∧Below w.heap.size w w':=by
 by_cases hk:kind=0
 ·subst hk;exact Cc a cap l w hn hs hl
 ·exact Mm kind a cap l w hk hn hl
end
section
abbrev pressT:List TypeId:=[131,5,54]
abbrev pressC (tv rv ov lv:Value) (j:JobB):Array Value:=#[tv,.int .i64 j.plan.group,.int .i64 j.plan.page,.int .i64 j.plan.foot,.bool j.plan.told,strB j.pre,.int .i64 j.draw,rv,ov,lv]
def PressAt (w:World) (B q:Nat) (tv rv:Value) (j:JobB) (st:StB):Prop :=
 ∃ ov lv,w.heap[q]?=some (.cells (pressC tv rv ov lv j) 131 (0,0))∧B≤q∧w.ownsRow B 5 1 ov st.out.length (qw st.out)∧w.ownsRow B 54 4 lv st.log.length (qI st.log)
theorem PressAt.later {w w':World} {B q:Nat} {tv rv:Value} {j:JobB} {st:StB} (h:PressAt w B q tv rv j st) (hb:Below w.heap.size w w'):PressAt w' B q tv rv j st:=by
 obtain ⟨ov,lv,h1,h2,h3,h4⟩:=h
 exact ⟨ov,lv,jd hb h1,h2,ju h3 hb,ju h4 hb⟩
theorem PressAt.lt {w:World} {B q:Nat} {tv rv:Value} {j:JobB} {st:StB} (h:PressAt w B q tv rv j st):B≤q∧q < w.heap.size:=by
 obtain ⟨ov,lv,h1,h2,_⟩:=h
 exact ⟨h2,(Array.getElem?_eq_some_iff.1 h1).1⟩
theorem qO {w:World} {q:Nat} {tv rv ov lv:Value} {j:JobB} (h:w.heap[q]?=some (.cells (pressC tv rv ov lv j) 131 (0,0))) :
  (w.cell? ⟨q,0,none⟩=some tv∧w.cell? ⟨q,1,none⟩=some (.int .i64 j.plan.group)∧w.cell? ⟨q,2,none⟩=some (.int .i64 j.plan.page)∧w.cell? ⟨q,5,none⟩=some (strB j.pre)∧w.cell? ⟨q,6,none⟩=some (.int .i64 j.draw)∧w.cell? ⟨q,7,none⟩=some rv∧w.cell? ⟨q,8,none⟩=some ov∧w.cell? ⟨q,9,none⟩=some lv)∧∀ i,w.frozen? ⟨q,i,none⟩=false:=by
 refine ⟨⟨?_,?_,?_,?_,?_,?_,?_,?_⟩,fun i=>frozen_of_row w q i _ _ h⟩
 all_goals rw [jb h];rfl
theorem Tryz.infoSealed:(Tryz.prog.info? 54).map (fun i=>(i.zero,i.size,i.bytes))=some (some (.agg #[.string ⟨#[]⟩,.string ⟨#[]⟩,.string ⟨#[]⟩,.string ⟨#[]⟩]),4,64):=by kernel_rfl
theorem zo {w:World} {b1 b2 e1 e2 s1 s2 n1 n2:Nat} {u v:Value} {xs ys:List Value} (h1:w.ownsRow b1 e1 s1 u n1 xs) (h2:w.ownsRow b2 e2 s2 v n2 ys) (he:e1≠e2):u.ownBlock=none∨u.ownBlock≠v.ownBlock:=by
 rcases h1.2 with ⟨rfl,_⟩|⟨g,cap,cur,rfl,_,hg,_⟩
 ·exact .inl rfl
 ·right
  rcases h2.2 with ⟨rfl,_⟩|⟨g2,cap2,cur2,rfl,_,hg2,_⟩
  ·simp [Value.ownBlock]
  ·simp only [Value.ownBlock,ne_eq,Option.some.injEq]
   rintro rfl
   rw [hg] at hg2
   cases hg2
   exact he rfl
theorem NA {w:World} {b e s n q:Nat} {u:Value} {xs:List Value} {C:Array Value} {t:TypeId} (h:w.ownsRow b e s u n xs) (hq:w.heap[q]?=some (.cells C t (0,0))) (ht:t≠e):u.ownBlock≠some q:=by
 rcases h.2 with ⟨rfl,_⟩|⟨g,cap,cur,rfl,_,hg,_⟩
 ·simp [Value.ownBlock]
 ·simp only [Value.ownBlock,ne_eq,Option.some.injEq]
  rintro rfl
  rw [hg] at hq
  cases hq
  exact ht rfl
theorem jL {w:World} {b e s n:Nat} {u:Value} {xs:List Value} (h:w.ownsRow b e s u n xs):∃ a c,u=.slice a n c:=by
 rcases h.2 with ⟨rfl,rfl⟩|⟨g,cap,cur,rfl,_⟩
 ·exact ⟨none,0,rfl⟩
 ·exact ⟨_,cap,rfl⟩
theorem Ts {w w2:World} {B q n2:Nat} {tv rv ov lv ov2:Value} {j:JobB} {st:StB} {out2:List UInt8}
  (hrow:w.heap[q]?=some (.cells (pressC tv rv ov lv j) 131 (0,0))) (hB:B≤q) (hout:w.ownsRow B 5 1 ov st.out.length (qw st.out)) (hlog:w.ownsRow B 54 4 lv st.log.length (qI st.log))
  (hBw:B≤w.heap.size) (hown2:w2.ownsRow B 5 1 ov2 n2 (qw out2)) (hn:n2=out2.length) (hgr:w.grownBy w2 ov.ownBlock) :
  PressAt (w2.setCell ⟨q,8,none⟩ ov2) B q tv rv j ⟨out2,st.log⟩∧KeptT pressT B w (w2.setCell ⟨q,8,none⟩ ov2):=by
 subst hn
 have hrow2:=jz hgr hout hrow (by decide)
 have hlog2:=hlog.kept hgr (zo hlog hout (by decide))
 have hset:=heap_setCell_same w2 q 8 _ 131 ov2 hrow2
 have hg3:w2.grownBy (w2.setCell ⟨q,8,none⟩ ov2) (some q):=⟨rfl,rfl,rfl,by simp,fun k _ hk=>heap_setCell_other w2 ⟨q,8,none⟩ k ov2 (fun e=>hk (by simp [e]))⟩
 refine ⟨⟨ov2,lv,?_,hB,hown2.kept hg3 (.inr (NA hown2 hrow2 (by decide))),hlog2.kept hg3 (.inr (NA hlog2 hrow2 (by decide)))⟩,?_⟩
 ·rw [hset];rfl
 ·refine KeptT.set ?_ hrow2 hB (by decide) ov2
  exact (KeptT.refl _ _ _).grown hgr hBw (Ek hout (by decide))
theorem Pe {w w2:World} {B q n2:Nat} {tv rv ov lv lv2:Value} {j:JobB} {st:StB} {log2:List SealB}
  (hrow:w.heap[q]?=some (.cells (pressC tv rv ov lv j) 131 (0,0))) (hB:B≤q) (hout:w.ownsRow B 5 1 ov st.out.length (qw st.out)) (hlog:w.ownsRow B 54 4 lv st.log.length (qI st.log))
  (hBw:B≤w.heap.size) (hown2:w2.ownsRow B 54 4 lv2 n2 (qI log2)) (hn:n2=log2.length) (hgr:w.grownBy w2 lv.ownBlock) :
  PressAt (w2.setCell ⟨q,9,none⟩ lv2) B q tv rv j ⟨st.out,log2⟩∧KeptT pressT B w (w2.setCell ⟨q,9,none⟩ lv2):=by
 subst hn
 have hrow2:=jz hgr hlog hrow (by decide)
 have hout2:=hout.kept hgr (zo hout hlog (by decide))
 have hset:=heap_setCell_same w2 q 9 _ 131 lv2 hrow2
 have hg3:w2.grownBy (w2.setCell ⟨q,9,none⟩ lv2) (some q):=⟨rfl,rfl,rfl,by simp,fun k _ hk=>heap_setCell_other w2 ⟨q,9,none⟩ k lv2 (fun e=>hk (by simp [e]))⟩
 refine ⟨⟨ov,lv2,?_,hB,hout2.kept hg3 (.inr (NA hout2 hrow2 (by decide))),hown2.kept hg3 (.inr (NA hown2 hrow2 (by decide)))⟩,?_⟩
 ·rw [hset];rfl
 ·refine KeptT.set ?_ hrow2 hB (by decide) lv2
  exact (KeptT.refl _ _ _).grown hgr hBw (Ek hlog (by decide))
theorem EG (ps:List (List UInt8)) (k:Nat) (h:k < ps.length):(ps.take (k+1)).flatten=(ps.take k).flatten++ps[k]:=by
 rw [List.take_succ_eq_append_getElem h,List.flatten_append];simp
theorem Nj (ps:List (List UInt8)) (k:Nat):(ps.take k).flatten.length≤ps.flatten.length:=by
 have:ps.flatten=(ps.take k).flatten++(ps.drop k).flatten:=by rw [← List.flatten_append,List.take_append_drop]
 rw [this,List.length_append];omega
theorem Zh (B q pb n:Nat) (tv rv:Value) (j:JobB) (st:StB) (ps:List (List UInt8)) (w:World) (hn:ps.length=n) (hn9:n≤1000) (hs:st.out.length+ps.flatten.length≤100000000)
  (hB:B≤w.heap.size) (hp:PressAt w B q tv rv j st) (hps:w.heap[pb]?=some (.cells (zl ps).toArray 9 (0,0))) :
  Calls Tryz.prog 62 #[.pointer (some ⟨q,0,none⟩),.slice (some ⟨pb,0,none⟩) n n] w fun e w'=>e=.returned (.tuple #[])∧PressAt w' B q tv rv j ⟨st.out++ps.flatten,st.log⟩∧KeptT pressT B w w':=by
 subst hn
 obtain ⟨i0,hi,hz0,hz1,hz2⟩:=info_parts Tryz.infoU8
 have Hp:=hid hp
 have Hps:=hid hps
 clear hp hps
 go_enter Tryz.func62,Tryz.ntmps62
 go_wp2
 go_loopw [8] (fun i wr=>∃ k:Nat,k≤ps.length∧i=.int .i64 (k:Int)∧PressAt wr B q tv rv j ⟨st.out++(ps.take k).flatten,st.log⟩∧KeptT pressT B w wr) (fun i _=>ps.length - (intOf i).toNat)
 case atStart=>exact ⟨0,Nat.zero_le _,rfl,by simpa using Hp.out,KeptT.refl _ _ _⟩
 case round =>
  obtain ⟨k,hkl,rfl,hpr,hK⟩:=hrel
  by_cases hlt:k < ps.length
  ·have hki:(k:Int) < (ps.length:Int):=by omega
   obtain ⟨ov,lv,hrow,hBq,hout,hlog⟩:=hpr
   have hpk:=hK.row Hps.out (by decide)
   have cp:wr.cell? ⟨pb,k,none⟩=some (strB ps[k]):=by rw [jb hpk];simp [zl,hlt]
   obtain ⟨⟨c0,c1,c2,c5,c6,c7,c8,c9⟩,cf⟩:=qO hrow
   have cf8:=cf 8
   have HF:=hid (EG ps k hlt)
   have hle:=Nj ps (k+1)
   rw [HF.out,List.length_append] at hle
   have HA:Hid (st.out++(ps.take (k+1)).flatten=(st.out++(ps.take k).flatten)++ps[k]):=by show _=_;rw [HF.out,List.append_assoc]
   have hlen:(st.out++(ps.take k).flatten).length+(ps[k]).length≤100000000:=by rw [List.length_append];omega
   have hBr:=Nat.le_trans hB hK.size
   have hz:=jM ps[k]
   simp only at hout hlog
   generalize st.out++(ps.take k).flatten=out0 at *
   generalize ps[k]=part at *
   clear hpk c0 c1 c2 c5 c6 c7 c9 cf hle
   go_wp2_with (at_builtin;refine Lib.wpList_append_own_string _ rfl (.tmp 16) (.tmp 17) 64 9 rfl B 5 i0 Tryz.underlying64 Tryz.underlying9 hi hz0 hz1 hz2 _ _ _ rfl hout ⟨part.toArray⟩ rfl (by unfold maxLen;omega) (by omega) hBr ?_;intro v2 w2 hown2 hgr2 _;obtain ⟨a2,c2,rfl⟩:=jL hown2;have cf2:w2.frozen? ⟨q,8,none⟩=false:=frozen_of_row w2 q 8 _ _ (jz hgr2 hout hrow (by decide));have hex2:w2.cell? ⟨q,8,none⟩=some ov:=(jb (jz hgr2 hout hrow (by decide))).trans rfl)
   have HR:=hid (Ts (st:=⟨out0,st.log⟩) (out2:=out0++part) hrow hBq hout hlog hBr (by rw [Xl];exact hown2) (by rw [List.length_append,hz]) hgr2)
   clear hrow hout hlog hown2 hgr2 c8 cf8 cp
   go_wp2
   go_roundw
   case rel=>exact ⟨k+1,by omega,by go_num,by rw [HA.out];exact HR.out.1,hK.trans HR.out.2⟩
   case measure=>simp [intOf];omega
  ·have hke:k=ps.length:=by omega
   subst hke
   rw [List.take_length] at hpr
   go_wp2
   go_end0
   exact ⟨rfl,hpr,hK⟩
end
end Go.Proofs.YthhpbhpfagoapabGreat
