import Derived.Test.YthhpbhpfagoapaaGreatJAA
import Derived.Test.YthhpbhpfagoapaaGreatJAY
import Derived.Test.YthhpbhpfagoapaaGreatDPage
import Derived.Test.YthhpbhpfagoapaaGreatJAV
import Derived.Test.YthhpbhpfagoapaaGreatJAB
namespace Go.Proofs.YthhpbhpfagoapaaGreat
set_option linter.unusedVariables false
set_option linter.unusedSimpArgs false
set_option maxRecDepth 100000
set_option maxHeartbeats 16000000
open Go.RowKit
section
theorem DQ (D:List CellB) (k:Nat) (h:k < D.length) (x:Int):zG (D.take (k+1)) x=if (D[k]).int < zG (D.take k) x then (D[k]).int else zG (D.take k) x:=by
 unfold zG
 rw [ax h,List.foldl_append]
 rfl
theorem Tw (D:List CellB) (k:Nat) (h:k < D.length) (x:Int):JZ (D.take (k+1)) x=if JZ (D.take k) x < (D[k]).int then (D[k]).int else JZ (D.take k) x:=by
 unfold JZ
 rw [ax h,List.foldl_append]
 rfl
theorem Gq {D:List CellB} (h:0 < D.length):qJ D=(D[0]).int:=by
 cases D with
 | nil=>simp at h
 | cons c D=>rfl
theorem CS {D:List CellB} (h:0 < D.length):zG (D.take 1) (qJ D)=qJ D:=by
 cases D with
 | nil=>simp at h
 | cons c D=>simp [zG,qJ]
theorem Pa {D:List CellB} (h:0 < D.length):JZ (D.take 1) (qJ D)=qJ D:=by
 cases D with
 | nil=>simp at h
 | cons c D=>simp [JZ,qJ]
theorem Pi (b cap:Nat) (D:List CellB) (w:World) (h1:0 < D.length) (hn:D.length≤60) (hs:∀ c ∈ D,qr c) (hl:IntsLie w b D) :
  Calls Tryz.prog 261 #[.slice (some ⟨b,0,none⟩) D.length cap] w fun e w'=>e=.returned (.int .i64 (zG D (qJ D)))∧w'=w:=by
 obtain ⟨hb,hc⟩:=hl
 have h1i:¬ (D.length:Int) < 1:=by omega
 have h0i:(0:Int) < (D.length:Int):=by omega
 have c0:=hc 0 h1
 have HF:=hid (Gq h1)
 have HO:=hid (CS h1)
 have HR:=hid (fun k=>Zj (D.take k) (fun c hc=>hs c (bg hc)) (qJ D) (JH D hs))
 rw [← HF.out] at c0
 go_enter Tryz.func261,Tryz.ntmps261
 go_wp2
 go_loop [3,4] (fun m i=>∃ k:Nat,1≤k∧k≤D.length∧i=.int .i64 k∧m=.int .i64 (zG (D.take k) (qJ D))) (fun _ i=>D.length - (intOf i).toNat)
 case atStart=>exact ⟨1,by omega,by omega,rfl,by rw [HO.out,HF.out]⟩
 case round =>
  obtain ⟨k,hk1,hkl,rfl,rfl⟩:=hrel
  by_cases hlt:k < D.length
  ·have hki:(k:Int) < (D.length:Int):=by omega
   have ck:=hc k hlt
   have HT:=hid (DQ D k hlt (qJ D))
   obtain ⟨r1,r2⟩:=HR.out k
   obtain ⟨s1,s2,_⟩:=hs D[k] (al hlt)
   clear hc c0
   generalize zG (D.take k) (qJ D)=M at *
   generalize (D[k]).int=x at *
   by_cases hx:x < M
   ·go_wp2
    go_round
    case rel=>exact ⟨k+1,by omega,by omega,by go_num,by rw [HT.out,aw hx]⟩
    case measure=>simp [intOf];omega
   ·have hx2:¬ x < M:=hx
    go_wp2
    go_round
    case rel=>exact ⟨k+1,by omega,by omega,by go_num,by rw [HT.out,aj hx]⟩
    case measure=>simp [intOf];omega
  ·have hke:k=D.length:=by omega
   subst hke
   rw [aF]
   go_wp2
   go_ret
   exact ⟨rfl,rfl⟩
theorem PK (b cap:Nat) (D:List CellB) (w:World) (h1:0 < D.length) (hn:D.length≤60) (hs:∀ c ∈ D,qr c) (hl:IntsLie w b D) :
  Calls Tryz.prog 262 #[.slice (some ⟨b,0,none⟩) D.length cap] w fun e w'=>e=.returned (.int .i64 (JZ D (qJ D)))∧w'=w:=by
 obtain ⟨hb,hc⟩:=hl
 have h1i:¬ (D.length:Int) < 1:=by omega
 have h0i:(0:Int) < (D.length:Int):=by omega
 have c0:=hc 0 h1
 have HF:=hid (Gq h1)
 have HO:=hid (Pa h1)
 have HR:=hid (fun k=>ZX (D.take k) (fun c hc=>hs c (bg hc)) (qJ D) (JH D hs))
 rw [← HF.out] at c0
 go_enter Tryz.func262,Tryz.ntmps262
 go_wp2
 go_loop [3,4] (fun m i=>∃ k:Nat,1≤k∧k≤D.length∧i=.int .i64 k∧m=.int .i64 (JZ (D.take k) (qJ D))) (fun _ i=>D.length - (intOf i).toNat)
 case atStart=>exact ⟨1,by omega,by omega,rfl,by rw [HO.out,HF.out]⟩
 case round =>
  obtain ⟨k,hk1,hkl,rfl,rfl⟩:=hrel
  by_cases hlt:k < D.length
  ·have hki:(k:Int) < (D.length:Int):=by omega
   have ck:=hc k hlt
   have HT:=hid (Tw D k hlt (qJ D))
   obtain ⟨r1,r2⟩:=HR.out k
   obtain ⟨s1,s2,_⟩:=hs D[k] (al hlt)
   clear hc c0
   generalize JZ (D.take k) (qJ D)=M at *
   generalize (D[k]).int=x at *
   by_cases hx:M < x
   ·go_wp2
    go_round
    case rel=>exact ⟨k+1,by omega,by omega,by go_num,by rw [HT.out,aw hx]⟩
    case measure=>simp [intOf];omega
   ·have hx2:¬ M < x:=hx
    go_wp2
    go_round
    case rel=>exact ⟨k+1,by omega,by omega,by go_num,by rw [HT.out,aj hx]⟩
    case measure=>simp [intOf];omega
  ·have hke:k=D.length:=by omega
   subst hke
   rw [aF]
   go_wp2
   go_ret
   exact ⟨rfl,rfl⟩
theorem Gv (kind:Int) (l:List CellB) (h:kind≠0∨je l=[]):JL kind l=uB (l.length - (je l).length)++[0]:=by
 unfold JL
 rw [aj (by rintro ⟨h1,h2⟩;rcases h with h|h;exact h h1;exact h2 h)]
theorem CL (l:List CellB) (h:je l≠[]):JL 0 l=uB (l.length - (je l).length)++([1]++zB (zG (je l) (qJ (je l)))++zB (JZ (je l) (qJ (je l)))):=by
 unfold JL
 rw [aw ⟨rfl,h⟩]
def Xo (l:List CellB) (k:Nat):Nat:=k - (je (l.take k)).length
theorem Rc (l:List CellB) (k:Nat) (h:k < l.length):Xo l (k+1)=Xo l k+(if (l[k]).null=true then 1 else 0):=by
 unfold Xo
 have hv:=Zq (l.take k)
 rw [aq] at hv
 rw [JW l k h,ab]
 split<;>simp<;>omega
theorem Ih (l:List CellB) (k:Nat):Xo l k≤k:=Nat.sub_le _ _
theorem VE (l:List CellB):Xo l l.length=l.length - (je l).length:=by unfold Xo;rw [aF]
theorem Du (kind:Int) (a:Option Addr) (cap:Nat) (l:List CellB) (w:World) (hk:kind≠0) (hn:l.length≤60) (hl:Lies w a l) :
  Calls Tryz.prog 234 #[.int .i64 kind,.slice a l.length cap] w fun e w'=>e=.returned (strB (JL kind l))∧Below w.heap.size w w':=by
 have Hl:=hid hl
 have hk2:(kind == 0)=false:=by simp [hk]
 have HM:=hid (Gv kind l (.inl hk))
 rw [← VE] at HM
 clear hl hk
 go_enter Tryz.func234,Tryz.ntmps234
 go_wp2
 go_loopw [5,6,13] (fun v m i wr=>∃ k:Nat,k≤l.length∧i=.int .i64 (k:Int)∧m=.int .i64 ((Xo l k:Nat):Int)∧v=.slice none 0 0∧Below w.heap.size w wr) (fun _ _ i _=>l.length - (intOf i).toNat)
 case atStart=>exact ⟨0,ah _,rfl,rfl,rfl,Below.refl _ _⟩
 case round =>
  obtain ⟨k,hkl,rfl,rfl,rfl,hB⟩:=hrel
  have hvl:=Ih l k
  by_cases hlt:k < l.length
  ·obtain ⟨b,off,rfl,hbw,hcell⟩:=(Hl.out.later hB).at_ (ai (by omega))
   obtain ⟨g1,g2,g3⟩:=hcell k hlt
   clear hcell
   have HV:=hid (Rc l k hlt)
   have hki:(k:Int) < (l.length:Int):=by omega
   have HB1:=hid (hB.alloc hB.size (Obj.cells #[.bool (l[k]).null,.int .i64 (l[k]).int,strB (l[k]).text] 58))
   cases hnl:(l[k]).null with
   | true =>
    rw [hnl] at g1 HB1 HV
    clear hnl
    generalize Xo l k=q at *
    go_wp2
    go_roundw
    case rel=>exact ⟨k+1,by omega,by go_num,by rw [HV.out];go_num,rfl,HB1.out⟩
    case measure=>simp [intOf];omega
   | false =>
    rw [hnl] at g1 HB1 HV
    clear hnl
    generalize Xo l k=q at *
    go_wp2
    go_roundw
    case rel=>exact ⟨k+1,by omega,by go_num,by rw [HV.out];rfl,rfl,HB1.out⟩
    case measure=>simp [intOf];omega
  ·have hke:k=l.length:=by omega
   subst hke
   have hul:=jM (Xo l l.length) (by omega)
   generalize Xo l l.length=q at *
   go_wp2_with fail
   refine (Jp q _ (by omega)).mono ?_
   rintro e w1 ⟨rfl,hb1⟩
   go_wp2_with fail
   refine (JR 0 _ (by decide) (by decide)).mono ?_
   rintro e w2 ⟨rfl,hb2⟩
   generalize uB q=U at *
   go_wp2_with fail
   refine (Zb [U,[byB 0]] _ 2 w2 rfl rfl (by decide) (by simp;omega)).mono ?_
   rintro e w3 ⟨rfl,hb3⟩
   have hB1:=hB.trans (hb1.mono hB.size)
   have hB2:=hB1.trans (hb2.mono hB1.size)
   have hB3:=hB2.trans (hb3.mono hB2.size)
   go_wp2
   go_ret
   exact ⟨qC (by rw [HM.out];simp [byB]),hB3⟩
theorem Mk (a:Option Addr) (cap:Nat) (l:List CellB) (w:World) (hn:l.length≤60) (hs:∀ c ∈ l,qr c) (hl:Lies w a l) :
  Calls Tryz.prog 234 #[.int .i64 0,.slice a l.length cap] w fun e w'=>e=.returned (strB (JL 0 l))∧Below w.heap.size w w':=by
 obtain ⟨i0,hi,hz0,hz1,hz2⟩:=info_parts Tryz.infoInt
 have Hl:=hid hl
 have Hs:=hid hs
 clear hl hs
 go_enter Tryz.func234,Tryz.ntmps234
 go_wp2
 go_loopw [5,6,13] (fun v m i wr=>∃ k:Nat,k≤l.length∧i=.int .i64 (k:Int)∧m=.int .i64 ((Xo l k:Nat):Int)∧wr.ownsRow w.heap.size 3 1 v (je (l.take k)).length (Xa (je (l.take k)))∧Below w.heap.size w wr) (fun _ _ i _=>l.length - (intOf i).toNat)
 case atStart=>exact ⟨0,ah _,rfl,rfl,World.ownsRow_nil _ _ _ _,Below.refl _ _⟩
 case round =>
  obtain ⟨k,hkl,rfl,rfl,hown,hB⟩:=hrel
  have hvl:=Ih l k
  have hv2:=Zq (l.take k)
  rw [aq] at hv2
  by_cases hlt:k < l.length
  ·obtain ⟨b,off,rfl,hbw,hcell⟩:=(Hl.out.later hB).at_ (ai (by omega))
   obtain ⟨g1,g2,g3⟩:=hcell k hlt
   clear hcell
   have HV:=hid (Rc l k hlt)
   have HV2:=hid (JW l k hlt)
   have hki:(k:Int) < (l.length:Int):=by omega
   have hB1:=hB.alloc hB.size (Obj.cells #[.bool (l[k]).null,.int .i64 (l[k]).int,strB (l[k]).text] 58)
   have hown1:=hown.alloc (Obj.cells #[.bool (l[k]).null,.int .i64 (l[k]).int,strB (l[k]).text] 58)
   clear hown hB
   cases hnl:(l[k]).null with
   | true =>
    rw [hnl] at g1 hB1 HV HV2 hown1
    have HB1:=hid hB1
    have HO1:=hid hown1
    clear hnl hB1 hown1
    generalize Xo l k=q at *
    go_wp2
    go_roundw
    case rel=>exact ⟨k+1,by omega,by go_num,by rw [HV.out];go_num,by rw [HV2.out];simpa using HO1.out,HB1.out⟩
    case measure=>simp [intOf];omega
   | false =>
    rw [hnl] at g1 hB1 HV HV2 hown1
    clear hnl
    generalize Xo l k=q at *
    generalize je (l.take k)=V at *
    go_wp2_with (at_builtin;refine wpList_append_own _ rfl (.tmp 23) (.tmp 26) 82 rfl w.heap.size 3 i0 (.int .i64 0) 1 8 Tryz.underlying82 hi hz0 hz1 hz2 rfl (by decide) _ _ _ rfl (hown1.alloc _) ⟨_,0,none⟩ 1 1 [.int .i64 (l[k]).int] rfl rfl ?c1 ?c2 ?c3 ?c4 ?c5 ?_)
    case c1 =>
     have hcl:=qq (wr.alloc (Obj.cells #[.bool false,.int .i64 (l[k]).int,strB (l[k]).text] 58)) #[.int .i64 (l[k]).int] 3
     have e:(wr.alloc (Obj.cells #[.bool false,.int .i64 (l[k]).int,strB (l[k]).text] 58)).heap.size=wr.heap.size+1:=by simp
     rw [e] at hcl
     exact hcl
    case c2=>intro u hu;simp at hu;subst hu;rfl
    case c3=>unfold maxLen;omega
    case c4=>omega
    case c5=>have:=hB1.size;simp at *;omega
    intro v3 w3 hown3 hgr3 _
    have HO3:=hid hown3
    have HB3:=hid ((hB1.alloc hB1.size _).grown hgr3 (by have:=hB1.size;simp at *;omega) (fun k hk=>(hown1.lt k hk).1))
    clear hown1 hown3 hgr3 hB1
    go_wp2
    go_roundw
    case rel=>exact ⟨k+1,by omega,by go_num,by rw [HV.out];rfl,by rw [HV2.out];simpa [Xa] using HO3.out,HB3.out⟩
    case measure=>simp [intOf];omega
  ·have hke:k=l.length:=by omega
   subst hke
   have hul:=jM (Xo l l.length) (by omega)
   rw [aF] at hown hv2
   have hln:=Rw hown
   by_cases hv0:je l=[]
   ·have HM:=hid (Gv 0 l (.inr hv0))
    rw [← VE] at HM
    have hv1:(je l).length=0:=by rw [hv0];rfl
    rw [hv1] at hln
    have hln2:=hln wr
    clear hln hv0 hv1 hown
    generalize Xo l l.length=q at *
    go_wp2_with fail
    refine (Jp q _ (by omega)).mono ?_
    rintro e w1 ⟨rfl,hb1⟩
    go_wp2_with fail
    refine (JR 0 _ (by decide) (by decide)).mono ?_
    rintro e w2 ⟨rfl,hb2⟩
    generalize uB q=U at *
    go_wp2_with fail
    refine (Zb [U,[byB 0]] _ 2 w2 rfl rfl (by decide) (by simp;omega)).mono ?_
    rintro e w3 ⟨rfl,hb3⟩
    have hB1:=hB.trans (hb1.mono hB.size)
    have hB2:=hB1.trans (hb2.mono hB1.size)
    have hB3:=hB2.trans (hb3.mono hB2.size)
    go_wp2
    go_ret
    exact ⟨qC (by rw [HM.out];simp [byB]),hB3⟩
   ·have HM:=hid (CL l hv0)
    rw [← VE] at HM
    have hln2:=hln wr
    have hvp0:=b9.2 hv0
    have hvp:(((je l).length:Int) == 0)=false:=by simp;omega
    obtain ⟨bv,cv,rfl,hvl2⟩:=Ad hown hv0
    have Hvl:=hid hvl2
    have HSm:Hid (∀ c ∈ je l,qr c):=fun c hc=>Hs.out c (bJ.1 hc).1
    have hfi:=JH _ HSm.out
    have hlr:=Zj _ HSm.out _ hfi
    have hmr:=ZX _ HSm.out _ hfi
    have hz1:=Zt _ hlr.1 hlr.2
    have hz2:=Zt _ hmr.1 hmr.2
    have Hmin:=hid (Pi bv cv (je l) wr hvp0 (by omega) HSm.out hvl2)
    have Hmax:=hid (PK bv cv (je l) wr hvp0 (by omega) HSm.out hvl2)
    clear hln hv0 hown hvl2 HSm Hvl hfi
    generalize Xo l l.length=q at *
    generalize zG (je l) (qJ (je l))=lo at *
    generalize JZ (je l) (qJ (je l))=hi2 at *
    generalize (je l).length=vl at *
    obtain ⟨lr1,lr2⟩:=hlr
    obtain ⟨mr1,mr2⟩:=hmr
    go_wp2_with fail
    refine Hmin.out.mono ?_
    rintro e w0 ⟨rfl,rfl⟩
    go_wp2_with fail
    refine Hmax.out.mono ?_
    rintro e w0' ⟨rfl,rfl⟩
    go_wp2_with fail
    refine (Jp q _ (by omega)).mono ?_
    rintro e w1 ⟨rfl,hb1⟩
    go_wp2_with fail
    refine (JR 1 _ (by decide) (by decide)).mono ?_
    rintro e w2 ⟨rfl,hb2⟩
    go_wp2_with fail
    refine (UE lo _ lr1 lr2).mono ?_
    rintro e w3 ⟨rfl,hb3⟩
    go_wp2_with fail
    refine (UE hi2 _ mr1 mr2).mono ?_
    rintro e w4 ⟨rfl,hb4⟩
    generalize uB q=U at *
    generalize zB lo=Z1 at *
    generalize zB hi2=Z2 at *
    go_wp2_with fail
    refine (Zb [U,[byB 1],Z1,Z2] _ 4 w4 rfl rfl (by decide) (by simp;omega)).mono ?_
    rintro e w5 ⟨rfl,hb5⟩
    have hB1:=hB.trans (hb1.mono hB.size)
    have hB2:=hB1.trans (hb2.mono hB1.size)
    have hB3:=hB2.trans (hb3.mono hB2.size)
    have hB4:=hB3.trans (hb4.mono hB3.size)
    have hB5:=hB4.trans (hb5.mono hB4.size)
    go_wp2
    go_ret
    exact ⟨qC (by rw [HM.out];simp [byB]),hB5⟩
theorem Ct (kind:Int) (a:Option Addr) (cap:Nat) (l:List CellB) (w:World) (hn:l.length≤60) (hs:∀ c ∈ l,qr c) (hl:Lies w a l) :
  Calls Tryz.prog 234 #[.int .i64 kind,.slice a l.length cap] w fun e w'=>e=.returned (strB (JL kind l))∧Below w.heap.size w w':=by
 by_cases hk:kind=0
 ·subst hk;exact Mk a cap l w hn hs hl
 ·exact Du kind a cap l w hk hn hl
end
section
abbrev pressC (tv rv ov lv:Value) (j:JobB):Array Value:=#[tv,.int .i64 j.plan.group,.int .i64 j.plan.page,.int .i64 j.plan.foot,.bool j.plan.told,strB j.pre,.int .i64 j.draw,rv,ov,lv]
def PressAt (w:World) (B q:Nat) (tv rv:Value) (j:JobB) (st:StB):Prop :=
 ∃ ov lv,w.heap[q]?=some (.cells (pressC tv rv ov lv j) 231 (0,0))∧B≤q∧w.ownsRow B 5 1 ov st.out.length (qL st.out)∧w.ownsRow B 40 4 lv st.log.length (zg st.log)
theorem PressAt.later {w w':World} {B q:Nat} {tv rv:Value} {j:JobB} {st:StB} (h:PressAt w B q tv rv j st) (hb:Below w.heap.size w w'):PressAt w' B q tv rv j st:=by
 obtain ⟨ov,lv,h1,h2,h3,h4⟩:=h
 exact ⟨ov,lv,jb hb h1,h2,jL h3 hb,jL h4 hb⟩
theorem PressAt.lt {w:World} {B q:Nat} {tv rv:Value} {j:JobB} {st:StB} (h:PressAt w B q tv rv j st):B≤q∧q < w.heap.size:=by
 obtain ⟨ov,lv,h1,h2,_⟩:=h
 exact ⟨h2,(ag.1 h1).1⟩
theorem Tryz.infoSealed:(Tryz.prog.info? 40).map (fun i=>(i.zero,i.size,i.bytes))=some (some (.agg #[.string ⟨#[]⟩,.string ⟨#[]⟩,.string ⟨#[]⟩,.string ⟨#[]⟩]),4,64):=by kernel_rfl
theorem qj {w:World} {b1 b2 e1 e2 s1 s2 n1 n2:Nat} {u v:Value} {xs ys:List Value} (h1:w.ownsRow b1 e1 s1 u n1 xs) (h2:w.ownsRow b2 e2 s2 v n2 ys) (he:e1≠e2):u.ownBlock=none∨u.ownBlock≠v.ownBlock:=by
 rcases h1.2 with ⟨rfl,_⟩|⟨g,cap,cur,rfl,_,hg,_⟩
 ·exact .inl rfl
 ·right
  rcases h2.2 with ⟨rfl,_⟩|⟨g2,cap2,cur2,rfl,_,hg2,_⟩
  ·simp [Value.ownBlock]
  ·simp only [Value.ownBlock,ne_eq,aP]
   rintro rfl
   rw [hg] at hg2
   cases hg2
   exact he rfl
theorem jr {w:World} {b e s n:Nat} {u:Value} {xs:List Value} (h:w.ownsRow b e s u n xs):∃ a c,u=.slice a n c:=by
 rcases h.2 with ⟨rfl,rfl⟩|⟨g,cap,cur,rfl,_⟩
 ·exact ⟨none,0,rfl⟩
 ·exact ⟨_,cap,rfl⟩
end
end Go.Proofs.YthhpbhpfagoapaaGreat
