import Derived.Test.YthhpbhpfagoapaaGreatWExtra
import Derived.Test.YthhpbhpfagoapaaGreatJAA
import Derived.Test.YthhpbhpfagoapaaGreatWSeal
import Derived.Test.YthhpbhpfagoapaaGreatJAY
import Derived.Deep.CutBlock
namespace Go.Proofs.YthhpbhpfagoapaaGreat
set_option linter.unusedVariables false
set_option linter.unusedSimpArgs false
set_option maxRecDepth 100000
set_option maxHeartbeats 16000000
open Go.RowKit
section
theorem Dr (D:List CellB) (k:Nat) (h:k < D.length) (x:Int):zu (D.take (k+1)) x=if (D[k]).int < zu (D.take k) x then (D[k]).int else zu (D.take k) x:=by
 unfold zu
 rw [List.take_succ_eq_append_getElem h,List.foldl_append]
 rfl
theorem MJ (D:List CellB) (k:Nat) (h:k < D.length) (x:Int):JO (D.take (k+1)) x=if JO (D.take k) x < (D[k]).int then (D[k]).int else JO (D.take k) x:=by
 unfold JO
 rw [List.take_succ_eq_append_getElem h,List.foldl_append]
 rfl
theorem Gp {D:List CellB} (h:0 < D.length):qB D=(D[0]).int:=by
 cases D with
 | nil=>simp at h
 | cons c D=>rfl
theorem Mn {D:List CellB} (h:0 < D.length):zu (D.take 1) (qB D)=qB D:=by
 cases D with
 | nil=>simp at h
 | cons c D=>simp [zu,qB]
theorem Tg {D:List CellB} (h:0 < D.length):JO (D.take 1) (qB D)=qB D:=by
 cases D with
 | nil=>simp at h
 | cons c D=>simp [JO,qB]
theorem Pc (b cap:Nat) (D:List CellB) (w:World) (h1:0 < D.length) (hn:D.length≤60) (hs:∀ c ∈ D,qz c) (hl:IntsLie w b D) :
  Calls Tryz.prog 261 #[.slice (some ⟨b,0,none⟩) D.length cap] w fun e w'=>e=.returned (.int .i64 (zu D (qB D)))∧w'=w:=by
 obtain ⟨hb,hc⟩:=hl
 have h1i:¬ (D.length:Int) < 1:=by omega
 have h0i:(0:Int) < (D.length:Int):=by omega
 have c0:=hc 0 h1
 have HF:=hid (Gp h1)
 have HO:=hid (Mn h1)
 have HR:=hid (fun k=>Kl (D.take k) (fun c hc=>hs c (List.mem_of_mem_take hc)) (qB D) (Qv D hs))
 rw [← HF.out] at c0
 go_enter Tryz.func261,Tryz.ntmps261
 go_wp2
 go_loop [3,4] (fun m i=>∃ k:Nat,1≤k∧k≤D.length∧i=.int .i64 k∧m=.int .i64 (zu (D.take k) (qB D))) (fun _ i=>D.length - (intOf i).toNat)
 case atStart=>exact ⟨1,by omega,by omega,rfl,by rw [HO.out,HF.out]⟩
 case round =>
  obtain ⟨k,hk1,hkl,rfl,rfl⟩:=hrel
  by_cases hlt:k < D.length
  ·have hki:(k:Int) < (D.length:Int):=by omega
   have ck:=hc k hlt
   have HT:=hid (Dr D k hlt (qB D))
   obtain ⟨r1,r2⟩:=HR.out k
   obtain ⟨s1,s2,_⟩:=hs D[k] (List.getElem_mem hlt)
   clear hc c0
   generalize zu (D.take k) (qB D)=M at *
   generalize (D[k]).int=x at *
   by_cases hx:x < M
   ·go_wp2
    go_round
    case rel=>exact ⟨k+1,by omega,by omega,by go_num,by rw [HT.out,if_pos hx]⟩
    case measure=>simp [intOf];omega
   ·have hx2:¬ x < M:=hx
    go_wp2
    go_round
    case rel=>exact ⟨k+1,by omega,by omega,by go_num,by rw [HT.out,if_neg hx]⟩
    case measure=>simp [intOf];omega
  ·have hke:k=D.length:=by omega
   subst hke
   rw [List.take_length]
   go_wp2
   go_ret
   exact ⟨rfl,rfl⟩
theorem CW (b cap:Nat) (D:List CellB) (w:World) (h1:0 < D.length) (hn:D.length≤60) (hs:∀ c ∈ D,qz c) (hl:IntsLie w b D) :
  Calls Tryz.prog 262 #[.slice (some ⟨b,0,none⟩) D.length cap] w fun e w'=>e=.returned (.int .i64 (JO D (qB D)))∧w'=w:=by
 obtain ⟨hb,hc⟩:=hl
 have h1i:¬ (D.length:Int) < 1:=by omega
 have h0i:(0:Int) < (D.length:Int):=by omega
 have c0:=hc 0 h1
 have HF:=hid (Gp h1)
 have HO:=hid (Tg h1)
 have HR:=hid (fun k=>Ue (D.take k) (fun c hc=>hs c (List.mem_of_mem_take hc)) (qB D) (Qv D hs))
 rw [← HF.out] at c0
 go_enter Tryz.func262,Tryz.ntmps262
 go_wp2
 go_loop [3,4] (fun m i=>∃ k:Nat,1≤k∧k≤D.length∧i=.int .i64 k∧m=.int .i64 (JO (D.take k) (qB D))) (fun _ i=>D.length - (intOf i).toNat)
 case atStart=>exact ⟨1,by omega,by omega,rfl,by rw [HO.out,HF.out]⟩
 case round =>
  obtain ⟨k,hk1,hkl,rfl,rfl⟩:=hrel
  by_cases hlt:k < D.length
  ·have hki:(k:Int) < (D.length:Int):=by omega
   have ck:=hc k hlt
   have HT:=hid (MJ D k hlt (qB D))
   obtain ⟨r1,r2⟩:=HR.out k
   obtain ⟨s1,s2,_⟩:=hs D[k] (List.getElem_mem hlt)
   clear hc c0
   generalize JO (D.take k) (qB D)=M at *
   generalize (D[k]).int=x at *
   by_cases hx:M < x
   ·go_wp2
    go_round
    case rel=>exact ⟨k+1,by omega,by omega,by go_num,by rw [HT.out,if_pos hx]⟩
    case measure=>simp [intOf];omega
   ·have hx2:¬ M < x:=hx
    go_wp2
    go_round
    case rel=>exact ⟨k+1,by omega,by omega,by go_num,by rw [HT.out,if_neg hx]⟩
    case measure=>simp [intOf];omega
  ·have hke:k=D.length:=by omega
   subst hke
   rw [List.take_length]
   go_wp2
   go_ret
   exact ⟨rfl,rfl⟩
theorem VV (kind:Int) (l:List CellB) (h:kind≠0∨je l=[]):JR kind l=uB (l.length - (je l).length)++[0]:=by
 unfold JR
 rw [if_neg (by rintro ⟨h1,h2⟩;rcases h with h|h;exact h h1;exact h2 h)]
theorem Mu (l:List CellB) (h:je l≠[]):JR 0 l=uB (l.length - (je l).length)++([1]++zB (zu (je l) (qB (je l)))++zB (JO (je l) (qB (je l)))):=by
 unfold JR
 rw [if_pos ⟨rfl,h⟩]
def QW (l:List CellB) (k:Nat):Nat:=k - (je (l.take k)).length
theorem Nx (l:List CellB) (k:Nat) (h:k < l.length):QW l (k+1)=QW l k+(if (l[k]).null=true then 1 else 0):=by
 unfold QW
 have hv:=XQ (l.take k)
 rw [List.length_take] at hv
 rw [JH l k h,List.length_append]
 split<;>simp<;>omega
theorem EE (l:List CellB) (k:Nat):QW l k≤k:=Nat.sub_le _ _
theorem Vz (l:List CellB):QW l l.length=l.length - (je l).length:=by unfold QW;rw [List.take_length]
theorem Dj (kind:Int) (a:Option Addr) (cap:Nat) (l:List CellB) (w:World) (hk:kind≠0) (hn:l.length≤60) (hl:Lies w a l) :
  Calls Tryz.prog 234 #[.int .i64 kind,.slice a l.length cap] w fun e w'=>e=.returned (strB (JR kind l))∧Below w.heap.size w w':=by
 have Hl:=hid hl
 have hk2:(kind == 0)=false:=by simp [hk]
 have HM:=hid (VV kind l (.inl hk))
 rw [← Vz] at HM
 clear hl hk
 go_enter Tryz.func234,Tryz.ntmps234
 go_wp2
 go_loopw [5,6,13] (fun v m i wr=>∃ k:Nat,k≤l.length∧i=.int .i64 (k:Int)∧m=.int .i64 ((QW l k:Nat):Int)∧v=.slice none 0 0∧Below w.heap.size w wr) (fun _ _ i _=>l.length - (intOf i).toNat)
 case atStart=>exact ⟨0,Nat.zero_le _,rfl,rfl,rfl,Below.refl _ _⟩
 case round =>
  obtain ⟨k,hkl,rfl,rfl,rfl,hB⟩:=hrel
  have hvl:=EE l k
  by_cases hlt:k < l.length
  ·obtain ⟨b,off,rfl,hbw,hcell⟩:=(Hl.out.later hB).at_ (List.ne_nil_of_length_pos (by omega))
   obtain ⟨g1,g2,g3⟩:=hcell k hlt
   clear hcell
   have HV:=hid (Nx l k hlt)
   have hki:(k:Int) < (l.length:Int):=by omega
   have HB1:=hid (hB.alloc hB.size (Obj.cells #[.bool (l[k]).null,.int .i64 (l[k]).int,strB (l[k]).text] 58))
   cases hnl:(l[k]).null with
   | true =>
    rw [hnl] at g1 HB1 HV
    clear hnl
    generalize QW l k=q at *
    go_wp2
    go_roundw
    case rel=>exact ⟨k+1,by omega,by go_num,by rw [HV.out];go_num,rfl,HB1.out⟩
    case measure=>simp [intOf];omega
   | false =>
    rw [hnl] at g1 HB1 HV
    clear hnl
    generalize QW l k=q at *
    go_wp2
    go_roundw
    case rel=>exact ⟨k+1,by omega,by go_num,by rw [HV.out];rfl,rfl,HB1.out⟩
    case measure=>simp [intOf];omega
  ·have hke:k=l.length:=by omega
   subst hke
   have hul:=jN (QW l l.length) (by omega)
   generalize QW l l.length=q at *
   go_wp2_with fail
   refine (Ji q _ (by omega)).mono ?_
   rintro e w1 ⟨rfl,hb1⟩
   go_wp2_with fail
   refine (JK 0 _ (by decide) (by decide)).mono ?_
   rintro e w2 ⟨rfl,hb2⟩
   generalize uB q=U at *
   go_wp2_with fail
   refine (XB [U,[byB 0]] _ 2 w2 rfl rfl (by decide) (by simp;omega)).mono ?_
   rintro e w3 ⟨rfl,hb3⟩
   have hB1:=hB.trans (hb1.mono hB.size)
   have hB2:=hB1.trans (hb2.mono hB1.size)
   have hB3:=hB2.trans (hb3.mono hB2.size)
   go_wp2
   go_ret
   exact ⟨qt (by rw [HM.out];simp [byB]),hB3⟩
theorem AV (a:Option Addr) (cap:Nat) (l:List CellB) (w:World) (hn:l.length≤60) (hs:∀ c ∈ l,qz c) (hl:Lies w a l) :
  Calls Tryz.prog 234 #[.int .i64 0,.slice a l.length cap] w fun e w'=>e=.returned (strB (JR 0 l))∧Below w.heap.size w w':=by
 obtain ⟨i0,hi,hz0,hz1,hz2⟩:=info_parts Tryz.infoInt
 have Hl:=hid hl
 have Hs:=hid hs
 clear hl hs
 go_enter Tryz.func234,Tryz.ntmps234
 go_wp2
 go_loopw [5,6,13] (fun v m i wr=>∃ k:Nat,k≤l.length∧i=.int .i64 (k:Int)∧m=.int .i64 ((QW l k:Nat):Int)∧wr.ownsRow w.heap.size 3 1 v (je (l.take k)).length (QI (je (l.take k)))∧Below w.heap.size w wr) (fun _ _ i _=>l.length - (intOf i).toNat)
 case atStart=>exact ⟨0,Nat.zero_le _,rfl,rfl,World.ownsRow_nil _ _ _ _,Below.refl _ _⟩
 case round =>
  obtain ⟨k,hkl,rfl,rfl,hown,hB⟩:=hrel
  have hvl:=EE l k
  have hv2:=XQ (l.take k)
  rw [List.length_take] at hv2
  by_cases hlt:k < l.length
  ·obtain ⟨b,off,rfl,hbw,hcell⟩:=(Hl.out.later hB).at_ (List.ne_nil_of_length_pos (by omega))
   obtain ⟨g1,g2,g3⟩:=hcell k hlt
   clear hcell
   have HV:=hid (Nx l k hlt)
   have HV2:=hid (JH l k hlt)
   have hki:(k:Int) < (l.length:Int):=by omega
   have hB1:=hB.alloc hB.size (Obj.cells #[.bool (l[k]).null,.int .i64 (l[k]).int,strB (l[k]).text] 58)
   have hown1:=hown.alloc (Obj.cells #[.bool (l[k]).null,.int .i64 (l[k]).int,strB (l[k]).text] 58)
   clear hown hB
   cases hnl:(l[k]).null with
   | true =>
    rw [hnl] at g1 hB1 HV HV2 hown1
    have HB1:=hid hB1
    have HO1:=hid hown1
    clear hnl hB1 hown1
    generalize QW l k=q at *
    go_wp2
    go_roundw
    case rel=>exact ⟨k+1,by omega,by go_num,by rw [HV.out];go_num,by rw [HV2.out];simpa using HO1.out,HB1.out⟩
    case measure=>simp [intOf];omega
   | false =>
    rw [hnl] at g1 hB1 HV HV2 hown1
    clear hnl
    generalize QW l k=q at *
    generalize je (l.take k)=V at *
    go_wp2_with (at_builtin;refine wpList_append_own _ rfl (.tmp 23) (.tmp 26) 82 rfl w.heap.size 3 i0 (.int .i64 0) 1 8 Tryz.underlying82 hi hz0 hz1 hz2 rfl (by decide) _ _ _ rfl (hown1.alloc _) ⟨_,0,none⟩ 1 1 [.int .i64 (l[k]).int] rfl rfl ?c1 ?c2 ?c3 ?c4 ?c5 ?_)
    case c1 =>
     have hcl:=qj (wr.alloc (Obj.cells #[.bool false,.int .i64 (l[k]).int,strB (l[k]).text] 58)) #[.int .i64 (l[k]).int] 3
     have e:(wr.alloc (Obj.cells #[.bool false,.int .i64 (l[k]).int,strB (l[k]).text] 58)).heap.size=wr.heap.size+1:=by simp
     rw [e] at hcl
     exact hcl
    case c2=>intro u hu;simp at hu;subst hu;rfl
    case c3=>unfold maxLen;omega
    case c4=>omega
    case c5=>have:=hB1.size;simp at *;omega
    intro v3 w3 hown3 hgr3 _
    have HO3:=hid hown3
    have HB3:=hid ((hB1.alloc hB1.size _).grown hgr3 (by have:=hB1.size;simp at *;omega) (fun k hk=>(hown1.lt k hk).1))
    clear hown1 hown3 hgr3 hB1
    go_wp2
    go_roundw
    case rel=>exact ⟨k+1,by omega,by go_num,by rw [HV.out];rfl,by rw [HV2.out];simpa [QI] using HO3.out,HB3.out⟩
    case measure=>simp [intOf];omega
  ·have hke:k=l.length:=by omega
   subst hke
   have hul:=jN (QW l l.length) (by omega)
   rw [List.take_length] at hown hv2
   have hln:=NM hown
   by_cases hv0:je l=[]
   ·have HM:=hid (VV 0 l (.inr hv0))
    rw [← Vz] at HM
    have hv1:(je l).length=0:=by rw [hv0];rfl
    rw [hv1] at hln
    have hln2:=hln wr
    clear hln hv0 hv1 hown
    generalize QW l l.length=q at *
    go_wp2_with fail
    refine (Ji q _ (by omega)).mono ?_
    rintro e w1 ⟨rfl,hb1⟩
    go_wp2_with fail
    refine (JK 0 _ (by decide) (by decide)).mono ?_
    rintro e w2 ⟨rfl,hb2⟩
    generalize uB q=U at *
    go_wp2_with fail
    refine (XB [U,[byB 0]] _ 2 w2 rfl rfl (by decide) (by simp;omega)).mono ?_
    rintro e w3 ⟨rfl,hb3⟩
    have hB1:=hB.trans (hb1.mono hB.size)
    have hB2:=hB1.trans (hb2.mono hB1.size)
    have hB3:=hB2.trans (hb3.mono hB2.size)
    go_wp2
    go_ret
    exact ⟨qt (by rw [HM.out];simp [byB]),hB3⟩
   ·have HM:=hid (Mu l hv0)
    rw [← Vz] at HM
    have hln2:=hln wr
    have hvp0:=List.length_pos_iff.2 hv0
    have hvp:(((je l).length:Int) == 0)=false:=by simp;omega
    obtain ⟨bv,cv,rfl,hvl2⟩:=IL hown hv0
    have Hvl:=hid hvl2
    have HSm:Hid (∀ c ∈ je l,qz c):=fun c hc=>Hs.out c (List.mem_filter.1 hc).1
    have hfi:=Qv _ HSm.out
    have hlr:=Kl _ HSm.out _ hfi
    have hmr:=Ue _ HSm.out _ hfi
    have hz1:=Kx _ hlr.1 hlr.2
    have hz2:=Kx _ hmr.1 hmr.2
    have Hmin:=hid (Pc bv cv (je l) wr hvp0 (by omega) HSm.out hvl2)
    have Hmax:=hid (CW bv cv (je l) wr hvp0 (by omega) HSm.out hvl2)
    clear hln hv0 hown hvl2 HSm Hvl hfi
    generalize QW l l.length=q at *
    generalize zu (je l) (qB (je l))=lo at *
    generalize JO (je l) (qB (je l))=hi2 at *
    generalize (je l).length=vl at *
    obtain ⟨lr1,lr2⟩:=hlr
    obtain ⟨mr1,mr2⟩:=hmr
    go_wp2_with fail
    refine Hmin.out.mono ?_
    rintro e w0 ⟨rfl,rfl⟩
    go_wp2_with fail
    refine Hmax.out.mono ?_
    rintro e w0' ⟨rfl,rfl⟩
    go_wp2_with fail
    refine (Ji q _ (by omega)).mono ?_
    rintro e w1 ⟨rfl,hb1⟩
    go_wp2_with fail
    refine (JK 1 _ (by decide) (by decide)).mono ?_
    rintro e w2 ⟨rfl,hb2⟩
    go_wp2_with fail
    refine (KZ lo _ lr1 lr2).mono ?_
    rintro e w3 ⟨rfl,hb3⟩
    go_wp2_with fail
    refine (KZ hi2 _ mr1 mr2).mono ?_
    rintro e w4 ⟨rfl,hb4⟩
    generalize uB q=U at *
    generalize zB lo=Z1 at *
    generalize zB hi2=Z2 at *
    go_wp2_with fail
    refine (XB [U,[byB 1],Z1,Z2] _ 4 w4 rfl rfl (by decide) (by simp;omega)).mono ?_
    rintro e w5 ⟨rfl,hb5⟩
    have hB1:=hB.trans (hb1.mono hB.size)
    have hB2:=hB1.trans (hb2.mono hB1.size)
    have hB3:=hB2.trans (hb3.mono hB2.size)
    have hB4:=hB3.trans (hb4.mono hB3.size)
    have hB5:=hB4.trans (hb5.mono hB4.size)
    go_wp2
    go_ret
    exact ⟨qt (by rw [HM.out];simp [byB]),hB5⟩
theorem CO (kind:Int) (a:Option Addr) (cap:Nat) (l:List CellB) (w:World) (hn:l.length≤60) (hs:∀ c ∈ l,qz c) (hl:Lies w a l) :
  Calls Tryz.prog 234 #[.int .i64 kind,.slice a l.length cap] w fun e w'=>e=.returned (strB (JR kind l))∧Below w.heap.size w w':=by
 by_cases hk:kind=0
 ·subst hk;exact AV a cap l w hn hs hl
 ·exact Dj kind a cap l w hk hn hl
end
section
theorem Lies.part {w:World} {b off:Nat} {l:List CellB} (hok:∀ c ∈ l,okC c) (hb:b < w.heap.size) (h:∀ j (h:j < l.length),
  w.cell? ⟨b,off+j*3,none⟩=some (.bool (l[j]).null)∧w.cell? ⟨b,off+j*3+1,none⟩=some (.int .i64 (l[j]).int)∧w.cell? ⟨b,off+j*3+2,none⟩=some (strB (l[j]).text)) (s n:Nat) :
  Lies w (some ⟨b,off+s*3,none⟩) ((l.drop s).take n):=by
 refine ⟨fun c hc=>hok c (List.mem_of_mem_drop (List.mem_of_mem_take hc)),fun hne=>⟨b,off+s*3,rfl,hb,fun j hj=>?_⟩⟩
 have hj2:s+j < l.length:=by rw [List.length_take,List.length_drop] at hj;omega
 have e:((l.drop s).take n)[j]=l[s+j]:=by simp
 obtain ⟨h1,h2,h3⟩:=h (s+j) hj2
 rw [e,show off+s*3+j*3=off+(s+j)*3 by omega]
 exact ⟨h1,h2,h3⟩
theorem MI (n size m k:Nat) (hk:k < m):(QL n size m)[k*2]?=some (.int .i64 ((k*size:Nat):Int))∧(QL n size m)[k*2+1]?=some (.int .i64 ((min (k*size+size) n:Nat):Int)):=by
 have h1:=Xm (Nt n size) 2 (fun _=>rfl) (List.range m) k 0 (by simpa using hk) (by decide)
 have h2:=Xm (Nt n size) 2 (fun _=>rfl) (List.range m) k 1 (by simpa using hk) (by decide)
 simp only [List.getElem_range] at h1 h2
 exact ⟨h1,h2⟩
theorem IZ {w:World} {base n size m k:Nat} {sa:Option Addr} {sc:Nat} (h:w.ownsRow base 290 2 (.slice sa m sc) m (QL n size m)) (hk:k < m) :
  ∃ g,sa=some ⟨g,0,none⟩∧g < w.heap.size∧w.cell? ⟨g,k*2,none⟩=some (.int .i64 ((k*size:Nat):Int))∧w.cell? ⟨g,k*2+1,none⟩=some (.int .i64 ((min (k*size+size) n:Nat):Int)):=by
 obtain ⟨s1,s2⟩:=MI n size m k hk
 rcases h.2 with ⟨h0,h1⟩|⟨g,cap,cur,hv,_⟩
 ·omega
 ·simp only [Value.slice.injEq] at hv
  obtain ⟨rfl,_,rfl⟩:=hv
  exact ⟨g,rfl,(h.lt g rfl).2,by rw [h.cellAt _ (by omega)];exact s1,by rw [h.cellAt _ (by omega)];exact s2⟩
theorem Bj {w:World} {q:Nat} {x y:Value} {t:TypeId} (h:w.heap[q]?=some (.cells #[x,y] t (0,0))):w.cell? ⟨q,0,none⟩=some x∧w.cell? ⟨q,1,none⟩=some y :=
 ⟨by rw [jd h];rfl,by rw [jd h];rfl⟩
end
end Go.Proofs.YthhpbhpfagoapaaGreat
