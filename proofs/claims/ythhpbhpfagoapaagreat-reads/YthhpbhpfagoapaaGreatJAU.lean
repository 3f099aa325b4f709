import Derived.Test.YthhpbhpfagoapaaGreatJAM
import Derived.Test.YthhpbhpfagoapaaGreatJAC
import Derived.Test.YthhpbhpfagoapaaGreatJAT
namespace Go.Proofs.YthhpbhpfagoapaaGreat
set_option linter.unusedVariables false
set_option linter.unusedSimpArgs false
set_option maxRecDepth 100000
set_option maxHeartbeats 16000000
open Go.RowKit
section
theorem AA (D:List CellB) (k:Nat) (h:k < D.length) (x:Int):zu (D.take (k+1)) x=if (D[k]).int < zu (D.take k) x then (D[k]).int else zu (D.take k) x:=by
 unfold zu
 rw [List.take_succ_eq_append_getElem h,List.foldl_append]
 rfl
theorem Cx (D:List CellB) (k:Nat) (h:k < D.length) (x:Int):JN (D.take (k+1)) x=if JN (D.take k) x < (D[k]).int then (D[k]).int else JN (D.take k) x:=by
 unfold JN
 rw [List.take_succ_eq_append_getElem h,List.foldl_append]
 rfl
theorem Gp {D:List CellB} (h:0 < D.length):qC D=(D[0]).int:=by
 cases D with
 | nil=>simp at h
 | cons c D=>rfl
theorem MO {D:List CellB} (h:0 < D.length):zu (D.take 1) (qC D)=qC D:=by
 cases D with
 | nil=>simp at h
 | cons c D=>simp [zu,qC]
theorem Td {D:List CellB} (h:0 < D.length):JN (D.take 1) (qC D)=qC D:=by
 cases D with
 | nil=>simp at h
 | cons c D=>simp [JN,qC]
theorem Ta (b cap:Nat) (D:List CellB) (w:World) (h1:0 < D.length) (hn:D.length≤60) (hs:∀ c ∈ D,qw c) (hl:IntsLie w b D) :
  Calls Tryz.prog 261 #[.slice (some ⟨b,0,none⟩) D.length cap] w fun e w'=>e=.returned (.int .i64 (zu D (qC D)))∧w'=w:=by
 obtain ⟨hb,hc⟩:=hl
 have h1i:¬ (D.length:Int) < 1:=by omega
 have h0i:(0:Int) < (D.length:Int):=by omega
 have c0:=hc 0 h1
 have HF:=hid (Gp h1)
 have HO:=hid (MO h1)
 have HR:=hid (fun k=>Kx (D.take k) (fun c hc=>hs c (List.mem_of_mem_take hc)) (qC D) (Qx D hs))
 rw [← HF.out] at c0
 go_enter Tryz.func261,Tryz.ntmps261
 go_wp2
 go_loop [3,4] (fun m i=>∃ k:Nat,1≤k∧k≤D.length∧i=.int .i64 k∧m=.int .i64 (zu (D.take k) (qC D))) (fun _ i=>D.length - (intOf i).toNat)
 case atStart=>exact ⟨1,by omega,by omega,rfl,by rw [HO.out,HF.out]⟩
 case round =>
  obtain ⟨k,hk1,hkl,rfl,rfl⟩:=hrel
  by_cases hlt:k < D.length
  ·have hki:(k:Int) < (D.length:Int):=by omega
   have ck:=hc k hlt
   have HT:=hid (AA D k hlt (qC D))
   obtain ⟨r1,r2⟩:=HR.out k
   obtain ⟨s1,s2,_⟩:=hs D[k] (List.getElem_mem hlt)
   clear hc c0
   generalize zu (D.take k) (qC D)=M at *
   generalize (D[k]).int=x at *
   by_cases hx:x < M
   ·go_wp2
    go_round
    case rel=>exact ⟨k+1,by omega,by omega,by go_num,by rw [HT.out,if_pos hx]⟩
    case measure=>simp [intOf];omega
   ·have hx2:¬ x < M:=hx
    go_wp2
    go_round
    case rel=>exact ⟨k+1,by omega,by omega,by go_num,by rw [HT.out,if_neg hx]⟩
    case measure=>simp [intOf];omega
  ·have hke:k=D.length:=by omega
   subst hke
   rw [List.take_length]
   go_wp2
   go_ret
   exact ⟨rfl,rfl⟩
theorem Tx (b cap:Nat) (D:List CellB) (w:World) (h1:0 < D.length) (hn:D.length≤60) (hs:∀ c ∈ D,qw c) (hl:IntsLie w b D) :
  Calls Tryz.prog 262 #[.slice (some ⟨b,0,none⟩) D.length cap] w fun e w'=>e=.returned (.int .i64 (JN D (qC D)))∧w'=w:=by
 obtain ⟨hb,hc⟩:=hl
 have h1i:¬ (D.length:Int) < 1:=by omega
 have h0i:(0:Int) < (D.length:Int):=by omega
 have c0:=hc 0 h1
 have HF:=hid (Gp h1)
 have HO:=hid (Td h1)
 have HR:=hid (fun k=>Uk (D.take k) (fun c hc=>hs c (List.mem_of_mem_take hc)) (qC D) (Qx D hs))
 rw [← HF.out] at c0
 go_enter Tryz.func262,Tryz.ntmps262
 go_wp2
 go_loop [3,4] (fun m i=>∃ k:Nat,1≤k∧k≤D.length∧i=.int .i64 k∧m=.int .i64 (JN (D.take k) (qC D))) (fun _ i=>D.length - (intOf i).toNat)
 case atStart=>exact ⟨1,by omega,by omega,rfl,by rw [HO.out,HF.out]⟩
 case round =>
  obtain ⟨k,hk1,hkl,rfl,rfl⟩:=hrel
  by_cases hlt:k < D.length
  ·have hki:(k:Int) < (D.length:Int):=by omega
   have ck:=hc k hlt
   have HT:=hid (Cx D k hlt (qC D))
   obtain ⟨r1,r2⟩:=HR.out k
   obtain ⟨s1,s2,_⟩:=hs D[k] (List.getElem_mem hlt)
   clear hc c0
   generalize JN (D.take k) (qC D)=M at *
   generalize (D[k]).int=x at *
   by_cases hx:M < x
   ·go_wp2
    go_round
    case rel=>exact ⟨k+1,by omega,by omega,by go_num,by rw [HT.out,if_pos hx]⟩
    case measure=>simp [intOf];omega
   ·have hx2:¬ M < x:=hx
    go_wp2
    go_round
    case rel=>exact ⟨k+1,by omega,by omega,by go_num,by rw [HT.out,if_neg hx]⟩
    case measure=>simp [intOf];omega
  ·have hke:k=D.length:=by omega
   subst hke
   rw [List.take_length]
   go_wp2
   go_ret
   exact ⟨rfl,rfl⟩
theorem Gb (kind:Int) (l:List CellB) (h:kind≠0∨je l=[]):JR kind l=uB (l.length - (je l).length)++[0]:=by
 unfold JR
 rw [if_neg (by rintro ⟨h1,h2⟩;rcases h with h|h;exact h h1;exact h2 h)]
theorem Mt (l:List CellB) (h:je l≠[]):JR 0 l=uB (l.length - (je l).length)++([1]++zB (zu (je l) (qC (je l)))++zB (JN (je l) (qC (je l)))):=by
 unfold JR
 rw [if_pos ⟨rfl,h⟩]
def QW (l:List CellB) (k:Nat):Nat:=k - (je (l.take k)).length
theorem Nh (l:List CellB) (k:Nat) (h:k < l.length):QW l (k+1)=QW l k+(if (l[k]).null=true then 1 else 0):=by
 unfold QW
 have hv:=XR (l.take k)
 rw [List.length_take] at hv
 rw [JK l k h,List.length_append]
 split<;>simp<;>omega
theorem Ij (l:List CellB) (k:Nat):QW l k≤k:=Nat.sub_le _ _
theorem Ve (l:List CellB):QW l l.length=l.length - (je l).length:=by unfold QW;rw [List.take_length]
theorem AJ (kind:Int) (a:Option Addr) (cap:Nat) (l:List CellB) (w:World) (hk:kind≠0) (hn:l.length≤60) (hl:Lies w a l) :
  Calls Tryz.prog 234 #[.int .i64 kind,.slice a l.length cap] w fun e w'=>e=.returned (strB (JR kind l))∧Below w.heap.size w w':=by
 have Hl:=hid hl
 have hk2:(kind == 0)=false:=by simp [hk]
 have HM:=hid (Gb kind l (.inl hk))
 rw [← Ve] at HM
 clear hl hk
 go_enter Tryz.func234,Tryz.ntmps234
 go_wp2
 go_loopw [5,6,13] (fun v m i wr=>∃ k:Nat,k≤l.length∧i=.int .i64 (k:Int)∧m=.int .i64 ((QW l k:Nat):Int)∧v=.slice none 0 0∧Below w.heap.size w wr) (fun _ _ i _=>l.length - (intOf i).toNat)
 case atStart=>exact ⟨0,Nat.zero_le _,rfl,rfl,rfl,Below.refl _ _⟩
 case round =>
  obtain ⟨k,hkl,rfl,rfl,rfl,hB⟩:=hrel
  have hvl:=Ij l k
  by_cases hlt:k < l.length
  ·obtain ⟨b,off,rfl,hbw,hcell⟩:=(Hl.out.later hB).at_ (List.ne_nil_of_length_pos (by omega))
   obtain ⟨g1,g2,g3⟩:=hcell k hlt
   clear hcell
   have HV:=hid (Nh l k hlt)
   have hki:(k:Int) < (l.length:Int):=by omega
   have HB1:=hid (hB.alloc hB.size (Obj.cells #[.bool (l[k]).null,.int .i64 (l[k]).int,strB (l[k]).text] 58))
   cases hnl:(l[k]).null with
   | true =>
    rw [hnl] at g1 HB1 HV
    clear hnl
    generalize QW l k=q at *
    go_wp2
    go_roundw
    case rel=>exact ⟨k+1,by omega,by go_num,by rw [HV.out];go_num,rfl,HB1.out⟩
    case measure=>simp [intOf];omega
   | false =>
    rw [hnl] at g1 HB1 HV
    clear hnl
    generalize QW l k=q at *
    go_wp2
    go_roundw
    case rel=>exact ⟨k+1,by omega,by go_num,by rw [HV.out];rfl,rfl,HB1.out⟩
    case measure=>simp [intOf];omega
  ·have hke:k=l.length:=by omega
   subst hke
   have hul:=jN (QW l l.length) (by omega)
   generalize QW l l.length=q at *
   go_wp2_with fail
   refine (Jj q _ (by omega)).mono ?_
   rintro e w1 ⟨rfl,hb1⟩
   go_wp2_with fail
   refine (JG 0 _ (by decide) (by decide)).mono ?_
   rintro e w2 ⟨rfl,hb2⟩
   generalize uB q=U at *
   go_wp2_with fail
   refine (XD [U,[byB 0]] _ 2 w2 rfl rfl (by decide) (by simp;omega)).mono ?_
   rintro e w3 ⟨rfl,hb3⟩
   have hB1:=hB.trans (hb1.mono hB.size)
   have hB2:=hB1.trans (hb2.mono hB1.size)
   have hB3:=hB2.trans (hb3.mono hB2.size)
   go_wp2
   go_ret
   exact ⟨qt (by rw [HM.out];simp [byB]),hB3⟩
theorem AK (a:Option Addr) (cap:Nat) (l:List CellB) (w:World) (hn:l.length≤60) (hs:∀ c ∈ l,qw c) (hl:Lies w a l) :
  Calls Tryz.prog 234 #[.int .i64 0,.slice a l.length cap] w fun e w'=>e=.returned (strB (JR 0 l))∧Below w.heap.size w w':=by
 obtain ⟨i0,hi,hz0,hz1,hz2⟩:=info_parts Tryz.infoInt
 have Hl:=hid hl
 have Hs:=hid hs
 clear hl hs
 go_enter Tryz.func234,Tryz.ntmps234
 go_wp2
 go_loopw [5,6,13] (fun v m i wr=>∃ k:Nat,k≤l.length∧i=.int .i64 (k:Int)∧m=.int .i64 ((QW l k:Nat):Int)∧wr.ownsRow w.heap.size 3 1 v (je (l.take k)).length (QE (je (l.take k)))∧Below w.heap.size w wr) (fun _ _ i _=>l.length - (intOf i).toNat)
 case atStart=>exact ⟨0,Nat.zero_le _,rfl,rfl,World.ownsRow_nil _ _ _ _,Below.refl _ _⟩
 case round =>
  obtain ⟨k,hkl,rfl,rfl,hown,hB⟩:=hrel
  have hvl:=Ij l k
  have hv2:=XR (l.take k)
  rw [List.length_take] at hv2
  by_cases hlt:k < l.length
  ·obtain ⟨b,off,rfl,hbw,hcell⟩:=(Hl.out.later hB).at_ (List.ne_nil_of_length_pos (by omega))
   obtain ⟨g1,g2,g3⟩:=hcell k hlt
   clear hcell
   have HV:=hid (Nh l k hlt)
   have HV2:=hid (JK l k hlt)
   have hki:(k:Int) < (l.length:Int):=by omega
   have hB1:=hB.alloc hB.size (Obj.cells #[.bool (l[k]).null,.int .i64 (l[k]).int,strB (l[k]).text] 58)
   have hown1:=hown.alloc (Obj.cells #[.bool (l[k]).null,.int .i64 (l[k]).int,strB (l[k]).text] 58)
   clear hown hB
   cases hnl:(l[k]).null with
   | true =>
    rw [hnl] at g1 hB1 HV HV2 hown1
    have HB1:=hid hB1
    have HO1:=hid hown1
    clear hnl hB1 hown1
    generalize QW l k=q at *
    go_wp2
    go_roundw
    case rel=>exact ⟨k+1,by omega,by go_num,by rw [HV.out];go_num,by rw [HV2.out];simpa using HO1.out,HB1.out⟩
    case measure=>simp [intOf];omega
   | false =>
    rw [hnl] at g1 hB1 HV HV2 hown1
    clear hnl
    generalize QW l k=q at *
    generalize je (l.take k)=V at *
    go_wp2_with (at_builtin;refine wpList_append_own _ rfl (.tmp 23) (.tmp 26) 82 rfl w.heap.size 3 i0 (.int .i64 0) 1 8 Tryz.underlying82 hi hz0 hz1 hz2 rfl (by decide) _ _ _ rfl (hown1.alloc _) ⟨_,0,none⟩ 1 1 [.int .i64 (l[k]).int] rfl rfl ?c1 ?c2 ?c3 ?c4 ?c5 ?_)
    case c1 =>
     have hcl:=qj (wr.alloc (Obj.cells #[.bool false,.int .i64 (l[k]).int,strB (l[k]).text] 58)) #[.int .i64 (l[k]).int] 3
     have e:(wr.alloc (Obj.cells #[.bool false,.int .i64 (l[k]).int,strB (l[k]).text] 58)).heap.size=wr.heap.size+1:=by simp
     rw [e] at hcl
     exact hcl
    case c2=>intro u hu;simp at hu;subst hu;rfl
    case c3=>unfold maxLen;omega
    case c4=>omega
    case c5=>have:=hB1.size;simp at *;omega
    intro v3 w3 hown3 hgr3 _
    have HO3:=hid hown3
    have HB3:=hid ((hB1.alloc hB1.size _).grown hgr3 (by have:=hB1.size;simp at *;omega) (fun k hk=>(hown1.lt k hk).1))
    clear hown1 hown3 hgr3 hB1
    go_wp2
    go_roundw
    case rel=>exact ⟨k+1,by omega,by go_num,by rw [HV.out];rfl,by rw [HV2.out];simpa [QE] using HO3.out,HB3.out⟩
    case measure=>simp [intOf];omega
  ·have hke:k=l.length:=by omega
   subst hke
   have hul:=jN (QW l l.length) (by omega)
   rw [List.take_length] at hown hv2
   have hln:=Nj hown
   by_cases hv0:je l=[]
   ·have HM:=hid (Gb 0 l (.inr hv0))
    rw [← Ve] at HM
    have hv1:(je l).length=0:=by rw [hv0];rfl
    rw [hv1] at hln
    have hln2:=hln wr
    clear hln hv0 hv1 hown
    generalize QW l l.length=q at *
    go_wp2_with fail
    refine (Jj q _ (by omega)).mono ?_
    rintro e w1 ⟨rfl,hb1⟩
    go_wp2_with fail
    refine (JG 0 _ (by decide) (by decide)).mono ?_
    rintro e w2 ⟨rfl,hb2⟩
    generalize uB q=U at *
    go_wp2_with fail
    refine (XD [U,[byB 0]] _ 2 w2 rfl rfl (by decide) (by simp;omega)).mono ?_
    rintro e w3 ⟨rfl,hb3⟩
    have hB1:=hB.trans (hb1.mono hB.size)
    have hB2:=hB1.trans (hb2.mono hB1.size)
    have hB3:=hB2.trans (hb3.mono hB2.size)
    go_wp2
    go_ret
    exact ⟨qt (by rw [HM.out];simp [byB]),hB3⟩
   ·have HM:=hid (Mt l hv0)
    rw [← Ve] at HM
    have hln2:=hln wr
    have hvp0:=List.length_pos_iff.2 hv0
    have hvp:(((je l).length:Int) == 0)=false:=by simp;omega
    obtain ⟨bv,cv,rfl,hvl2⟩:=IB hown hv0
    have Hvl:=hid hvl2
    have HSm:Hid (∀ c ∈ je l,qw c):=fun c hc=>Hs.out c (List.mem_filter.1 hc).1
    have hfi:=Qx _ HSm.out
    have hlr:=Kx _ HSm.out _ hfi
    have hmr:=Uk _ HSm.out _ hfi
    have hz1:=Kr _ hlr.1 hlr.2
    have hz2:=Kr _ hmr.1 hmr.2
    have Hmin:=hid (Ta bv cv (je l) wr hvp0 (by omega) HSm.out hvl2)
    have Hmax:=hid (Tx bv cv (je l) wr hvp0 (by omega) HSm.out hvl2)
    clear hln hv0 hown hvl2 HSm Hvl hfi
    generalize QW l l.length=q at *
    generalize zu (je l) (qC (je l))=lo at *
    generalize JN (je l) (qC (je l))=hi2 at *
    generalize (je l).length=vl at *
    obtain ⟨lr1,lr2⟩:=hlr
    obtain ⟨mr1,mr2⟩:=hmr
    go_wp2_with fail
    refine Hmin.out.mono ?_
    rintro e w0 ⟨rfl,rfl⟩
    go_wp2_with fail
    refine Hmax.out.mono ?_
    rintro e w0' ⟨rfl,rfl⟩
    go_wp2_with fail
    refine (Jj q _ (by omega)).mono ?_
    rintro e w1 ⟨rfl,hb1⟩
    go_wp2_with fail
    refine (JG 1 _ (by decide) (by decide)).mono ?_
    rintro e w2 ⟨rfl,hb2⟩
    go_wp2_with fail
    refine (Us lo _ lr1 lr2).mono ?_
    rintro e w3 ⟨rfl,hb3⟩
    go_wp2_with fail
    refine (Us hi2 _ mr1 mr2).mono ?_
    rintro e w4 ⟨rfl,hb4⟩
    generalize uB q=U at *
    generalize zB lo=Z1 at *
    generalize zB hi2=Z2 at *
    go_wp2_with fail
    refine (XD [U,[byB 1],Z1,Z2] _ 4 w4 rfl rfl (by decide) (by simp;omega)).mono ?_
    rintro e w5 ⟨rfl,hb5⟩
    have hB1:=hB.trans (hb1.mono hB.size)
    have hB2:=hB1.trans (hb2.mono hB1.size)
    have hB3:=hB2.trans (hb3.mono hB2.size)
    have hB4:=hB3.trans (hb4.mono hB3.size)
    have hB5:=hB4.trans (hb5.mono hB4.size)
    go_wp2
    go_ret
    exact ⟨qt (by rw [HM.out];simp [byB]),hB5⟩
theorem Mp (kind:Int) (a:Option Addr) (cap:Nat) (l:List CellB) (w:World) (hn:l.length≤60) (hs:∀ c ∈ l,qw c) (hl:Lies w a l) :
  Calls Tryz.prog 234 #[.int .i64 kind,.slice a l.length cap] w fun e w'=>e=.returned (strB (JR kind l))∧Below w.heap.size w w':=by
 by_cases hk:kind=0
 ·subst hk;exact AK a cap l w hn hs hl
 ·exact AJ kind a cap l w hk hn hl
end
section
def qe (f:FormF):List UInt8:=Qv f.told f.foot++f.parts
abbrev formV (f:FormF):Value:=.agg #[.int .i64 (f.foot:Int),.bool f.told,strB f.footer,strB [if f.told=true then 83 else 70],.int .i64 0,.int .i64 0,.int .i64 0,strB f.nonce,strB f.body,strB (qe f)]
def SM (file:List UInt8) (w:World) (e:Ending) (w':World):Prop :=
 Below w.heap.size w w'∧((e=gaveUp∧zi file=none)∨∃ f,zi file=some f∧e=.returned (formV f))
structure FileFacts (file:List UInt8) (f:FormF):Prop where
 len:file.length=4+(f.parts.length+((qr f).length+4))
 short:file.length≤65000
 last:file.drop (file.length - 4)=qv ((qr f).length:Int)++[67,70]
 first:file.take 4=Qv f.told f.foot
 mid:(file.drop (4+f.parts.length)).take (qr f).length=qU f.told f.footer (f.nonce,f.body)
theorem Jw {f:FormF} {file:List UInt8} (hok:FormOk f) (e:xi f=file):FileFacts file f:=by
 have hlen:file.length=4+(f.parts.length+((qr f).length+4)):=by
  rw [← e]
  simp only [xi,List.length_append,List.length_cons,List.length_nil,jB]
 refine ⟨hlen,by rw [← e];exact hok.short,?_,?_,?_⟩
 ·rw [hlen,show 4+(f.parts.length+((qr f).length+4)) - 4=4+(f.parts.length+(qr f).length) by omega,← e]
  unfold xi
  rw [← List.drop_drop,List.drop_left' (by simp),← List.append_assoc,List.drop_left' (by simp)]
 ·rw [← e]
  unfold xi Qv
  rw [List.take_left' (by simp)]
 ·rw [← e]
  unfold xi
  rw [← List.drop_drop,List.drop_left' (by simp),List.drop_left' rfl,List.take_left' rfl]
  rfl
theorem CI {file:List UInt8} {N ft:Nat} {told:Bool} {footer:List UInt8} {x:NB} (hl:file.length≤65000) (hN:N+8≤file.length) (hft:1≤ft∧ft≤9) (hno:told=false→footer=[]) (hx:Jx x)
  (h1:file.take 4=Qv told ft) (h2:(file.drop (file.length - 4 - N)).take N=qU told footer x) (h3:file.drop (file.length - 4)=qv (N:Int)++[67,70]) :
  zi file=some ⟨told,ft,(file.drop 4).take (file.length - 4 - N - 4),footer,x.1,x.2⟩:=by
 have e4:file.drop (file.length - 4 - N)=(file.drop (file.length - 4 - N)).take N++file.drop (file.length - 4):=by
  conv=>lhs;rw [← List.take_append_drop N (file.drop (file.length - 4 - N))]
  rw [List.drop_drop]
  congr 2
  omega
 have e5:file.drop 4=(file.drop 4).take (file.length - 4 - N - 4)++file.drop (file.length - 4 - N):=by
  conv=>lhs;rw [← List.take_append_drop (file.length - 4 - N - 4) (file.drop 4)]
  rw [List.drop_drop]
  congr 2
  omega
 have hfp:(qU told footer x).length=N:=by rw [← h2,List.length_take,List.length_drop];omega
 have hfile:xi ⟨told,ft,(file.drop 4).take (file.length - 4 - N - 4),footer,x.1,x.2⟩=file:=by
  have hf:qr ⟨told,ft,(file.drop 4).take (file.length - 4 - N - 4),footer,x.1,x.2⟩=qU told footer x:=rfl
  unfold xi
  rw [hf,hfp]
  simp only
  rw [← h3,← h2,← e4,← e5]
  have:[67,70]++[if told=true then 79 else 69]++[byB (ft:Int)]=file.take 4:=h1.symm
  rw [this,List.take_append_drop]
 conv=>lhs;rw [← hfile]
 exact Kk ⟨hx.1,hx.2.1,hft,by rw [hfile];exact hl,hno⟩
theorem Is (s:List UInt8) (b:Nat):(⟨s.toArray⟩:ByteArray).extract 0 b=⟨(s.take b).toArray⟩:=by
 rw [UB];simp
theorem Su (s:List UInt8) (a:Nat):(⟨s.toArray⟩:ByteArray).extract a s.length=⟨(s.drop a).toArray⟩:=by
 rw [UB]
 congr 2
 rw [List.take_of_length_le (by rw [List.length_drop];omega)]
theorem Ee (file:List UInt8) (w:World) (hs:file.length≤maxLen):Calls Tryz.prog 98 #[strB file] w (SM file w):=by
 have hz:=jK file
 have Hs:=hid hs
 unfold maxLen at hs
 go_enter Tryz.func98,Tryz.ntmps98
 by_cases h8:¬ 8≤file.length
 ·have HN:Hid (zi file=none):=Jv (fun f hok e=>by have:=(Jw hok e).len;omega)
  have i1:¬ (8:Int)≤(file.length:Int):=by omega
  go_wp2_with fail
  refine (qM _).mono ?_
  rintro e w1 ⟨rfl,rfl⟩
  go_wp2
  exact ⟨rfl,(Below.refl _ _).alloc (Nat.le_refl _) _,.inl ⟨rfl,HN.out⟩⟩
 by_cases h65:¬ file.length≤65000
 ·have HN:Hid (zi file=none):=Jv (fun f hok e=>by have:=(Jw hok e).short;omega)
  have i1:(8:Int)≤(file.length:Int):=by omega
  have i2:¬ (file.length:Int)≤65000:=by omega
  go_wp2_with fail
  refine (qM _).mono ?_
  rintro e w1 ⟨rfl,rfl⟩
  go_wp2
  exact ⟨rfl,(Below.refl _ _).alloc (Nat.le_refl _) _,.inl ⟨rfl,HN.out⟩⟩
 have i1:(8:Int)≤(file.length:Int):=by omega
 have i2:(file.length:Int)≤65000:=by omega
 have hw0:IntKind.i64.wrap ((file.length:Int) - 4)=((file.length - 4:Nat):Int):=by rw [IntKind.wrap_i64];omega
 have hE:file.length - 4≤file.length:=by omega
 have hE4:4≤file.length - 4:=by omega
 have HLE:Hid (file.length - 4+4=file.length):=by show _=_;omega
 have hse:=Su file (file.length - 4)
 clear h8 h65
 go_wp2_with fail
 refine (jX _).mono ?_
 rintro e w1 ⟨rfl,rfl⟩
 go_wp2_with fail
 obtain ⟨hb0,hl0,_,ho0⟩:=qg w #[.int .i64 0,.bool false,Value.string { data:=#[] },Value.string { data:=#[] },.int .i64 0,.int .i64 0,.int .i64 0,Value.string { data:=#[] },Value.string { data:=#[] },Value.string { data:=#[] }] 115
 generalize w.alloc _=W0 at *
 have HB0:=hid hb0
 have Ho0:=hid ho0
 clear hb0 ho0
 refine (XG (file.drop (file.length - 4)) W0).mono ?_
 rintro e w2 ⟨rfl,hrd,hb2⟩
 have Hrd:=hid hrd
 have HB2:=hid (HB0.out.trans (hb2.mono HB0.out.size))
 have Ho2:=hid ((hb2.block w.heap.size hl0).trans Ho0.out)
 have hl2:=hb2.size
 clear hrd hb2
 go_wp2_with fail
 refine (IS W0.heap.size _ _ w2 (by rw [List.length_drop];unfold maxLen;omega) Hrd.out).mono ?_
 rintro e w3 ⟨hg3,⟨rfl,hno⟩|⟨N,r,hN,rfl,hp3,hr⟩⟩
 ·have HN:Hid (zi file=none):=Jv (fun f hok e=>by
   have:=hok.lens
   exact hno (qr f).length [] (by omega) (by rw [List.append_nil];exact (Jw hok e).last))
  have HB3:=hid (HB2.out.trans (jg hg3 (by omega) (by omega)))
  clear hno hg3
  go_wp2
  exact ⟨rfl,HB3.out,.inl ⟨rfl,HN.out⟩⟩
 have HB3:=hid (HB2.out.trans (jg hg3 (by omega) (by omega)))
 have Ho3:=hid (jf hg3 Ho2.out (by omega))
 have hl3:=hg3.size
 have HL:Hid (file.drop (file.length - 4)=qv (N:Int)++[67,70]):=by
  have h1:=congrArg List.length hr
  simp only [List.length_append,List.length_drop,jB,List.length_cons,List.length_nil] at h1
  have h2:r=[]:=List.eq_nil_of_length_eq_zero (by omega)
  show _=_
  rw [hr,h2,List.append_nil]
 clear hg3 hp3 hr
 have HNL:Hid (∀ f,FormOk f→xi f=file→(qr f).length=N):=by
  intro f hok e
  have h1:=(Jw hok e).last
  rw [HL.out] at h1
  have:=hok.lens
  exact (Qt hN (by omega) (List.append_inj h1 (by rw [jB,jB])).1).symm
 by_cases hst:¬ N+8≤file.length
 ·have HN:Hid (zi file=none):=Jv (fun f hok e=>by
   have h1:=HNL.out f hok e
   have h2:=(Jw hok e).len
   omega)
  have hw1:IntKind.i64.wrap (((file.length - 4:Nat):Int) - (N:Int))=((file.length - 4:Nat):Int) - (N:Int):=by rw [IntKind.wrap_i64];omega
  have i3:decide ((4:Int)≤((file.length - 4:Nat):Int) - (N:Int))=false:=by simp;omega
  go_wp2_with fail
  refine (qM _).mono ?_
  rintro e w4 ⟨rfl,rfl⟩
  clear hse hw1 hw0
  go_wp2
  exact ⟨rfl,HB3.out,.inl ⟨rfl,HN.out⟩⟩
 have hst':=Decidable.not_not.1 hst
 have hw1:IntKind.i64.wrap (((file.length - 4:Nat):Int) - (N:Int))=((file.length - 4 - N:Nat):Int):=by rw [IntKind.wrap_i64];omega
 have i3:(4:Int)≤((file.length - 4 - N:Nat):Int):=by omega
 have hpr:=Is file (file.length - 4 - N)
 have hpr4:=Is file 4
 have i4:file.length - 4 - N≤file.length:=by omega
 have i5:4≤file.length:=by omega
 clear hst
 go_wp2_with fail
 refine (jX _).mono ?_
 rintro e w4 ⟨rfl,rfl⟩
 go_wp2_with fail
 have hmid:=UB file (file.length - 4 - N) (file.length - 4)
 rw [show file.length - 4 - (file.length - 4 - N)=N by omega] at hmid
 have i6:file.length - 4 - N≤file.length - 4:=by omega
 have i7:((file.length - 4 - N:Nat):Int)≤((file.length - 4:Nat):Int):=by omega
 have i8:((file.length - 4:Nat):Int)≤(file.length:Int):=by omega
 have i9:(0:Int)≤((file.length - 4 - N:Nat):Int):=by omega
 obtain ⟨hb5,hl5,_,hq5⟩:=qg w4 #[.int .i64 0,.bool false,strB [],strB [],.int .i64 0,.int .i64 0,.int .i64 0,strB [],strB [],strB (file.take (file.length - 4 - N))] 115
 show Calls _ _ _ (w4.alloc (.cells #[.int .i64 0,.bool false,strB [],strB [],.int .i64 0,.int .i64 0,.int .i64 0,strB [],strB [],strB (file.take (file.length - 4 - N))] 115)) _
 generalize w4.alloc _=W5 at *
 have HB5:=hid (HB3.out.trans (hb5.mono HB3.out.size))
 have Hq5:=hid hq5
 have Ho5:=hid ((hb5.block w.heap.size (by omega)).trans Ho3.out)
 clear hb5 hq5
 refine (XG (file.take 4) W5).mono ?_
 rintro e w6 ⟨rfl,hrd,hb6⟩
 have Hrd6:=hid hrd
 have HB6:=hid (HB5.out.trans (hb6.mono HB5.out.size))
 have Hq6:=hid ((hb6.block w4.heap.size hl5).trans Hq5.out)
 have Ho6:=hid ((hb6.block w.heap.size (by omega)).trans Ho5.out)
 have hl6:=hb6.size
 clear hrd hb6
 go_wp2_with fail
 refine (YB W5.heap.size w4.heap.size w4.heap.size (file.take 4) (file.take 4) _ _ _ _ _ _ _ _ _ _ w6 (by rw [List.length_take];unfold maxLen;omega) Hrd6.out Hq6.out (by omega) (by omega) (Nat.le_refl _)).mono ?_
 rintro e w7 ⟨hb7,⟨rfl,hno⟩|⟨told,ft,r7,hf1,hf2,rfl,hr7,hq7⟩⟩
 ·have HN:Hid (zi file=none):=Jv (fun f hok e=>by
   have:=hok.foot
   exact hno f.told f.foot [] this.1 this.2 (by rw [List.append_nil];exact (Jw hok e).first))
  have HB7:=hid (HB6.out.trans (hb7.mono HB3.out.size))
  clear hno hb7 hpr hpr4 hse hw0 hw1 hmid
  go_wp2
  exact ⟨rfl,HB7.out,.inl ⟨rfl,HN.out⟩⟩
 have HB7:=hid (HB6.out.trans (hb7.mono HB3.out.size))
 have Hq7:=hid hq7
 have Ho7:=hid ((hb7.block w.heap.size (by omega)).trans Ho6.out)
 have hl7:=hb7.size
 have HH:Hid (file.take 4=Qv told ft):=by
  have h1:=congrArg List.length hr7
  rw [List.length_append,List.length_take,show (Qv told ft).length=4 from rfl] at h1
  have h2:r7=[]:=List.eq_nil_of_length_eq_zero (by omega)
  show _=_
  rw [hr7,h2,List.append_nil]
 clear hb7 hq7 hr7
 go_wp2_with fail
 refine (XG ((file.drop (file.length - 4 - N)).take N) w7).mono ?_
 rintro e w8 ⟨rfl,hrd,hb8⟩
 have Hrd8:=hid hrd
 have HB8:=hid (HB7.out.trans (hb8.mono HB7.out.size))
 have Hq8:=hid ((hb8.block w4.heap.size (by omega)).trans Hq7.out)
 have Ho8:=hid ((hb8.block w.heap.size (by omega)).trans Ho7.out)
 have hl8:=hb8.size
 clear hrd hb8
 go_wp2_with fail
 refine (YE w7.heap.size w4.heap.size w4.heap.size ft told _ _ _ _ _ _ _ _ _ w8 (by rw [List.length_take];unfold maxLen;omega) Hrd8.out Hq8.out (by omega) (by omega) (Nat.le_refl _)).mono ?_
 rintro e w9 ⟨hb9,⟨rfl,hno⟩|⟨footer,x,hfn,hx,rfl,hr9,hq9⟩⟩
 ·have HN:Hid (zi file=none):=Jv (fun f hok e=>by
   have hF:=Jw hok e
   have h1:=HNL.out f hok e
   have h2:=hok.lens
   have h3:f.told=told:=by
    have h4:=hF.first
    rw [HH.out] at h4
    unfold Qv at h4
    cases h5:f.told<;>cases h6:told<;>simp_all
   have h7:file.length - 4 - N=4+f.parts.length:=by have:=hF.len;omega
   refine hno f.footer (f.nonce,f.body) (fun h=>hok.none_ (by rw [h3];exact h)) (by omega) ⟨hok.nonce,hok.body,by simp only;omega⟩ ?_
   rw [h7,← h1,← h3]
   exact hF.mid)
  have HB9:=hid (HB8.out.trans (hb9.mono HB3.out.size))
  clear hno hb9 hpr hpr4 hse hw0 hw1 hmid
  go_wp2
  exact ⟨rfl,HB9.out,.inl ⟨rfl,HN.out⟩⟩
 have HF:=hid (CI (N:=N) (by omega) hst' ⟨hf1,hf2⟩ hfn hx HH.out hr9 HL.out)
 have HB9:=hid (HB8.out.trans (hb9.mono HB3.out.size))
 have Ho9:=hid ((hb9.block w.heap.size (by omega)).trans Ho8.out)
 have HA:Hid (file.take (file.length - 4 - N)=Qv told ft++(file.drop 4).take (file.length - 4 - N - 4)):=by
  show _=_
  rw [← HH.out,← List.take_add]
  congr 1
  omega
 obtain ⟨⟨q0,q1,q2,q3,q4,q5,q6,q7,q8,q9⟩,_⟩:=xg hq9
 clear hq9 hb9 hr9 hpr hpr4 hse hw0 hw1 hmid
 obtain ⟨⟨o0,o1,o2,o3,o4,o5,o6,o7,o8,o9⟩,of⟩:=xg Ho9.out
 have of0:=of 0
 have of1:=of 1
 have of2:=of 2
 have of3:=of 3
 have of4:=of 4
 have of5:=of 5
 have of6:=of 6
 have of7:=of 7
 have of8:=of 8
 have of9:=of 9
 clear of
 have HSB:Hid ((if told=true then (83:UInt8) else 70)=if told=true then (83:UInt8) else 70):=rfl
 generalize hsb:(if told=true then (83:UInt8) else 70)=sb at q3
 have Hsb:=hid hsb
 clear hsb hfn HSB
 have HoE:=hid (JE [.int .i64 (ft:Int),.bool told,strB footer,strB [sb],.int .i64 0,.int .i64 0,.int .i64 0,strB x.1,strB x.2,strB (file.take (file.length - 4 - N))] (by rfl) Ho9.out)
 have HgE:=hid (xy w.heap.size [.int .i64 (ft:Int),.bool told,strB footer,strB [sb],.int .i64 0,.int .i64 0,.int .i64 0,strB x.1,strB x.2,strB (file.take (file.length - 4 - N))] w9 0)
 go_wp2
 show bodyPost _ _ _ _ _ (w9.setCells w.heap.size 0 [.int .i64 (ft:Int),.bool told,strB footer,strB [sb],.int .i64 0,.int .i64 0,.int .i64 0,strB x.1,strB x.2,strB (file.take (file.length - 4 - N))])
 clear q0 q1 q2 q3 q4 q5 q6 q7 q8 q9 o0 o1 o2 o3 o4 o5 o6 o7 o8 o9 of0 of1 of2 of3 of4 of5 of6 of7 of8 of9
 generalize w9.setCells _ _ _=WE at *
 have HBE:=hid (HB9.out.trans (jg HgE.out (Nat.le_refl _) HB9.out.size))
 obtain ⟨⟨q0,q1,q2,q3,q4,q5,q6,q7,q8,q9⟩,_⟩:=xg HoE.out
 refine bodyPost_ret (v:=.agg #[.int .i64 (ft:Int),.bool told,strB footer,strB [sb],.int .i64 0,.int .i64 0,.int .i64 0,strB x.1,strB x.2,strB (file.take (file.length - 4 - N))]) (by simp [results,Tryz.results98,go_sem,q0,q1,q2,q3,q4,q5,q6,q7,q8,q9]) rfl ⟨HBE.out,.inr ⟨_,HF.out,?_⟩⟩
 simp only [formV,qe]
 rw [HA.out,Hsb.out]
end
end Go.Proofs.YthhpbhpfagoapaaGreat
