import Derived.Test.YthhpbhpfagoapabGreatJAX
import Derived.Test.YthhpbhpfagoapabGreatJAR
import Derived.Test.YthhpbhpfagoapabGreatJBG
import Derived.Deep.RegionHeld3
import Derived.Deep.RegionWith
namespace Go.Proofs.YthhpbhpfagoapabGreat
set_option linter.unusedVariables false
set_option linter.unusedSimpArgs false
set_option maxRecDepth 100000
set_option maxHeartbeats 16000000
open Go.RowKit
structure LiesJs (w:World) (a:Option Addr) (js:List JobB):Prop where
 at_:js≠[]→∃ b off,a=some ⟨b,off,none⟩∧b < w.heap.size∧∀ k (h:k < js.length),∃ ta tc,
  w.cell? ⟨b,off+k*7,none⟩=some (.slice ta (js[k]).table.length tc)∧w.cell? ⟨b,off+k*7+1,none⟩=some (.int .i64 (js[k]).plan.group)∧w.cell? ⟨b,off+k*7+2,none⟩=some (.int .i64 (js[k]).plan.page)∧w.cell? ⟨b,off+k*7+3,none⟩=some (.int .i64 (js[k]).plan.foot) ∧
  w.cell? ⟨b,off+k*7+4,none⟩=some (.bool (js[k]).plan.told)∧w.cell? ⟨b,off+k*7+5,none⟩=some (strB (js[k]).pre)∧w.cell? ⟨b,off+k*7+6,none⟩=some (.int .i64 (js[k]).draw)∧LiesJ w ta tc (js[k])
theorem LiesJs.later {w w':World} {a:Option Addr} {js:List JobB} (h:LiesJs w a js) (hb:Below w.heap.size w w'):LiesJs w' a js:=by
 refine ⟨fun hne=>?_⟩
 obtain ⟨b,off,ha,hlt,hc⟩:=h.at_ hne
 refine ⟨b,off,ha,Nat.lt_of_lt_of_le hlt hb.size,fun k hk=>?_⟩
 obtain ⟨ta,tc,h0,h1,h2,h3,h4,h5,h6,h7⟩:=hc k hk
 exact ⟨ta,tc,(hb.cell (p:=⟨b,_,none⟩) hlt).trans h0,(hb.cell (p:=⟨b,_,none⟩) hlt).trans h1,(hb.cell (p:=⟨b,_,none⟩) hlt).trans h2,(hb.cell (p:=⟨b,_,none⟩) hlt).trans h3,(hb.cell (p:=⟨b,_,none⟩) hlt).trans h4,(hb.cell (p:=⟨b,_,none⟩) hlt).trans h5,(hb.cell (p:=⟨b,_,none⟩) hlt).trans h6,h7.later hb⟩
theorem LiesJs.take {w:World} {a:Option Addr} {js:List JobB} (h:LiesJs w a js) (n:Nat):LiesJs w a (js.take n):=by
 refine ⟨fun hne=>?_⟩
 have hne2:js≠[]:=by intro e;subst e;simp at hne
 obtain ⟨b,off,ha,hlt,hc⟩:=h.at_ hne2
 refine ⟨b,off,ha,hlt,fun k hk=>?_⟩
 rw [List.length_take] at hk
 rw [List.getElem_take]
 exact hc k (by omega)
def Lc (js:List JobB) (p:List UInt8) (r:Int):Prop :=
 (∃ k:Nat,∃ h:k < js.length,r=(k:Int)∧(js[k]).pre=p∧∀ j ∈ js.take k,j.pre≠p)∨(r=-1∧∀ j ∈ js,j.pre≠p)
theorem Re (p:List UInt8) (w:World) :
  Calls Tryz.prog 49 #[strB p] w fun e w'=>e=.returned (.func (.func 81) #[] #[.pointer (some ⟨w.heap.size,0,none⟩)])∧w'.cell? ⟨w.heap.size,0,none⟩=some (strB p)∧w.heap.size < w'.heap.size∧Below w.heap.size w w':=by
 have hmf:∀ (fn:Fn) (first cap:Array Value) (w:World),(Instr.makeFunc fn first cap).run Tryz.prog w=.ok (.func fn first cap) w:=fun _ _ _ _=>rfl
 obtain ⟨h1,h2,h3,_⟩:=jK w #[strB p] 9
 go_enter Tryz.func49,Tryz.ntmps49
 go_wp2
 go_ret
 exact ⟨rfl,h3 0,h2,h1⟩
theorem Pf (tv:Value) (j:JobB) (p:List UInt8) (Bn:Nat) (w:World) (h:w.cell? ⟨Bn,0,none⟩=some (strB p)) :
  Calls Tryz.prog 81 #[jobV tv j,.pointer (some ⟨Bn,0,none⟩)] w fun e w'=>e=.returned (.bool (j.pre == p))∧Below w.heap.size w w':=by
 have hlt:=World.block_lt_of_cell? w _ h
 go_enter Tryz.func81,Tryz.ntmps81
 go_wp2
 go_ret
 exact ⟨rfl,(Below.refl _ _).alloc (Nat.le_refl _) _⟩
theorem RO (a:Option Addr) (cap:Nat) (js:List JobB) (p:List UInt8) (Bn:Nat) (w:World) (hm:js.length≤maxLen) (hl:LiesJs w a js) (h:w.cell? ⟨Bn,0,none⟩=some (strB p)) :
  Calls Tryz.prog 48 #[.slice a js.length cap,.func (.func 81) #[] #[.pointer (some ⟨Bn,0,none⟩)]] w fun e w'=>(∃ r,e=.returned (.int .i64 r)∧Lc js p r)∧Below w.heap.size w w':=by
 have Hl:=hid hl
 have Hn:=hid h
 have hlt0:=World.block_lt_of_cell? w _ h
 clear hl h
 unfold maxLen at hm
 go_enter Tryz.func48,Tryz.ntmps48
 go_wp2
 go_loopw [8] (fun i wr=>∃ k:Nat,k≤js.length∧i=.int .i64 (k:Int)∧(∀ j ∈ js.take k,j.pre≠p)∧Below w.heap.size w wr) (fun i _=>js.length - (intOf i).toNat)
 case atStart=>exact ⟨0,Nat.zero_le _,rfl,(by simp),Below.refl _ _⟩
 case round =>
  obtain ⟨k,hk,rfl,ht,hB⟩:=hrel
  have Ht:=hid ht
  clear ht
  by_cases hlt:k < js.length
  ·obtain ⟨b,off,rfl,hbw,hcell⟩:=(Hl.out.later hB).at_ (List.ne_nil_of_length_pos (by omega))
   obtain ⟨ta,tc,c0,c1,c2,c3,c4,c5,c6,_⟩:=hcell k hlt
   have hnum:=(hB.cell (p:=⟨Bn,0,none⟩) hlt0).trans Hn.out
   have HE:=hid (Pf (.slice ta (js[k]).table.length tc) js[k] p Bn wr hnum)
   have hki:(k:Int) < (js.length:Int):=by omega
   have HN:Hid ((js[k]).pre≠p→∀ j ∈ js.take (k+1),j.pre≠p):=by
    intro hne j hj
    rw [List.take_succ_eq_append_getElem hlt,List.mem_append] at hj
    rcases hj with hj|hj
    ·exact Ht.out j hj
    ·simp only [List.mem_cons,List.not_mem_nil,or_false] at hj;subst hj;exact hne
   have HY:Hid ((js[k]).pre=p→Lc js p (k:Int)):=fun he=>.inl ⟨k,hlt,rfl,he,Ht.out⟩
   clear hcell
   generalize js[k]=J at *
   generalize J.table.length=n at *
   go_wp2_with fail
   refine HE.out.mono ?_
   rintro e w2 ⟨rfl,hb2⟩
   have HB2:=hid (hB.trans (hb2.mono hB.size))
   clear HE hb2 c0 c1 c2 c3 c4 c5 c6 hnum
   by_cases he:J.pre=p
   ·have hq:(J.pre == p)=true:=by simp [he]
    have HP:=hid (HY.out he)
    clear he HY HN
    go_wp2
    go_ret
    exact ⟨⟨_,rfl,HP.out⟩,HB2.out⟩
   ·have hq:(J.pre == p)=false:=by simpa using he
    have HP:=hid (HN.out he)
    clear he HY HN
    go_wp2
    go_roundw
    case rel=>exact ⟨k+1,by omega,by go_num,HP.out,HB2.out⟩
    case measure=>simp [intOf];omega
  ·have HP:Hid (Lc js p (-1)):=.inr ⟨rfl,by have:=Ht.out;rw [List.take_of_length_le (by omega)] at this;exact this⟩
   go_wp2
   go_ret
   exact ⟨⟨_,rfl,HP.out⟩,hB⟩
theorem Yx (a:Option Addr) (cap:Nat) (js:List JobB) (p:List UInt8) (Bn:Nat) (w:World) (hm:js.length≤maxLen) (hl:LiesJs w a js) (h:w.cell? ⟨Bn,0,none⟩=some (strB p)) :
  Calls Tryz.prog 80 #[.slice a js.length cap,.func (.func 81) #[] #[.pointer (some ⟨Bn,0,none⟩)]] w fun e w'=>((e=.returned (.bool true)∧∃ j ∈ js,j.pre=p)∨(e=.returned (.bool false)∧∀ j ∈ js,j.pre≠p))∧Below w.heap.size w w':=by
 have HI:=hid (RO a cap js p Bn w hm hl h)
 clear hl h hm
 go_enter Tryz.func80,Tryz.ntmps80
 go_wp2_with fail
 refine HI.out.mono ?_
 rintro e w2 ⟨⟨r,rfl,⟨k,hk,rfl,hp,_⟩|⟨rfl,hp⟩⟩,hb2⟩
 ·have HP:Hid (∃ j ∈ js,j.pre=p):=⟨js[k],List.getElem_mem hk,hp⟩
  have hki:(0:Int)≤(k:Int):=by omega
  clear hp hk HI
  go_wp2
  go_ret
  exact ⟨.inl ⟨rfl,HP.out⟩,hb2⟩
 ·have HP:=hid hp
  clear hp HI
  go_wp2
  go_ret
  exact ⟨.inr ⟨rfl,HP.out⟩,hb2⟩
def QV (js:List JobB):Prop:=∀ k (h:k < js.length),∀ j ∈ js.take k,j.pre≠(js[k]).pre
theorem TN (a:Option Addr) (cap:Nat) (js:List JobB) (w:World) (hm:js.length≤8) (hc:js.length≤cap) (hl:LiesJs w a js) :
  Calls Tryz.prog 47 #[.slice a js.length cap] w fun e w'=>((e=.returned (.bool true)∧¬ QV js)∨(e=.returned (.bool false)∧QV js))∧Below w.heap.size w w':=by
 have Hl:=hid hl
 clear hl
 go_enter Tryz.func47,Tryz.ntmps47
 go_wp2
 go_loopw [7] (fun i wr=>∃ k:Nat,k≤js.length∧i=.int .i64 (k:Int)∧(∀ m (h:m < k) (h2:m < js.length),∀ j ∈ js.take m,j.pre≠(js[m]).pre)∧Below w.heap.size w wr) (fun i _=>js.length - (intOf i).toNat)
 case atStart=>exact ⟨0,Nat.zero_le _,rfl,(fun m h=>by omega),Below.refl _ _⟩
 case round =>
  obtain ⟨k,hk,rfl,ht,hB⟩:=hrel
  have Ht:=hid ht
  clear ht
  by_cases hlt:k < js.length
  ·have hki:(k:Int) < (js.length:Int):=by omega
   have Hl2:=hid (Hl.out.later hB)
   obtain ⟨b,off,rfl,hbw,hcell⟩:=Hl2.out.at_ (List.ne_nil_of_length_pos (by omega))
   obtain ⟨ta,tc,c0,c1,c2,c3,c4,c5,c6,_⟩:=hcell k hlt
   clear hcell
   have HYE:Hid ((∃ j ∈ js.take k,j.pre=(js[k]).pre)→¬ QV js):=fun ⟨j,hj,he⟩ hap=>hap k hlt j hj he
   have HNE:Hid ((∀ j ∈ js.take k,j.pre≠(js[k]).pre)→∀ m (h:m < k+1) (h2:m < js.length),∀ j ∈ js.take m,j.pre≠(js[m]).pre):=by
    intro hn m hm2 h2
    by_cases e:m=k
    ·subst e;exact hn
    ·exact Ht.out m (by omega) h2
   have hlen:(js.take k).length=k:=by rw [List.length_take];omega
   have HC:=hid (fun w' Bn (hb:Below wr.heap.size wr w') (hn:w'.cell? ⟨Bn,0,none⟩=some (strB (js[k]).pre))=>Yx (some ⟨b,off,none⟩) cap (js.take k) (js[k]).pre Bn w' (by rw [hlen];unfold maxLen;omega) ((Hl2.out.take k).later hb) hn)
   rw [hlen] at HC
   clear hlen
   generalize hJ:js[k]=J at *
   clear hJ
   generalize J.table.length=n at *
   go_upto_region 4 with fail
   clear c0 c1 c2 c3 c4 c5 c6
   obtain ⟨hbb,hsb,_,hhb⟩:=jK wr #[.slice ta n tc,.int .i64 J.plan.group,.int .i64 J.plan.page,.int .i64 J.plan.foot,.bool J.plan.told,strB J.pre,.int .i64 J.draw] 27
   generalize wr.alloc (.cells #[.slice ta n tc,.int .i64 J.plan.group,.int .i64 J.plan.page,.int .i64 J.plan.foot,.bool J.plan.told,.string ⟨J.pre.toArray⟩,.int .i64 J.draw] 27)=w3 at *
   have z5:w3.cell? ⟨wr.heap.size,5,none⟩=some (strB J.pre):=by rw [jb hhb];rfl
   have HB3:=hid (hB.trans (hbb.mono hB.size))
   have hltx:wr.heap.size < w3.heap.size:=hsb
   have HC3:Hid (∀ w' Bn,Below w3.heap.size w3 w'→w'.cell? ⟨Bn,0,none⟩=some (strB J.pre)→Calls Tryz.prog 80 #[.slice (some ⟨b,off,none⟩) k cap,.func (.func 81) #[] #[.pointer (some ⟨Bn,0,none⟩)]] w' fun e w4=>∃ bb,e=.returned (.bool bb)∧((bb=true∧∃ j ∈ js.take k,j.pre=J.pre)∨(bb=false∧∀ j ∈ js.take k,j.pre≠J.pre))∧Below w'.heap.size w' w4):=by
    intro w' Bn hb hn
    refine (HC.out w' Bn (hbb.trans (hb.mono hbb.size)) hn).mono ?_
    rintro e w4 ⟨⟨rfl,h⟩|⟨rfl,h⟩,hb4⟩
    ·exact ⟨true,rfl,.inl ⟨rfl,h⟩,hb4⟩
    ·exact ⟨false,rfl,.inr ⟨rfl,h⟩,hb4⟩
   clear hhb hbb hsb HC hB
   generalize hpx:wr.heap.size=px at *
   clear hpx
   have hk0:(0:Int)≤(k:Int):=by omega
   have hkc:(k:Int)≤(cap:Int):=by omega
   have hkn:((k:Int)).toNat=k:=by omega
   have hkne:¬ ((k:Int)=(cap:Int)):=by omega
   have hd0:w3.drew.cell? ⟨px,5,none⟩=some (strB J.pre):=z5
   go_region_held3 (fun w'=>w'.cell? ⟨px,5,none⟩=some (strB J.pre))
    (first|with_reducible exact Y5|with_reducible exact Y4|with_reducible exact hd0)
    (first
     | (go_at_call 49;refine (Re J.pre _).mono ?_;rintro e w4 ⟨rfl,hn4,_,hb4⟩;have Y4:w4.cell? ⟨px,5,none⟩=some (strB J.pre):=(hb4.cell (p:=⟨px,5,none⟩) hltx).trans z5)
     | (go_at_call 80;refine (HC3.out _ _ (jl hb4) hn4).mono ?_;rintro e w5 ⟨bb,rfl,hcase,hb5⟩;have Y5:w5.cell? ⟨px,5,none⟩=some (strB J.pre):=(hb5.cell (p:=⟨px,5,none⟩) (Nat.lt_of_lt_of_le hltx hb4.size)).trans Y4))
   rename_i hSS
   clear hSS
   have hb4':=jl hb4
   have hb5':=HB3.out.trans ((hb4'.trans (hb5.mono hb4'.size)).mono HB3.out.size)
   have HB5:=hid hb5'
   clear hb4 hb5 hb4' hb5' Y5 Y4 hd0 HC3 hn4
   rcases hcase with ⟨rfl,hY⟩|⟨rfl,hN⟩
   ·have HX:=hid (HYE.out hY)
    clear hY HYE HNE
    go_wp2
    go_ret
    exact ⟨.inl ⟨rfl,HX.out⟩,HB5.out⟩
   ·have HX:=hid (HNE.out hN)
    clear hN HYE HNE
    go_wp2
    go_roundw
    case rel=>exact ⟨k+1,by omega,by go_num,HX.out,HB5.out⟩
    case measure=>simp [intOf];omega
  ·have HX:Hid (QV js):=fun m hm2=>Ht.out m (by omega) hm2
   go_wp2
   go_ret
   exact ⟨.inr ⟨rfl,HX.out⟩,hB⟩
def xf (js:List JobB) (r:List KeyB):List SealB:=js.flatMap fun j=>Jg j r
def XM (js:List JobB) (r:List KeyB):Prop:=js.length≤8∧QV js∧∀ j ∈ js,zH j r=0
theorem KJ (a b:List SealB):qI (a++b)=qI a++qI b:=by simp [qI]
theorem VL {w:World} {base e size n g cap:Nat} {xs:List Value} (h:w.ownsRow base e size (.slice (some ⟨g,0,none⟩) n cap) n xs):∀ j u,xs[j]?=some u→w.cell? ((⟨g,0,none⟩:Addr).add j)=some u:=by
 intro j u hu
 have hj:=(List.getElem?_eq_some_iff.1 hu).1
 have h1:=h.1
 have e:(⟨g,0,none⟩:Addr).add j=⟨g,j,none⟩:=by simp [Addr.add];omega
 rw [e,h.cellAt j (by omega)]
 exact hu
theorem Ey (a:Option Addr) (cap:Nat) (js:List JobB) (ra:Option Addr) (rcap:Nat) (r:List KeyB) (w:World) (hm:js.length≤maxLen) (hc:js.length≤cap) (hl:LiesJs w a js) (hr:LiesK w ra r) (hrm:r.length≤maxLen) :
  Calls Tryz.prog 26 #[.slice a js.length cap,.slice ra r.length rcap] w fun e w'=>((¬ XM js r∧e=.returned (.tuple #[.slice none 0 0,.int .i64 10]))∨(XM js r∧∃ lv,e=.returned (.tuple #[lv,.int .i64 0])∧w'.ownsRow w.heap.size 54 4 lv (xf js r).length (qI (xf js r))∧(xf js r).length≤800000))∧Below w.heap.size w w':=by
 obtain ⟨i0,hi,hz0,hz1,hz2⟩:=info_parts Tryz.infoSealed
 have Hl:=hid hl
 have Hr:=hid hr
 have Hrm:=hid hrm
 clear hl hr hrm
 unfold maxLen at hm
 by_cases h8:js.length≤8
 ·have h8i:¬ (8:Int) < (js.length:Int):=by omega
  have HS:=hid (TN a cap js w h8 hc Hl.out)
  go_enter Tryz.func26,Tryz.ntmps26
  go_wp2_with fail
  refine HS.out.mono ?_
  rintro e w1 ⟨⟨rfl,hap⟩|⟨rfl,hap⟩,hb1⟩
  ·have HX:Hid (¬ XM js r):=fun h=>hap h.2.1
   clear hap HS
   go_wp2
   go_ret2
   exact ⟨.inl ⟨HX.out,rfl⟩,hb1⟩
  ·have HAP:=hid hap
   have Hl1:=hid (Hl.out.later hb1)
   have Hr1:=hid (Hr.out.later hb1)
   have HB1:=hid hb1
   clear hap HS hb1
   go_wp2
   go_loopw [6,21] (fun v i wr=>∃ k:Nat,k≤js.length∧i=.int .i64 (k:Int)∧(∀ j ∈ js.take k,zH j r=0)∧wr.ownsRow w1.heap.size 54 4 v (xf (js.take k) r).length (qI (xf (js.take k) r))∧(xf (js.take k) r).length≤100000*k∧Below w1.heap.size w1 wr) (fun _ i _=>js.length - (intOf i).toNat)
   case atStart=>exact ⟨0,Nat.zero_le _,rfl,(by simp),World.ownsRow_nil _ _ _ _,Nat.le_refl _,Below.refl _ _⟩
   case round =>
    obtain ⟨k,hk,rfl,ht,hown,hll,hB⟩:=hrel
    have Ht:=hid ht
    have HOwn:=hid hown
    have HB:=hid hB
    clear ht hown
    by_cases hlt:k < js.length
    ·have hki:(k:Int) < (js.length:Int):=by omega
     obtain ⟨b,off,rfl,hbw,hcell⟩:=(Hl1.out.later hB).at_ (List.ne_nil_of_length_pos (by omega))
     obtain ⟨ta,tc,c0,c1,c2,c3,c4,c5,c6,hLJ⟩:=hcell k hlt
     have HTK:Hid (js.take (k+1)=js.take k++[js[k]]):=List.take_succ_eq_append_getElem hlt
     have HMem:Hid (js[k] ∈ js):=List.getElem_mem hlt
     clear hcell hB
     generalize hJ:js[k]=J at *
     clear hJ
     have HLJ:=hid hLJ
     have HGD:Hid (zH J r=0→GoodJ J r):=fun h=>GE h (YM HLJ.out.table)
     clear hLJ
     go_upto_region 7 with fail
     clear c0 c1 c2 c3 c4 c5 c6
     obtain ⟨hbb,hsb,_,hhb⟩:=jK wr #[.slice ta J.table.length tc,.int .i64 J.plan.group,.int .i64 J.plan.page,.int .i64 J.plan.foot,.bool J.plan.told,strB J.pre,.int .i64 J.draw] 27
     generalize wr.alloc (.cells #[.slice ta J.table.length tc,.int .i64 J.plan.group,.int .i64 J.plan.page,.int .i64 J.plan.foot,.bool J.plan.told,.string ⟨J.pre.toArray⟩,.int .i64 J.draw] 27)=w3 at *
     obtain ⟨⟨z0,z1,z2,z3,z4,z5,z6⟩,_⟩:=JX hhb
     have HB3:=hid (HB.out.trans (hbb.mono HB.out.size))
     have HW:=hid (Rv ta tc ra rcap r J w3 (HLJ.out.later hbb) (Hr1.out.later HB3.out) Hrm.out)
     have HOwn3:=hid (jN HOwn.out hbb)
     clear hhb hbb hsb HLJ HOwn
     go_wp2_with fail
     refine HW.out.mono ?_
     clear z0 z1 z2 z3 z4 z5 z6 HW
     rintro e w4 ⟨hb4,⟨hne,rfl⟩|⟨hz,lv,rfl,hlog⟩⟩
     ·have HX:Hid (¬ XM js r):=fun h=>hne (h.2.2 J HMem.out)
      have HB4:=hid (HB1.out.trans ((HB3.out.trans (hb4.mono HB3.out.size)).mono HB1.out.size))
      have hnz:(zH J r != 0)=true:=by simpa using hne
      clear hne hb4
      go_wp2
      go_ret2
      exact ⟨.inl ⟨HX.out,rfl⟩,HB4.out⟩
     ·have hlen:=(HGD.out hz).logLen
      have hpos:=Dk J r
      have HT2:Hid (∀ j ∈ js.take (k+1),zH j r=0):=by
       intro j hj
       rw [HTK.out,List.mem_append] at hj
       rcases hj with hj|hj
       ·exact Ht.out j hj
       ·simp only [List.mem_cons,List.not_mem_nil,or_false] at hj;subst hj;exact hz
      have HLG:Hid (xf (js.take (k+1)) r=xf (js.take k) r++Jg J r):=by
       show xf (js.take (k+1)) r=_
       rw [HTK.out]
       simp [xf]
      obtain ⟨g,lcap,rfl⟩:∃ g lcap,lv=.slice (some ⟨g,0,none⟩) (Jg J r).length lcap:=by
       rcases hlog.2 with ⟨_,h0⟩|⟨g,lcap,cur,h,_⟩
       ·omega
       ·exact ⟨g,lcap,h⟩
      have HO4:=hid (jN HOwn3.out hb4)
      have HLog:=hid hlog
      have HB4:=hid (HB3.out.trans (hb4.mono HB3.out.size))
      have hs4:=HB4.out.size
      have HSL:=hid (Xj (Jg J r))
      have HS1:=hid (Vr (l:=Jg J r))
      clear hz hlog hb4 HOwn3 Ht HGD
      generalize hLk:xf (js.take k) r=Lk at *
      generalize hLj:Jg J r=Lj at *
      clear hLk hLj
      go_wp2_with (at_builtin;refine wpList_append_own _ rfl (.tmp 34) (.tmp 35) 37 rfl w1.heap.size 54 i0 _ 4 64 Tryz.underlying37 hi hz0 hz1 hz2 rfl (by decide) _ _ _ rfl HO4.out ⟨g,0,none⟩ Lj.length lcap (qI Lj) rfl HSL.out (VL HLog.out) HS1.out (by unfold maxLen;omega) (by omega) hs4 ?_)
      intro v2 w5 hown2 hgr2 _
      have HB5:=hid (HB4.out.grown hgr2 hs4 (fun k hk=>(HO4.out.lt k hk).1))
      have HO5:Hid (w5.ownsRow w1.heap.size 54 4 v2 (xf (js.take (k+1)) r).length (qI (xf (js.take (k+1)) r))):=by
       show w5.ownsRow _ _ _ _ _ _
       rw [HLG.out,KJ,List.length_append]
       exact hown2
      have HLL:Hid ((xf (js.take (k+1)) r).length≤100000*(k+1)):=by
       show (xf (js.take (k+1)) r).length≤100000*(k+1)
       rw [HLG.out,List.length_append]
       omega
      clear hown2 hgr2 HO4 HLog
      go_wp2
      go_roundw
      case rel=>exact ⟨k+1,by omega,by go_num,HT2.out,HO5.out,HLL.out,HB5.out⟩
      case measure=>simp [intOf];omega
    ·have hke:k=js.length:=by omega
     subst hke
     have HX:Hid (XM js r):=⟨h8,HAP.out,by have:=Ht.out;rw [List.take_length] at this;exact this⟩
     have HO:Hid (wr.ownsRow w.heap.size 54 4 u6 (xf js r).length (qI (xf js r))):=by
      have:=Vw HOwn.out HB1.out.size
      rw [List.take_length] at this
      exact this
     have HB4:=hid (HB1.out.trans (HB.out.mono HB1.out.size))
     have HLN:Hid ((xf js r).length≤800000):=by
      rw [List.take_length] at hll
      show (xf js r).length≤800000
      omega
     obtain ⟨va,vc,rfl⟩:=jL HO.out
     clear HOwn hll
     go_wp2
     go_ret2
     exact ⟨.inr ⟨HX.out,_,rfl,HO.out,HLN.out⟩,HB4.out⟩
 ·have h8i:(8:Int) < (js.length:Int):=by omega
  have HX:Hid (¬ XM js r):=fun h=>h8 h.1
  clear h8
  go_enter Tryz.func26,Tryz.ntmps26
  go_wp2
  go_ret2
  exact ⟨.inl ⟨HX.out,rfl⟩,Below.refl _ _⟩
end Go.Proofs.YthhpbhpfagoapabGreat
