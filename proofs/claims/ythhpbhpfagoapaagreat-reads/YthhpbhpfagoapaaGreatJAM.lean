import Derived.Test.YthhpbhpfagoapaaGreatJAQ
import Derived.Test.YthhpbhpfagoapaaGreatWTab
import Derived.Test.YthhpbhpfagoapaaGreatDRows
import Derived.Deep.RegionHeld3
import Derived.Test.YthhpbhpfagoapaaGreatTk
import Derived.Test.YthhpbhpfagoapaaGreatJAD
import Derived.Test.YthhpbhpfagoapaaGreatJAO
import Derived.Test.YthhpbhpfagoapaaGreatJAK
import Derived.Laws.IdiomCopy
namespace Go.Proofs.YthhpbhpfagoapaaGreat
set_option linter.unusedVariables false
set_option linter.unusedSimpArgs false
set_option maxRecDepth 100000
set_option maxHeartbeats 16000000
open Go.RowKit
section
end
section
theorem Cv (w:World):Calls Tryz.prog 194 #[.slice none 0 0] w fun e w'=>e=.returned (strB [])∧Below w.heap.size w w':=by
 obtain ⟨i0,hi,hz0,hz1,hz2⟩:=info_parts Tryz.infoU8
 go_enter Tryz.func194,Tryz.ntmps194
 go_wp2
 go_loop [3,11] (fun t i=>i=.int .i64 0∧t=.int .i64 0) (fun _ _=>0)
 case atStart=>exact ⟨rfl,rfl⟩
 case round =>
  obtain ⟨rfl,rfl⟩:=hrel
  go_wp2_with (at_make;refine wpList_make_own _ rfl (.const (.int .i64 0)) (.tmp 20) 149 rfl w.heap.size 5 i0 (.int .u8 0) 1 Tryz.underlying149 hi hz0 hz1 .i64 .i64 _ 0 rfl rfl rfl (by rw [hz2];omega) (by unfold maxLen;omega) (Nat.le_refl _) ?_;intro w3 hown hgr)
  have hB3:Below w.heap.size w w3:=(Below.refl _ _).grown hgr (Nat.le_refl _) (fun _ h=>by cases h)
  clear hgr
  go_loopw [6,24] (fun v i wr=>i=.int .i64 0∧wr.ownsRow w.heap.size 5 1 v 0 (qD [])∧Below w.heap.size w wr) (fun _ _ _=>0)
  case atStart=>exact ⟨rfl,hown,hB3⟩
  case round =>
   clear hown hB3
   obtain ⟨rfl,hown,hB⟩:=hrel
   have hcv:=Uz hown
   go_wp2
   go_ret
   exact ⟨rfl,hB⟩
abbrev modV (sort:UInt8) (g c p:Nat):Value:=.agg #[strB [sort],.int .i64 (g:Int),.int .i64 (c:Int),.int .i64 (p:Int)]
def BoxM (w:World) (q:Nat) (sort:UInt8) (g c p:Nat):Prop :=
 w.cell? ⟨q,0,none⟩=some (strB [sort])∧w.cell? ⟨q,1,none⟩=some (.int .i64 (g:Int))∧w.cell? ⟨q,2,none⟩=some (.int .i64 (c:Int))∧w.cell? ⟨q,3,none⟩=some (.int .i64 (p:Int))
theorem BoxM.later {w w':World} {q g c p:Nat} {sort:UInt8} (h:BoxM w q sort g c p) (hb:Below w.heap.size w w') (hq:q < w.heap.size):BoxM w' q sort g c p:=by
 obtain ⟨h0,h1,h2,h3⟩:=h
 exact ⟨(hb.cell (p:=⟨q,_,none⟩) hq).trans h0,(hb.cell (p:=⟨q,_,none⟩) hq).trans h1,(hb.cell (p:=⟨q,_,none⟩) hq).trans h2,(hb.cell (p:=⟨q,_,none⟩) hq).trans h3⟩
theorem BoxM.alloc {w:World} {q g c p:Nat} {sort:UInt8} (h:BoxM w q sort g c p) (o:Obj):BoxM (w.alloc o) q sort g c p:=by
 obtain ⟨h0,h1,h2,h3⟩:=h
 exact ⟨jc o h0,jc o h1,jc o h2,jc o h3⟩
def Joins (w:World) (v:Value) (f:List UInt8):Prop:=∀ w',Below w.heap.size w w'→Calls Tryz.prog 194 #[v] w' fun e w2=>e=.returned (strB f)∧Below w'.heap.size w' w2
theorem Ac (w:World):Joins w (.slice none 0 0) []:=fun w' _=>Cv w'
theorem RT (sort:UInt8) (g c p:Nat) (pre:List UInt8) (bv:Value) (f:List UInt8) (w:World) (hg:g≤65535) (hc:c≤65535) (hp:p≤65535) (hpre:pre.length≤20) (hf:f.length≤5000) (hJ:Joins w bv f) :
  Calls Tryz.prog 171 #[modV sort g c p,strB pre,bv] w fun e w'=>e=.returned (strB (qu pre sort g c p++f))∧Below w.heap.size w w':=by
 have HJ:=hid hJ
 clear hJ
 have HE:Hid ([xB pre,[sort],qv (g:Int),qv (c:Int),qv (p:Int),f].flatten=qu pre sort g c p++f):=by simp [Hid,qu]
 have hxl:(xB pre).length≤40:=by have:=jN pre.length (by omega);simp only [xB,List.length_append];omega
 go_enter Tryz.func171,Tryz.ntmps171
 go_wp2_with fail
 obtain ⟨hb0,hs0,hc0,_⟩:=qg w #[strB [sort],.int .i64 (g:Int),.int .i64 (c:Int),.int .i64 (p:Int)] 111
 have X0:BoxM _ w.heap.size sort g c p:=⟨hc0 0,hc0 1,hc0 2,hc0 3⟩
 have Hb0:=hid hb0
 clear hc0 hb0
 generalize w.alloc _=wb at *
 generalize hX:xB pre=X at *
 generalize hG:qv (g:Int)=G at *
 generalize hC:qv (c:Int)=C at *
 generalize hP:qv (p:Int)=P at *
 have HT:Hid (∀ w',Calls Tryz.prog 204 #[strB pre] w' fun e w2=>e=.returned (strB X)∧Below w'.heap.size w' w2):=by
  intro w';rw [← hX];exact Nt pre w' (by omega)
 have HG:Hid (∀ w',Calls Tryz.prog 220 #[.int .i64 (g:Int)] w' fun e w2=>e=.returned (strB G)∧Below w'.heap.size w' w2):=by
  intro w';rw [← hG];exact KE _ w' (by omega) (by omega)
 have HC:Hid (∀ w',Calls Tryz.prog 220 #[.int .i64 (c:Int)] w' fun e w2=>e=.returned (strB C)∧Below w'.heap.size w' w2):=by
  intro w';rw [← hC];exact KE _ w' (by omega) (by omega)
 have HP:Hid (∀ w',Calls Tryz.prog 220 #[.int .i64 (p:Int)] w' fun e w2=>e=.returned (strB P)∧Below w'.heap.size w' w2):=by
  intro w';rw [← hP];exact KE _ w' (by omega) (by omega)
 have hGl:G.length=2:=by rw [← hG];rfl
 have hCl:C.length=2:=by rw [← hC];rfl
 have hPl:P.length=2:=by rw [← hP];rfl
 clear hX hG hC hP
 go_region_held3 (fun w'=>w'.cell? ⟨w.heap.size,0,none⟩=some (strB [sort])∧w'.cell? ⟨w.heap.size,1,none⟩=some (.int .i64 (g:Int))∧w'.cell? ⟨w.heap.size,2,none⟩=some (.int .i64 (c:Int))∧w'.cell? ⟨w.heap.size,3,none⟩=some (.int .i64 (p:Int)))
  (first|exact X6|exact X5.alloc _|exact X5|exact X4|exact X3|exact X2|exact X1|exact X0)
  (first
   | (go_at_call 204;refine (HT.out _).mono ?_;rintro e w1 ⟨rfl,hb1⟩;replace hb1:=ji hb1;have X1:=X0.later hb1 hs0;have hs1:=Nat.lt_of_lt_of_le hs0 hb1.size)
   | (go_at_call_of 220 (Value.int IntKind.i64 (g:Int));refine (HG.out _).mono ?_;rintro e w2 ⟨rfl,hb2⟩;have X2:=X1.later hb2 hs1;have hs2:=Nat.lt_of_lt_of_le hs1 hb2.size)
   | (go_at_call_of 220 (Value.int IntKind.i64 (c:Int));refine (HC.out _).mono ?_;rintro e w3 ⟨rfl,hb3⟩;have X3:=X2.later hb3 hs2;have hs3:=Nat.lt_of_lt_of_le hs2 hb3.size)
   | (go_at_call_of 220 (Value.int IntKind.i64 (p:Int));refine (HP.out _).mono ?_;rintro e w4 ⟨rfl,hb4⟩;have X4:=X3.later hb4 hs3;have hs4:=Nat.lt_of_lt_of_le hs3 hb4.size)
   | (go_at_call_of 194 bv;refine (HJ.out _ ?_).mono ?_;exact (((Hb0.out.trans (hb1.mono Hb0.out.size)).trans (hb2.mono (Nat.le_trans Hb0.out.size hb1.size))).trans (hb3.mono (Nat.le_trans (Nat.le_trans Hb0.out.size hb1.size) hb2.size))).trans (hb4.mono (Nat.le_trans (Nat.le_trans (Nat.le_trans Hb0.out.size hb1.size) hb2.size) hb3.size));rintro e w5 ⟨rfl,hb5⟩;have X5:=X4.later hb5 hs4;have hs5:=Nat.lt_of_lt_of_le hs4 hb5.size)
   | (go_at_call 194;refine (Xm [X,[sort],G,C,P,f] #[strB X,strB [sort],strB G,strB C,strB P,strB f] 6 _ _ ?_ rfl rfl ?_ ?_).mono ?_;(first|rfl|simp);decide;(simp;omega);rintro e w6 ⟨rfl,hb6⟩;have X6:=X5.later hb6 hs5))
 have hB1:=Hb0.out.trans (hb1.mono Hb0.out.size)
 have hB2:=hB1.trans (hb2.mono hB1.size)
 have hB3:=hB2.trans (hb3.mono hB2.size)
 have hB4:=hB3.trans (hb4.mono hB3.size)
 have hB5:=hB4.trans (hb5.mono hB4.size)
 have HB6:=hid (hB5.trans (hb6.mono hB5.size))
 clear X0 X1 X2 X3 X4 X5 X6 hb1 hb2 hb3 hb4 hb5 hb6 hB1 hB2 hB3 hB4 hB5
 go_wp2
 go_ret
 exact ⟨qt (by rw [← HE.out];simp),HB6.out⟩
end
section
def Ul {α:Type} (dom:α→Prop) (enc:α→List UInt8) (val:α→Value) (p:Nat) (s rest:List UInt8) (w:World) (e:Ending) (w':World):Prop :=
 w.grownBy w' (some p)∧((e=gaveUp∧∀ a q,dom a→rest≠enc a++q)∨∃ a r,dom a∧e=.returned (val a)∧qp w' p s r∧rest=enc a++r)
theorem zH (p:Nat) (s rest:List UInt8) (most:Nat) (w:World) (hs:s.length≤maxLen) (hm:most≤1000000) (hp:qp w p s rest) :
  Calls Tryz.prog 242 #[.pointer (some ⟨p,0,none⟩),.int .i64 (most:Int)] w (Ul (fun n:Nat=>n≤most) uB (fun n=>.int .i64 (n:Int)) p s rest w):=by
 have Hs:=hid hs
 have Hp:=hid hp
 clear hs hp
 have hw1:IntKind.u64.wrap (most:Int)=(most:Int):=Jc (by omega) (by omega)
 go_enter Tryz.func242,Tryz.ntmps242
 go_wp2_with fail
 refine (NA p s rest _ Hs.out Hp.out).mono ?_
 rintro e w1 ⟨hg,⟨rfl,hno⟩|⟨n,r,hn,hr,rfl,hrd⟩⟩
 ·go_wp2
  exact ⟨rfl,hg,.inl ⟨rfl,fun a q ha=>hno a q (by omega)⟩⟩
 ·have Hr:=hid hr
  have Hrd:=hid hrd
  clear hr hrd
  by_cases hle:n≤most
  ·have hi:(n:Int)≤(most:Int):=by omega
   have hw2:IntKind.i64.wrap (n:Int)=(n:Int):=KJ (by omega) (by omega)
   go_wp2_with fail
   refine (jX _).mono ?_
   rintro e w2 ⟨rfl,rfl⟩
   go_wp2
   go_ret
   exact ⟨hg,.inr ⟨n,r,hle,rfl,Hrd.out,Hr.out⟩⟩
  ·have hi:decide ((n:Int)≤(most:Int))=false:=by simp;omega
   go_wp2_with fail
   refine (qM _).mono ?_
   rintro e w2 ⟨rfl,rfl⟩
   go_wp2
   exact ⟨rfl,hg,.inl ⟨rfl,fun a q ha haq=>by
    have:=(NG hn (by omega) (Hr.out.symm.trans haq)).1
    omega⟩⟩
theorem To (a b:Nat) (ha:a < 256) (hb:b < 256):bits .or .i64 (a:Int) ((b:Int)*256)=((a+256*b:Nat):Int):=by
 have e:(b:Int)*256=((256*b:Nat):Int):=by omega
 rw [e]
 have hx:a ||| 256*b < 2 ^ 16:=Nat.or_lt_two_pow (by omega) (by omega)
 show IntKind.i64.wrap ((BitVec.ofInt 64 (a:Int) ||| BitVec.ofInt 64 ((256*b:Nat):Int)).toNat:Int)=_
 rw [BitVec.toNat_or,ofInt_u64 a (by omega),ofInt_u64 (256*b) (by omega),IntWalk.i64_in _ ⟨by omega,by omega⟩]
 have h:=Nat.two_pow_add_eq_or_of_lt (i:=8) (b:=a) (by omega) b
 rw [Nat.or_comm]
 have h2:256*b+a=256*b ||| a:=h
 omega
theorem UN (p:Nat) (s rest:List UInt8) (w:World) (hs:s.length≤maxLen) (hp:qp w p s rest) :
  Calls Tryz.prog 223 #[.pointer (some ⟨p,0,none⟩)] w fun e w'=>w.grownBy w' (some p) ∧
   ((rest.length < 2∧e=gaveUp)∨∃ a b r,rest=a :: b :: r∧e=.returned (.int .i64 ((a.toNat+256*b.toNat:Nat):Int))∧qp w' p s r):=by
 have Hs:=hid hs
 have Hp:=hid hp
 clear hs hp
 go_enter Tryz.func223,Tryz.ntmps223
 go_wp2_with fail
 refine (XI p s rest w Hs.out Hp.out).mono ?_
 rintro e w1 ⟨hg1,⟨hr,rfl⟩|⟨a,r1,hr,rfl,hp1⟩⟩
 ·have Hr:=hid hr
  clear hr
  go_wp2
  exact ⟨rfl,hg1,.inl ⟨by rw [Hr.out];decide,rfl⟩⟩
 ·have Hr:=hid hr
  have Hp1:=hid hp1
  have HG1:=hid hg1
  clear hr hp1 hg1
  have la:=a.toNat_lt
  have hwa:IntKind.i64.wrap (a.toNat:Int)=(a.toNat:Int):=IntWalk.i64_in _ ⟨by omega,by omega⟩
  go_wp2_with fail
  refine (XI p s r1 w1 Hs.out Hp1.out).mono ?_
  rintro e w2 ⟨hg2,⟨hr2,rfl⟩|⟨b,r,hr2,rfl,hp2⟩⟩
  ·have Hr2:=hid hr2
   have HG2:=hid (ja HG1.out hg2)
   clear hr2 hg2
   go_wp2
   exact ⟨rfl,HG2.out,.inl ⟨by rw [Hr.out,Hr2.out];exact Nat.lt_succ_self 1,rfl⟩⟩
  ·have Hr2:=hid hr2
   have Hp2:=hid hp2
   have HG2:=hid (ja HG1.out hg2)
   clear hr2 hg2 hp2
   have lb:=b.toNat_lt
   have hwb:IntKind.i64.wrap (b.toNat:Int)=(b.toNat:Int):=IntWalk.i64_in _ ⟨by omega,by omega⟩
   have hor:=To a.toNat b.toNat la lb
   go_wp2
   go_ret
   exact ⟨HG2.out,.inr ⟨a,b,r,by rw [Hr.out,Hr2.out],qZ (by omega),Hp2.out⟩⟩
theorem MK (p:Nat) (s rest:List UInt8) (most:Nat) (w:World) (hs:s.length≤maxLen) (hm:most≤1000) (hp:qp w p s rest) :
  Calls Tryz.prog 247 #[.pointer (some ⟨p,0,none⟩),.int .i64 (most:Int)] w (Ul (fun t:List UInt8=>t.length≤most) xB strB p s rest w):=by
 have Hs:=hid hs
 have Hp:=hid hp
 clear hs hp
 go_enter Tryz.func247,Tryz.ntmps247
 go_wp2_with fail
 refine (zH p s rest most w Hs.out (by omega) Hp.out).mono ?_
 rintro e w1 ⟨hg,⟨rfl,hno⟩|⟨n,r,hn,rfl,hrd,hr⟩⟩
 ·go_wp2
  exact ⟨rfl,hg,.inl ⟨rfl,fun a q ha h=>hno a.length (a++q) ha (by rw [h,xB,List.append_assoc])⟩⟩
 ·have HG:=hid hg
  have Hr:=hid hr
  have Hrd:=hid hrd
  clear hg hr hrd
  go_wp2_with fail
  refine (Jf p s r n w1 Hs.out (by omega) Hrd.out).mono ?_
  rintro e w2 ⟨hg2,⟨hlt,rfl⟩|⟨hle,rfl,hrd2⟩⟩
  ·have HG2:=hid (ja HG.out hg2)
   have HN:Hid (∀ a q,a.length≤most→rest≠xB a++q):=by
    intro a q ha h
    rw [Hr.out,xB,List.append_assoc] at h
    obtain ⟨h1,h2⟩:=NG (by omega) (by omega) h
    have:=congrArg List.length h2
    rw [List.length_append] at this
    omega
   clear hg2
   go_wp2
   exact ⟨rfl,HG2.out,.inl ⟨rfl,HN.out⟩⟩
  ·have HG2:=hid (ja HG.out hg2)
   have Hrd2:=hid hrd2
   have HE:Hid ((r.take n).length≤most∧rest=xB (r.take n)++r.drop n):=by
    have hl:(r.take n).length=n:=by rw [List.length_take];omega
    refine ⟨by omega,?_⟩
    rw [Hr.out,xB,hl,List.append_assoc,List.take_append_drop]
   clear hg2 hrd2
   generalize r.take n=T at *
   go_wp2
   go_ret
   exact ⟨HG2.out,.inr ⟨T,_,HE.out.1,rfl,Hrd2.out,HE.out.2⟩⟩
theorem Rb (p:Nat) (s rest:List UInt8) (w:World) (hs:s.length≤maxLen) (hp:qp w p s rest) :
  Calls Tryz.prog 227 #[.pointer (some ⟨p,0,none⟩)] w fun e w'=>Below w.heap.size w w'∧((rest≠[]∧e=gaveUp)∨(rest=[]∧e=.returned (.tuple #[]))):=by
 obtain ⟨at_,hrow,hat,rfl⟩:=hp
 obtain ⟨⟨c0,c1⟩,_⟩:=VD hrow
 unfold maxLen at hs
 clear hrow
 by_cases hz:at_=s.length
 ·have hb:((at_:Int) == (s.length:Int))=true:=by simp;omega
  have HR:Hid (s.drop at_=[]):=by show _=_;rw [List.drop_eq_nil_iff];omega
  clear hz
  go_enter Tryz.func227,Tryz.ntmps227
  go_wp2_with fail
  go_region_held3 (fun w'=>w'.cell? ⟨p,0,none⟩=some (strB s)∧w'.cell? ⟨p,1,none⟩=some (.int .i64 (at_:Int))) (exact ⟨c0,c1⟩)
   (first|(go_at_call 155;refine (jX _).mono ?_;rintro e w' ⟨rfl,rfl⟩))
  go_wp2
  go_end0
  exact ⟨ji (Below.refl _ _),.inr ⟨HR.out,rfl⟩⟩
 ·have hb:((at_:Int) == (s.length:Int))=false:=by simp;omega
  have HR:Hid (s.drop at_≠[]):=by show _≠_;rw [ne_eq,List.drop_eq_nil_iff];omega
  clear hz
  go_enter Tryz.func227,Tryz.ntmps227
  go_wp2_with fail
  refine wp_region_held_drew (S:=fun w'=>w'.cell? ⟨p,0,none⟩=some (strB s)∧w'.cell? ⟨p,1,none⟩=some (.int .i64 (at_:Int))) (by kernel_rfl) ?_ (fun hHeld=>?_)
  ·exact ⟨c0,c1⟩
  refine tk 0 (.pointer (some ⟨p,0,none⟩)) ?_
  refine tk 1 (.pointer (some ⟨p,0,none⟩)) ?_
  refine tk 2 (.pointer (some ⟨p,1,none⟩)) ?_
  refine tk 3 (.int .i64 (at_:Int)) ?_
  refine tk 4 (.pointer (some ⟨p,0,none⟩)) ?_
  refine tk 5 (.pointer (some ⟨p,0,none⟩)) ?_
  refine tk 6 (.pointer (some ⟨p,0,none⟩)) ?_
  refine tk 7 (strB s) ?_
  refine tk 8 (.int .i64 (s.length:Int)) ?_
  refine tk 9 (.bool false) ?_
  simp only [ga,gb,gc,Act.put,gd,ge,gf]
  refine rd 10 (fun K hK=>?_)
  simp only [ga,gb,gc]
  go_simp
  go_at_call 155
  refine (qM _).mono ?_
  rintro e w' ⟨rfl,rfl⟩
  exact ⟨rfl,ji (Below.refl _ _),.inl ⟨HR.out,rfl⟩⟩
theorem PR (p:Nat) (s rest:List UInt8) (w:World) (hs:s.length≤maxLen) (hp:qp w p s rest) :
  Calls Tryz.prog 270 #[.pointer (some ⟨p,0,none⟩)] w fun e w'=>Below w.heap.size w w'∧e=.returned (.int .i64 ((s.length - rest.length:Nat):Int)):=by
 obtain ⟨at_,hrow,hat,rfl⟩:=hp
 obtain ⟨⟨c0,c1⟩,_⟩:=VD hrow
 unfold maxLen at hs
 have HE:Hid (s.length - (s.drop at_).length=at_):=by show _=_;rw [List.length_drop];omega
 clear hrow
 go_enter Tryz.func270,Tryz.ntmps270
 go_wp2
 go_ret
 exact ⟨Below.refl _ _,qZ (by rw [HE.out])⟩
end
section
theorem Zb {w:World} {B:Nat} {t:TypeId}:∀ (vs a b:List Value),∀ (old:List Value),old.length=vs.length→w.heap[B]?=some (.cells (a++(old++b)).toArray t (0,0)) →
  (w.setCells B a.length vs).heap[B]?=some (.cells (a++(vs++b)).toArray t (0,0)):=by
 intro vs
 induction vs generalizing w with
 | nil=>intro a b old hl h;rw [List.eq_nil_of_length_eq_zero hl] at h;simpa [World.setCells] using h
 | cons v vs ih =>
  intro a b old hl h
  cases old with
  | nil=>simp at hl
  | cons o old =>
   rw [World.setCells]
   have h1:(w.setCell ⟨B,a.length,none⟩ v).heap[B]?=some (.cells ((a++[v])++(old++b)).toArray t (0,0)):=by
    rw [heap_setCell_same w B a.length _ t v h]
    simp
   have h2:=ih (a++[v]) b old (by simpa using hl) h1
   rw [List.length_append,List.length_singleton] at h2
   rw [h2]
   simp
theorem JE {w:World} {B:Nat} {C:Array Value} {t:TypeId} (vs:List Value) (hC:C.size=vs.length) (h:w.heap[B]?=some (.cells C t (0,0))):(w.setCells B 0 vs).heap[B]?=some (.cells vs.toArray t (0,0)):=by
 have:=Zb (w:=w) (t:=t) (B:=B) vs [] [] C.toList (by simpa using hC) (by simpa using h)
 simpa using this
theorem xy (B:Nat):∀ (vs:List Value) (w:World) (o:Nat),w.grownBy (w.setCells B o vs) (some B):=by
 intro vs
 induction vs with
 | nil=>intro w o;exact jL w _
 | cons v vs ih =>
  intro w o
  rw [World.setCells]
  refine ja ?_ (ih (w.setCell ⟨B,o,none⟩ v) (o+1))
  exact ⟨rfl,rfl,rfl,by simp,fun k _ hk=>heap_setCell_other w ⟨B,o,none⟩ k v (fun e=>hk (by simp [e]))⟩
theorem QS (B:Nat):∀ (vs:List Value) (w:World) (o:Nat),(w.setCells B o vs).heap.size=w.heap.size:=by
 intro vs
 induction vs with
 | nil=>intro w o;rfl
 | cons v vs ih=>intro w o;rw [World.setCells,ih];simp
theorem JQ (w:World) (C1:Array Value) (t1:TypeId) (C2:Array Value) (t2:TypeId):Below w.heap.size w ((w.alloc (.cells C1 t1)).alloc (.cells C2 t2))∧w.heap.size+1 < ((w.alloc (.cells C1 t1)).alloc (.cells C2 t2)).heap.size ∧
  ((w.alloc (.cells C1 t1)).alloc (.cells C2 t2)).heap[w.heap.size]?=some (.cells C1 t1 (0,0))∧((w.alloc (.cells C1 t1)).alloc (.cells C2 t2)).heap[w.heap.size+1]?=some (.cells C2 t2 (0,0)):=by
 have e:(w.alloc (.cells C1 t1)).heap.size=w.heap.size+1:=by simp
 refine ⟨((Below.refl _ _).alloc (Nat.le_refl _) _).alloc (by simp) _,by simp,(((Below.refl (w.alloc (.cells C1 t1)).heap.size _).alloc (Nat.le_refl _) (.cells C2 t2)).block w.heap.size (by simp)).trans (heap_alloc_new w _),?_⟩
 have:=heap_alloc_new (w.alloc (.cells C1 t1)) (.cells C2 t2)
 rw [e] at this
 exact this
theorem XK (a b:UInt8):qv ((a.toNat+256*b.toNat:Nat):Int)=[a,b]:=by
 have ha:=a.toNat_lt
 have hb:=b.toNat_lt
 unfold qv
 simp only [List.cons.injEq,and_true]
 constructor
 ·apply UInt8.toNat_inj.1;simp only [UInt8.toNat_ofNat'];omega
 ·apply UInt8.toNat_inj.1;simp only [UInt8.toNat_ofNat'];omega
abbrev NB:=List UInt8 × List UInt8
def Jx (x:NB):Prop:=x.1.length=4∧2≤x.2.length∧x.2.length≤65535
def xn (x:NB):List UInt8:=qv (x.2.length:Int)++(x.1++x.2)
abbrev moduleV (sort:List UInt8) (g c k:Nat):Value:=.agg #[strB sort,.int .i64 (g:Int),.int .i64 (c:Int),.int .i64 (k:Int)]
abbrev pieceV (sort:List UInt8) (g c k:Nat) (x:NB):Value:=.agg #[strB sort,.int .i64 (g:Int),.int .i64 (c:Int),.int .i64 (k:Int),strB x.1,strB x.2]
theorem Yn {a b:UInt8} {r q:List UInt8} {x:NB} (hx:Jx x) (h:a :: b :: r=xn x++q):x.2.length=a.toNat+256*b.toNat∧r=x.1++(x.2++q):=by
 unfold xn at h
 rw [List.append_assoc,List.append_assoc] at h
 have h':[a,b]++r=qv (x.2.length:Int)++(x.1++(x.2++q)):=h
 obtain ⟨h1,h2⟩:=List.append_inj h' (by rw [jB];rfl)
 rw [← XK a b] at h1
 have ha:=a.toNat_lt
 have hb:=b.toNat_lt
 exact ⟨(Qt (by omega) hx.2.2 h1).symm,h2⟩
theorem Ez {a b:UInt8} {r:List UInt8} (h2:2≤a.toNat+256*b.toNat) (h4:4≤r.length) (hn:a.toNat+256*b.toNat≤(r.drop 4).length) :
  Jx (r.take 4,(r.drop 4).take (a.toNat+256*b.toNat))∧a :: b :: r=xn (r.take 4,(r.drop 4).take (a.toNat+256*b.toNat))++(r.drop 4).drop (a.toNat+256*b.toNat):=by
 have ha:=a.toNat_lt
 have hb:=b.toNat_lt
 have hl:((r.drop 4).take (a.toNat+256*b.toNat)).length=a.toNat+256*b.toNat:=by rw [List.length_take];omega
 refine ⟨⟨by simp;omega,by simp only [hl];omega,by simp only [hl];omega⟩,?_⟩
 unfold xn
 simp only [hl]
 rw [XK,List.append_assoc,List.append_assoc,List.take_append_drop,List.take_append_drop]
 rfl
theorem jf {w w':World} {p B:Nat} {o:Obj} (hg:w.grownBy w' (some p)) (h:w.heap[B]?=some o) (hne:B≠p):w'.heap[B]?=some o :=
 (hg.block B (Array.getElem?_eq_some_iff.1 h).1 (by simpa using hne)).trans h
theorem zD {w w':World} {p q:Nat} {s r:List UInt8} (h:qp w p s r) (hg:w.grownBy w' (some q)) (hne:p≠q):qp w' p s r:=by
 obtain ⟨at_,h1,h2,h3⟩:=h
 exact ⟨at_,jf hg h1 hne,h2,h3⟩
theorem Kg {w:World} {p:Nat} {a b c d:Value} {t:TypeId} (h:w.heap[p]?=some (.cells #[a,b,c,d] t (0,0))):w.cell? ⟨p,0,none⟩=some a∧w.cell? ⟨p,1,none⟩=some b∧w.cell? ⟨p,2,none⟩=some c∧w.cell? ⟨p,3,none⟩=some d :=
 ⟨by rw [jd h];rfl,by rw [jd h];rfl,by rw [jd h];rfl,by rw [jd h];rfl⟩
theorem XM {w:World} {p:Nat} {a b c d e f:Value} {t:TypeId} (h:w.heap[p]?=some (.cells #[a,b,c,d,e,f] t (0,0))):(w.cell? ⟨p,0,none⟩=some a∧w.cell? ⟨p,1,none⟩=some b∧w.cell? ⟨p,2,none⟩=some c∧w.cell? ⟨p,3,none⟩=some d∧w.cell? ⟨p,4,none⟩=some e∧w.cell? ⟨p,5,none⟩=some f) ∧
  (w.frozen? ⟨p,0,none⟩=false∧w.frozen? ⟨p,1,none⟩=false∧w.frozen? ⟨p,2,none⟩=false∧w.frozen? ⟨p,3,none⟩=false∧w.frozen? ⟨p,4,none⟩=false∧w.frozen? ⟨p,5,none⟩=false) :=
 ⟨⟨by rw [jd h];rfl,by rw [jd h];rfl,by rw [jd h];rfl,by rw [jd h];rfl,by rw [jd h];rfl,by rw [jd h];rfl⟩,
  frozen_of_row w p _ _ t h,frozen_of_row w p _ _ t h,frozen_of_row w p _ _ t h,frozen_of_row w p _ _ t h,frozen_of_row w p _ _ t h,frozen_of_row w p _ _ t h⟩
theorem Ky (p g c k:Nat) (sort s rest:List UInt8) (w:World) (hs:s.length≤maxLen) (hp:qp w p s rest) :
  Calls Tryz.prog 226 #[.pointer (some ⟨p,0,none⟩),moduleV sort g c k] w (Ul Jx xn (pieceV sort g c k) p s rest w):=by
 have Hs:=hid hs
 have Hp:=hid hp
 have hplt:=xh hp
 clear hs hp
 go_enter Tryz.func226,Tryz.ntmps226
 go_wp2_with fail
 obtain ⟨hb0,hl0,hm0,ho0⟩:=JQ w #[strB sort,.int .i64 (g:Int),.int .i64 (c:Int),.int .i64 (k:Int)] 111 #[Value.string { data:=#[] },.int .i64 0,.int .i64 0,.int .i64 0,Value.string { data:=#[] },Value.string { data:=#[] }] 113
 generalize (w.alloc _).alloc _=W0 at *
 have Hp0:=hid (qA Hp.out hb0 hplt)
 have hG0:w.grownBy W0 (some p):=jz (jL w _) hb0
 have hne0:w.heap.size≠p:=by omega
 have hne1:w.heap.size+1≠p:=by omega
 clear hb0
 refine (UN p s rest W0 Hs.out Hp0.out).mono ?_
 rintro e w1 ⟨hg1,⟨hr,rfl⟩|⟨a,b,r,hr,rfl,hp1⟩⟩
 ·have HN:Hid (∀ (x:NB) q,Jx x→rest≠xn x++q):=by
   rintro x q hx rfl
   unfold xn at hr
   simp only [List.length_append,jB] at hr
   omega
  have HG:=hid (ja hG0 hg1)
  clear hr hg1 hG0 hm0 ho0
  go_wp2
  exact ⟨rfl,HG.out,.inl ⟨rfl,HN.out⟩⟩
 ·have hm1:=jf hg1 hm0 hne0
  have ho1:=jf hg1 ho0 hne1
  have HG1:=hid (ja hG0 hg1)
  have Hp1:=hid hp1
  have Hr:=hid hr
  have hab:a.toNat+256*b.toNat≤65535:=by have:=a.toNat_lt;have:=b.toNat_lt;omega
  have HM:Hid (2≤a.toNat+256*b.toNat→4≤r.length→a.toNat+256*b.toNat≤(r.drop 4).length→Jx (r.take 4,(r.drop 4).take (a.toNat+256*b.toNat))∧a :: b :: r=xn (r.take 4,(r.drop 4).take (a.toNat+256*b.toNat))++(r.drop 4).drop (a.toNat+256*b.toNat)):=Ez
  have HX:Hid (∀ (x:NB) q,Jx x→a :: b :: r=xn x++q→x.2.length=a.toNat+256*b.toNat∧r=x.1++(x.2++q)):=fun x q=>Yn
  clear hr hg1 hG0 hm0 ho0 hp1
  have hl1:=World.block_lt_of_cell? w1 ⟨w.heap.size+1,0,none⟩ (by rw [jd ho1];rfl)
  generalize a.toNat+256*b.toNat=n at *
  by_cases h2:2≤n
  ·have hi:(2:Int)≤(n:Int):=by omega
   go_wp2_with fail
   refine (jX _).mono ?_
   rintro e w2 ⟨rfl,rfl⟩
   go_wp2_with fail
   have HC:=hid (Kg hm1)
   have Hm1:=hid hm1
   have Ho1:=hid ho1
   clear hm1 ho1
   refine wp_region_held_drew (S:=fun w'=>w'.cell? ⟨w.heap.size,0,none⟩=some (strB sort)∧w'.cell? ⟨w.heap.size,1,none⟩=some (.int .i64 (g:Int))∧w'.cell? ⟨w.heap.size,2,none⟩=some (.int .i64 (c:Int))∧w'.cell? ⟨w.heap.size,3,none⟩=some (.int .i64 (k:Int))) (by kernel_rfl) ?_ (fun hHeld=>?_)
   ·exact HC.out
   refine tk 0 (moduleV sort g c k) ?_
   refine tk 1 (.pointer (some ⟨p,0,none⟩)) ?_
   refine tk 3 (.pointer (some ⟨p,0,none⟩)) ?_
   refine tk 4 (.int .i64 (n:Int)) ?_
   simp only [ga,gb,gc,Act.put,gd,ge,gf]
   refine rd 2 (fun K hK=>?_)
   simp only [ga,gb,gc]
   go_simp
   go_at_call 224
   refine (Jf p s r 4 _ Hs.out (by omega) (show qp w2.drew p s r from Hp1.out)).mono ?_
   rintro e w3 ⟨hg3,⟨hlt,rfl⟩|⟨hle,rfl,hp3⟩⟩
   ·refine ⟨rfl,ja HG1.out (jx hg3),.inl ⟨rfl,fun x q hx h=>?_⟩⟩
    obtain ⟨_,h4⟩:=HX.out x q hx (Hr.out.symm.trans h)
    have h5:=congrArg List.length h4
    have h6:=hx.1
    rw [List.length_append] at h5
    omega
   have hm3:=jf (jx hg3) Hm1.out hne0
   have ho3:=jf (jx hg3) Ho1.out hne1
   have HG3:=hid (ja HG1.out (jx hg3))
   have Hp3:=hid hp3
   have HC3:=hid (Kg hm3)
   have Ho3:=hid ho3
   have Hm3:=hid hm3
   clear hg3 hp3 hm3 ho3
   try go_wp2_with fail
   refine hK.out _ _ HC3.out (fun hHeld=>?_)
   clear hK K
   try simp only [ga,gb,gc,Act.put,gd,ge,gf]
   refine rd 5 (fun K hK=>?_)
   simp only [ga,gb,gc]
   go_simp
   go_at_call 224
   refine (Jf p s (r.drop 4) n w3 Hs.out (by omega) Hp3.out).mono ?_
   rintro e w4 ⟨hg4,⟨hlt,rfl⟩|⟨hle2,rfl,hp4⟩⟩
   ·refine ⟨rfl,ja HG3.out hg4,.inl ⟨rfl,fun x q hx h=>?_⟩⟩
    obtain ⟨h3,h4⟩:=HX.out x q hx (Hr.out.symm.trans h)
    have h5:=hx.1
    rw [h4,← h5,List.drop_left,List.length_append] at hlt
    omega
   have hm4:=jf hg4 Hm3.out hne0
   have ho4:=jf hg4 Ho3.out hne1
   have HG4:=hid (ja HG3.out hg4)
   have Hp4:=hid hp4
   have HC4:=hid (Kg hm4)
   have Ho4:=hid ho4
   have Hm4:=hid hm4
   have HE:=hid (HM.out h2 hle hle2)
   clear hg4 hp4 hm4 ho4
   generalize r.take 4=T at *
   generalize (r.drop 4).take n=U at *
   generalize (r.drop 4).drop n=V at *
   try go_wp2_with fail
   refine hK.out _ _ HC4.out (fun hHeld=>?_)
   clear hK K
   try simp only [ga,gb,gc,Act.put,gd,ge,gf]
   refine rd 6 (fun K hK=>?_)
   simp only [ga,gb,gc]
   go_simp
   try go_wp2_with fail
   refine hK.out _ _ HC4.out (fun hHeld=>?_)
   clear hK K
   try simp only [ga,gb,gc,Act.put,gd,ge,gf]
   obtain ⟨⟨q0,q1,q2,q3,q4,q5⟩,z0,z1,z2,z3,z4,z5⟩:=XM Ho4.out
   refine rd 7 (fun K hK=>?_)
   simp only [ga,gb,gc]
   try go_simp
   show K _ (w4.setCells (w.heap.size+1) 0 [strB sort,.int .i64 (g:Int),.int .i64 (c:Int),.int .i64 (k:Int),strB T,strB U])
   have ho5:=JE [strB sort,.int .i64 (g:Int),.int .i64 (c:Int),.int .i64 (k:Int),strB T,strB U] (by rfl) Ho4.out
   have hg5:=xy (w.heap.size+1) [strB sort,.int .i64 (g:Int),.int .i64 (c:Int),.int .i64 (k:Int),strB T,strB U] w4 0
   clear q0 q1 q2 q3 q4 q5 z0 z1 z2 z3 z4 z5
   generalize w4.setCells _ _ _=W5 at *
   have HC5:=hid (Kg (jf hg5 Hm4.out (by omega)))
   have HG5:=hid (zo HG4.out hg5 (by rintro k hk;cases hk;omega))
   have Hp5:=hid (zD Hp4.out hg5 (by omega))
   clear hg5
   refine hK.out _ _ HC5.out (fun hHeld=>?_)
   clear hK K
   refine wpAnyH_done (by kernel_rfl) ?_ _
   obtain ⟨⟨q0,q1,q2,q3,q4,q5⟩,_⟩:=XM ho5
   go_wp2
   exact bodyPost_ret (v:=pieceV sort g c k (T,U)) (by simp [results,Tryz.results226,go_sem,q0,q1,q2,q3,q4,q5]) rfl ⟨HG5.out,.inr ⟨(T,U),V,HE.out.1,rfl,Hp5.out,Hr.out.trans HE.out.2⟩⟩
  ·have hi:decide ((2:Int)≤(n:Int))=false:=by simp;omega
   go_wp2_with fail
   refine (qM _).mono ?_
   rintro e w2 ⟨rfl,rfl⟩
   go_wp2
   exact ⟨rfl,HG1.out,.inl ⟨rfl,fun x q hx h=>by
    have:=(HX.out x q hx (Hr.out.symm.trans h)).1
    have:=hx.2.1
    omega⟩⟩
end
end Go.Proofs.YthhpbhpfagoapaaGreat
