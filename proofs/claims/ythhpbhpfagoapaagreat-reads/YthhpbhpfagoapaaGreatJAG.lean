import Derived.Test.YthhpbhpfagoapaaGreatJAA
import Derived.Test.YthhpbhpfagoapaaGreatRTk
import Derived.Test.YthhpbhpfagoapaaGreatDPage
import Derived.Test.YthhpbhpfagoapaaGreatJAO
import Derived.Test.YthhpbhpfagoapaaGreatJAR
namespace Go.Proofs.YthhpbhpfagoapaaGreat
set_option linter.unusedVariables false
set_option linter.unusedSimpArgs false
set_option maxRecDepth 100000
set_option maxHeartbeats 16000000
open Go.RowKit
section
def qz (w:World) (p:Nat) (s rest:List UInt8):Prop :=
 ∃ at_:Nat,w.heap[p]?=some (.cells #[strB s,.int .i64 (at_:Int)] 296 (0,0))∧at_≤s.length∧rest=s.drop at_
abbrev gaveUp:Ending:=.panicked [{ v:=.iface 9 (.string ⟨#[119,105,114,101,58,32,103,97,118,101,32,117,112]⟩),recovered:=false }]
theorem qd (w:World):Calls Tryz.prog 155 #[.bool true] w fun e w'=>e=.returned (.tuple #[])∧w'=w:=by
 go_enter Tryz.func155,Tryz.ntmps155
 go_wp2
 go_end0
 exact ⟨rfl,rfl⟩
theorem qU (w:World):Calls Tryz.prog 155 #[.bool false] w fun e w'=>e=gaveUp∧w'=w:=by
 go_enter Tryz.func155,Tryz.ntmps155
 go_wp2
 exact ⟨rfl,rfl,rfl⟩
theorem VS {w:World} {p:Nat} {x y:Value} {t:TypeId} (h:w.heap[p]?=some (.cells #[x,y] t (0,0))) :
  (w.cell? ⟨p,0,none⟩=some x∧w.cell? ⟨p,1,none⟩=some y)∧(∀ j,w.frozen? ⟨p,j,none⟩=false):=by
 refine ⟨⟨?_,?_⟩,fun j=>frozen_of_row w p j _ t h⟩
 ·rw [cell_of_row w p 0 _ t (0,0) h];rfl
 ·rw [cell_of_row w p 1 _ t (0,0) h];rfl
theorem BY {w:World} {p:Nat} {x y v:Value} {t:TypeId} (h:w.heap[p]?=some (.cells #[x,y] t (0,0))):(w.setCell ⟨p,1,none⟩ v).heap[p]?=some (.cells #[x,v] t (0,0))∧w.grownBy (w.setCell ⟨p,1,none⟩ v) (some p):=by
 refine ⟨?_,⟨rfl,rfl,rfl,by simp,fun k _ hk=>heap_setCell_other w ⟨p,1,none⟩ k v (fun e=>hk (by simp [e]))⟩⟩
 rw [heap_setCell_same w p 1 _ t v h]
 rfl
theorem XP (p:Nat) (s rest:List UInt8) (w:World) (hs:s.length≤maxLen) (hp:qz w p s rest) :
  Calls Tryz.prog 225 #[.pointer (some ⟨p,0,none⟩)] w fun e w'=>w.grownBy w' (some p) ∧
   ((rest=[]∧e=gaveUp)∨∃ c r,rest=c :: r∧e=.returned (.int .u8 (c.toNat:Int))∧qz w' p s r):=by
 obtain ⟨at_,hrow,hat,rfl⟩:=hp
 obtain ⟨⟨c0,c1⟩,cf⟩:=VS hrow
 have f1:=cf 1
 have Hrow:=hid hrow
 unfold maxLen at hs
 clear hrow cf
 have hz:=jR s
 by_cases hlt:at_ < s.length
 ·have hi:(at_:Int) < (s.length:Int):=by omega
  go_enter Tryz.func225,Tryz.ntmps225
  go_wp2_with fail
  go_region_held3 (fun w'=>w'.cell? ⟨p,0,none⟩=some (strB s)∧w'.cell? ⟨p,1,none⟩=some (.int .i64 (at_:Int))) (exact ⟨c0,c1⟩)
   (first|(go_at_call 155;refine (qd _).mono ?_;rintro e w' ⟨rfl,rfl⟩))
  go_wp2_with fail
  obtain ⟨h1,h2⟩:=BY (v:=.int .i64 ((at_:Int)+1)) Hrow.out
  have h3:=h1
  obtain ⟨⟨d0,d1⟩,_⟩:=VS h3
  clear h3 c0 c1 f1
  generalize w.setCell _ _=w1 at *
  have H1:=hid h1
  have H2:=hid h2
  clear h1 h2
  have hb:at_ < (⟨s.toArray⟩:ByteArray).size:=by rw [jR];exact hlt
  have hsub:IntKind.i64.wrap ((at_:Int)+1 - 1)=(at_:Int):=by rw [IntKind.wrap_i64];omega
  have e0:w1.drew.cell? ⟨p,0,none⟩=some (strB s):=d0
  have e1:w1.drew.cell? ⟨p,1,none⟩=some (.int .i64 ((at_:Int)+1)):=d1
  go_quiet (fail)
  go_wp2
  go_ret
  refine ⟨?_,.inr ⟨s[at_],s.drop (at_+1),aN hlt,?_,at_+1,H1.out,hlt,rfl⟩⟩
  ·exact ⟨H2.out.os,H2.out.tape,H2.out.output,H2.out.size,H2.out.block⟩
  ·exact xm (by rw [Xv s at_ hlt])
 ·have hi:decide ((at_:Int) < (s.length:Int))=false:=by simp;omega
  go_enter Tryz.func225,Tryz.ntmps225
  go_wp2_with fail
  have HD:Hid (s.drop at_=[]):=List.drop_of_length_le (by omega)
  refine wp_region_held_drew (S:=fun w'=>w'.cell? ⟨p,0,none⟩=some (strB s)∧w'.cell? ⟨p,1,none⟩=some (.int .i64 (at_:Int))) (by kernel_rfl) ?_ (fun hHeld=>?_)
  ·exact ⟨c0,c1⟩
  refine tk 0 (.pointer (some ⟨p,0,none⟩)) ?_
  refine tk 1 (.pointer (some ⟨p,0,none⟩)) ?_
  refine tk 2 (.pointer (some ⟨p,1,none⟩)) ?_
  refine tk 3 (.int .i64 (at_:Int)) ?_
  refine tk 4 (.pointer (some ⟨p,0,none⟩)) ?_
  refine tk 5 (.pointer (some ⟨p,0,none⟩)) ?_
  refine tk 6 (.pointer (some ⟨p,0,none⟩)) ?_
  refine tk 7 (strB s) ?_
  refine tk 8 (.int .i64 (s.length:Int)) ?_
  refine tk 9 (.bool false) ?_
  simp only [jA,jB,jC,Act.put,jD,jE,jF]
  refine rd 10 (fun K hK=>?_)
  simp only [jA,jB,jC]
  go_simp
  go_at_call 155
  refine (qU _).mono ?_
  rintro e w' ⟨rfl,rfl⟩
  exact ⟨rfl,⟨rfl,rfl,rfl,ae _,fun _ _ _=>rfl⟩,.inl ⟨HD.out,rfl⟩⟩
end
section
theorem Ck (a:Int) (h0:0≤a) (h1:a≤255):bits .andNot .u8 a 128=a % 128:=by
 obtain ⟨k,rfl⟩:=bk h0
 have key:∀ k:Fin 256,bits .andNot .u8 ((k.val:Nat):Int) 128=((k.val:Nat):Int) % 128:=by decide
 exact key ⟨k,by omega⟩
theorem Ec (m:Nat) (r:List UInt8) (c:UInt8) (rest:List UInt8) (h:c :: rest=uB m++r) :
  (128≤c.toNat∧127 < m∧m % 128+128=c.toNat∧rest=uB (m / 128)++r)∨(c.toNat < 128∧m=c.toNat∧rest=r):=by
 by_cases hm:m≤127
 ·rw [Jb hm] at h
  simp only [aK,aX,aW] at h
  obtain ⟨rfl,rfl⟩:=h
  right
  rw [JV m (by omega)]
  exact ⟨by omega,rfl,rfl⟩
 ·rw [XR (by omega)] at h
  simp only [aK,aW] at h
  obtain ⟨rfl,rfl⟩:=h
  left
  have:=JV (m % 128+128) (by omega)
  have e:((m % 128+128:Nat):Int)=(m:Int) % 128+128:=by omega
  rw [e] at this
  rw [this]
  exact ⟨by omega,by omega,rfl,rfl⟩
theorem BU (m:Nat) (r:List UInt8):uB m++r≠[]:=by
 intro h
 have h1:=Bw m
 have h2:=aT List.length h
 rw [ab,aR] at h2
 omega
def UJ (rest0:List UInt8) (j acc:Nat) (rest:List UInt8):Prop :=
 acc < 128 ^ j∧∀ m r,rest0=uB m++r ↔ ∃ m',m=acc+128 ^ j*m'∧(0 < j→0 < m')∧rest=uB m'++r
theorem EF (rest:List UInt8):UJ rest 0 0 rest:=by
 refine ⟨by simp,fun m r=>⟨fun h=>⟨m,by simp,fun h=>by omega,h⟩,?_⟩⟩
 rintro ⟨m',h1,_,h2⟩
 have:m=m':=by simpa using h1
 subst this
 exact h2
theorem Aw {rest0 rest:List UInt8} {j acc:Nat} {c:UInt8} (h:UJ rest0 j acc (c :: rest)) (hc:128≤c.toNat):UJ rest0 (j+1) (acc+128 ^ j*(c.toNat % 128)) rest:=by
 obtain ⟨h1,h2⟩:=h
 have hlt:=c.toNat_lt
 refine ⟨?_,fun m r=>?_⟩
 ·have:128 ^ j*(c.toNat % 128)≤128 ^ j*127:=Nat.mul_le_mul_left _ (by omega)
  rw [Nat.pow_succ]
  omega
 ·rw [h2 m r]
  constructor
  ·rintro ⟨m',rfl,h3,h4⟩
   rcases Ec m' r c rest h4 with ⟨_,k1,k2,k3⟩|⟨k1,_,_⟩
   ·refine ⟨m' / 128,?_,fun _=>by omega,k3⟩
    have e:c.toNat % 128=m' % 128:=by omega
    rw [e,Nat.pow_succ,Nat.mul_assoc,bI,← Nat.mul_add]
    congr 2
    omega
   ·omega
  ·rintro ⟨m',rfl,h3,h4⟩
   have h3:=h3 (by omega)
   refine ⟨c.toNat % 128+128*m',?_,fun _=>by omega,?_⟩
   ·rw [Nat.pow_succ,Nat.mul_assoc,bI,← Nat.mul_add]
   ·rw [XR (by omega),h4]
    have e1:(c.toNat % 128+128*m') / 128=m':=by omega
    have e2:(((c.toNat % 128+128*m':Nat):Int) % 128+128)=(c.toNat:Int):=by omega
    rw [e1,e2,Ao]
    rfl
theorem GP {rest0 rest:List UInt8} {j acc:Nat} {c:UInt8} (h:UJ rest0 j acc (c :: rest)) (hc:c.toNat < 128) (m:Nat) (r:List UInt8) :
  rest0=uB m++r ↔ (m=acc+128 ^ j*c.toNat∧(0 < j→0 < c.toNat)∧r=rest):=by
 rw [h.2 m r]
 constructor
 ·rintro ⟨m',rfl,h3,h4⟩
  rcases Ec m' r c rest h4 with ⟨k1,_,_,_⟩|⟨_,k2,k3⟩
  ·omega
  ·subst k2
   exact ⟨rfl,h3,k3.symm⟩
 ·rintro ⟨rfl,h3,rfl⟩
  refine ⟨c.toNat,rfl,h3,?_⟩
  rw [Jb (by omega),Ao]
  rfl
theorem DP {rest0:List UInt8} {j acc:Nat} (h:UJ rest0 j acc []) (m:Nat) (r:List UInt8):rest0≠uB m++r:=by
 intro h0
 obtain ⟨m',_,_,h4⟩:=(h.2 m r).1 h0
 exact BU m' r h4.symm
theorem Aa:128 ^ 9=9223372036854775808:=by decide
theorem AK {rest0 rest:List UInt8} {acc:Nat} {c:UInt8} (h:UJ rest0 9 acc (c :: rest)) (hc:2≤c.toNat) (m:Nat) (r:List UInt8) (hm:m < 18446744073709551616):rest0≠uB m++r:=by
 intro h0
 obtain ⟨m',rfl,_,h4⟩:=(h.2 m r).1 h0
 rw [Aa] at hm
 rcases Ec m' r c rest h4 with ⟨_,k1,_,_⟩|⟨_,k2,_⟩<;>omega
theorem TM (acc c j:Nat) (hacc:acc < 128 ^ j) (hx:128 ^ j*(c % 128) < 18446744073709551616) (ha:acc < 18446744073709551616) :
  bits .or .u64 (acc:Int) (IntKind.u64.wrap ((c:Int) % 128*2 ^ (7*j)))=((acc+128 ^ j*(c % 128):Nat):Int):=by
 have hp:128 ^ j=2 ^ (7*j):=by rw [show 128=2 ^ 7 from rfl,← Nat.pow_mul]
 have hw:IntKind.u64.wrap ((c:Int) % 128*2 ^ (7*j))=((2 ^ (7*j)*(c % 128):Nat):Int):=by
  rw [IntKind.wrap_u64]
  have e:((c:Int) % 128*2 ^ (7*j))=((2 ^ (7*j)*(c % 128):Nat):Int):=by
   rw [Int.mul_comm];simp
  rw [e]
  rw [hp] at hx
  generalize 2 ^ (7*j)*(c % 128)=q at *
  omega
 rw [hw,u64_or_nat _ _ ha (by rw [← hp];exact hx),hp]
 rw [hp] at hacc
 rw [Nat.or_comm,← db hacc]
 congr 1
 omega
theorem Cc (j:Nat) (h:j≤8):128 ^ j≤72057594037927936:=by
 have:=Nat.pow_le_pow_right (n:=128) (by decide) h
 exact ar this (by decide)
theorem RB (p:Nat) (s rest:List UInt8) (w:World) (hs:s.length≤maxLen) (hp:qz w p s rest) :
  Calls Tryz.prog 266 #[.pointer (some ⟨p,0,none⟩)] w fun e w'=>w.grownBy w' (some p) ∧
   ((e=gaveUp∧∀ m r,m < 18446744073709551616→rest≠uB m++r)∨∃ n r,n < 18446744073709551616∧rest=uB n++r∧e=.returned (.int .u64 (n:Int))∧qz w' p s r):=by
 have Hs:=hid hs
 have Hp:=hid hp
 clear hs hp
 go_enter Tryz.func266,Tryz.ntmps266
 go_wp2
 go_loopw [3,4] (fun n sh wr=>∃ (j acc:Nat) (r1:List UInt8),j≤9∧n=.int .u64 (acc:Int)∧sh=.int .i64 ((7*j:Nat):Int)∧UJ rest j acc r1∧qz wr p s r1∧w.grownBy wr (some p)) (fun _ sh _=>100 - (intOf sh).toNat)
 case atStart=>exact ⟨0,0,rest,by omega,rfl,rfl,EF rest,Hp.out,⟨rfl,rfl,rfl,ae _,fun _ _ _=>rfl⟩⟩
 case round =>
  obtain ⟨j,acc,r1,hj,rfl,rfl,hinv,hrd,hg⟩:=hrel
  have Hinv:=hid hinv
  have Hg:=hid hg
  have hacc:acc < 128 ^ 9:=aa hinv.1 (Nat.pow_le_pow_right (by decide) hj)
  rw [Aa] at hacc
  clear hinv hg
  go_wp2_with fail
  refine (XP p s r1 _ Hs.out hrd).mono ?_
  rintro e w2 ⟨hg2,⟨rfl,rfl⟩|⟨c,r,rfl,rfl,hrd2⟩⟩
  ·go_wp2
   exact ⟨rfl,ja Hg.out hg2,.inl ⟨rfl,fun m r _=>DP Hinv.out m r⟩⟩
  ·have HG2:=hid (ja Hg.out hg2)
   have Hrd2:=hid hrd2
   have hct:=c.toNat_lt
   have ha:=Ck (c.toNat:Int) (by omega) (by omega)
   clear hrd hrd2 hg2
   by_cases hj9:j < 9
   ·have hj63:((7*j:Nat):Int) < 63:=by omega
    have hp8:=Cc j (by omega)
    have hx:128 ^ j*(c.toNat % 128)≤72057594037927936*127:=bx hp8 (by omega)
    have ho:=TM acc c.toNat j Hinv.out.1 (by omega) (by omega)
    by_cases hc:c.toNat < 128
    ·have hci:(c.toNat:Int) < 128:=by omega
     have hm:c.toNat % 128=c.toNat:=by omega
     have HL:=hid (GP Hinv.out hc)
     rw [hm] at ho hx
     have Hx:Hid (acc+128 ^ j*c.toNat < 18446744073709551616):=by show _ < _;omega
     clear hx hm
     by_cases hz:0 < c.toNat
     ·have hzi:(0:Int) < (c.toNat:Int):=by omega
      generalize hq:128 ^ j*c.toNat=q at *
      clear hq
      go_wp2_with fail
      refine (qd _).mono ?_
      rintro e w3 ⟨rfl,rfl⟩
      go_wp2_with fail
      refine (qd _).mono ?_
      rintro e w3 ⟨rfl,rfl⟩
      go_wp2
      go_ret
      exact ⟨HG2.out,.inr ⟨acc+q,r,Hx.out,(HL.out (acc+q) r).2 ⟨rfl,fun _=>hz,rfl⟩,rfl,Hrd2.out⟩⟩
     ·have hzi:decide ((0:Int) < (c.toNat:Int))=false:=by simp;omega
      by_cases hj0:j=0
      ·have hji:(7*(j:Int) == 0)=true:=by simp;omega
       have Hj0:=hid hj0
       clear hj0
       generalize hq:128 ^ j*c.toNat=q at *
       clear hq
       go_wp2_with fail
       refine (qd _).mono ?_
       rintro e w3 ⟨rfl,rfl⟩
       go_wp2_with fail
       refine (qd _).mono ?_
       rintro e w3 ⟨rfl,rfl⟩
       go_wp2
       go_ret
       exact ⟨HG2.out,.inr ⟨acc+q,r,Hx.out,(HL.out (acc+q) r).2 ⟨rfl,fun h=>by have:=Hj0.out;omega,rfl⟩,rfl,Hrd2.out⟩⟩
      ·have hji:(7*(j:Int) == 0)=false:=by simp;omega
       go_wp2_with fail
       refine (qd _).mono ?_
       rintro e w3 ⟨rfl,rfl⟩
       go_wp2_with fail
       refine (qU _).mono ?_
       rintro e w3 ⟨rfl,rfl⟩
       go_wp2
       exact ⟨rfl,HG2.out,.inl ⟨rfl,fun m r _ h=>absurd (((HL.out m r).1 h).2.1 (by omega)) hz⟩⟩
    ·have hci:decide ((c.toNat:Int) < 128)=false:=by simp;omega
     have Hx:=hid hx
     clear hx
     go_wp2_with fail
     refine (qd _).mono ?_
     rintro e w3 ⟨rfl,rfl⟩
     go_wp2_with fail
     go_roundw
     case rel=>exact ⟨j+1,acc+128 ^ j*(c.toNat % 128),r,by omega,rfl,by go_num,Aw Hinv.out (by omega),Hrd2.out,HG2.out⟩
     case measure=>simp [intOf];omega
   ·have hj93:decide (7*(j:Int) < 63)=false:=by simp;omega
    have hje:j=9:=by omega
    have hpj:128 ^ j=9223372036854775808:=by rw [hje]
    by_cases hc1:c.toNat≤1
    ·have hc1i:(c.toNat:Int)≤1:=by omega
     have hci:(c.toNat:Int) < 128:=by omega
     have hm:c.toNat % 128=c.toNat:=by omega
     have hc:c.toNat < 128:=by omega
     have ho:=TM acc c.toNat j Hinv.out.1 (by rw [hpj];omega) (by omega)
     have HL:=hid (GP Hinv.out hc)
     rw [hm] at ho
     have Hx:Hid (acc+128 ^ j*c.toNat < 18446744073709551616):=by show _ < _;rw [hpj];omega
     have hj1:0 < j:=by omega
     clear hm hpj hje
     by_cases hz:0 < c.toNat
     ·have hzi:(0:Int) < (c.toNat:Int):=by omega
      generalize hq:128 ^ j*c.toNat=q at *
      clear hq
      go_wp2_with fail
      refine (qd _).mono ?_
      rintro e w3 ⟨rfl,rfl⟩
      go_wp2_with fail
      refine (qd _).mono ?_
      rintro e w3 ⟨rfl,rfl⟩
      go_wp2
      go_ret
      exact ⟨HG2.out,.inr ⟨acc+q,r,Hx.out,(HL.out (acc+q) r).2 ⟨rfl,fun _=>hz,rfl⟩,rfl,Hrd2.out⟩⟩
     ·have hzi:decide ((0:Int) < (c.toNat:Int))=false:=by simp;omega
      have hji:(7*(j:Int) == 0)=false:=by simp;omega
      go_wp2_with fail
      refine (qd _).mono ?_
      rintro e w3 ⟨rfl,rfl⟩
      go_wp2_with fail
      refine (qU _).mono ?_
      rintro e w3 ⟨rfl,rfl⟩
      go_wp2
      exact ⟨rfl,HG2.out,.inl ⟨rfl,fun m r _ h=>absurd (((HL.out m r).1 h).2.1 (by omega)) hz⟩⟩
    ·have hci:decide ((c.toNat:Int)≤1)=false:=by simp;omega
     clear hpj
     have Hje:=hid hje
     clear hje
     go_wp2_with fail
     refine (qU _).mono ?_
     rintro e w3 ⟨rfl,rfl⟩
     go_wp2
     exact ⟨rfl,HG2.out,.inl ⟨rfl,fun m r hm=>AK (by rw [← Hje.out];exact Hinv.out) (by omega) m r hm⟩⟩
end
section
def Vp {α:Type} (dom:α→Prop) (enc:α→List UInt8) (val:α→Value) (p:Nat) (s rest:List UInt8) (w:World) (e:Ending) (w':World):Prop :=
 w.grownBy w' (some p)∧((e=gaveUp∧∀ a q,dom a→rest≠enc a++q)∨∃ a r,dom a∧e=.returned (val a)∧qz w' p s r∧∀ b q,dom b→rest=enc b++q→b=a∧q=r)
theorem Ru {n m:Nat} {r q:List UInt8} (hn:n < 18446744073709551616) (hm:m < 18446744073709551616) (h:uB n++r=uB m++q):n=m∧r=q:=by
 have h1:=Mo n r hn
 have h2:=Mo m q hm
 rw [h,h2] at h1
 simp only [bV,aP] at h1
 exact ⟨h1.1.symm,h1.2.symm⟩
theorem jS (w:World) (q:Option Nat):w.grownBy w q:=⟨rfl,rfl,rfl,ae _,fun _ _ _=>rfl⟩
theorem Kd (p:Nat) (s rest:List UInt8) (most:Nat) (w:World) (hs:s.length≤maxLen) (hm:most≤1000000) (hp:qz w p s rest) :
  Calls Tryz.prog 242 #[.pointer (some ⟨p,0,none⟩),.int .i64 (most:Int)] w (Vp (fun n:Nat=>n≤most) uB (fun n=>.int .i64 (n:Int)) p s rest w):=by
 have Hs:=hid hs
 have Hp:=hid hp
 clear hs hp
 have hw1:IntKind.u64.wrap (most:Int)=(most:Int):=Jj (by omega) (by omega)
 go_enter Tryz.func242,Tryz.ntmps242
 go_wp2_with fail
 refine (RB p s rest _ Hs.out Hp.out).mono ?_
 rintro e w1 ⟨hg,⟨rfl,hno⟩|⟨n,r,hn,hr,rfl,hrd⟩⟩
 ·go_wp2
  exact ⟨rfl,hg,.inl ⟨rfl,fun a q ha=>hno a q (by omega)⟩⟩
 ·have Hr:=hid hr
  have Hrd:=hid hrd
  clear hr hrd
  by_cases hle:n≤most
  ·have hi:(n:Int)≤(most:Int):=by omega
   have hw2:IntKind.i64.wrap (n:Int)=(n:Int):=Ub (by omega) (by omega)
   go_wp2_with fail
   refine (qd _).mono ?_
   rintro e w2 ⟨rfl,rfl⟩
   go_wp2
   go_ret
   exact ⟨hg,.inr ⟨n,r,hle,rfl,Hrd.out,fun b q hb hbq=>by
    have:=Ru hn (by omega) (Hr.out.symm.trans hbq)
    exact ⟨this.1.symm,this.2.symm⟩⟩⟩
  ·have hi:decide ((n:Int)≤(most:Int))=false:=by simp;omega
   go_wp2_with fail
   refine (qU _).mono ?_
   rintro e w2 ⟨rfl,rfl⟩
   go_wp2
   exact ⟨rfl,hg,.inl ⟨rfl,fun a q ha haq=>by
    have:=(Ru hn (by omega) (Hr.out.symm.trans haq)).1
    omega⟩⟩
def inI (z:Int):Prop:=-9223372036854775808≤z∧z≤9223372036854775807
theorem TU (n:Nat) (h:n < 18446744073709551616):inI (zOf n):=by
 unfold zOf inI
 split<;>omega
theorem Il (p:Nat) (s rest:List UInt8) (w:World) (hs:s.length≤maxLen) (hp:qz w p s rest) :
  Calls Tryz.prog 245 #[.pointer (some ⟨p,0,none⟩)] w (Vp inI zB (fun z=>.int .i64 z) p s rest w):=by
 have Hs:=hid hs
 have Hp:=hid hp
 clear hs hp
 go_enter Tryz.func245,Tryz.ntmps245
 go_wp2_with fail
 refine (RB p s rest _ Hs.out Hp.out).mono ?_
 rintro e w1 ⟨hg,⟨rfl,hno⟩|⟨n,r,hn,hr,rfl,hrd⟩⟩
 ·go_wp2
  exact ⟨rfl,hg,.inl ⟨rfl,fun a q ha=>hno (zN a) q (Ap a ha.1 ha.2)⟩⟩
 ·have Hr:=hid hr
  have Hrd:=hid hrd
  clear hr hrd
  have HU:Hid (∀ (b:Int) (q:List UInt8),inI b→rest=zB b++q→b=zOf n∧q=r):=by
   intro b q hb hbq
   have:=Ru hn (Ap b hb.1 hb.2) (Hr.out.symm.trans hbq)
   exact ⟨by rw [this.1,DI],this.2.symm⟩
  by_cases hev:n % 2=0
  ·have HZ:Hid (zOf n=(n:Int) / 2):=by simp [Hid,zOf,hev]
   have hb:((n:Int) % 2 == 0)=true:=by simp;omega
   have hw2:IntKind.i64.wrap ((n:Int) / 2)=(n:Int) / 2:=Ub (by omega) (by omega)
   clear hev
   go_wp2
   go_ret
   exact ⟨hg,.inr ⟨zOf n,r,TU n hn,xm HZ.out.symm,Hrd.out,HU.out⟩⟩
  ·have HZ:Hid (zOf n=-((n:Int) / 2) - 1):=by simp [Hid,zOf,hev]
   have hb:((n:Int) % 2 == 0)=false:=by simp;omega
   have hx:=Mm ((n:Int) / 2) (by omega) (by omega)
   have hw2:IntKind.i64.wrap (18446744073709551615 - (n:Int) / 2)=-((n:Int) / 2) - 1:=by rw [IntKind.wrap_i64];omega
   clear hev
   go_wp2
   go_ret
   exact ⟨hg,.inr ⟨zOf n,r,TU n hn,xm (by rw [HZ.out];unfold wrap64;omega),Hrd.out,HU.out⟩⟩
theorem Vc (s:List UInt8) (a b:Nat):(⟨s.toArray⟩:ByteArray).extract a b=⟨((s.drop a).take (b - a)).toArray⟩:=by
 rw [ByteArray.extract_mk]
 first|done|simp
theorem Aq (ps:List (List UInt8)) (C:Array Value) (n:Nat) (w:World) (G:Nat) (h:w.heap[G]?=some (.cells C 9 (0,0))) (hC:C=(zJ ps).toArray) (hl:ps.length=n) (hn:n≤1000) (hs:ps.flatten.length≤1000000) :
  Calls Tryz.prog 194 #[.slice (some ⟨G,0,none⟩) n n] w fun e w'=>e=.returned (strB ps.flatten)∧Below w.heap.size w w':=by
 subst hl
 refine Uh ps G ps.length w hn hs ?_ ?_
 ·rcases cR G w.heap.size with h2|h2
  ·exact h2
  ·rw [Array.getElem?_eq_none h2] at h;cases h
 ·intro j hj
  rw [cell_of_row w G j C _ (0,0) h,hC]
  simp [zJ,hj]
theorem qK {w w':World} {p:Nat} {s r:List UInt8} {q:Nat} (h:qz w p s r) (hb:Below q w w') (hp:p < q):qz w' p s r:=by
 obtain ⟨at_,h1,h2,h3⟩:=h
 exact ⟨at_,(hb.block p hp).trans h1,h2,h3⟩
theorem xp {w:World} {p:Nat} {s r:List UInt8} (h:qz w p s r):p < w.heap.size:=by
 obtain ⟨at_,h1,_⟩:=h
 rcases cR p w.heap.size with h2|h2
 ·exact h2
 ·rw [Array.getElem?_eq_none h2] at h1;cases h1
theorem jH {a b c:World} {q:Option Nat} (h:a.grownBy b q) (hb:Below b.heap.size b c):a.grownBy c q :=
 ⟨hb.os.trans h.os,hb.tape.trans h.tape,hb.output.trans h.output,ar h.size hb.size,fun i hi hne=>(hb.block i (aa hi h.size)).trans (h.block i hi hne)⟩
theorem Jo (p:Nat) (s rest:List UInt8) (n:Nat) (w:World) (hs:s.length≤maxLen) (hn:n≤100000) (hp:qz w p s rest) :
  Calls Tryz.prog 224 #[.pointer (some ⟨p,0,none⟩),.int .i64 (n:Int)] w fun e w'=>w.grownBy w' (some p) ∧
   ((rest.length < n∧e=gaveUp)∨(n≤rest.length∧e=.returned (strB (rest.take n))∧qz w' p s (rest.drop n))):=by
 obtain ⟨at_,hrow,hat,rfl⟩:=hp
 obtain ⟨⟨c0,c1⟩,cf⟩:=VS hrow
 have f1:=cf 1
 have Hrow:=hid hrow
 unfold maxLen at hs
 clear hrow cf
 have hz:=jR s
 have hdl:(s.drop at_).length=s.length - at_:=an
 have hw0:IntKind.i64.wrap ((s.length:Int) - (at_:Int))=(s.length:Int) - (at_:Int):=Ub (by omega) (by omega)
 by_cases hlt:n≤s.length - at_
 ·have hi:(n:Int)≤(s.length:Int) - (at_:Int):=by omega
  go_enter Tryz.func224,Tryz.ntmps224
  go_wp2_with fail
  go_region_held3 (fun w'=>w'.cell? ⟨p,0,none⟩=some (strB s)∧w'.cell? ⟨p,1,none⟩=some (.int .i64 (at_:Int))) (exact ⟨c0,c1⟩)
   (first|(go_at_call 155;refine (qd _).mono ?_;rintro e w' ⟨rfl,rfl⟩))
  go_wp2_with fail
  obtain ⟨h1,h2⟩:=BY (v:=.int .i64 ((at_:Int)+(n:Int))) Hrow.out
  have hplt:p < w.heap.size:=aG w _ c0
  have h3:=h1
  obtain ⟨⟨d0,d1⟩,_⟩:=VS h3
  have hsz:(w.setCell ⟨p,1,none⟩ (.int .i64 ((at_:Int)+(n:Int)))).heap.size=w.heap.size:=by simp
  have hplt1:p < (w.setCell ⟨p,1,none⟩ (.int .i64 ((at_:Int)+(n:Int)))).heap.size:=by rw [hsz];exact hplt
  clear h3 c0 c1 f1 hsz
  generalize w.setCell _ _=w1 at *
  have HRD:Hid (qz w1 p s ((s.drop at_).drop n)):=⟨at_+n,by simpa using h1,by omega,by rw [bz]⟩
  have H2:=hid h2
  clear h1 h2
  have hq:(at_:Int)+(n:Int)=((at_+n:Nat):Int):=by omega
  rw [hq] at d1
  have hmid:=Vc s at_ (at_+n)
  rw [Nat.add_sub_cancel_left] at hmid
  have hq1:at_+n≤s.length:=by omega
  have hq2:((at_+n:Nat):Int) - (n:Int)=(at_:Int):=by omega
  have hq3:at_≤at_+n:=by omega
  clear hq
  generalize at_+n=q at *
  have hsub:IntKind.i64.wrap ((q:Int) - (n:Int))=(at_:Int):=by rw [IntKind.wrap_i64];omega
  clear hq2
  have hk0:(0:Int)≤(at_:Int):=by omega
  have hk1:(at_:Int)≤(q:Int):=by omega
  have hk2:(q:Int)≤(s.length:Int):=by omega
  have Hll:Hid (((s.drop at_).take n).length≤100000):=by show _≤_;rw [aq];omega
  generalize hT:(s.drop at_).take n=T at *
  have HT:=hid hT
  clear hT
  go_region_held3 (fun w'=>w'.cell? ⟨p,0,none⟩=some (strB s)∧w'.cell? ⟨p,1,none⟩=some (.int .i64 (q:Int))) (first|exact ⟨jc _ d0,jc _ d1⟩|exact ⟨k0,k1⟩|exact ⟨d0,d1⟩)
   (first|(go_at_call 194;refine (Aq [T] #[strB T] 1 _ _ ?_ rfl rfl ?_ ?_).mono ?_;exact heap_alloc_new w1 _;decide;(have:=Hll.out;simp;omega);rintro e w5 ⟨rfl,hb5⟩;have hb5':Below w1.heap.size w1 w5:=zM (ji (ji hb5));have k0:=(hb5'.cell (p:=⟨p,0,none⟩) hplt1).trans d0;have k1:=(hb5'.cell (p:=⟨p,1,none⟩) hplt1).trans d1))
  have HF:=hid (qK HRD.out hb5' hplt1)
  have HG:=hid (jH H2.out hb5')
  clear k0 k1 d0 d1 hb5 hb5'
  go_wp2
  go_ret
  exact ⟨HG.out,.inr ⟨by omega,qC HT.out.symm,HF.out⟩⟩
 ·have hi:decide ((n:Int)≤(s.length:Int) - (at_:Int))=false:=by simp;omega
  go_enter Tryz.func224,Tryz.ntmps224
  go_wp2_with fail
  refine wp_region_held_drew (S:=fun w'=>w'.cell? ⟨p,0,none⟩=some (strB s)∧w'.cell? ⟨p,1,none⟩=some (.int .i64 (at_:Int))) (by kernel_rfl) ?_ (fun hHeld=>?_)
  ·exact ⟨c0,c1⟩
  refine tk 0 (.int .i64 (n:Int)) ?_
  refine tk 1 (.pointer (some ⟨p,0,none⟩)) ?_
  refine tk 2 (.pointer (some ⟨p,0,none⟩)) ?_
  refine tk 3 (.pointer (some ⟨p,0,none⟩)) ?_
  refine tk 4 (strB s) ?_
  refine tk 5 (.int .i64 (s.length:Int)) ?_
  refine tk 6 (.pointer (some ⟨p,0,none⟩)) ?_
  refine tk 7 (.pointer (some ⟨p,0,none⟩)) ?_
  refine tk 8 (.pointer (some ⟨p,1,none⟩)) ?_
  refine tk 9 (.int .i64 (at_:Int)) ?_
  refine tk 10 (.int .i64 ((s.length:Int) - (at_:Int))) ?_
  refine tk 11 (.bool false) ?_
  simp only [jA,jB,jC,Act.put,jD,jE,jF]
  refine rd 12 (fun K hK=>?_)
  simp only [jA,jB,jC]
  go_simp
  go_at_call 155
  refine (qU _).mono ?_
  rintro e w' ⟨rfl,rfl⟩
  exact ⟨rfl,⟨rfl,rfl,rfl,ae _,fun _ _ _=>rfl⟩,.inl ⟨by omega,rfl⟩⟩
theorem Ya (p:Nat) (s rest:List UInt8) (most:Nat) (w:World) (hs:s.length≤maxLen) (hm:most≤12) (hp:qz w p s rest) :
  Calls Tryz.prog 247 #[.pointer (some ⟨p,0,none⟩),.int .i64 (most:Int)] w (Vp (fun t:List UInt8=>t.length≤most) xB strB p s rest w):=by
 have Hs:=hid hs
 have Hp:=hid hp
 clear hs hp
 go_enter Tryz.func247,Tryz.ntmps247
 go_wp2_with fail
 refine (Kd p s rest most _ Hs.out (by omega) Hp.out).mono ?_
 rintro e w1 ⟨hg,⟨rfl,hno⟩|⟨n,r,hn,rfl,hrd,hu⟩⟩
 ·go_wp2
  exact ⟨rfl,hg,.inl ⟨rfl,fun a q ha h=>hno a.length (a++q) ha (by rw [h,xB,af])⟩⟩
 ·have Hu:=hid hu
  clear hu
  go_wp2_with fail
  refine (Jo p s r n _ Hs.out (by omega) hrd).mono ?_
  rintro e w2 ⟨hg2,⟨hlen,rfl⟩|⟨hlen,rfl,hrd2⟩⟩
  ·go_wp2
   refine ⟨rfl,ja hg hg2,.inl ⟨rfl,fun a q ha h=>?_⟩⟩
   obtain ⟨h1,h2⟩:=Hu.out a.length (a++q) ha (by rw [h,xB,af])
   rw [← h2,ab] at hlen
   omega
  ·go_wp2
   go_ret
   refine ⟨ja hg hg2,.inr ⟨r.take n,r.drop n,by show (r.take n).length≤most;rw [aq];omega,rfl,hrd2,fun b q hb h=>?_⟩⟩
   obtain ⟨h1,h2⟩:=Hu.out b.length (b++q) hb (by rw [h,xB,af])
   subst h1 h2
   simp
theorem EH (p:Nat) (s rest:List UInt8) (w:World) (hs:s.length≤maxLen) (hp:qz w p s rest) :
  Calls Tryz.prog 205 #[.pointer (some ⟨p,0,none⟩)] w (Vp (fun t:List UInt8=>t.length≤12) xB strB p s rest w):=by
 have Hs:=hid hs
 have Hp:=hid hp
 clear hs hp
 go_enter Tryz.func205,Tryz.ntmps205
 go_wp2_with fail
 refine (Ya p s rest 12 _ Hs.out (by omega) Hp.out).mono ?_
 rintro e w1 ⟨hg,⟨rfl,hno⟩|⟨t,r,hn,rfl,hrd,hu⟩⟩
 ·go_wp2
  exact ⟨rfl,hg,.inl ⟨rfl,hno⟩⟩
 ·have Hu:=hid hu
  clear hu
  go_wp2
  go_ret
  exact ⟨hg,.inr ⟨t,r,hn,rfl,hrd,Hu.out⟩⟩
theorem LE (a v:Int) (ha:inI a) (hv:inI v):wrap64 (a+wrap64 (v - a))=v:=by
 obtain ⟨h1,h2⟩:=ha
 obtain ⟨h3,h4⟩:=hv
 unfold wrap64
 omega
theorem Nj (n:Int):inI (wrap64 n):=zr n
theorem Kt (p:Nat) (s rest:List UInt8) (a:Int) (w:World) (hs:s.length≤maxLen) (ha:inI a) (hp:qz w p s rest) :
  Calls Tryz.prog 192 #[.pointer (some ⟨p,0,none⟩),.int .i64 a] w (Vp inI (fun v=>zB (wrap64 (v - a))) (fun v=>.int .i64 v) p s rest w):=by
 have Hs:=hid hs
 have Hp:=hid hp
 have Ha:=hid ha
 clear hs hp ha
 go_enter Tryz.func192,Tryz.ntmps192
 go_wp2_with fail
 refine (Il p s rest _ Hs.out Hp.out).mono ?_
 rintro e w1 ⟨hg,⟨rfl,hno⟩|⟨z,r,hz,rfl,hrd,hu⟩⟩
 ·go_wp2
  exact ⟨rfl,hg,.inl ⟨rfl,fun v q hv h=>hno _ q (Nj _) h⟩⟩
 ·have Hu:=hid hu
  clear hu
  go_wp2
  go_ret
  refine ⟨hg,.inr ⟨wrap64 (a+z),r,Nj _,rfl,hrd,fun v q hv h=>?_⟩⟩
  obtain ⟨h1,h2⟩:=Hu.out _ q (Nj _) h
  exact ⟨by rw [← h1,LE a v Ha.out hv],h2⟩
end
end Go.Proofs.YthhpbhpfagoapaaGreat
