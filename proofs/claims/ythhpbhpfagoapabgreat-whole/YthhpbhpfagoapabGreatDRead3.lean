import Derived.Test.YthhpbhpfagoapabGreatRTk
import Derived.Test.YthhpbhpfagoapabGreatJAB
namespace Go.Proofs.YthhpbhpfagoapabGreat
set_option linter.unusedVariables false
set_option linter.unusedSimpArgs false
set_option maxRecDepth 100000
set_option maxHeartbeats 16000000
open Go.RowKit
def leN:List UInt8→Nat
 | []=>0
 | c :: l=>c.toNat+256*leN l
theorem Sl (l:List UInt8):leN l < 256 ^ l.length:=by
 induction l with
 | nil=>simp [leN]
 | cons c l ih =>
  have:=c.toNat_lt
  simp only [leN,List.length_cons,Nat.pow_succ]
  omega
theorem PM (l:List UInt8) (c:UInt8):leN (l++[c])=leN l+256 ^ l.length*c.toNat:=by
 induction l with
 | nil=>simp [leN]
 | cons d l ih =>
  simp only [List.cons_append,leN,ih,List.length_cons,Nat.pow_succ]
  rw [Nat.mul_add,Nat.mul_comm (256 ^ l.length) 256,Nat.mul_assoc]
  omega
theorem Ls (l:List UInt8) (h:l.length≤8):MC l=leN l:=by
 induction l with
 | nil=>rfl
 | cons c l ih =>
  have h1:=Sl l
  have h2:=c.toNat_lt
  simp only [List.length_cons] at h
  have h3:256 ^ l.length≤256 ^ 7:=Nat.pow_le_pow_right (by decide) (by omega)
  have h4:256 ^ 7=72057594037927936:=by decide
  simp only [MC,leN,ih (by omega)]
  omega
theorem Ea (k:Nat):256 ^ k=2 ^ (8*k):=by rw [show 256=2 ^ 8 from rfl,← Nat.pow_mul]
theorem BP (acc c k:Nat) (hacc:acc < 256 ^ k) (hk:k≤7) (hc:c < 256) :
  bits .or .u64 (acc:Int) (IntKind.u64.wrap ((c:Int)*2 ^ (8*k)))=((acc+256 ^ k*c:Nat):Int):=by
 have h3:256 ^ k≤256 ^ 7:=Nat.pow_le_pow_right (by decide) hk
 have h4:256 ^ 7=72057594037927936:=by decide
 have hx:256 ^ k*c≤72057594037927936*255:=Nat.mul_le_mul (by omega) (by omega)
 have hw:IntKind.u64.wrap ((c:Int)*2 ^ (8*k))=((2 ^ (8*k)*c:Nat):Int):=by
  rw [IntKind.wrap_u64]
  have e:((c:Int)*2 ^ (8*k))=((2 ^ (8*k)*c:Nat):Int):=by
   rw [Int.mul_comm];simp
  rw [e]
  rw [Ea] at hx
  generalize 2 ^ (8*k)*c=q at *
  omega
 rw [hw,u64_or_nat _ _ (by omega) (by rw [← Ea];omega),Ea]
 rw [Ea] at hacc
 rw [Nat.or_comm,← Nat.two_pow_add_eq_or_of_lt hacc]
 congr 1
 omega
theorem BO (b:Int) (hb:inI b):wrap64 (leN (bB b):Int)=b:=by
 have h:=Be b [] hb.1 hb.2
 have hl:=Kc b
 unfold bR at h
 rw [List.append_nil] at h
 have ht:KQ 8 (some (bB b))=(bB b,some []):=by
  rw [Gl (by omega) (by omega)]
  simp [List.take_of_length_le,List.drop_of_length_le,hl]
 rw [ht] at h
 simp only [Prod.mk.injEq] at h
 rw [← Ls (bB b) (by omega)]
 exact h.1
theorem Dv (p:Nat) (s rest:List UInt8) (w:World) (hs:s.length≤maxLen) (hp:qv w p s rest) :
  Calls Tryz.prog 154 #[.pointer (some ⟨p,0,none⟩)] w (Gt inI bB (fun v=>.int .i64 v) p s rest w):=by
 have Hs:=hid hs
 have Hp:=hid hp
 clear hs hp
 go_enter Tryz.func154,Tryz.ntmps154
 go_wp2
 go_loopw [3,5] (fun n i wr=>∃ (k:Nat) (cs r:List UInt8),k≤8∧i=.int .i64 (k:Int)∧cs.length=k∧rest=cs++r∧n=.int .u64 (leN cs:Int)∧qv wr p s r∧w.grownBy wr (some p)) (fun _ i _=>8 - (intOf i).toNat)
 case atStart=>exact ⟨0,[],rest,by omega,rfl,rfl,rfl,rfl,Hp.out,jU _ _⟩
 case round =>
  obtain ⟨k,cs,r,hk,rfl,hcs,hrest,rfl,hrd,hg⟩:=hrel
  have Hcs:=hid hcs
  have Hrest:=hid hrest
  have Hg:=hid hg
  have hle:=Sl cs
  rw [hcs] at hle
  clear hcs hrest hg
  by_cases hk8:k < 8
  ·go_wp2_with fail
   refine (Zm p s r _ Hs.out hrd).mono ?_
   rintro e w2 ⟨hg2,⟨rfl,rfl⟩|⟨c,r2,rfl,rfl,hrd2⟩⟩
   ·go_wp2
    refine ⟨rfl,jf Hg.out hg2,.inl ⟨rfl,fun a q ha h=>?_⟩⟩
    have h1:=congrArg List.length (Hrest.out.symm.trans h)
    have h2:=Kc a
    have h3:=Hcs.out
    simp only [List.length_append,List.length_nil] at h1
    omega
   ·have hct:=c.toNat_lt
    have ho:=BP (leN cs) c.toNat k hle (by omega) (by omega)
    have HG2:=hid (jf Hg.out hg2)
    have Hrd2:=hid hrd2
    have HSN:Hid (leN (cs++[c])=leN cs+256 ^ k*c.toNat):=by
     show _=_
     rw [PM,Hcs.out]
    clear hrd hrd2 hg2
    generalize leN cs=acc at *
    go_wp2_with fail
    go_roundw
    case rel=>exact ⟨k+1,cs++[c],r2,by omega,by go_num,by simp [Hcs.out],by rw [Hrest.out];simp,by simp [HSN.out],Hrd2.out,HG2.out⟩
    case measure=>simp [intOf];omega
  ·have hk9:k=8:=by omega
   subst hk9
   have hle2:leN cs < 18446744073709551616:=Nat.lt_of_lt_of_le hle (by decide)
   have Hrd:=hid hrd
   clear hrd hle
   go_wp2
   go_ret
   refine ⟨Hg.out,.inr ⟨wrap64 (leN cs:Int),r,Nh _,rfl,Hrd.out,fun b q hb h=>?_⟩⟩
   have h1:=Hrest.out.symm.trans h
   have h2:=List.append_inj h1 (by rw [Hcs.out,Kc])
   rw [h2.1,BO b hb]
   exact ⟨rfl,h2.2.symm⟩
theorem Ct (s:List UInt8) (b:Nat):(⟨s.toArray⟩:ByteArray).extract 0 b=⟨(s.take b).toArray⟩:=by
 rw [Ko];simp
def NT (a t:List UInt8):List UInt8:=uB (jT a t)++xB (t.drop (jT a t))
theorem As (a t:List UInt8):a.take (jT a t)=t.take (jT a t):=by
 induction a generalizing t with
 | nil=>simp [jT]
 | cons x a ih =>
  cases t with
  | nil=>simp [jT]
  | cons y t =>
   simp only [jT]
   by_cases h:x=y
   ·rw [if_pos h,List.take_succ_cons,List.take_succ_cons,ih t,h]
   ·simp [h]
theorem VO (p:Nat) (s rest a:List UInt8) (w:World) (hs:s.length≤maxLen) (ha:a.length≤12) (hp:qv w p s rest) :
  Calls Tryz.prog 169 #[.pointer (some ⟨p,0,none⟩),strB a] w (Gt (fun t:List UInt8=>t.length≤12) (NT a) strB p s rest w):=by
 have Hs:=hid hs
 have Hp:=hid hp
 have hz:=jM a
 clear hs hp
 go_enter Tryz.func169,Tryz.ntmps169
 go_wp2_with fail
 refine (Ku p s rest a.length _ Hs.out (by omega) Hp.out).mono ?_
 rintro e w1 ⟨hg,⟨rfl,hno⟩|⟨n,r,hn,rfl,hrd,hu⟩⟩
 ·go_wp2
  refine ⟨rfl,hg,.inl ⟨rfl,fun t q ht h=>hno (jT a t) (xB (t.drop (jT a t))++q) (Jx a t).1 (by rw [h,NT,List.append_assoc])⟩⟩
 ·have Hu:=hid hu
  have Hrd:=hid hrd
  clear hu hrd
  have hn1:n≤a.length:=hn
  have hi0:(0:Int)≤(n:Int):=by omega
  have hi1:(n:Int)≤(a.length:Int):=by omega
  have hst:=Ct a n
  have hsub:IntKind.i64.wrap ((12:Int) - (n:Int))=((12 - n:Nat):Int):=by rw [IntKind.wrap_i64];omega
  have HL:Hid ((a.take n).length=n):=by show _=_;rw [List.length_take];omega
  generalize hT:a.take n=T at *
  have HT:=hid hT
  clear hT
  go_wp2_with fail
  refine wp_region_held_drew (S:=fun w'=>True) (by kernel_rfl) trivial (fun hHeld=>?_)
  refine tk 0 (strB a) ?_
  refine tk 1 (.int .i64 (n:Int)) ?_
  refine tk 2 (strB T) ?_
  refine tk 3 (.pointer (some ⟨p,0,none⟩)) ?_
  refine tk 4 (.int .i64 (n:Int)) ?_
  refine tk 5 (.int .i64 ((12 - n:Nat):Int)) ?_
  simp only [jA,jB,jC,Act.put,jD,jE,jF]
  refine rd 6 (fun K hK=>?_)
  simp only [jA,jB,jC]
  go_simp
  go_at_call 172
  refine (Yu p s r (12 - n) _ Hs.out (by omega) (show qv w1.drew p s r from Hrd.out)).mono ?_
  rintro e w2 ⟨hg2,⟨rfl,hno⟩|⟨t,r2,ht,rfl,hrd2,hu2⟩⟩
  ·have hg3:=jf hg (jP hg2)
   refine ⟨rfl,hg3,.inl ⟨rfl,fun u q hu h=>?_⟩⟩
   obtain ⟨h1,h2⟩:=Hu.out (jT a u) (xB (u.drop (jT a u))++q) (Jx a u).1 (by rw [h,NT,List.append_assoc])
   subst h1
   exact hno (u.drop (jT a u)) q (by show _≤_;rw [List.length_drop];have:u.length≤12:=hu;omega) h2.symm
  ·have hg3:=jf hg (jP hg2)
   have HG3:=hid hg3
   have Hrd2:=hid hrd2
   have Hu2:=hid hu2
   have ht1:t.length≤12 - n:=ht
   have hplt:=xD hrd2
   clear hg2 hg3 hrd2 hu2
   try go_wp2_with fail
   refine hK.out _ _ trivial (fun hHeld=>?_)
   clear hK K
   try simp only [jA,jB,jC,Act.put,jD,jE,jF]
   refine rd 7 (fun K hK=>?_)
   simp only [jA,jB,jC]
   go_simp
   try go_wp2_with fail
   refine hK.out _ _ trivial (fun hHeld=>?_)
   clear hK K
   try simp only [jA,jB,jC,Act.put,jD,jE,jF]
   refine rd 8 (fun K hK=>?_)
   simp only [jA,jB,jC]
   go_simp
   go_at_call 93
   refine (AX [T,t] #[strB T,strB t] 2 _ _ (heap_alloc_new w2 _) rfl rfl (by decide) (by have:=HL.out;simp;omega)).mono ?_
   rintro e w4 ⟨rfl,hb4⟩
   have hb4':Below w2.heap.size w2 w4:=xE hb4
   try go_wp2_with fail
   refine hK.out _ _ trivial (fun hHeld=>?_)
   clear hK K
   try simp only [jA,jB,jC,Act.put,jD,jE,jF]
   refine rd 9 (fun K hK=>?_)
   simp only [jA,jB,jC]
   go_simp
   try go_wp2_with fail
   refine hK.out _ _ trivial (fun hHeld=>?_)
   clear hK K
   try simp only [jA,jB,jC,Act.put,jD,jE,jF]
   refine wpAnyH_done (by kernel_rfl) ?_ _
   have HF:=hid (qH Hrd2.out hb4' hplt)
   have HG:=hid (jG HG3.out hb4')
   clear hb4 hb4'
   go_wp2
   go_ret
   refine ⟨HG.out,.inr ⟨T++t,r2,?_,xh (by simp),HF.out,fun u q hu h=>?_⟩⟩
   ·show (T++t).length≤12
    rw [List.length_append,HL.out];omega
   ·obtain ⟨h1,h2⟩:=Hu.out (jT a u) (xB (u.drop (jT a u))++q) (Jx a u).1 (by rw [h,NT,List.append_assoc])
    subst h1
    obtain ⟨h3,h4⟩:=Hu2.out (u.drop (jT a u)) q (by show _≤_;rw [List.length_drop];have:u.length≤12:=hu;omega) h2.symm
    refine ⟨?_,h4⟩
    rw [← HT.out,As,← h3,List.take_append_drop]
end Go.Proofs.YthhpbhpfagoapabGreat
