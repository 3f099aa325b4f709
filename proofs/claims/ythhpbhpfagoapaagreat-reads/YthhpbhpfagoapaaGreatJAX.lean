import Derived.Test.YthhpbhpfagoapaaGreatTk
import Derived.Test.YthhpbhpfagoapaaGreatJAD
import Derived.Laws.CopyOwn
import Derived.Deep.RegionLaw
import Derived.Test.YthhpbhpfagoapaaGreatWFoot
import Derived.Test.YthhpbhpfagoapaaGreatJAT
import Derived.Test.YthhpbhpfagoapaaGreatJAQ
import Derived.Test.YthhpbhpfagoapaaGreatJAO
import Derived.Test.YthhpbhpfagoapaaGreatJAU
import Derived.Defers
import Derived.Recover
import Derived.Laws.Pointers
import Derived.Laws.Tables
import Derived.Laws.Rows
import Derived.Test.YthhpbhpfagoapaaGreatOpen
import Derived.Test.YthhpbhpfagoapaaGreatJAP
namespace Go.Proofs.YthhpbhpfagoapaaGreat
set_option linter.unusedVariables false
set_option linter.unusedSimpArgs false
set_option maxRecDepth 100000
set_option maxHeartbeats 16000000
section
open Go.RowKit
def leN:List UInt8→Nat
 | []=>0
 | c :: l=>c.toNat+256*leN l
theorem Py (l:List UInt8):leN l < 256 ^ l.length:=by
 induction l with
 | nil=>simp [leN]
 | cons c l ih =>
  have:=c.toNat_lt
  simp only [leN,List.length_cons,Nat.pow_succ]
  omega
theorem CY (l:List UInt8) (c:UInt8):leN (l++[c])=leN l+256 ^ l.length*c.toNat:=by
 induction l with
 | nil=>simp [leN]
 | cons d l ih =>
  simp only [List.cons_append,leN,ih,List.length_cons,Nat.pow_succ]
  rw [Nat.mul_add,Nat.mul_comm (256 ^ l.length) 256,Nat.mul_assoc]
  omega
theorem Sq (l:List UInt8) (h:l.length≤8):Un l=leN l:=by
 induction l with
 | nil=>rfl
 | cons c l ih =>
  have h1:=Py l
  have h2:=c.toNat_lt
  simp only [List.length_cons] at h
  have h3:256 ^ l.length≤256 ^ 7:=Nat.pow_le_pow_right (by decide) (by omega)
  have h4:256 ^ 7=72057594037927936:=by decide
  simp only [Un,leN,ih (by omega)]
  omega
theorem Ei (k:Nat):256 ^ k=2 ^ (8*k):=by rw [show 256=2 ^ 8 from rfl,← Nat.pow_mul]
theorem LF (acc c k:Nat) (hacc:acc < 256 ^ k) (hk:k≤7) (hc:c < 256) :
  bits .or .u64 (acc:Int) (IntKind.u64.wrap ((c:Int)*2 ^ (8*k)))=((acc+256 ^ k*c:Nat):Int):=by
 have h3:256 ^ k≤256 ^ 7:=Nat.pow_le_pow_right (by decide) hk
 have h4:256 ^ 7=72057594037927936:=by decide
 have hx:256 ^ k*c≤72057594037927936*255:=Nat.mul_le_mul (by omega) (by omega)
 have hw:IntKind.u64.wrap ((c:Int)*2 ^ (8*k))=((2 ^ (8*k)*c:Nat):Int):=by
  rw [IntKind.wrap_u64]
  have e:((c:Int)*2 ^ (8*k))=((2 ^ (8*k)*c:Nat):Int):=by
   rw [Int.mul_comm];simp
  rw [e]
  rw [Ei] at hx
  generalize 2 ^ (8*k)*c=q at *
  omega
 rw [hw,u64_or_nat _ _ (by omega) (by rw [← Ei];omega),Ei]
 rw [Ei] at hacc
 rw [Nat.or_comm,← Nat.two_pow_add_eq_or_of_lt hacc]
 congr 1
 omega
theorem LH (b:Int) (hb:inI b):wrap64 (leN (bB b):Int)=b:=by
 have h:=SN b [] hb.1 hb.2
 have hl:=Xt b
 unfold bR at h
 rw [List.append_nil] at h
 have ht:qd 8 (some (bB b))=(bB b,some []):=by
  rw [zR (by omega) (by omega)]
  simp [List.take_of_length_le,List.drop_of_length_le,hl]
 rw [ht] at h
 simp only [Prod.mk.injEq] at h
 rw [← Sq (bB b) (by omega)]
 exact h.1
theorem Ao (p:Nat) (s rest:List UInt8) (w:World) (hs:s.length≤maxLen) (hp:qp w p s rest) :
  Calls Tryz.prog 190 #[.pointer (some ⟨p,0,none⟩)] w (UJ inI bB (fun v=>.int .i64 v) p s rest w):=by
 have Hs:=hid hs
 have Hp:=hid hp
 clear hs hp
 go_enter Tryz.func190,Tryz.ntmps190
 go_wp2
 go_loopw [3,5] (fun n i wr=>∃ (k:Nat) (cs r:List UInt8),k≤8∧i=.int .i64 (k:Int)∧cs.length=k∧rest=cs++r∧n=.int .u64 (leN cs:Int)∧qp wr p s r∧w.grownBy wr (some p)) (fun _ i _=>8 - (intOf i).toNat)
 case atStart=>exact ⟨0,[],rest,by omega,rfl,rfl,rfl,rfl,Hp.out,jL _ _⟩
 case round =>
  obtain ⟨k,cs,r,hk,rfl,hcs,hrest,rfl,hrd,hg⟩:=hrel
  have Hcs:=hid hcs
  have Hrest:=hid hrest
  have Hg:=hid hg
  have hle:=Py cs
  rw [hcs] at hle
  clear hcs hrest hg
  by_cases hk8:k < 8
  ·go_wp2_with fail
   refine (XI p s r _ Hs.out hrd).mono ?_
   rintro e w2 ⟨hg2,⟨rfl,rfl⟩|⟨c,r2,rfl,rfl,hrd2⟩⟩
   ·go_wp2
    refine ⟨rfl,ja Hg.out hg2,.inl ⟨rfl,fun a q ha h=>?_⟩⟩
    have h1:=congrArg List.length (Hrest.out.symm.trans h)
    have h2:=Xt a
    have h3:=Hcs.out
    simp only [List.length_append,List.length_nil] at h1
    omega
   ·have hct:=c.toNat_lt
    have ho:=LF (leN cs) c.toNat k hle (by omega) (by omega)
    have HG2:=hid (ja Hg.out hg2)
    have Hrd2:=hid hrd2
    have HSN:Hid (leN (cs++[c])=leN cs+256 ^ k*c.toNat):=by
     show _=_
     rw [CY,Hcs.out]
    clear hrd hrd2 hg2
    generalize leN cs=acc at *
    go_wp2_with fail
    go_roundw
    case rel=>exact ⟨k+1,cs++[c],r2,by omega,by go_num,by simp [Hcs.out],by rw [Hrest.out];simp,by simp [HSN.out],Hrd2.out,HG2.out⟩
    case measure=>simp [intOf];omega
  ·have hk9:k=8:=by omega
   subst hk9
   have hle2:leN cs < 18446744073709551616:=Nat.lt_of_lt_of_le hle (by decide)
   have Hrd:=hid hrd
   clear hrd hle
   go_wp2
   go_ret
   refine ⟨Hg.out,.inr ⟨wrap64 (leN cs:Int),r,GI _,rfl,Hrd.out,fun b q hb h=>?_⟩⟩
   have h1:=Hrest.out.symm.trans h
   have h2:=List.append_inj h1 (by rw [Hcs.out,Xt])
   rw [h2.1,LH b hb]
   exact ⟨rfl,h2.2.symm⟩
theorem PM (s:List UInt8) (b:Nat):(⟨s.toArray⟩:ByteArray).extract 0 b=⟨(s.take b).toArray⟩:=by
 rw [UB];simp
def GV (a t:List UInt8):List UInt8:=uB (jF a t)++xB (t.drop (jF a t))
theorem ET (a t:List UInt8):a.take (jF a t)=t.take (jF a t):=by
 induction a generalizing t with
 | nil=>simp [jF]
 | cons x a ih =>
  cases t with
  | nil=>simp [jF]
  | cons y t =>
   simp only [jF]
   by_cases h:x=y
   ·rw [if_pos h,List.take_succ_cons,List.take_succ_cons,ih t,h]
   ·simp [h]
theorem VE (p:Nat) (s rest a:List UInt8) (w:World) (hs:s.length≤maxLen) (ha:a.length≤12) (hp:qp w p s rest) :
  Calls Tryz.prog 207 #[.pointer (some ⟨p,0,none⟩),strB a] w (UJ (fun t:List UInt8=>t.length≤12) (GV a) strB p s rest w):=by
 have Hs:=hid hs
 have Hp:=hid hp
 have hz:=jK a
 clear hs hp
 go_enter Tryz.func207,Tryz.ntmps207
 go_wp2_with fail
 refine (ZH p s rest a.length _ Hs.out (by omega) Hp.out).mono ?_
 rintro e w1 ⟨hg,⟨rfl,hno⟩|⟨n,r,hn,rfl,hrd,hu⟩⟩
 ·go_wp2
  refine ⟨rfl,hg,.inl ⟨rfl,fun t q ht h=>hno (jF a t) (xB (t.drop (jF a t))++q) (zY a t).1 (by rw [h,GV,List.append_assoc])⟩⟩
 ·have Hu:=hid hu
  have Hrd:=hid hrd
  clear hu hrd
  have hn1:n≤a.length:=hn
  have hi0:(0:Int)≤(n:Int):=by omega
  have hi1:(n:Int)≤(a.length:Int):=by omega
  have hst:=PM a n
  have hsub:IntKind.i64.wrap ((12:Int) - (n:Int))=((12 - n:Nat):Int):=by rw [IntKind.wrap_i64];omega
  have HL:Hid ((a.take n).length=n):=by show _=_;rw [List.length_take];omega
  generalize hT:a.take n=T at *
  have HT:=hid hT
  clear hT
  go_wp2_with fail
  refine wp_region_held_drew (S:=fun w'=>True) (by kernel_rfl) trivial (fun hHeld=>?_)
  refine tk 0 (strB a) ?_
  refine tk 1 (.int .i64 (n:Int)) ?_
  refine tk 2 (strB T) ?_
  refine tk 3 (.pointer (some ⟨p,0,none⟩)) ?_
  refine tk 4 (.int .i64 (n:Int)) ?_
  refine tk 5 (.int .i64 ((12 - n:Nat):Int)) ?_
  simp only [ga,gb,gc,Act.put,gd,ge,gf]
  refine rd 6 (fun K hK=>?_)
  simp only [ga,gb,gc]
  go_simp
  go_at_call 247
  refine (Rt p s r (12 - n) _ Hs.out (by omega) (show qp w1.drew p s r from Hrd.out)).mono ?_
  rintro e w2 ⟨hg2,⟨rfl,hno⟩|⟨t,r2,ht,rfl,hrd2,hu2⟩⟩
  ·have hg3:=ja hg (jx hg2)
   refine ⟨rfl,hg3,.inl ⟨rfl,fun u q hu h=>?_⟩⟩
   obtain ⟨h1,h2⟩:=Hu.out (jF a u) (xB (u.drop (jF a u))++q) (zY a u).1 (by rw [h,GV,List.append_assoc])
   subst h1
   exact hno (u.drop (jF a u)) q (by show _≤_;rw [List.length_drop];have:u.length≤12:=hu;omega) h2.symm
  ·have hg3:=ja hg (jx hg2)
   have HG3:=hid hg3
   have Hrd2:=hid hrd2
   have Hu2:=hid hu2
   have ht1:t.length≤12 - n:=ht
   have hplt:=xh hrd2
   clear hg2 hg3 hrd2 hu2
   try go_wp2_with fail
   refine hK.out _ _ trivial (fun hHeld=>?_)
   clear hK K
   try simp only [ga,gb,gc,Act.put,gd,ge,gf]
   refine rd 7 (fun K hK=>?_)
   simp only [ga,gb,gc]
   go_simp
   try go_wp2_with fail
   refine hK.out _ _ trivial (fun hHeld=>?_)
   clear hK K
   try simp only [ga,gb,gc,Act.put,gd,ge,gf]
   refine rd 8 (fun K hK=>?_)
   simp only [ga,gb,gc]
   go_simp
   go_at_call 194
   refine (EN [T,t] #[strB T,strB t] 2 _ _ (heap_alloc_new w2 _) rfl rfl (by decide) (by have:=HL.out;simp;omega)).mono ?_
   rintro e w4 ⟨rfl,hb4⟩
   have hb4':Below w2.heap.size w2 w4:=zy hb4
   try go_wp2_with fail
   refine hK.out _ _ trivial (fun hHeld=>?_)
   clear hK K
   try simp only [ga,gb,gc,Act.put,gd,ge,gf]
   refine rd 9 (fun K hK=>?_)
   simp only [ga,gb,gc]
   go_simp
   try go_wp2_with fail
   refine hK.out _ _ trivial (fun hHeld=>?_)
   clear hK K
   try simp only [ga,gb,gc,Act.put,gd,ge,gf]
   refine wpAnyH_done (by kernel_rfl) ?_ _
   have HF:=hid (qA Hrd2.out hb4' hplt)
   have HG:=hid (jz HG3.out hb4')
   clear hb4 hb4'
   go_wp2
   go_ret
   refine ⟨HG.out,.inr ⟨T++t,r2,?_,qt (by simp),HF.out,fun u q hu h=>?_⟩⟩
   ·show (T++t).length≤12
    rw [List.length_append,HL.out];omega
   ·obtain ⟨h1,h2⟩:=Hu.out (jF a u) (xB (u.drop (jF a u))++q) (zY a u).1 (by rw [h,GV,List.append_assoc])
    subst h1
    obtain ⟨h3,h4⟩:=Hu2.out (u.drop (jF a u)) q (by show _≤_;rw [List.length_drop];have:u.length≤12:=hu;omega) h2.symm
    refine ⟨?_,h4⟩
    rw [← HT.out,ET,← h3,List.take_append_drop]
end
section
open Go.RowKit
theorem Tryz.infoBool:(Tryz.prog.info? 4).map (fun i=>(i.zero,i.size,i.bytes))=some (some (.bool false),1,1):=by kernel_rfl
theorem TW (n:Nat) (h:n < 4294967296):bits .and .u64 (n:Int) 4294967295=(n:Int):=by
 have h1:=u64_and_nat n 4294967295 (by omega) (by decide)
 have h2:n &&& 4294967295=n:=by
  rw [show 4294967295=2 ^ 32 - 1 by decide,Nat.and_two_pow_sub_one_eq_mod]
  omega
 rw [h2] at h1
 exact h1
theorem Ci (n:Nat) (w:World) (h:n≤60) :
  Calls Tryz.prog 273 #[.int .u64 1,.int .u64 (n:Int)] w fun e w'=>e=.returned (.tuple #[.int .u64 0,.int .u64 (n:Int)])∧w'=w:=by
 have h1:=TW n (by omega)
 have h2:bits .and .u64 1 4294967295=1:=TW 1 (by omega)
 have h3:(n:Int) / 4294967296=0:=by omega
 have h4:bits .and .u64 0 4294967295=0:=TW 0 (by omega)
 go_enter Tryz.func273,Tryz.ntmps273
 go_wp2
 go_ret2
 exact ⟨rfl,rfl⟩
theorem CG {w:World} {base e g N:Nat} {xs:List Value} (h:w.ownsRow base e 1 (.slice (some ⟨g,0,none⟩) N N) N xs):w.heap[g]?=some (.cells xs.toArray e (0,0)):=by
 rcases h.2 with ⟨h1,_⟩|⟨g',cap,cur,h1,_,h3,_,_,h6,h7⟩
 ·cases h1
 ·simp only [Value.slice.injEq,Option.some.injEq,Addr.mk.injEq,and_true] at h1
  obtain ⟨rfl,_,rfl⟩:=h1
  rw [h3]
  have:cur.toList=xs:=by
   rw [← h7,List.take_of_length_le]
   simp [h6]
  rw [← this]
theorem AQ (N n k:Nat) (v z:Value) (h:n+k≤N):splice (List.replicate n v++List.replicate (N - n) z) n (List.replicate k v)=List.replicate (n+k) v++List.replicate (N - (n+k)) z:=by
 unfold splice
 rw [List.take_append_of_le_length (by simp),List.take_of_length_le (by simp),List.length_replicate,List.drop_append,List.drop_of_length_le (by simp),List.length_replicate]
 rw [List.nil_append,List.drop_replicate,← List.append_assoc,List.replicate_append_replicate]
 congr 2
 omega
def Kc (N n:Nat) (v z:Value):List Value:=List.replicate n v++List.replicate (N - n) z
theorem XN (N n k:Nat) (v z:Value) (h:n+k≤N):splice (Kc N n v z) n (List.replicate k v)=Kc N (n+k) v z:=AQ N n k v z h
theorem Za (N n:Nat) (v z:Value) (h:n≤N):(Kc N n v z).length=N:=by simp [Kc];omega
theorem RP (N:Nat) (v z:Value):Kc N N v z=List.replicate N v:=by simp [Kc]
theorem Ek {w:World} {g N n k:Nat} {v z:Value} {t:TypeId} (h:w.heap[g]?=some (.cells (Kc N n v z).toArray t (0,0))) (hk:k≤n):∀ j u,(List.replicate k v)[j]?=some u→w.cell? ((⟨g,0,none⟩:Addr).add j)=some u:=by
 intro j u hj
 have hadd:(⟨g,0,none⟩:Addr).add j=⟨g,j,none⟩:=by unfold Addr.add;split<;>simp_all
 have hlt:j < k:=by
  rcases Nat.lt_or_ge j k with h1|h1
  ·exact h1
  ·rw [List.getElem?_eq_none (by simp;omega)] at hj;cases hj
 rw [List.getElem?_replicate,if_pos hlt] at hj
 rw [hadd,cell_of_row w g j _ t (0,0) h,← hj]
 simp only [Kc,List.getElem?_toArray]
 rw [List.getElem?_append_left (by simp;omega),List.getElem?_replicate,if_pos (by omega)]
theorem ZO {w:World} {base e g N:Nat} {z v:Value} (h:w.ownsRow base e 1 (.slice (some ⟨g,0,none⟩) N N) N (madeCells z.cells (N*1)).toList) (hz:z.cells=#[z]) :
  w.heap[g]?=some (.cells (Kc N 0 v z).toArray e (0,0)):=by
 have h1:=CG h
 rw [hz,toList_madeCells_one] at h1
 simpa [Kc] using h1
theorem DT (n:Nat) (w:World) (h:n≤60) :
  Calls Tryz.prog 267 #[.int .u64 1,.int .u64 (n:Int)] w fun e w'=>e=.returned (.tuple #[.int .u64 0,.int .u64 (n:Int)])∧w'=w:=by
 go_enter Tryz.func267,Tryz.ntmps267
 go_wp2_with fail
 refine (Ci n _ h).mono ?_
 rintro e w1 ⟨rfl,rfl⟩
 go_wp2
 go_ret2
 exact ⟨rfl,rfl⟩
theorem Sm (x:Int) (G cap N:Nat) (w:World) (hN:N≤60) (hG:w.cell? ⟨G,0,none⟩=some (.int .i64 x)) :
  Calls Tryz.prog 243 #[.slice (some ⟨G,0,none⟩) 1 cap,.int .i64 (N:Int)] w fun e w'=>∃ g,e=.returned (.slice (some ⟨g,0,none⟩) N N)∧w'.heap[g]?=some (.cells (List.replicate N (.int .i64 x)).toArray 3 (0,0))∧Below w.heap.size w w':=by
 obtain ⟨i0,hi,hz0,hz1,hz2⟩:=info_parts Tryz.infoInt
 have hsz:(Tryz.prog.info? 3).map (·.size)=some 1:=by rw [hi];simp [hz1]
 have HG:=hid hG
 have hGlt:=World.block_lt_of_cell? w _ hG
 have hw1:IntKind.u64.wrap (N:Int)=(N:Int):=Jc (by omega) (by omega)
 have hw2:IntKind.i64.wrap (N:Int)=(N:Int):=KJ (by omega) (by omega)
 clear hG
 go_enter Tryz.func243,Tryz.ntmps243
 go_wp2_with fail
 refine (DT N _ hN).mono ?_
 rintro e w1 ⟨rfl,rfl⟩
 have HG1:=HG
 by_cases hN0:N=0
 ·subst hN0
  go_wp2_with (first
   | (at_make;refine wpList_make_full _ rfl (.tmp 29) (.tmp 29) 82 rfl w1.heap.size 3 i0 (.int .i64 0) 1 Tryz.underlying82 hi hz0 hz1 .i64 .i64 _ _ 0 rfl rfl rfl rfl (by rw [hz2];omega) (by unfold maxLen;omega) (Nat.le_refl _) ?_;intro w3 hown hgr;have hgb:=ZO (v:=.int .i64 x) hown rfl;have hB3:Below w1.heap.size w1 w3:=(Below.refl _ _).grown hgr (Nat.le_refl _) (fun _ h=>by cases h);clear hown hgr)
   | (refine wpList_copy_splice rfl (.tmp 31) (.tmp 32) 82 82 rfl 3 Tryz.underlying82 hsz _ _ _ _ _ _ rfl rfl w1.heap.size 0 _ 3 hgb [] (by simp) (fun h=>by simp at h) (by simp) (fun _ h=>by cases h) w1.heap.size w1 hB3 (Nat.le_refl _) ?_;intro w4 hg4 hb4))
  go_loopw [8] (fun i wr=>i=.int .i64 0∧wr=w4) (fun _ _=>0)
  case atStart=>exact ⟨rfl,rfl⟩
  case round =>
   obtain ⟨rfl,rfl⟩:=hrel
   go_wp2
   go_ret
   exact ⟨w1.heap.size,rfl,by simpa [splice,Kc] using hg4.out,hb4⟩
 ·have hN1:1≤N:=by omega
  have hmin:Nat.min 1 N=1:=Nat.min_eq_left hN1
  have HN0:=hid hN0
  clear hN0
  go_wp2_with (first
   | (at_make;refine wpList_make_full _ rfl (.tmp 29) (.tmp 29) 82 rfl w1.heap.size 3 i0 (.int .i64 0) 1 Tryz.underlying82 hi hz0 hz1 .i64 .i64 _ _ N rfl rfl rfl rfl (by rw [hz2];omega) (by unfold maxLen;omega) (Nat.le_refl _) ?_;intro w3 hown hgr;have hgb:=ZO (v:=.int .i64 x) hown rfl;have hB3:Below w1.heap.size w1 w3:=(Below.refl _ _).grown hgr (Nat.le_refl _) (fun _ h=>by cases h);clear hown hgr)
   | (refine wpList_copy_splice rfl (.tmp 31) (.tmp 32) 82 82 rfl 3 Tryz.underlying82 hsz _ _ _ _ _ _ rfl rfl w1.heap.size 0 _ 3 hgb (List.replicate 1 (.int .i64 x)) ?c0 ?c1 ?c2 ?c3 w1.heap.size w1 hB3 (Nat.le_refl _) ?_))
  case c0=>rw [List.length_replicate];exact hmin.symm
  case c1 =>
   intro j v hj
   cases j with
   | zero =>
    simp at hj
    subst hj
    exact (hB3.cell (p:=⟨G,0,none⟩) hGlt).trans HG.out
   | succ j=>simp at hj
  case c2=>rw [Za _ _ _ _ (by omega)];simp;omega
  case c3=>intro v hv;simp at hv;subst hv;rfl
  intro w4 hg4 hb4
  have HB4:Hid (w4.heap[w1.heap.size]?=some (.cells (Kc N 1 (.int .i64 x) (.int .i64 0)).toArray 3 (0,0))):=by
   have h2:=XN N 0 1 (.int .i64 x) (.int .i64 0) (by omega)
   have h1:=hg4.out
   simp only [List.replicate_one,Nat.zero_add] at h1 h2
   rw [h2] at h1
   exact h1
  clear hgb hB3 hg4 hmin
  go_wp2_with fail
  go_loopw [8] (fun i wr=>∃ n:Nat,1≤n∧n≤N∧i=.int .i64 (n:Int)∧Hid (wr.heap[w1.heap.size]?=some (.cells (Kc N n (.int .i64 x) (.int .i64 0)).toArray 3 (0,0)))∧Below w1.heap.size w1 wr) (fun i _=>N - (intOf i).toNat)
  case atStart=>exact ⟨1,Nat.le_refl _,hN1,rfl,HB4,hb4⟩
  case round =>
   clear HB4 hb4
   obtain ⟨n,hn1,hnN,rfl,HB,hB⟩:=hrel
   by_cases hlt:n < N
   ·have hk0:(0:Int)≤(n:Int):=by omega
    have hk1:(n:Int)≤(N:Int):=by omega
    have hki:(n:Int) < (N:Int):=by omega
    go_wp2_with fail
    have hNn:¬ N=n:=by omega
    have hmk:Nat.min n (N - n)≤n:=Nat.min_le_left _ _
    have hmk0:Nat.min n (N - n)≤N - n:=Nat.min_le_right _ _
    have hmk2:n+Nat.min n (N - n)≤N:=by omega
    have hmk3:1≤Nat.min n (N - n):=Nat.le_min.2 ⟨hn1,by omega⟩
    have HC:=hid (Ek (k:=Nat.min n (N - n)) HB.out hmk)
    generalize hmm:Nat.min n (N - n)=m at *
    have Hmm:=hid hmm
    clear hmm
    refine wp_region_held_drew (S:=fun w'=>True) (by kernel_rfl) trivial (fun hHeld=>?_)
    refine tk 0 (.int .i64 (n:Int)) ?_
    refine tk 1 (.slice (some ⟨w1.heap.size,0,none⟩) N N) ?_
    refine tk 2 (.int .i64 (n:Int)) ?_
    refine tk 3 (.slice (some ⟨w1.heap.size,n,none⟩) (N - n) (N - n)) ?_
    refine tk 4 (.slice (some ⟨w1.heap.size,0,none⟩) N N) ?_
    refine tk 5 (.int .i64 (n:Int)) ?_
    refine tk 6 (.slice (some ⟨w1.heap.size,0,none⟩) n N) ?_
    simp only [ga,gb,gc,Act.put,gd,ge,gf]
    refine rd 7 (fun K hK=>?_)
    refine step_copy_splice (w:=wr.drew) (by rfl) (.tmp 41) (.tmp 44) 82 82 (by rfl) 3 Tryz.underlying82 hsz _ _ _ _ _ _ (by rfl) (by rfl) w1.heap.size n _ 3 HB.out (List.replicate m (.int .i64 x)) (by rw [List.length_replicate];exact Hmm.out.symm) (fun _=>⟨rfl,_,rfl,HC.out⟩) (by rw [Za _ _ _ _ (by omega),List.length_replicate];exact hmk2) (fun u hu=>by rw [List.mem_replicate] at hu;rw [hu.2];rfl) w1.heap.size w1 (show Below w1.heap.size w1 wr.drew from below_drewN hB 1) (Nat.le_refl _) ?_
    intro w5 hg5 hb5
    have HB5:Hid (w5.heap[w1.heap.size]?=some (.cells (Kc N (n+m) (.int .i64 x) (.int .i64 0)).toArray 3 (0,0))):=by
     have h1:=hg5.out
     rw [XN N n m _ _ hmk2] at h1
     exact h1
    rw [List.length_replicate]
    clear hg5
    try go_wp2_with fail
    refine hK.out _ _ trivial (fun hHeld=>?_)
    clear hK K
    try simp only [ga,gb,gc,Act.put,gd,ge,gf]
    refine rd 8 (fun K hK=>?_)
    simp only [ga,gb,gc]
    go_simp
    try go_wp2_with fail
    refine hK.out _ _ trivial (fun hHeld=>?_)
    clear hK K
    try simp only [ga,gb,gc,Act.put,gd,ge,gf]
    refine rd 9 (fun K hK=>?_)
    simp only [ga,gb,gc]
    go_simp
    try go_wp2_with fail
    refine hK.out _ _ trivial (fun hHeld=>?_)
    clear hK K
    try simp only [ga,gb,gc,Act.put,gd,ge,gf]
    refine wpAnyH_done (by kernel_rfl) ?_ _
    have hwn:IntKind.i64.wrap ((n:Int)+(m:Int))=((n+m:Nat):Int):=by rw [IntKind.wrap_i64];omega
    rw [hwn]
    clear hwn
    go_wp2_with fail
    go_roundw
    case rel=>exact ⟨n+m,by omega,hmk2,rfl,HB5,hb5⟩
    case measure=>simp [intOf];omega
   ·have hne:n=N:=by omega
    subst hne
    have hki:decide ((n:Int) < (n:Int))=false:=by simp
    go_wp2
    go_ret
    exact ⟨w1.heap.size,rfl,by have:=HB.out;rw [RP] at this;exact this,hB⟩
theorem GJ (x:Bool) (G cap N:Nat) (w:World) (hN:N≤60) (hG:w.cell? ⟨G,0,none⟩=some (.bool x)) :
  Calls Tryz.prog 249 #[.slice (some ⟨G,0,none⟩) 1 cap,.int .i64 (N:Int)] w fun e w'=>∃ g,e=.returned (.slice (some ⟨g,0,none⟩) N N)∧w'.heap[g]?=some (.cells (List.replicate N (.bool x)).toArray 4 (0,0))∧Below w.heap.size w w':=by
 obtain ⟨i0,hi,hz0,hz1,hz2⟩:=info_parts Tryz.infoBool
 have hsz:(Tryz.prog.info? 4).map (·.size)=some 1:=by rw [hi];simp [hz1]
 have HG:=hid hG
 have hGlt:=World.block_lt_of_cell? w _ hG
 have hw1:IntKind.u64.wrap (N:Int)=(N:Int):=Jc (by omega) (by omega)
 have hw2:IntKind.i64.wrap (N:Int)=(N:Int):=KJ (by omega) (by omega)
 clear hG
 go_enter Tryz.func249,Tryz.ntmps249
 go_wp2_with fail
 refine (DT N _ hN).mono ?_
 rintro e w1 ⟨rfl,rfl⟩
 have HG1:=HG
 by_cases hN0:N=0
 ·subst hN0
  go_wp2_with (first
   | (at_make;refine wpList_make_full _ rfl (.tmp 29) (.tmp 29) 282 rfl w1.heap.size 4 i0 (.bool false) 1 Tryz.underlying282 hi hz0 hz1 .i64 .i64 _ _ 0 rfl rfl rfl rfl (by rw [hz2];omega) (by unfold maxLen;omega) (Nat.le_refl _) ?_;intro w3 hown hgr;have hgb:=ZO (v:=.bool x) hown rfl;have hB3:Below w1.heap.size w1 w3:=(Below.refl _ _).grown hgr (Nat.le_refl _) (fun _ h=>by cases h);clear hown hgr)
   | (refine wpList_copy_splice rfl (.tmp 31) (.tmp 32) 282 282 rfl 4 Tryz.underlying282 hsz _ _ _ _ _ _ rfl rfl w1.heap.size 0 _ 4 hgb [] (by simp) (fun h=>by simp at h) (by simp) (fun _ h=>by cases h) w1.heap.size w1 hB3 (Nat.le_refl _) ?_;intro w4 hg4 hb4))
  go_loopw [8] (fun i wr=>i=.int .i64 0∧wr=w4) (fun _ _=>0)
  case atStart=>exact ⟨rfl,rfl⟩
  case round =>
   obtain ⟨rfl,rfl⟩:=hrel
   go_wp2
   go_ret
   exact ⟨w1.heap.size,rfl,by simpa [splice,Kc] using hg4.out,hb4⟩
 ·have hN1:1≤N:=by omega
  have hmin:Nat.min 1 N=1:=Nat.min_eq_left hN1
  have HN0:=hid hN0
  clear hN0
  go_wp2_with (first
   | (at_make;refine wpList_make_full _ rfl (.tmp 29) (.tmp 29) 282 rfl w1.heap.size 4 i0 (.bool false) 1 Tryz.underlying282 hi hz0 hz1 .i64 .i64 _ _ N rfl rfl rfl rfl (by rw [hz2];omega) (by unfold maxLen;omega) (Nat.le_refl _) ?_;intro w3 hown hgr;have hgb:=ZO (v:=.bool x) hown rfl;have hB3:Below w1.heap.size w1 w3:=(Below.refl _ _).grown hgr (Nat.le_refl _) (fun _ h=>by cases h);clear hown hgr)
   | (refine wpList_copy_splice rfl (.tmp 31) (.tmp 32) 282 282 rfl 4 Tryz.underlying282 hsz _ _ _ _ _ _ rfl rfl w1.heap.size 0 _ 4 hgb (List.replicate 1 (.bool x)) ?c0 ?c1 ?c2 ?c3 w1.heap.size w1 hB3 (Nat.le_refl _) ?_))
  case c0=>rw [List.length_replicate];exact hmin.symm
  case c1 =>
   intro j v hj
   cases j with
   | zero =>
    simp at hj
    subst hj
    exact (hB3.cell (p:=⟨G,0,none⟩) hGlt).trans HG.out
   | succ j=>simp at hj
  case c2=>rw [Za _ _ _ _ (by omega)];simp;omega
  case c3=>intro v hv;simp at hv;subst hv;rfl
  intro w4 hg4 hb4
  have HB4:Hid (w4.heap[w1.heap.size]?=some (.cells (Kc N 1 (.bool x) (.bool false)).toArray 4 (0,0))):=by
   have h2:=XN N 0 1 (.bool x) (.bool false) (by omega)
   have h1:=hg4.out
   simp only [List.replicate_one,Nat.zero_add] at h1 h2
   rw [h2] at h1
   exact h1
  clear hgb hB3 hg4 hmin
  go_wp2_with fail
  go_loopw [8] (fun i wr=>∃ n:Nat,1≤n∧n≤N∧i=.int .i64 (n:Int)∧Hid (wr.heap[w1.heap.size]?=some (.cells (Kc N n (.bool x) (.bool false)).toArray 4 (0,0)))∧Below w1.heap.size w1 wr) (fun i _=>N - (intOf i).toNat)
  case atStart=>exact ⟨1,Nat.le_refl _,hN1,rfl,HB4,hb4⟩
  case round =>
   clear HB4 hb4
   obtain ⟨n,hn1,hnN,rfl,HB,hB⟩:=hrel
   by_cases hlt:n < N
   ·have hk0:(0:Int)≤(n:Int):=by omega
    have hk1:(n:Int)≤(N:Int):=by omega
    have hki:(n:Int) < (N:Int):=by omega
    go_wp2_with fail
    have hNn:¬ N=n:=by omega
    have hmk:Nat.min n (N - n)≤n:=Nat.min_le_left _ _
    have hmk0:Nat.min n (N - n)≤N - n:=Nat.min_le_right _ _
    have hmk2:n+Nat.min n (N - n)≤N:=by omega
    have hmk3:1≤Nat.min n (N - n):=Nat.le_min.2 ⟨hn1,by omega⟩
    have HC:=hid (Ek (k:=Nat.min n (N - n)) HB.out hmk)
    generalize hmm:Nat.min n (N - n)=m at *
    have Hmm:=hid hmm
    clear hmm
    refine wp_region_held_drew (S:=fun w'=>True) (by kernel_rfl) trivial (fun hHeld=>?_)
    refine tk 0 (.int .i64 (n:Int)) ?_
    refine tk 1 (.slice (some ⟨w1.heap.size,0,none⟩) N N) ?_
    refine tk 2 (.int .i64 (n:Int)) ?_
    refine tk 3 (.slice (some ⟨w1.heap.size,n,none⟩) (N - n) (N - n)) ?_
    refine tk 4 (.slice (some ⟨w1.heap.size,0,none⟩) N N) ?_
    refine tk 5 (.int .i64 (n:Int)) ?_
    refine tk 6 (.slice (some ⟨w1.heap.size,0,none⟩) n N) ?_
    simp only [ga,gb,gc,Act.put,gd,ge,gf]
    refine rd 7 (fun K hK=>?_)
    refine step_copy_splice (w:=wr.drew) (by rfl) (.tmp 41) (.tmp 44) 282 282 (by rfl) 4 Tryz.underlying282 hsz _ _ _ _ _ _ (by rfl) (by rfl) w1.heap.size n _ 4 HB.out (List.replicate m (.bool x)) (by rw [List.length_replicate];exact Hmm.out.symm) (fun _=>⟨rfl,_,rfl,HC.out⟩) (by rw [Za _ _ _ _ (by omega),List.length_replicate];exact hmk2) (fun u hu=>by rw [List.mem_replicate] at hu;rw [hu.2];rfl) w1.heap.size w1 (show Below w1.heap.size w1 wr.drew from below_drewN hB 1) (Nat.le_refl _) ?_
    intro w5 hg5 hb5
    have HB5:Hid (w5.heap[w1.heap.size]?=some (.cells (Kc N (n+m) (.bool x) (.bool false)).toArray 4 (0,0))):=by
     have h1:=hg5.out
     rw [XN N n m _ _ hmk2] at h1
     exact h1
    rw [List.length_replicate]
    clear hg5
    try go_wp2_with fail
    refine hK.out _ _ trivial (fun hHeld=>?_)
    clear hK K
    try simp only [ga,gb,gc,Act.put,gd,ge,gf]
    refine rd 8 (fun K hK=>?_)
    simp only [ga,gb,gc]
    go_simp
    try go_wp2_with fail
    refine hK.out _ _ trivial (fun hHeld=>?_)
    clear hK K
    try simp only [ga,gb,gc,Act.put,gd,ge,gf]
    refine rd 9 (fun K hK=>?_)
    simp only [ga,gb,gc]
    go_simp
    try go_wp2_with fail
    refine hK.out _ _ trivial (fun hHeld=>?_)
    clear hK K
    try simp only [ga,gb,gc,Act.put,gd,ge,gf]
    refine wpAnyH_done (by kernel_rfl) ?_ _
    have hwn:IntKind.i64.wrap ((n:Int)+(m:Int))=((n+m:Nat):Int):=by rw [IntKind.wrap_i64];omega
    rw [hwn]
    clear hwn
    go_wp2_with fail
    go_roundw
    case rel=>exact ⟨n+m,by omega,hmk2,rfl,HB5,hb5⟩
    case measure=>simp [intOf];omega
   ·have hne:n=N:=by omega
    subst hne
    have hki:decide ((n:Int) < (n:Int))=false:=by simp
    go_wp2
    go_ret
    exact ⟨w1.heap.size,rfl,by have:=HB.out;rw [RP] at this;exact this,hB⟩
end
section
open Go.RowKit
theorem Tryz.infoSealed:(Tryz.prog.info? 40).map (fun i=>(i.zero,i.size,i.bytes))=some (some (.agg #[.string ⟨#[]⟩,.string ⟨#[]⟩,.string ⟨#[]⟩,.string ⟨#[]⟩]),4,64):=by kernel_rfl
theorem qc {w:World} {b1 b2 e1 e2 s1 s2 n1 n2:Nat} {u v:Value} {xs ys:List Value} (h1:w.ownsRow b1 e1 s1 u n1 xs) (h2:w.ownsRow b2 e2 s2 v n2 ys) (he:e1≠e2):u.ownBlock=none∨u.ownBlock≠v.ownBlock:=by
 rcases h1.2 with ⟨rfl,_⟩|⟨g,cap,cur,rfl,_,hg,_⟩
 ·exact .inl rfl
 ·right
  rcases h2.2 with ⟨rfl,_⟩|⟨g2,cap2,cur2,rfl,_,hg2,_⟩
  ·simp [Value.ownBlock]
  ·simp only [Value.ownBlock,ne_eq,Option.some.injEq]
   rintro rfl
   rw [hg] at hg2
   cases hg2
   exact he rfl
theorem jr {w:World} {b e s n:Nat} {u:Value} {xs:List Value} (h:w.ownsRow b e s u n xs):∃ a c,u=.slice a n c:=by
 rcases h.2 with ⟨rfl,rfl⟩|⟨g,cap,cur,rfl,_⟩
 ·exact ⟨none,0,rfl⟩
 ·exact ⟨_,cap,rfl⟩
end
section
open Go.RowKit
def jM (key:Int) (m:ModF):NB:=(m.nonce,if key=0 then m.plain else m.body)
theorem Ze (p g c k:Nat) (key:Int) (sort s rest:List UInt8) (w:World) (hs:s.length≤maxLen) (hp:qp w p s rest) :
  Calls Tryz.prog 274 #[.pointer (some ⟨p,0,none⟩),.int .i64 key,moduleV sort g c k] w (Ul (xW key) (qB key) (fun m=>pieceV sort g c k (jM key m)) p s rest w):=by
 have Hs:=hid hs
 have Hp:=hid hp
 have hplt:=xh hp
 clear hs hp
 obtain ⟨hb0,hl0,hm0,ho0⟩:=JQ w #[strB sort,.int .i64 (g:Int),.int .i64 (c:Int),.int .i64 (k:Int)] 111 #[Value.string { data:=#[] },.int .i64 0,.int .i64 0,.int .i64 0,Value.string { data:=#[] },Value.string { data:=#[] }] 113
 by_cases hk:key=0
 ·subst hk
  have HXM:Hid (∀ (m:ModF) (q:List UInt8),xW 0 m→rest=qB 0 m++q→m.plain.length≤65535∧rest=qv (m.plain.length:Int)++(m.plain++q)):=by
   intro m q hm h
   rcases hm with ⟨_,h1,h2,h3⟩|⟨h0,_⟩
   ·refine ⟨h3,?_⟩
    rw [h]
    simp [qB]
   ·exact absurd rfl h0
  go_enter Tryz.func274,Tryz.ntmps274
  go_wp2_with fail
  generalize (w.alloc _).alloc _=W0 at *
  have Hp0:=hid (qA Hp.out hb0 hplt)
  have hG0:w.grownBy W0 (some p):=jz (jL w _) hb0
  have hne0:w.heap.size≠p:=by omega
  have hne1:w.heap.size+1≠p:=by omega
  have HC0:=hid (Kg hm0)
  have Hm0:=hid hm0
  have Ho0:=hid ho0
  clear hb0 hm0 ho0
  refine wp_region_held_drew (S:=fun w'=>w'.cell? ⟨w.heap.size,0,none⟩=some (strB sort)∧w'.cell? ⟨w.heap.size,1,none⟩=some (.int .i64 (g:Int))∧w'.cell? ⟨w.heap.size,2,none⟩=some (.int .i64 (c:Int))∧w'.cell? ⟨w.heap.size,3,none⟩=some (.int .i64 (k:Int))) (by kernel_rfl) ?_ (fun hHeld=>?_)
  ·exact HC0.out
  refine tk 0 (moduleV sort g c k) ?_
  refine tk 1 (.pointer (some ⟨p,0,none⟩)) ?_
  refine tk 2 (.pointer (some ⟨p,0,none⟩)) ?_
  simp only [ga,gb,gc,Act.put,gd,ge,gf]
  refine rd 3 (fun K hK=>?_)
  simp only [ga,gb,gc]
  go_simp
  go_at_call 223
  refine (UN p s rest _ Hs.out (show qp W0.drew p s rest from Hp0.out)).mono ?_
  rintro e w3 ⟨hg3,⟨hr,rfl⟩|⟨a,b,r,hr,rfl,hp3⟩⟩
  ·refine ⟨rfl,ja hG0 (jx hg3),.inl ⟨rfl,fun m q hm h=>?_⟩⟩
   have:=(HXM.out m q hm h).2
   rw [this] at hr
   simp only [List.length_append,jB] at hr
   omega
  have hm3:=jf (jx hg3) Hm0.out hne0
  have ho3:=jf (jx hg3) Ho0.out hne1
  have HG3:=hid (ja hG0 (jx hg3))
  have Hp3:=hid hp3
  have HC3:=hid (Kg hm3)
  have Ho3:=hid ho3
  have Hm3:=hid hm3
  have hab:a.toNat+256*b.toNat≤65535:=by have:=a.toNat_lt;have:=b.toNat_lt;omega
  have HX:Hid (∀ (m:ModF) (q:List UInt8),xW 0 m→rest=qB 0 m++q→m.plain.length=a.toNat+256*b.toNat∧r=m.plain++q):=by
   intro m q hm h
   obtain ⟨h1,h2⟩:=HXM.out m q hm h
   rw [hr] at h2
   have h':[a,b]++r=qv (m.plain.length:Int)++(m.plain++q):=h2
   obtain ⟨h3,h4⟩:=List.append_inj h' (by rw [jB];rfl)
   rw [← XK a b] at h3
   exact ⟨(Qt hab h1 h3).symm,h4⟩
  have HY:Hid (a.toNat+256*b.toNat≤r.length→xW 0 ⟨r.take (a.toNat+256*b.toNat),[],[]⟩∧rest=qB 0 ⟨r.take (a.toNat+256*b.toNat),[],[]⟩++r.drop (a.toNat+256*b.toNat)):=by
   intro hl
   have hl2:(r.take (a.toNat+256*b.toNat)).length=a.toNat+256*b.toNat:=by rw [List.length_take];omega
   refine ⟨.inl ⟨rfl,rfl,rfl,by simp only [hl2];exact hab⟩,?_⟩
   simp only [qB,if_true]
   rw [hl2,XK,List.append_assoc,List.take_append_drop,hr]
   rfl
  clear hg3 hp3 hm3 ho3 hr
  generalize a.toNat+256*b.toNat=n at *
  try go_wp2_with fail
  refine hK.out _ _ HC3.out (fun hHeld=>?_)
  clear hK K
  try simp only [ga,gb,gc,Act.put,gd,ge,gf]
  refine rd 4 (fun K hK=>?_)
  simp only [ga,gb,gc]
  go_simp
  go_at_call 224
  refine (Jf p s r n w3 Hs.out (by omega) Hp3.out).mono ?_
  rintro e w4 ⟨hg4,⟨hlt,rfl⟩|⟨hle2,rfl,hp4⟩⟩
  ·refine ⟨rfl,ja HG3.out hg4,.inl ⟨rfl,fun m q hm h=>?_⟩⟩
   obtain ⟨h3,h4⟩:=HX.out m q hm h
   rw [h4,List.length_append] at hlt
   omega
  have hm4:=jf hg4 Hm3.out hne0
  have ho4:=jf hg4 Ho3.out hne1
  have HG4:=hid (ja HG3.out hg4)
  have Hp4:=hid hp4
  have HC4:=hid (Kg hm4)
  have Ho4:=hid ho4
  have Hm4:=hid hm4
  have HE:=hid (HY.out hle2)
  clear hg4 hp4 hm4 ho4 HX HY
  generalize r.take n=U at *
  generalize r.drop n=V at *
  try go_wp2_with fail
  refine hK.out _ _ HC4.out (fun hHeld=>?_)
  clear hK K
  try simp only [ga,gb,gc,Act.put,gd,ge,gf]
  refine rd 5 (fun K hK=>?_)
  simp only [ga,gb,gc]
  go_simp
  try go_wp2_with fail
  refine hK.out _ _ HC4.out (fun hHeld=>?_)
  clear hK K
  try simp only [ga,gb,gc,Act.put,gd,ge,gf]
  obtain ⟨⟨q0,q1,q2,q3,q4,q5⟩,z0,z1,z2,z3,z4,z5⟩:=XM Ho4.out
  refine rd 6 (fun K hK=>?_)
  simp only [ga,gb,gc]
  try go_simp
  show K _ (w4.setCells (w.heap.size+1) 0 [strB sort,.int .i64 (g:Int),.int .i64 (c:Int),.int .i64 (k:Int),Value.string { data:=#[] },strB U])
  have ho5:=JE [strB sort,.int .i64 (g:Int),.int .i64 (c:Int),.int .i64 (k:Int),Value.string { data:=#[] },strB U] (by rfl) Ho4.out
  have hg5:=xy (w.heap.size+1) [strB sort,.int .i64 (g:Int),.int .i64 (c:Int),.int .i64 (k:Int),Value.string { data:=#[] },strB U] w4 0
  clear q0 q1 q2 q3 q4 q5 z0 z1 z2 z3 z4 z5
  generalize w4.setCells _ _ _=W5 at *
  have HC5:=hid (Kg (jf hg5 Hm4.out (by omega)))
  have HG5:=hid (zo HG4.out hg5 (by rintro k hk;cases hk;omega))
  have Hp5:=hid (zD Hp4.out hg5 (by omega))
  clear hg5
  refine hK.out _ _ HC5.out (fun hHeld=>?_)
  clear hK K
  refine wpAnyH_done (by kernel_rfl) ?_ _
  obtain ⟨⟨q0,q1,q2,q3,q4,q5⟩,_⟩:=XM ho5
  go_wp2
  exact bodyPost_ret (v:=pieceV sort g c k (jM 0 ⟨U,[],[]⟩)) (by simp [results,Tryz.results274,go_sem,q0,q1,q2,q3,q4,q5,jM]) rfl ⟨HG5.out,.inr ⟨⟨U,[],[]⟩,V,HE.out.1,rfl,Hp5.out,HE.out.2⟩⟩
 ·have hki:(key == 0)=false:=by simpa using hk
  go_enter Tryz.func274,Tryz.ntmps274
  go_wp2_with fail
  generalize (w.alloc _).alloc _=W0 at *
  have Hp0:=hid (qA Hp.out hb0 hplt)
  have hG0:w.grownBy W0 (some p):=jz (jL w _) hb0
  have hne1:w.heap.size+1≠p:=by omega
  have HXM:Hid (∀ (m:ModF) (q:List UInt8),xW key m→rest=qB key m++q→Jx (m.nonce,m.body)∧rest=xn (m.nonce,m.body)++q):=by
   intro m q hm h
   rcases hm with ⟨h0,_⟩|⟨_,h1,h2,h3,h4⟩
   ·exact absurd h0 hk
   ·refine ⟨⟨h2,h3,h4⟩,?_⟩
    rw [h,qB,if_neg hk]
    rfl
  have HYM:Hid (∀ (x:NB) (q:List UInt8),Jx x→rest=xn x++q→xW key ⟨[],x.1,x.2⟩∧rest=qB key ⟨[],x.1,x.2⟩++q∧jM key ⟨[],x.1,x.2⟩=x):=by
   intro x q hx h
   refine ⟨.inr ⟨hk,rfl,hx.1,hx.2.1,hx.2.2⟩,?_,?_⟩
   ·rw [h,qB,if_neg hk]
    rfl
   ·simp only [jM,if_neg hk]
  have Ho0:=hid ho0
  clear hm0 ho0 hb0 hk hki
  refine (Ky p g c k sort s rest W0 Hs.out Hp0.out).mono ?_
  rintro e w1 ⟨hg1,⟨rfl,hno⟩|⟨x,r,hx,rfl,hp1,hr⟩⟩
  ·have HN:Hid (∀ (m:ModF) (q:List UInt8),xW key m→rest≠qB key m++q):=fun m q hm h=>hno (m.nonce,m.body) q (HXM.out m q hm h).1 (HXM.out m q hm h).2
   have HG:=hid (ja hG0 hg1)
   clear hno hg1 hG0
   go_wp2
   exact ⟨rfl,HG.out,.inl ⟨rfl,HN.out⟩⟩
  have HE:=hid (HYM.out x r hx hr)
  have Ho1:=hid (jf hg1 Ho0.out hne1)
  have HG1:=hid (ja hG0 hg1)
  have Hp1:=hid hp1
  clear hg1 hG0 hp1 hr
  obtain ⟨⟨q0,q1,q2,q3,q4,q5⟩,z0,z1,z2,z3,z4,z5⟩:=XM Ho1.out
  have ho5:=hid (JE [strB sort,.int .i64 (g:Int),.int .i64 (c:Int),.int .i64 (k:Int),strB x.1,strB x.2] (by rfl) Ho1.out)
  have hg5:=hid (xy (w.heap.size+1) [strB sort,.int .i64 (g:Int),.int .i64 (c:Int),.int .i64 (k:Int),strB x.1,strB x.2] w1 0)
  go_wp2
  show bodyPost _ _ _ _ _ (w1.setCells (w.heap.size+1) 0 [strB sort,.int .i64 (g:Int),.int .i64 (c:Int),.int .i64 (k:Int),strB x.1,strB x.2])
  clear q0 q1 q2 q3 q4 q5 z0 z1 z2 z3 z4 z5
  generalize w1.setCells _ _ _=W5 at *
  have HG5:=hid (zo HG1.out hg5.out (by rintro k hk;cases hk;omega))
  have Hp5:=hid (zD Hp1.out hg5.out (by omega))
  obtain ⟨⟨q0,q1,q2,q3,q4,q5⟩,_⟩:=XM ho5.out
  exact bodyPost_ret (v:=pieceV sort g c k x) (by simp [results,Tryz.results274,go_sem,q0,q1,q2,q3,q4,q5]) rfl ⟨HG5.out,.inr ⟨⟨[],x.1,x.2⟩,r,HE.out.1,by simp only [HE.out.2.2],Hp5.out,HE.out.2.1⟩⟩
end
section
open Go.RowKit
abbrev formC (f:FormF):Array Value:=#[.int .i64 (f.foot:Int),.bool f.told,strB f.footer,strB [if f.told=true then 83 else 70],.int .i64 0,.int .i64 0,.int .i64 0,strB f.nonce,strB f.body,strB (qe f)]
abbrev form0:Array Value:=#[.int .i64 0,.bool false,Value.string { data:=#[] },Value.string { data:=#[] },.int .i64 0,.int .i64 0,.int .i64 0,Value.string { data:=#[] },Value.string { data:=#[] },Value.string { data:=#[] }]
theorem KO (f:FormF):(formC f).all (·.oneCell')=true:=by simp [Value.oneCell']
theorem KR (w:World) (g:Nat) (cs:Array Value):w.grownBy (w.setRow g cs) (some g) :=
 ⟨rfl,rfl,rfl,by simp,fun k _ hk=>setRow_other w g k cs (fun e=>hk (by rw [e]))⟩
theorem TR (file:List UInt8) (B:Nat) (w:World) (hs:file.length≤maxLen) (hB:w.cell? ⟨B,0,none⟩=some (strB file)) :
  Calls Tryz.prog 97 #[.pointer (some ⟨B,0,none⟩)] w (SM file w):=by
 have Hs:=hid hs
 have hBa:=jc (.cells form0 115) hB
 clear hs
 obtain ⟨hb0,hl0,_,ho0⟩:=qg w form0 115
 go_enter Tryz.func97,Tryz.ntmps97
 go_wp2_with fail
 clear hBa hB
 refine (Ee file (w.alloc (.cells form0 115)) Hs.out).mono ?_
 generalize w.alloc _=W0 at *
 have HB0:=hid hb0
 have Ho0:=hid ho0
 clear hb0 ho0
 rintro e w1 ⟨hb1,⟨rfl,hn⟩|⟨f,hf,rfl⟩⟩
 ·have HN:=hid hn
  have HB1:=hid (HB0.out.trans (hb1.mono HB0.out.size))
  clear hb1 hn
  go_wp2
  exact ⟨rfl,HB1.out,.inl ⟨rfl,HN.out⟩⟩
 ·have HF:=hid hf
  have HB1:=hid (HB0.out.trans (hb1.mono HB0.out.size))
  have Ho1:=hid (jb hb1 Ho0.out)
  clear hb1 hf
  go_wp2_with (refine wpList_store_row rfl 115 (.tmp 1) (.tmp 3) rfl w.heap.size (formC f) rfl rfl 115 form0 Ho1.out (by kernel_rfl) rfl (KO f) ?_)
  have HoF:=hid (setRow_heap w1 w.heap.size _ (formC f) 115 (0,0) Ho1.out)
  have HBF:=hid (HB1.out.trans (jg (KR w1 w.heap.size (formC f)) (Nat.le_refl _) HB1.out.size))
  generalize w1.setRow _ _=WF at *
  exact bodyPost_ret (v:=formV f) (results_cell_row (P:=Tryz.prog) (p:=1) (ty:=115) rfl _ _ w.heap.size 115 (formC f) (0,0) _ rfl HoF.out Tryz.underlying115 rfl (by kernel_rfl)) rfl ⟨HBF.out,.inr ⟨f,HF.out,rfl⟩⟩
theorem VG (p:Addr) (b:Bool) (u:TypeId) (pv:Value) (older:List PanicEntry) (w:World) (hc:w.cell? p=some (.bool b)) (hz:w.frozen? p=false) :
  CallsD Tryz.prog 154 #[.pointer (some p)] (.panicking ({ v:=.iface u pv,recovered:=false } :: older)) w fun e u' w' =>
   e=.returned (.tuple #[])∧u'=.panicking ({ v:=.iface u pv,recovered:=true } :: older)∧w'=w.setCell p (.bool false):=by
 refine callsD_of_wpS Tryz.func154 rfl fun c₀ cs hu=>?_
 apply wpS_region
 simp [wpOpsS,go_sem,recoverD,hu,Tryz.ntmps154,Exit.thenS,hc,hz,bodyPostS,results,Tryz.results154]
theorem IA (p:Addr) (b:Bool) (w:World) (hc:w.cell? p=some (.bool b)) (hz:w.frozen? p=false) :
  CallsD Tryz.prog 154 #[.pointer (some p)] .returning w fun e u' w'=>e=.returned (.tuple #[])∧u'=.returning∧w'=w.setCell p (.bool true):=by
 refine callsD_of_wpS Tryz.func154 rfl fun c₀ cs hu=>?_
 apply wpS_region
 simp [wpOpsS,go_sem,recoverD,hu,Tryz.ntmps154,Exit.thenS,hc,hz,bodyPostS,results,Tryz.results154]
 cases c₀
 simp_all
theorem SA (file:List UInt8) (B:Nat) (w:World) (hs:file.length≤maxLen) (hB:w.cell? ⟨B,0,none⟩=some (strB file)) :
  Calls Tryz.prog 96 #[.func (.func 97) #[] #[.pointer (some ⟨B,0,none⟩)]] w fun e w'=>Below w.heap.size w w' ∧
   ((zi file=none∧e=.returned (.tuple #[.agg form0,.bool false]))∨∃ f,zi file=some f∧e=.returned (.tuple #[formV f,.bool true])):=by
 have hmf:∀ (fn:Fn) (first cap:Array Value) (w:World),(Instr.makeFunc fn first cap).run Tryz.prog w=.ok (.func fn first cap) w:=fun _ _ _ _=>rfl
 have Hs:=hid hs
 have hBa:=jc (.cells #[.bool false] 4) (jc (.cells form0 115) hB)
 obtain ⟨hb0,hl0,ho0,hk0⟩:=JQ w form0 115 #[.bool false] 4
 have HBa:=hid hBa
 clear hs hB hBa
 go_enter_defers Tryz.func96,Tryz.ntmps96
 go_wp2_with fail
 refine (TR file B ((w.alloc (.cells form0 115)).alloc (.cells #[.bool false] 4)) Hs.out HBa.out).mono ?_
 clear HBa
 generalize (w.alloc _).alloc _=W0 at *
 have HB0:=hid hb0
 have Ho0:=hid ho0
 have Hk0:=hid hk0
 clear hb0 ho0 hk0
 rintro e w2 ⟨hb2,ho⟩
 have HB2:=hid (HB0.out.trans (hb2.mono HB0.out.size))
 have Ho2:=hid (jb hb2 Ho0.out)
 have Hk2:=hid (jb hb2 Hk0.out)
 have hc2:w2.cell? ⟨w.heap.size+1,0,none⟩=some (.bool false):=by rw [jd Hk2.out];rfl
 have hz2:w2.frozen? ⟨w.heap.size+1,0,none⟩=false:=frozen_of_row w2 _ _ _ _ Hk2.out
 rcases ho with ⟨rfl,hn⟩|⟨f,hf,rfl⟩
 ·have Hn:=hid hn
  clear hn hb2
  go_wp2
  refine leaves_cons (f:=154) (args:=#[.pointer (some ⟨w.heap.size+1,0,none⟩)]) (by simp) (by simp [go_sem]) ?_
  refine (VG ⟨w.heap.size+1,0,none⟩ false 9 _ [] _ hc2 hz2).mono ?_
  rintro e u' w'' ⟨rfl,rfl,rfl⟩
  have hW:=World.cell?_setCell_same w2 ⟨w.heap.size+1,0,none⟩ (.bool false) hc2
  have HBW:=hid (HB2.out.setCell (p:=⟨w.heap.size+1,0,none⟩) (by simp) (.bool false))
  have HoW:=hid (jf (qn w2 (w.heap.size+1) 0 (.bool false)) Ho2.out (by omega))
  generalize w2.setCell _ _=W at *
  obtain ⟨⟨o0,o1,o2,o3,o4,o5,o6,o7,o8,o9⟩,_⟩:=xg HoW.out
  simp [Leaves,settle,results,Tryz.results96,go_sem,hW,o0,o1,o2,o3,o4,o5,o6,o7,o8,o9]
  exact ⟨HBW.out,Hn.out⟩
 ·have Hf:=hid hf
  have hg3:=KR w2 w.heap.size (formC f)
  have Hk3:=hid (jf hg3 Hk2.out (by omega))
  have Ho3:=hid (setRow_heap w2 w.heap.size _ (formC f) 115 (0,0) Ho2.out)
  have HB3:=hid (HB2.out.trans (jg hg3 (Nat.le_refl _) HB2.out.size))
  have hc3:(w2.setRow w.heap.size (formC f)).cell? ⟨w.heap.size+1,0,none⟩=some (.bool false):=by rw [jd Hk3.out];rfl
  have hz3:(w2.setRow w.heap.size (formC f)).frozen? ⟨w.heap.size+1,0,none⟩=false:=frozen_of_row _ _ _ _ _ Hk3.out
  clear hf hb2 hg3 hc2 hz2
  go_wp2_with (refine wpList_store_row rfl 115 (.tmp 2) (.tmp 6) rfl w.heap.size (formC f) rfl rfl 115 form0 Ho2.out (by kernel_rfl) rfl (KO f) ?_)
  generalize w2.setRow _ _=w3 at *
  refine leaves_cons (f:=154) (args:=#[.pointer (some ⟨w.heap.size+1,0,none⟩)]) (by simp) (by simp [go_sem]) ?_
  refine (IA ⟨w.heap.size+1,0,none⟩ true _ ?_ ?_).mono ?_
  ·exact World.cell?_setCell_same w3 ⟨w.heap.size+1,0,none⟩ (.bool true) hc3
  ·simp [hz3]
  rintro e u' w'' ⟨rfl,rfl,rfl⟩
  have hW1:=World.cell?_setCell_same w3 ⟨w.heap.size+1,0,none⟩ (.bool true) hc3
  have hW:=World.cell?_setCell_same _ ⟨w.heap.size+1,0,none⟩ (.bool true) hW1
  have HBW:=hid ((HB3.out.setCell (p:=⟨w.heap.size+1,0,none⟩) (by simp) (.bool true)).setCell (p:=⟨w.heap.size+1,0,none⟩) (by simp) (.bool true))
  have HoW:=hid (jf (qn (w3.setCell ⟨w.heap.size+1,0,none⟩ (.bool true)) (w.heap.size+1) 0 (.bool true)) (jf (qn w3 (w.heap.size+1) 0 (.bool true)) Ho3.out (by omega)) (by omega))
  clear hW1 hc3 hz3
  generalize (w3.setCell _ _).setCell _ _=W at *
  obtain ⟨⟨o0,o1,o2,o3,o4,o5,o6,o7,o8,o9⟩,_⟩:=xg HoW.out
  simp [Leaves,settle,results,Tryz.results96,go_sem,hW,o0,o1,o2,o3,o4,o5,o6,o7,o8,o9]
  exact ⟨HBW.out,f,Hf.out,rfl,rfl,rfl,rfl,rfl,rfl,rfl⟩
end
section
open Go.RowKit
theorem AR (sec non ext body:ByteArray) (w:World) (h:5002 < body.size) (hm:body.size≤maxLen) :
  Calls Tryz.prog 180 #[.string sec,.string non,.string ext,.string body] w fun e w' =>
   e=.returned (.tuple #[strB [],.bool false])∧w'=w:=by
 unfold maxLen at hm
 have i1:¬ (body.size:Int) < 2:=by omega
 have i2:(5002:Int) < (body.size:Int):=by omega
 go_enter Tryz.func180,Tryz.ntmps180
 go_wp2
 go_ret2
 exact ⟨rfl,rfl⟩
def VS:Option (List UInt8)→Value
 | some p=>.tuple #[strB p,.bool true]
 | none=>.tuple #[strB [],.bool false]
theorem Cn {sec non ext body:List UInt8} (h2:2≤body.length) (h5:body.length≤5002) (h:Zd sec non ext body=true):qo sec non ext body=some (zl sec non (Ua body)):=by
 have:=ZJ sec non ext body
 rw [h,beq_iff_eq] at this
 unfold qo
 rw [if_pos ⟨h5,h2,this⟩]
 rfl
theorem Tz {sec non ext body:List UInt8} (h:Zd sec non ext body=false):qo sec non ext body=none:=by
 have:=ZJ sec non ext body
 rw [h] at this
 unfold qo
 rw [if_neg]
 rintro ⟨_,_,h3⟩
 have h4:(Xi sec non ext (zl sec non (Ua body)) == body)=true:=by rw [beq_iff_eq];exact h3
 rw [h4] at this
 cases this
theorem Nw (sec non ext body:List UInt8) (w:World) (h1:sec.length≤1000) (h2:non.length≤1000) (h3:ext.length≤5000) (hm:body.length≤maxLen) :
  Calls Tryz.prog 180 #[strB sec,strB non,strB ext,strB body] w fun e w'=>e=.returned (VS (qo sec non ext body))∧Below w.heap.size w w':=by
 have hz:=jK body
 have hd:∀ l:List UInt8,(⟨l.toArray⟩:ByteArray).data.toList=l:=fun l=>by simp
 by_cases hlo:body.length < 2
 ·refine (Iw ⟨sec.toArray⟩ ⟨non.toArray⟩ ⟨ext.toArray⟩ ⟨body.toArray⟩ w (by rw [hz];exact hlo)).mono ?_
  rintro e w' ⟨rfl,rfl⟩
  have:qo sec non ext body=none:=by unfold qo;rw [if_neg (by omega)]
  exact ⟨by rw [this];rfl,Below.refl _ _⟩
 by_cases hhi:5002 < body.length
 ·refine (AR ⟨sec.toArray⟩ ⟨non.toArray⟩ ⟨ext.toArray⟩ ⟨body.toArray⟩ w (by rw [hz];exact hhi) (by rw [hz];exact hm)).mono ?_
  rintro e w' ⟨rfl,rfl⟩
  have:qo sec non ext body=none:=by unfold qo;rw [if_neg (by omega)]
  exact ⟨by rw [this];rfl,Below.refl _ _⟩
 cases ho:Zd sec non ext body with
 | true =>
  refine (Mi ⟨sec.toArray⟩ ⟨non.toArray⟩ ⟨ext.toArray⟩ ⟨body.toArray⟩ w (by rw [hz];omega) (by rw [hz];omega) (by rw [jK];exact h1) (by rw [jK];exact h2) (by rw [jK];exact h3) (by simp only [hd];exact ho)).mono ?_
  rintro e w' ⟨rfl,hb⟩
  refine ⟨?_,hb⟩
  rw [Cn (by omega) (by omega) ho]
  simp only [hd,VS]
 | false =>
  refine (Te ⟨sec.toArray⟩ ⟨non.toArray⟩ ⟨ext.toArray⟩ ⟨body.toArray⟩ w (by rw [hz];omega) (by rw [hz];omega) (by rw [jK];exact h1) (by rw [jK];exact h2) (by rw [jK];exact h3) (by simp only [hd];exact ho)).mono ?_
  rintro e w' ⟨rfl,hb⟩
  refine ⟨?_,hb⟩
  rw [Tz ho]
  rfl
end
section
def xG (c:Nat):List SpotB→Nat
 | []=>0
 | s :: L=>(if s.c=c∧s.sort=80 then s.many else 0)+xG c L
theorem xx (c:Nat):∀ (L L2:List SpotB),xG c (L++L2)=xG c L+xG c L2:=by
 intro L
 induction L with
 | nil=>intro L2;simp [xG]
 | cons s L ih=>intro L2;simp only [List.cons_append,xG,ih];omega
theorem Ep (c i:Nat) (L:List SpotB):xG c (L.take i)≤xG c L:=by
 have:=xx c (L.take i) (L.drop i)
 rw [List.take_append_drop] at this
 omega
theorem YM (c P g start n:Nat):∀ k,k*P≤n+P→xG c (jo P g c start n k)=min (k*P) n:=by
 intro k
 induction k with
 | zero=>intro _;simp [jo,xG]
 | succ k ih =>
  intro hk
  rw [Nat.succ_mul] at hk ⊢
  rw [QO,xx,ih (by omega)]
  simp only [xG,and_self,if_true]
  unfold jv
  omega
theorem Yg (c:Nat):∀ (L:List SpotB),(∀ s ∈ L,s.c≠c)→xG c L=0:=by
 intro L
 induction L with
 | nil=>intro _;rfl
 | cons s L ih =>
  intro h
  have h1:=h s (List.mem_cons_self ..)
  simp only [xG,h1,false_and,if_false,ih (fun x hx=>h x (List.mem_cons_of_mem _ hx))]
theorem UA (R G P g c:Nat) (hP:1≤P):xG c (jh R G P g c)=jv R G g:=by
 have h1:=Yw (n:=jv R G g) hP
 unfold jh
 rw [xx,YM _ _ _ _ _ _ h1.2]
 simp only [xG,show ¬ ((77:UInt8)=80) from by decide,and_false,if_false]
 omega
theorem Yr (R G P g c:Nat) (hP:1≤P):∀ C,xG c (ju R G P g C)=if c < C then jv R G g else 0:=by
 intro C
 induction C with
 | zero=>simp [ju,xG]
 | succ C ih =>
  have e:ju R G P g (C+1)=ju R G P g C++jh R G P g C:=by simp [ju,List.range_succ]
  rw [e,xx,ih]
  by_cases h:c=C
  ·subst h
   rw [UA _ _ _ _ _ hP,if_neg (by omega),if_pos (by omega)]
   omega
  ·rw [Yg c (jh R G P g C) (fun s hs=>by rw [KM s hs];exact fun e=>h e.symm)]
   by_cases h2:c < C
   ·rw [if_pos h2,if_pos (by omega)]
    omega
   ·rw [if_neg h2,if_neg (by omega)]
theorem Zm (R C G P n:Nat):jQ R C G P (n+1)=jQ R C G P n++ju R G P n C:=by simp [jQ,List.range_succ]
theorem Vk (R C G P c:Nat) (hc:c < C) (hP:1≤P):∀ n,n*G≤R+G→xG c (jQ R C G P n)=min (n*G) R:=by
 intro n
 induction n with
 | zero=>intro _;simp [jQ,xG]
 | succ n ih =>
  intro hn
  rw [Nat.succ_mul] at hn ⊢
  rw [Zm,xx,ih (by omega),Yr _ _ _ _ _ hP,if_pos hc]
  unfold jv
  omega
theorem Al (R C G P c:Nat) (hc:c < C) (hP:1≤P) (hG:1≤G):xG c (jC R C G P)=R:=by
 have h1:=Yw (n:=R) hG
 unfold jC
 rw [Vk R C G P c hc hP _ h1.2]
 omega
theorem Dr (R C G P c:Nat) (hc:c < C) (hP:1≤P) (hG:1≤G):∀ n,n≤jW R G→∀ (i:Nat) (s:SpotB),(jQ R C G P n)[i]?=some s→s.sort=77→s.start≤xG c ((jQ R C G P n).take i):=by
 intro n
 induction n with
 | zero=>intro _ i s h;simp [jQ] at h
 | succ n ih =>
  intro hn i s h hs
  have hnG:n*G < R:=(Qn hG).1 (by omega)
  rw [Zm] at h ⊢
  by_cases hi:i < (jQ R C G P n).length
  ·rw [List.getElem?_append_left hi] at h
   rw [List.take_append_of_le_length (by omega)]
   exact ih (by omega) i s h hs
  ·rw [List.getElem?_append_right (by omega)] at h
   have hmem:=List.mem_of_getElem? h
   simp only [ju,List.mem_flatMap,List.mem_range] at hmem
   obtain ⟨c',_,hm⟩:=hmem
   have hst:s.start=n*G:=by
    simp only [jh,jo,List.mem_append,List.mem_map,List.mem_singleton] at hm
    rcases hm with ⟨p,_,rfl⟩|rfl
    ·exact absurd (show (80:UInt8)=77 from hs) (by decide)
    ·rfl
   rw [List.take_append,List.take_of_length_le (by omega),xx,Vk R C G P c hc hP n (by omega)]
   omega
theorem NU (pre:List UInt8) (r:List KeyB) (kind key:Int) (c:Nat):∀ (L:List SpotB) (M:List ModF) (x y:List CellB),M.length=L.length→(∀ s ∈ L,s.sort=77∨s.sort=80)→jD pre r kind key c (some x) L M=some y→y.length=x.length+xG c L:=by
 intro L
 induction L with
 | nil=>intro M x y hl _ h;cases M<;>simp [jD] at h<;>simp [h,xG]
 | cons s L ih =>
  intro M x y hl hso h
  rcases M with _|⟨m,M⟩
  ·simp at hl
  simp only [jD] at h
  have hs:=hso s (List.mem_cons_self ..)
  have ih':=fun x'=>ih M x' y (by simpa using hl) (fun s hs=>hso s (List.mem_cons_of_mem _ hs))
  simp only [xG]
  by_cases hc:s.c=c
  ·rw [if_pos hc] at h
   cases hst:Qw pre r kind key x s m with
   | none=>rw [hst,xm] at h;cases h
   | some x' =>
    rw [hst] at h
    have:=ih' x' h
    unfold Qw at hst
    split at hst
    ·cases hst
    ·rcases hs with hs|hs
     ·rw [if_pos hs] at hst
      split at hst
      ·cases hst
       rw [if_neg (by rw [hs];rintro ⟨_,h⟩;exact absurd h (by decide))]
       omega
      ·cases hst
     ·rw [if_neg (by rw [hs];decide)] at hst
      split at hst
      ·cases hst
      ·split at hst
       ·rename_i hmany
        cases hst
        rw [if_pos ⟨hc,hs⟩]
        rw [List.length_append] at this
        omega
       ·cases hst
  ·rw [if_neg hc] at h
   have:=ih' x h
   rw [if_neg (fun h=>hc h.1)]
   omega
theorem Iu (pre:List UInt8) (r:List KeyB) (kind key:Int) (c:Nat) {L:List SpotB} {M:List ModF} {i:Nat} {s:SpotB} {m:ModF} (hs:L[i]?=some s) (hm:M[i]?=some m) {cells:List CellB} (h:jD pre r kind key c (some []) (L.take i) (M.take i)=some cells) :
  jD pre r kind key c (some []) (L.take (i+1)) (M.take (i+1))=if s.c=c then Qw pre r kind key cells s m else some cells:=by
 have h1:i < L.length:=by rcases List.getElem?_eq_some_iff.1 hs with ⟨h,_⟩;exact h
 have h2:i < M.length:=by rcases List.getElem?_eq_some_iff.1 hm with ⟨h,_⟩;exact h
 rw [List.take_add_one,List.take_add_one,hs,hm,zF _ _ _ _ _ _ _ _ _ _ (by simp;omega),h]
 show jD pre r kind key c (if s.c=c then Qw pre r kind key cells s m else some cells) [] []=_
 generalize (if s.c=c then Qw pre r kind key cells s m else some cells)=x
 cases x<;>rfl
theorem XU (pre:List UInt8) (r:List KeyB) (kind key:Int) (c:Nat) {L:List SpotB} {M:List ModF} (hl:M.length=L.length) {i:Nat} (h:jD pre r kind key c (some []) (L.take i) (M.take i)=none):jD pre r kind key c (some []) L M=none:=by
 have:=zF pre r kind key c (L.take i) (M.take i) (L.drop i) (M.drop i) (some []) (by simp [hl])
 rw [List.take_append_drop,List.take_append_drop,h,xm] at this
 exact this
theorem VX (pre:List UInt8) (r:List KeyB) (kind key:Int) {R C G P c:Nat} (hc:c < C) (hP:1≤P) (hG:1≤G) {M:List ModF} (hl:M.length=(jC R C G P).length) {i:Nat} {cells:List CellB} (h:jD pre r kind key c (some []) ((jC R C G P).take i) (M.take i)=some cells) :
  cells.length≤R∧∀ s,(jC R C G P)[i]?=some s→s.sort=77→s.start≤cells.length:=by
 have h1:=NU pre r kind key c _ _ _ _ (by simp [hl]) (fun s hs=>(ZD s (List.mem_of_mem_take hs)).symm) h
 have h2:=Ep c i (jC R C G P)
 rw [Al R C G P c hc hP hG] at h2
 simp only [List.length_nil,Nat.zero_add] at h1
 refine ⟨by omega,fun s hs hm=>?_⟩
 have:=Dr R C G P c hc hP hG (jW R G) (Nat.le_refl _) i s hs hm
 rw [h1]
 exact this
end
section
theorem Ev (R G P g C:Nat):ju R G P g (C+1)=ju R G P g C++jh R G P g C:=by simp [ju,List.range_succ]
theorem Aw (R G P g c:Nat) (hP:1≤P) (hg:g*G < R) (hG:1≤G):∀ (C j:Nat) (s:SpotB),(ju R G P g C)[j]?=some s→s.sort=77→s.c=c→0 < xG c ((ju R G P g C).take j):=by
 intro C
 induction C with
 | zero=>intro j s h;simp [ju] at h
 | succ C ih =>
  intro j s h hs hsc
  rw [Ev] at h ⊢
  by_cases hj:j < (ju R G P g C).length
  ·rw [List.getElem?_append_left hj] at h
   rw [List.take_append_of_le_length (by omega)]
   exact ih j s h hs hsc
  ·rw [List.getElem?_append_right (by omega)] at h
   rw [List.take_append,xx]
   have hch:jh R G P g C=jo P g C (g*G) (jv R G g) (jW (jv R G g) P)++[⟨77,g,C,0,g*G,jv R G g⟩]:=rfl
   generalize j - (ju R G P g C).length=i at h
   have hpl:=UA R G P g C hP
   rw [hch] at h hpl ⊢
   generalize hpp:jo P g C (g*G) (jv R G g) (jW (jv R G g) P)=Q at h hpl ⊢
   have hi:Q.length≤i:=by
    apply Nat.le_of_not_lt
    intro hlt
    rw [List.getElem?_append_left hlt] at h
    have hm:=List.mem_of_getElem? h
    rw [← hpp] at hm
    simp only [jo,List.mem_map] at hm
    obtain ⟨p,_,rfl⟩:=hm
    exact absurd (show (80:UInt8)=77 from hs) (by decide)
   have hcC:C=c:=by
    rw [List.getElem?_append_right hi] at h
    have hm:=List.mem_of_getElem? h
    simp only [List.mem_singleton] at hm
    subst hm
    exact hsc
   subst hcC
   rw [xx] at hpl
   have h0:xG C [⟨77,g,C,0,g*G,jv R G g⟩]=0:=by simp [xG]
   have h1:0 < jv R G g:=by unfold jv;omega
   rw [List.take_append,List.take_of_length_le hi,xx]
   omega
theorem AX (R C G P c:Nat) (hc:c < C) (hP:1≤P) (hG:1≤G):∀ n,n≤jW R G→∀ (i:Nat) (s:SpotB),(jQ R C G P n)[i]?=some s→s.sort=77→s.c=c→s.start < xG c ((jQ R C G P n).take i):=by
 intro n
 induction n with
 | zero=>intro _ i s h;simp [jQ] at h
 | succ n ih =>
  intro hn i s h hs hsc
  have hnG:n*G < R:=(Qn hG).1 (by omega)
  rw [Zm] at h ⊢
  by_cases hi:i < (jQ R C G P n).length
  ·rw [List.getElem?_append_left hi] at h
   rw [List.take_append_of_le_length (by omega)]
   exact ih (by omega) i s h hs hsc
  ·rw [List.getElem?_append_right (by omega)] at h
   have hpos:=Aw R G P n c hP hnG hG C _ s h hs hsc
   have hmem:=List.mem_of_getElem? h
   simp only [ju,List.mem_flatMap,List.mem_range] at hmem
   obtain ⟨c',_,hm⟩:=hmem
   have hst:s.start=n*G:=by
    simp only [jh,jo,List.mem_append,List.mem_map,List.mem_singleton] at hm
    rcases hm with ⟨p,_,rfl⟩|rfl
    ·exact absurd (show (80:UInt8)=77 from hs) (by decide)
    ·rfl
   rw [List.take_append,List.take_of_length_le (by omega),xx,Vk R C G P c hc hP n (by omega)]
   omega
theorem YI (pre:List UInt8) (r:List KeyB) (kind key:Int) {R C G P c:Nat} (hc:c < C) (hP:1≤P) (hG:1≤G) {M:List ModF} (hl:M.length=(jC R C G P).length) {i:Nat} {cells:List CellB} (h:jD pre r kind key c (some []) ((jC R C G P).take i) (M.take i)=some cells) :
  cells.length≤R∧∀ s,(jC R C G P)[i]?=some s→s.sort=77→s.c=c→s.start < cells.length:=by
 have h1:=NU pre r kind key c _ _ _ _ (by simp [hl]) (fun s hs=>(ZD s (List.mem_of_mem_take hs)).symm) h
 refine ⟨(VX pre r kind key hc hP hG hl h).1,fun s hs hm hsc=>?_⟩
 simp only [List.length_nil,Nat.zero_add] at h1
 rw [h1]
 exact AX R C G P c hc hP hG (jW R G) (Nat.le_refl _) i s hs hm hsc
end
end Go.Proofs.YthhpbhpfagoapaaGreat
