import Derived.Test.YthhpbhpfagoapaaGreatWTab
import Derived.Test.YthhpbhpfagoapaaGreatRPage
import Derived.Test.YthhpbhpfagoapaaGreatJAW
import Derived.Test.YthhpbhpfagoapaaGreatJAY
import Derived.Test.YthhpbhpfagoapaaGreatJAS
namespace Go.Proofs.YthhpbhpfagoapaaGreat
set_option linter.unusedVariables false
set_option linter.unusedSimpArgs false
set_option maxRecDepth 100000
set_option maxHeartbeats 16000000
open Go.RowKit
section
theorem PA (s:List UInt8) (w:World) (hs:s.length≤1000000):Calls Tryz.prog 146 #[strB s] w fun e w'=>e=.returned (strB (xB s))∧Below w.heap.size w w' :=
 DA ⟨s.toArray⟩ w (by rw [jK];exact hs)
theorem Vw (pre:List UInt8) (sort:UInt8) (g c p:Nat) (w:World) (hp:pre.length≤20) (hg:g≤65535) (hc:c≤65535) (hpp:p≤65535) :
  Calls Tryz.prog 86 #[strB pre,strB [sort],.int .i64 (g:Int),.int .i64 (c:Int),.int .i64 (p:Int)] w fun e w'=>e=.returned (strB (qu pre sort g c p))∧Below w.heap.size w w':=by
 have HB:Hid (qu pre sort g c p=xB pre++[sort]++qy (g:Int)++qy (c:Int)++qy (p:Int)):=rfl
 have hxl:(xB pre).length≤40:=by have:=jN pre.length (by omega);simp only [xB,List.length_append];omega
 have h2g:(qy (g:Int)).length≤2:=Nat.le_of_eq (jB (g:Int))
 have h2c:(qy (c:Int)).length≤2:=Nat.le_of_eq (jB (c:Int))
 have h2p:(qy (p:Int)).length≤2:=Nat.le_of_eq (jB (p:Int))
 go_enter Tryz.func86,Tryz.ntmps86
 go_wp2_with fail
 refine (PA pre w (by omega)).mono ?_
 rintro e w1 ⟨rfl,hb1⟩
 go_wp2_with fail
 refine (QN (g:Int) _ (by omega) (by omega)).mono ?_
 rintro e w2 ⟨rfl,hb2⟩
 go_wp2_with fail
 refine (QN (c:Int) _ (by omega) (by omega)).mono ?_
 rintro e w3 ⟨rfl,hb3⟩
 go_wp2_with fail
 refine (QN (p:Int) _ (by omega) (by omega)).mono ?_
 rintro e w4 ⟨rfl,hb4⟩
 have hB2:=hb1.trans (hb2.mono hb1.size)
 have hB3:=hB2.trans (hb3.mono hB2.size)
 have HB4:=hid (hB3.trans (hb4.mono hB3.size))
 clear hb1 hb2 hb3 hb4 hB2 hB3
 generalize xB pre=X at *
 generalize qy (g:Int)=TG at *
 generalize qy (c:Int)=TC at *
 generalize qy (p:Int)=TP at *
 go_wp2
 go_ret
 exact ⟨by rw [HB.out];simp [xe],HB4.out⟩
theorem Tw (kind:Int) (l:List CellB) (h:kind≠0∨je l=[]):JR kind l=uB (l.length - (je l).length)++[0]:=by
 unfold JR
 rw [if_neg (by rintro ⟨h1,h2⟩;rcases h with h|h;exact h h1;exact h2 h)]
theorem AE (l:List CellB) (h:je l≠[]):JR 0 l=uB (l.length - (je l).length)++([1]++zB (zu (je l) (qA (je l)))++zB (JN (je l) (qA (je l)))):=by
 unfold JR
 rw [if_pos ⟨rfl,h⟩]
theorem Lp {D:List CellB} (h:0 < D.length):qA D=(D[0]).int:=by
 cases D with
 | nil=>simp at h
 | cons c D=>rfl
theorem EG (D:List CellB) (k:Nat) (h:k < D.length) (x:Int):zu (D.take (k+1)) x=if (D[k]).int < zu (D.take k) x then (D[k]).int else zu (D.take k) x:=by
 unfold zu
 rw [List.take_succ_eq_append_getElem h,List.foldl_append]
 rfl
theorem Du (D:List CellB) (k:Nat) (h:k < D.length) (x:Int):JN (D.take (k+1)) x=if JN (D.take k) x < (D[k]).int then (D[k]).int else JN (D.take k) x:=by
 unfold JN
 rw [List.take_succ_eq_append_getElem h,List.foldl_append]
 rfl
theorem Ep (kind:Int) (a:Option Addr) (cap:Nat) (l:List CellB) (w:World) (hn:l.length≤60) (hs:∀ c ∈ l,qx c) (hl:Lies w a l) :
  Calls Tryz.prog 145 #[.int .i64 kind,.slice a l.length cap] w fun e w'=>e=.returned (strB (JR kind l))∧Below w.heap.size w w':=by
 have Hl:=hid hl
 have Hs:=hid hs
 have hvl:(je l).length≤l.length:=List.length_filter_le _ _
 have HSm:Hid (∀ c ∈ je l,qx c):=fun c hc=>hs c (List.mem_filter.1 hc).1
 clear hl hs
 go_enter Tryz.func145,Tryz.ntmps145
 go_wp2_with fail
 refine (Nd a cap l w (by omega) Hl.out).mono ?_
 rintro e w1 ⟨v,rfl,hown,hb1⟩
 obtain ⟨va,vc,rfl,_,hvlie⟩:=JA hown (fun c hc=>Hl.out.ok c (List.mem_filter.1 hc).1)
 have Hv:=hid hvlie
 have HB1:=hid hb1
 clear hown hvlie hb1
 have hsub:IntKind.i64.wrap ((l.length:Int) - ((je l).length:Int))=((l.length - (je l).length:Nat):Int):=by rw [IntKind.wrap_i64];omega
 have hu64:IntKind.u64.wrap ((l.length - (je l).length:Nat):Int)=((l.length - (je l).length:Nat):Int):=Jd (by omega) (by omega)
 have hul:=jN (l.length - (je l).length) (by omega)
 go_wp2_with fail
 refine (DR (l.length - (je l).length) _ (by omega)).mono ?_
 rintro e w2 ⟨rfl,hb2⟩
 have HB2:=hid (HB1.out.trans (hb2.mono HB1.out.size))
 have Hv2:=hid (Hv.out.later hb2)
 clear hb2 hsub hu64
 by_cases hk:kind=0∧je l≠[]
 ·obtain ⟨rfl,hv0⟩:=hk
  have HM:=hid (AE l hv0)
  have hvp:=List.length_pos_iff.2 hv0
  have hvi:(((je l).length:Int) == 0)=false:=by simp;omega
  have h0i:(0:Int) < ((je l).length:Int):=by omega
  obtain ⟨b,off,rfl,hbw,hcell⟩:=Hv2.out.at_ hv0
  have f1:=(hcell 0 hvp).2.1
  simp only [Nat.zero_mul,Nat.add_zero] at f1
  have HFI:=hid (Lp hvp)
  rw [← HFI.out] at f1
  have hfr:=Ql _ HSm.out
  have HLR:=hid (fun k=>Kx ((je l).take k) (fun c hc=>HSm.out c (List.mem_of_mem_take hc)) _ hfr)
  have HMR:=hid (fun k=>Uk ((je l).take k) (fun c hc=>HSm.out c (List.mem_of_mem_take hc)) _ hfr)
  have Hcell:=hid hcell
  have HTL:=hid (EG (je l))
  have HTM:=hid (Du (je l))
  clear hcell hfr hv0 Hv Hv2 HFI
  generalize hD:je l=D at *
  generalize hF0:qA D=F0 at *
  have HHD:=hid hD
  clear hD hF0
  go_wp2_with fail
  go_loopw [7,8,9] (fun lo hi2 i wr=>∃ k:Nat,k≤D.length∧i=.int .i64 (k:Int)∧lo=.int .i64 (zu (D.take k) F0)∧hi2=.int .i64 (JN (D.take k) F0)∧wr=w2) (fun _ _ i _=>D.length - (intOf i).toNat)
  case atStart=>exact ⟨0,Nat.zero_le _,rfl,rfl,rfl,rfl⟩
  case round =>
   obtain ⟨k,hkl,rfl,rfl,rfl,rfl⟩:=hrel
   by_cases hlt:k < D.length
   ·have hki:(k:Int) < (D.length:Int):=by omega
    have g2:=(Hcell.out k hlt).2.1
    have T1:=hid (HTL.out k hlt F0)
    have T2:=hid (HTM.out k hlt F0)
    obtain ⟨r1,r2⟩:=HLR.out k
    obtain ⟨r3,r4⟩:=HMR.out k
    generalize zu (D.take k) F0=M1 at *
    generalize JN (D.take k) F0=M2 at *
    generalize (D[k]).int=x at *
    clear f1
    by_cases h1:x < M1
    ·by_cases h2:M2 < x
     ·go_wp2
      go_roundw
      case rel=>exact ⟨k+1,by omega,by go_num,by rw [T1.out,if_pos h1],by rw [T2.out,if_pos h2],by simp⟩
      case measure=>simp [intOf];omega
     ·have h2':¬ M2 < x:=h2
      go_wp2
      go_roundw
      case rel=>exact ⟨k+1,by omega,by go_num,by rw [T1.out,if_pos h1],by rw [T2.out,if_neg h2],by simp⟩
      case measure=>simp [intOf];omega
    ·have h1':¬ x < M1:=h1
     by_cases h2:M2 < x
     ·go_wp2
      go_roundw
      case rel=>exact ⟨k+1,by omega,by go_num,by rw [T1.out,if_neg h1],by rw [T2.out,if_pos h2],by simp⟩
      case measure=>simp [intOf];omega
     ·have h2':¬ M2 < x:=h2
      go_wp2
      go_roundw
      case rel=>exact ⟨k+1,by omega,by go_num,by rw [T1.out,if_neg h1],by rw [T2.out,if_neg h2],by simp⟩
      case measure=>simp [intOf];omega
   ·have hke:k=D.length:=by omega
    subst hke
    obtain ⟨r1,r2⟩:=HLR.out D.length
    obtain ⟨r3,r4⟩:=HMR.out D.length
    rw [List.take_length] at *
    have z1:=Km _ r1 r2
    have z2:=Km _ r3 r4
    generalize zu D F0=M1 at *
    generalize JN D F0=M2 at *
    clear f1
    go_wp2_with fail
    refine (DL M1 _ r1 r2).mono ?_
    rintro e w3 ⟨rfl,hb3⟩
    go_wp2_with fail
    refine (DL M2 _ r3 r4).mono ?_
    rintro e w4 ⟨rfl,hb4⟩
    have hB3:=HB2.out.trans (hb3.mono HB2.out.size)
    have HB4:=hid (hB3.trans (hb4.mono hB3.size))
    clear hb3 hb4 hB3
    generalize uB (l.length - D.length)=U at *
    generalize zB M1=Z1 at *
    generalize zB M2=Z2 at *
    go_wp2
    go_ret
    exact ⟨by rw [HM.out];simp [xe],HB4.out⟩
 ·have HM:=hid (Tw kind l (by by_cases h0:kind=0;exact .inr (by simpa [h0] using hk);exact .inl h0))
  by_cases h0:kind=0
  ·have hv0:je l=[]:=by simpa [h0] using hk
   subst h0
   have hv1:(je l).length=0:=by rw [hv0];rfl
   have hvi:(((je l).length:Int) == 0)=true:=by rw [hv1];rfl
   clear hk Hv Hv2 HSm hv0 hv1
   generalize uB (l.length - (je l).length)=U at *
   go_wp2
   go_ret
   exact ⟨by rw [HM.out];simp [xe],HB2.out⟩
  ·have h0':(kind != 0)=true:=by simpa using h0
   clear hk h0 Hv Hv2
   generalize uB (l.length - (je l).length)=U at *
   go_wp2
   go_ret
   exact ⟨by rw [HM.out];simp [xe],HB2.out⟩
end
section
def AG (O:Option (List UInt8)) (w:World) (e:Ending) (w':World):Prop :=
 Below w.heap.size w w'∧((O=none∧e=gaveUp)∨∃ p,O=some p∧e=.returned (strB p))
def Jt (sec pre:List UInt8) (key:Int) (s:UInt8) (g c k:Nat) (m:ModF):Option (List UInt8) :=
 if key=0 then some m.plain else qo sec m.nonce (qu pre s g c k) m.body
theorem Nw (sb:UInt8) (g c k:Nat) (key:Int) (m:ModF) (sec pre:List UInt8) (w:World) (hm:xX key m) (hg:g≤65535) (hc:c≤65535) (hk:k≤65535) (hpre:pre.length≤20) (hsec:sec.length≤1000) :
  Calls Tryz.prog 233 #[.agg #[strB [sb],.int .i64 (g:Int),.int .i64 (c:Int),.int .i64 (k:Int),strB (jM key m).1,strB (jM key m).2],strB sec,strB pre] w (AG (Jt sec pre key sb g c k m) w):=by
 have HEX:Hid (∀ w':World,Calls Tryz.prog 171 #[.agg #[strB [sb],.int .i64 (g:Int),.int .i64 (c:Int),.int .i64 (k:Int)],strB pre,.slice none 0 0] w' fun e w2=>e=.returned (strB (qu pre sb g c k))∧Below w'.heap.size w' w2):=by
  intro w'
  have:=Rx sb g c k pre (.slice none 0 0) [] w' hg hc hk hpre (by decide) (Db w')
  rw [List.append_nil] at this
  exact this
 have hbl:=Xv pre sb g c k hpre
 rcases hm with ⟨rfl,h1,h2,h3⟩|⟨hk0,h1,h2,h3,h4⟩
 ·have HP:Hid (Jt sec pre 0 sb g c k m=some m.plain):=by show _=_;unfold Jt;rw [if_pos rfl]
  have e1:(jM 0 m).1=[]:=h1
  have e2:(jM 0 m).2=m.plain:=rfl
  rw [e1,e2]
  clear e1 e2 hbl h1 h2 h3 HEX hg hc hk hpre hsec
  generalize m.plain=T at *
  obtain ⟨hb0,hl0,hx0,ho0⟩:=qg w #[strB [sb],.int .i64 (g:Int),.int .i64 (c:Int),.int .i64 (k:Int),strB [],strB T] 113
  obtain ⟨⟨x0,x1,x2,x3,x4,x5⟩,_⟩:=XB ho0
  go_enter Tryz.func233,Tryz.ntmps233
  go_wp2
  go_ret
  exact ⟨hb0,.inr ⟨T,HP.out,rfl⟩⟩
 ·have HP:Hid (Jt sec pre key sb g c k m=qo sec m.nonce (qu pre sb g c k) m.body):=by show _=_;unfold Jt;rw [if_neg hk0]
  have e1:(jM key m).1=m.nonce:=rfl
  have e2:(jM key m).2=m.body:=by unfold jM;rw [if_neg hk0]
  rw [e1,e2]
  have HPL:=hid (fun w'=>Nu sec m.nonce (qu pre sb g c k) m.body w' hsec (by omega) (by omega) (by unfold maxLen;omega))
  have hne:m.nonce.isEmpty=false:=by
   cases h:m.nonce with
   | nil=>rw [h] at h2;simp at h2
   | cons=>rfl
  clear e1 e2 h1 h2 h3 h4 hg hc hk hpre hsec hbl
  generalize qo sec m.nonce (qu pre sb g c k) m.body=O at *
  generalize qu pre sb g c k=ext at *
  generalize m.nonce=NN at *
  generalize m.body=BB at *
  rcases O with _|T
  all_goals
   simp only [Gc] at HPL
   obtain ⟨hb0,hl0,_,ho0⟩:=qg w #[strB [sb],.int .i64 (g:Int),.int .i64 (c:Int),.int .i64 (k:Int),strB NN,strB BB] 113
   obtain ⟨⟨x0,x1,x2,x3,x4,x5⟩,_⟩:=XB ho0
   go_enter Tryz.func233,Tryz.ntmps233
   go_wp2_with fail
   clear hne x0 x1 x2 x3 x4 x5
   generalize w.alloc _=W0 at *
   have HB0:=hid hb0
   have Ho0:=hid ho0
   have HC0:=hid (XB ho0).1
   clear hb0 ho0
   go_region_held3 (fun w'=>w'.cell? ⟨w.heap.size,0,none⟩=some (strB [sb])∧w'.cell? ⟨w.heap.size,1,none⟩=some (.int .i64 (g:Int))∧w'.cell? ⟨w.heap.size,2,none⟩=some (.int .i64 (c:Int))∧w'.cell? ⟨w.heap.size,3,none⟩=some (.int .i64 (k:Int))∧w'.cell? ⟨w.heap.size,4,none⟩=some (strB NN)∧w'.cell? ⟨w.heap.size,5,none⟩=some (strB BB))
    (first|with_reducible exact HC2.out|with_reducible exact HC1.out|exact HC0.out)
    (first
     | (go_at_call 171;refine (HEX.out _).mono ?_;rintro e w1 ⟨rfl,hb1⟩;have hb1':=ji hb1;have HC1:=hid (XB (jb hb1' Ho0.out)).1)
     | (go_at_call 180;refine (HPL.out _).mono ?_;rintro e w2 ⟨rfl,hb2⟩;have HC2:=hid (XB (jb (hb1'.trans (hb2.mono hb1'.size)) Ho0.out)).1))
   have HB2:=hid (HB0.out.trans ((hb1'.trans (hb2.mono hb1'.size)).mono HB0.out.size))
   clear hb1 hb1' hb2
   go_wp2_with fail
  ·refine (qL w2).mono ?_
   rintro e w3 ⟨rfl,rfl⟩
   go_wp2
   exact ⟨rfl,HB2.out,.inl ⟨HP.out,rfl⟩⟩
  ·refine (jX w2).mono ?_
   rintro e w3 ⟨rfl,rfl⟩
   go_wp2
   go_ret
   exact ⟨HB2.out,.inr ⟨T,HP.out,rfl⟩⟩
end
section
theorem ZQ {s:Nat}:∀ {L:List (List Value)} (h:∀ x ∈ L,x.length=s) {k j:Nat} (hj:j < s),L.flatten[k*s+j]?=(L[k]?).bind (·[j]?):=by
 intro L
 induction L with
 | nil=>intro h k j hj;simp
 | cons x L ih =>
  intro h k j hj
  have hx:=h x (by simp)
  cases k with
  | zero =>
   simp only [List.flatten_cons,Nat.zero_mul,Nat.zero_add]
   rw [List.getElem?_append_left (by omega)]
   simp
  | succ k =>
   simp only [List.flatten_cons]
   rw [List.getElem?_append_right (by rw [hx,Nat.succ_mul];omega),hx,show (k+1)*s+j - s=k*s+j by rw [Nat.succ_mul];omega,ih (fun y hy=>h y (List.mem_cons_of_mem _ hy)) hj]
   simp
theorem QL {key:Int} {g c:Nat} {mp:List ModF} {k:Nat} {m:ModF} (hk:mp[k]?=some m) {j:Nat} (hj:j < 6):(Jq key g c mp)[k*6+j]?=(Dc key g c k m)[j]?:=by
 unfold Jq
 rw [ZQ (s:=6) _ hj]
 ·rw [List.getElem?_mapIdx,hk];rfl
 ·intro x hx
  rw [List.mem_mapIdx] at hx
  obtain ⟨i,hi,rfl⟩:=hx
  rfl
theorem CO {w:World} {base n:Nat} {key:Int} {g c:Nat} {mp:List ModF} {k:Nat} {m:ModF} {v:Value} (h:w.ownsRow base 113 6 v n (Jq key g c mp)) (hk:mp[k]?=some m) (hkn:k < n) :
  ∃ b cap,v=.slice (some ⟨b,0,none⟩) n cap∧b < w.heap.size∧w.cell? ⟨b,k*6,none⟩=some (strB [80])∧w.cell? ⟨b,k*6+1,none⟩=some (.int .i64 (g:Int))∧w.cell? ⟨b,k*6+2,none⟩=some (.int .i64 (c:Int))∧w.cell? ⟨b,k*6+3,none⟩=some (.int .i64 (k:Int))∧w.cell? ⟨b,k*6+4,none⟩=some (strB (jM key m).1)∧w.cell? ⟨b,k*6+5,none⟩=some (strB (jM key m).2):=by
 rcases h.2 with ⟨rfl,h1⟩|⟨b,cap,cur,rfl,_⟩
 ·omega
 ·refine ⟨b,cap,rfl,(h.lt b rfl).2,?_,?_,?_,?_,?_,?_⟩
  ·rw [h.cellAt _ (by omega)];exact QL (j:=0) hk (by omega)
  ·rw [h.cellAt _ (by omega)];exact QL (j:=1) hk (by omega)
  ·rw [h.cellAt _ (by omega)];exact QL (j:=2) hk (by omega)
  ·rw [h.cellAt _ (by omega)];exact QL (j:=3) hk (by omega)
  ·rw [h.cellAt _ (by omega)];exact QL (j:=4) hk (by omega)
  ·rw [h.cellAt _ (by omega)];exact QL (j:=5) hk (by omega)
theorem Sg (pre:List UInt8) (r:List KeyB) (kind key:Int) (x:List CellB) (g c k st many:Nat) (m:ModF):Qk pre r kind key x ⟨80,g,c,k,st,many⟩ m=match Jt (jm r key) pre key 80 g c k m with
  | none=>none
  | some p=>match qU kind p with
   | none=>none
   | some l=>if l.length=many then some (x++l) else none:=by
 unfold Qk
 have:zY pre r key ⟨80,g,c,k,st,many⟩ m=Jt (jm r key) pre key 80 g c k m:=rfl
 rw [this]
 cases Jt (jm r key) pre key 80 g c k m<;>rfl
theorem Gq (pre:List UInt8) (r:List KeyB) (kind key:Int) {P g c st n k:Nat} {mp:List ModF} {m:ModF} (hk:mp[k]?=some m):jD pre r kind key c (some []) (jo P g c st n (k+1)) (mp.take (k+1))=(jD pre r kind key c (some []) (jo P g c st n k) (mp.take k)).bind fun x=>Qk pre r kind key x ⟨80,g,c,k,st+k*P,jv n P k⟩ m:=by
 have hlt:=(List.getElem?_eq_some_iff.1 hk).1
 have ht:mp.take (k+1)=mp.take k++[m]:=by rw [List.take_add_one,hk];rfl
 rw [QR,ht,zH _ _ _ _ _ _ _ _ _ _ (by simp [jo];omega)]
 cases jD pre r kind key c (some []) (jo P g c st n k) (mp.take k) with
 | none=>rw [xm];rfl
 | some x=>exact Ul pre r kind key ⟨80,g,c,k,st+k*P,jv n P k⟩ m x
theorem Ie (pre:List UInt8) (r:List KeyB) (kind key:Int) {P g c st n k:Nat} {mp:List ModF} (h:jD pre r kind key c (some []) (jo P g c st n k) (mp.take k)=none):∀ j,k+j≤mp.length→jD pre r kind key c (some []) (jo P g c st n (k+j)) (mp.take (k+j))=none:=by
 intro j
 induction j with
 | zero=>intro _;exact h
 | succ j ih =>
  intro hl
  have hm:mp[k+j]?=some mp[k+j]:=List.getElem?_eq_getElem (by omega)
  rw [show k+(j+1)=k+j+1 by omega,Gq pre r kind key hm,ih (by omega)]
  rfl
theorem Ag {sec pre:List UInt8} {key:Int} {s:UInt8} {g c k:Nat} {m:ModF} {p:List UInt8} (hm:xX key m) (h:Jt sec pre key s g c k m=some p):p.length≤65535:=by
 unfold Jt at h
 rcases hm with ⟨rfl,h1,h2,h3⟩|⟨hk0,h1,h2,h3,h4⟩
 ·rw [if_pos rfl] at h;cases h;exact h3
 ·rw [if_neg hk0] at h
  obtain ⟨e,h5⟩:=GQ h
  have:=congrArg List.length e
  rw [UR] at this
  omega
def Yl (O:Option (List CellB)) (w:World) (e:Ending) (w':World):Prop :=
 Below w.heap.size w w'∧((O=none∧e=gaveUp)∨∃ l v,O=some l∧e=.returned v∧(∀ c ∈ l,qx c)∧w'.ownsRow w.heap.size 58 3 v l.length (jG l))
theorem Gk {kind:Int} {p:List UInt8} {l:List CellB} (h:qU kind p=some l):∀ c ∈ l,qx c:=by
 obtain ⟨h1,_,h3⟩:=XS h
 intro c hc
 refine ⟨(h3 c hc).1,(h3 c hc).2,?_⟩
 simp only [qD,Bool.and_eq_true,List.all_eq_true] at h1
 have:=h1.2 c hc
 unfold xL at this
 split at this
 ·simp only [Bool.and_eq_true,List.isEmpty_iff] at this
  rw [this.2];decide
 ·split at this
  ·rw [List.isEmpty_iff] at this
   rw [this];decide
  ·simp only [Bool.and_eq_true,decide_eq_true_eq] at this
   exact this.2
theorem Nj (SC:Array Value) (pre:List UInt8) (r:List KeyB) (kind key:Int) (R G P g c:Nat) (mp:List ModF) (mm:ModF) (base:Nat) (pv:Value) (w:World)
  (h12:SC[12]?=some (.int .i64 (P:Int))) (hP1:1≤P) (hP:P≤60) (hR:jv R G g≤60) (hkd:kind=0∨kind=1) (hg:g≤65535) (hc:c≤65535) (hpre:pre.length≤20) (hsec:(jm r key).length≤1000)
  (hml:mp.length=jW (jv R G g) P) (hmok:∀ m ∈ mp,xX key m) (hrow:w.ownsRow base 113 6 pv mp.length (Jq key g c mp)) :
  Calls Tryz.prog 232 #[.agg SC,.int .i64 kind,chunkV (jv R G g) g c key pv mm,strB (jm r key),strB pre] w (Yl (jD pre r kind key c (some []) (qv R G P g c) mp) w):=by
 obtain ⟨i1,hi1,hy0,hy1,hy2⟩:=info_parts Tryz.infoCell
 have HPL:Hid (∀ (k:Nat) (m:ModF) (w':World),mp[k]?=some m→k≤60→Calls Tryz.prog 233 #[.agg #[strB [80],.int .i64 (g:Int),.int .i64 (c:Int),.int .i64 (k:Int),strB (jM key m).1,strB (jM key m).2],strB (jm r key),strB pre] w' (AG (Jt (jm r key) pre key 80 g c k m) w')):=fun k m w' hk h60=>Nw 80 g c k key m (jm r key) pre w' (hmok m (List.mem_of_getElem? hk)) hg hc (by omega) hpre hsec
 have HLN:Hid (∀ (k:Nat) (m:ModF) (p:List UInt8),mp[k]?=some m→Jt (jm r key) pre key 80 g c k m=some p→p.length≤maxLen):=fun k m p hk h=>Nat.le_trans (Ag (hmok m (List.mem_of_getElem? hk)) h) (by decide)
 have HUN:Hid (∀ (p:List UInt8) (w':World),p.length≤maxLen→Calls Tryz.prog 70 #[.int .i64 kind,strB p] w' (GK kind p w')):=fun p w' h=>Ab kind p w' hkd h
 have hCN:jW (jv R G g) P≤60:=Nat.le_trans (Xg hP1) hR
 have HCT:=hid (fun w':World=>GI (jv R G g) P w' (by omega) hP1 (by omega))
 have HALL:Hid (qv R G P g c=jo P g c (g*G) (jv R G g) mp.length):=by show _=_;unfold qv;rw [hml]
 have HPP:Hid (∀ k,k < mp.length→0 < jv (jv R G g) P k∧k*P+jv (jv R G g) P k=min (k*P+P) (jv R G g)∧jv (jv R G g) P k≤60):=fun k hk=>by
  rw [hml] at hk
  have h1:=(Qg hP1).1 hk
  have h2:=(Vc (n:=jv R G g) (i:=k) hP1).2 h1
  have h3:=Kv (jv R G g) P k h1
  exact ⟨h2,h3,by omega⟩
 have hkP:∀ k,k≤60→k*P≤3600:=fun k hk=>by
  have:=Nat.mul_le_mul hk hP
  omega
 have HKP:=hid hkP
 have HSZ:Hid (SC.size≤100000∨True):=.inr trivial
 generalize hse:jm r key=sec at *
 have HSE:=hid hse
 clear hse
 rw [← hml] at HCT hCN
 generalize jv R G g=rows at *
 have Hrow:=hid hrow
 have H12:=hid h12
 clear hrow hmok hsec hpre hg hc hkd hml h12 hkP
 obtain ⟨hb0,hl0,ho0,hq0⟩:=JP w SC 120 #[.int .i64 (rows:Int),pv,strB [77],.int .i64 (g:Int),.int .i64 (c:Int),.int .i64 0,strB (jM key mm).1,strB (jM key mm).2] 261
 have x12:((w.alloc (.cells SC 120)).alloc (.cells #[.int .i64 (rows:Int),pv,strB [77],.int .i64 (g:Int),.int .i64 (c:Int),.int .i64 0,strB (jM key mm).1,strB (jM key mm).2] 261)).cell? ⟨w.heap.size,12,none⟩=some (.int .i64 (P:Int)):=by rw [jd ho0];exact H12.out
 obtain ⟨y0,y1,y2,y3,y4,y5,y6,y7⟩:=(QI hq0).1
 go_enter Tryz.func232,Tryz.ntmps232
 go_wp2_with fail
 clear x12 y0 y1 y2 y3 y4 y5 y6 y7
 generalize (w.alloc _).alloc _=W0 at *
 have HB0:=hid hb0
 have Hq0:=hid hq0
 have hz0:=hb0.size
 clear hb0 hq0 ho0
 refine (HCT.out _).mono ?_
 rintro e w1 ⟨sv,rfl,hsp,hb1⟩
 obtain ⟨sa,sc,rfl⟩:=jr hsp
 have HB1:=hid (HB0.out.trans (hb1.mono HB0.out.size))
 have Hq1:=hid (jb hb1 Hq0.out)
 have Hsp:=hid (jy hsp (b':=w.heap.size) hz0)
 have hl1:=hb1.size
 clear hb1 hsp
 go_wp2
 go_loopw [11,23] (fun v i wr=>∃ (k:Nat) (l:List CellB),k≤mp.length∧i=.int .i64 (k:Int)∧jD pre r kind key c (some []) (jo P g c (g*G) rows k) (mp.take k)=some l∧l.length≤k*60∧(∀ x ∈ l,qx x)∧wr.ownsRow w.heap.size 58 3 v l.length (jG l)∧wr.heap[w.heap.size+1]?=some (.cells #[.int .i64 (rows:Int),pv,strB [77],.int .i64 (g:Int),.int .i64 (c:Int),.int .i64 0,strB (jM key mm).1,strB (jM key mm).2] 261 (0,0))∧wr.ownsRow w.heap.size 290 2 (.slice sa mp.length sc) mp.length (QD rows P mp.length)∧Below w.heap.size w wr) (fun _ i _=>mp.length - (intOf i).toNat)
 case atStart=>exact ⟨0,[],Nat.zero_le _,rfl,rfl,Nat.zero_le _,(by intro x hx;cases hx),World.ownsRow_nil _ _ _ _,Hq1.out,Hsp.out,HB1.out⟩
 case round =>
  obtain ⟨k,l,hkC,rfl,hcf,hll,hsm,hown,hq,hsp,hB⟩:=hrel
  have Hcf:=hid hcf
  have Hsm:=hid hsm
  have Hown:=hid hown
  have Hq:=hid hq
  have Hs:=hid hsp
  have HB:=hid hB
  have hwz:=hB.size
  obtain ⟨va,vc,rfl⟩:=jr hown
  clear hcf hsm hown hq hsp hB
  by_cases hlt:k < mp.length
  ·have hiM:(k:Int) < (mp.length:Int):=by omega
   obtain ⟨m,hm⟩:∃ m,mp[k]?=some m:=⟨mp[k],List.getElem?_eq_getElem hlt⟩
   obtain ⟨sg,rfl,hsg,s1,s2⟩:=EK Hs.out hlt
   obtain ⟨pb,pc,rfl,hpb,p0,p1,p2,p3,p4,p5⟩:=CO (jw Hrow.out HB.out) hm hlt
   obtain ⟨hpp,hpe,hp60⟩:=HPP.out k hlt
   have hkp:=HKP.out k (by omega)
   have HPLk:=hid (fun w'=>HPL.out k m w' hm (by omega))
   have HLNk:=hid (fun p=>HLN.out k m p hm)
   have HSTEP:Hid (jD pre r kind key c (some []) (jo P g c (g*G) rows (k+1)) (mp.take (k+1))=match Jt sec pre key 80 g c k m with
    | none=>none
    | some p=>match qU kind p with
     | none=>none
     | some l2=>if l2.length=jv rows P k then some (l++l2) else none):=by
    show _=_
    rw [Gq pre r kind key hm,Hcf.out]
    show Qk _ _ _ _ _ _ _=_
    rw [Sg,HSE.out]
   have HNONE:Hid (jD pre r kind key c (some []) (jo P g c (g*G) rows (k+1)) (mp.take (k+1))=none→jD pre r kind key c (some []) (qv R G P g c) mp=none):=fun h=>by
    have:=Ie pre r kind key h (mp.length - (k+1)) (by omega)
    rw [show k+1+(mp.length - (k+1))=mp.length by omega,List.take_length] at this
    rw [HALL.out];exact this
   rw [← hpe] at s2
   have Hm:=hid hm
   clear hpe HPL HLN hm
   generalize hkp0:k*P=kP at *
   generalize hpn0:jv rows P k=pn at *
   generalize hps0:Jt sec pre key 80 g c k m=PS at *
   clear hkp0 hpn0 hps0
   generalize (jM key m).1=n1 at *
   generalize (jM key m).2=n2 at *
   obtain ⟨hbx,hsx,_,hhx⟩:=qg wr #[.int .i64 (kP:Int),.int .i64 ((kP:Int)+(pn:Int))] 290
   have y1:=(QI (jb hbx Hq.out)).1.2.1
   have q0:=jc (.cells #[.int .i64 (kP:Int),.int .i64 ((kP:Int)+(pn:Int))] 290) p0
   have q1:=jc (.cells #[.int .i64 (kP:Int),.int .i64 ((kP:Int)+(pn:Int))] 290) p1
   have q2:=jc (.cells #[.int .i64 (kP:Int),.int .i64 ((kP:Int)+(pn:Int))] 290) p2
   have q3:=jc (.cells #[.int .i64 (kP:Int),.int .i64 ((kP:Int)+(pn:Int))] 290) p3
   have q4:=jc (.cells #[.int .i64 (kP:Int),.int .i64 ((kP:Int)+(pn:Int))] 290) p4
   have q5:=jc (.cells #[.int .i64 (kP:Int),.int .i64 ((kP:Int)+(pn:Int))] 290) p5
   go_wp2_with fail
   clear y1 q0 q1 q2 q3 q4 q5 p0 p1 p2 p3 p4 p5 s1 s2
   have HBx:=hid hbx
   have Hhx:=hid hhx
   have Hqx:=hid (jb hbx Hq.out)
   have Hox:=hid (jH Hown.out hbx)
   have Hsx:=hid (jH Hs.out hbx)
   clear hbx hhx
   generalize wr.alloc _=wx at *
   refine (HPLk.out wx).mono ?_
   rintro e w2 ⟨hb2,⟨hn2,rfl⟩|⟨p,hsome,rfl⟩⟩
   ·have HE:Hid (jD pre r kind key c (some []) (qv R G P g c) mp=none):=HNONE.out (by rw [HSTEP.out,hn2])
    have HBE:=hid (HB.out.trans ((HBx.out.trans (hb2.mono HBx.out.size)).mono hwz))
    clear hn2 hb2
    go_wp2
    exact ⟨rfl,HBE.out,.inl ⟨HE.out,rfl⟩⟩
   have HB2:=hid (HBx.out.trans (hb2.mono HBx.out.size))
   have Hh2:=hid (jb hb2 Hhx.out)
   have Hq2:=hid (jb hb2 Hqx.out)
   have Ho2:=hid (jH Hox.out hb2)
   have Hs2:=hid (jH Hsx.out hb2)
   have HPS:=hid hsome
   clear hb2 hsome
   go_wp2_with fail
   refine (HUN.out p w2 (HLNk.out p HPS.out)).mono ?_
   rintro e w3 ⟨hb3,⟨rfl,hn3⟩|⟨l2,a2,cap2,rfl,hu,hli⟩⟩
   ·have HE:Hid (jD pre r kind key c (some []) (qv R G P g c) mp=none):=HNONE.out (by rw [HSTEP.out,HPS.out];simp only [hn3])
    have HBE:=hid (HB.out.trans ((HB2.out.trans (hb3.mono HB2.out.size)).mono hwz))
    clear hn3 hb3
    go_wp2
    exact ⟨rfl,HBE.out,.inl ⟨HE.out,rfl⟩⟩
   have HB3:=hid (HB2.out.trans (hb3.mono HB2.out.size))
   have Hh3:=hid (jb hb3 Hh2.out)
   have Hq3:=hid (jb hb3 Hq2.out)
   have Ho3:=hid (jH Ho2.out hb3)
   have Hs3:=hid (jH Hs2.out hb3)
   have HU:=hid hu
   have HLI:=hid hli
   clear hb3 hu hli
   obtain ⟨z1,z2⟩:=Bh Hh3.out
   have hl260:l2.length≤60:=by
    have:=(XS HU.out).1
    simp only [qD,Bool.and_eq_true,decide_eq_true_eq] at this
    exact this.1.2
   go_wp2_with fail
   clear z1 z2
   by_cases hlen:l2.length=pn
   ·have hbq:((l2.length:Int) == (kP:Int)+(pn:Int) - (kP:Int))=true:=by rw [beq_iff_eq];omega
    rw [hbq]
    clear hbq
    refine (jX w3).mono ?_
    rintro e w4 ⟨rfl,rfl⟩
    have HSM:Hid (∀ x ∈ l++l2,qx x):=fun x hx=>by
     rcases List.mem_append.1 hx with h|h
     ·exact Hsm.out x h
     ·exact Gk HU.out x h
    have HNEW:Hid (jD pre r kind key c (some []) (jo P g c (g*G) rows (k+1)) (mp.take (k+1))=some (l++l2)):=by
     show _=_
     rw [HSTEP.out,HPS.out]
     simp only [HU.out,if_pos hlen]
    have hl20:0 < l2.length:=by omega
    clear hlen
    obtain ⟨b2,off2,rfl,hb2lt,hcell⟩:=HLI.out.at_ (List.ne_nil_of_length_pos hl20)
    have HCL:=hid (Lies.cells hcell)
    clear hcell
    have hz4:=HB3.out.size
    go_wp2_with (refine wpList_append_lies _ rfl _ _ _ rfl w.heap.size 58 i1 _ 3 32 Tryz.underlying59 hi1 hy0 hy1 hy2 rfl (by omega) _ l.length (jG l) rfl Ho3.out ⟨b2,off2,none⟩ l2.length cap2 (jG l2) rfl (Jh l2) HCL.out (ZR l2) hl20 (by unfold maxLen;omega) (by omega) (by omega) _ rfl ?_;intro gg gc w5 hown5 hgr5 hat5 hlt5)
    have HO5:=hid hown5
    have HQ5:=hid (jq hgr5 Ho3.out Hq3.out (by decide))
    have HS5:=hid (Hs3.out.kept hgr5 (qc Hs3.out Ho3.out (by decide)))
    have HB5:=hid ((HB.out.trans (HB3.out.mono hwz)).grown hgr5 (by omega) (fun k hk=>(Ho3.out.lt k hk).1))
    clear hown5 hgr5 hat5 hlt5
    go_wp2
    go_roundw
    case rel =>
     refine ⟨k+1,l++l2,by omega,by go_num,HNEW.out,by rw [List.length_append];omega,HSM.out,?_,HQ5.out,HS5.out,HB5.out⟩
     rw [Jj,List.length_append]
     exact HO5.out
    case measure=>simp [intOf];omega
   ·have hbq:((l2.length:Int) == (kP:Int)+(pn:Int) - (kP:Int))=false:=by rw [beq_eq_false_iff_ne];omega
    rw [hbq]
    clear hbq
    refine (qL w3).mono ?_
    rintro e w4 ⟨rfl,rfl⟩
    have HE:Hid (jD pre r kind key c (some []) (qv R G P g c) mp=none):=HNONE.out (by rw [HSTEP.out,HPS.out];simp only [HU.out,if_neg hlen])
    have HBE:=hid (HB.out.trans (HB3.out.mono hwz))
    clear hlen
    go_wp2
    exact ⟨rfl,HBE.out,.inl ⟨HE.out,rfl⟩⟩
  ·have hke:k=mp.length:=by omega
   subst hke
   have HE:Hid (jD pre r kind key c (some []) (qv R G P g c) mp=some l):=by
    have:=Hcf.out
    rw [List.take_length] at this
    show _=_
    rw [HALL.out];exact this
   clear hlt
   go_wp2
   go_ret
   exact ⟨HB.out,.inr ⟨l,_,HE.out,rfl,Hsm.out,Hown.out⟩⟩
end
section
structure SheetGo (S:SheetF) (G P base:Nat) (w:World) (SC:Array Value) (cv:Value) (Kb:Nat) (V:Nat→Value) (Qp:Nat→Nat→List ModF) (Qm:Nat→Nat→ModF) (Pv:Nat→Nat→Value):Prop where
 inf:(Tryz.prog.info? 120).map (·.size)=some SC.size
 one:SC.all (·.oneCell')=true
 c12:SC[12]?=some (.int .i64 (P:Int))
 c15:SC[15]?=some cv
 c17:SC[17]?=some (.slice (some ⟨Kb,0,none⟩) S.cols.length S.cols.length)
 cols:w.ownsRow base 61 4 cv S.cols.length (zQ S.cols)
 small:∀ c ∈ S.cols,SmallC c
 kb:w.heap[Kb]?=some (.cells ((List.range S.cols.length).map V).toArray 258 (0,0))
 chunks:∀ i,i < S.cols.length→ColIn S.cols S.rows G P base w i (jW S.rows G) (V i) Qp Qm Pv
 mods:S.mods=qV (fun g c=>Qp g c++[Qm g c]) S.cols.length (jW S.rows G)
 spots:qz S=jQ S.rows S.cols.length G P (jW S.rows G)
 rows:S.rows≤60
 g1:1≤G
 g6:G≤60
 p1:1≤P
 p6:P≤60
 n6:S.cols.length≤6
theorem SheetGo.later {S:SheetF} {G P base:Nat} {w w':World} {SC:Array Value} {cv:Value} {Kb:Nat} {V:Nat→Value} {Qp:Nat→Nat→List ModF} {Qm:Nat→Nat→ModF} {Pv:Nat→Nat→Value} (h:SheetGo S G P base w SC cv Kb V Qp Qm Pv) (hb:Below w.heap.size w w'):SheetGo S G P base w' SC cv Kb V Qp Qm Pv :=
 ⟨h.inf,h.one,h.c12,h.c15,h.c17,jw h.cols hb,h.small,jb hb h.kb,fun i hi=>(h.chunks i hi).keep (fun n xs hu=>jw hu hb) (fun u n xs hu=>jw hu hb),h.mods,h.spots,h.rows,h.g1,h.g6,h.p1,h.p6,h.n6⟩
theorem Sv {S:SheetF} {f:FormF} {base foot:Nat} {parts footer:List UInt8} {w:World} {v cv pv:Value} {Kb:Nat} {V:Nat→Value} {Qp:Nat→Nat→List ModF} {Qm:Nat→Nat→ModF} {Pv:Nat→Nat→Value} (h:SheetIn S f base w v cv pv Kb V Qp Qm Pv) (hok:SheetOk foot parts footer S) :
  SheetGo S S.plan.group.toNat S.plan.page.toNat base w (zt S f cv pv Kb) cv Kb V Qp Qm Pv:=by
 obtain ⟨_,h18,hone⟩:=h.one
 have hp:=hok.plan
 simp only [qX,Bool.and_eq_true,decide_eq_true_eq] at hp
 have hh:=hok.heads
 simp only [jV,Bool.and_eq_true,decide_eq_true_eq] at hh
 refine ⟨by rw [h18];kernel_rfl,hone,?_,rfl,rfl,h.cols,h.small,h.kb,h.chunks,h.mods,rfl,hok.rows,by omega,by omega,by omega,by omega,by omega⟩
 show some (Value.int .i64 S.plan.page)=_
 rw [Int.toNat_of_nonneg (by omega)]
theorem zx {R G:Nat} {key:Int} {c:Nat} {Qm:Nat→Nat→ModF} {Pv:Nat→Nat→Value} {n k:Nat} (hk:k < n) {j:Nat} (hj:j < 8):(xN R G key c Qm Pv n)[k*8+j]?=(Zx R G key c Qm Pv k)[j]?:=by
 unfold xN
 rw [List.flatMap_def,ZQ (s:=8) _ hj]
 ·rw [List.getElem?_map,List.getElem?_range hk];rfl
 ·intro x hx
  simp only [List.mem_map] at hx
  obtain ⟨i,_,rfl⟩:=hx
  rfl
theorem MG {w:World} {base n:Nat} {R G:Nat} {key:Int} {c:Nat} {Qm:Nat→Nat→ModF} {Pv:Nat→Nat→Value} {k:Nat} {v:Value} (h:w.ownsRow base 261 8 v n (xN R G key c Qm Pv n)) (hk:k < n) :
  ∃ b cap,v=.slice (some ⟨b,0,none⟩) n cap∧b < w.heap.size∧w.cell? ⟨b,k*8,none⟩=some (.int .i64 ((jv R G k:Nat):Int))∧w.cell? ⟨b,k*8+1,none⟩=some (Pv k c)∧w.cell? ⟨b,k*8+2,none⟩=some (strB [77])∧w.cell? ⟨b,k*8+3,none⟩=some (.int .i64 (k:Int))∧w.cell? ⟨b,k*8+4,none⟩=some (.int .i64 (c:Int))∧w.cell? ⟨b,k*8+5,none⟩=some (.int .i64 0)∧w.cell? ⟨b,k*8+6,none⟩=some (strB (jM key (Qm k c)).1)∧w.cell? ⟨b,k*8+7,none⟩=some (strB (jM key (Qm k c)).2):=by
 rcases h.2 with ⟨rfl,h1⟩|⟨b,cap,cur,rfl,_⟩
 ·omega
 ·refine ⟨b,cap,rfl,(h.lt b rfl).2,?_,?_,?_,?_,?_,?_,?_,?_⟩
  ·rw [h.cellAt _ (by omega)];exact zx (j:=0) hk (by omega)
  ·rw [h.cellAt _ (by omega)];exact zx (j:=1) hk (by omega)
  ·rw [h.cellAt _ (by omega)];exact zx (j:=2) hk (by omega)
  ·rw [h.cellAt _ (by omega)];exact zx (j:=3) hk (by omega)
  ·rw [h.cellAt _ (by omega)];exact zx (j:=4) hk (by omega)
  ·rw [h.cellAt _ (by omega)];exact zx (j:=5) hk (by omega)
  ·rw [h.cellAt _ (by omega)];exact zx (j:=6) hk (by omega)
  ·rw [h.cellAt _ (by omega)];exact zx (j:=7) hk (by omega)
theorem Vd {t:List ColB} {c:Nat} (hc:c < t.length) {j:Nat} (hj:j < 4):(zQ t)[c*4+j]?=(Ir (jk t c))[j]?:=by
 unfold zQ
 rw [List.flatMap_def,ZQ (s:=4) _ hj]
 ·rw [List.getElem?_map,List.getElem?_eq_getElem hc]
  simp only [Option.map_some,Option.bind_some]
  rw [Xb hc]
 ·intro x hx
  simp only [List.mem_map] at hx
  obtain ⟨i,_,rfl⟩:=hx
  rfl
theorem Ec {w:World} {base:Nat} {t:List ColB} {c:Nat} {v:Value} (h:w.ownsRow base 61 4 v t.length (zQ t)) (hc:c < t.length) :
  ∃ b cap,v=.slice (some ⟨b,0,none⟩) t.length cap∧b < w.heap.size∧w.cell? ⟨b,c*4,none⟩=some (strB (jk t c).name)∧w.cell? ⟨b,c*4+1,none⟩=some (.int .i64 (jk t c).kind)∧w.cell? ⟨b,c*4+2,none⟩=some (.int .i64 (jk t c).key)∧w.cell? ⟨b,c*4+3,none⟩=some (.slice none 0 0):=by
 rcases h.2 with ⟨rfl,h1⟩|⟨b,cap,cur,rfl,_⟩
 ·omega
 ·refine ⟨b,cap,rfl,(h.lt b rfl).2,?_,?_,?_,?_⟩
  ·rw [h.cellAt _ (by omega)];exact Vd (j:=0) hc (by omega)
  ·rw [h.cellAt _ (by omega)];exact Vd (j:=1) hc (by omega)
  ·rw [h.cellAt _ (by omega)];exact Vd (j:=2) hc (by omega)
  ·rw [h.cellAt _ (by omega)];exact Vd (j:=3) hc (by omega)
theorem Ps {R G P g c:Nat} {t:List ColB} {mp:List ModF} {mm:ModF} (h:ModsOk t (jh R G P g c) (mp++[mm])):(∀ m ∈ mp,xX (jk t c).key m)∧xX (jk t c).key mm:=by
 have key:∀ {L:List SpotB} {M:List ModF},ModsOk t L M→(∀ s ∈ L,s.c=c)→∀ m ∈ M,xX (jk t c).key m:=by
  intro L M h
  induction h with
  | nil=>intro _ m hm;cases hm
  | cons h1 _ ih =>
   intro hs m hm
   rcases List.mem_cons.1 hm with rfl|hm
   ·have:=hs _ (List.mem_cons_self ..)
    rw [← this];exact h1
   ·exact ih (fun s h=>hs s (List.mem_cons_of_mem _ h)) m hm
 have:=key h KD
 exact ⟨fun m hm=>this m (by simp [hm]),this mm (by simp)⟩
theorem Cr {t:List ColB} {Qp:Nat→Nat→List ModF} {Qm:Nat→Nat→ModF} {R C G P:Nat} (pre:List UInt8) (r:List KeyB) (kind key:Int) {c k:Nat} (hc:c < C) (hP:1≤P) (hG:1≤G) (hk:k < jW R G) (h:∀ g,g < jW R G→∀ i,i < C→ModsOk t (jh R G P g i) (Qp g i++[Qm g i])) (hl:∀ g,g < jW R G→∀ i,i < C→(Qp g i).length=jW (jv R G g) P) {l:List CellB}
  (hcf:jD pre r kind key c (some []) (jQ R C G P k) (qV (fun g c=>Qp g c++[Qm g c]) C k)=some l) :
  jD pre r kind key c (some []) (jQ R C G P (k+1)) (qV (fun g c=>Qp g c++[Qm g c]) C (k+1))=(jD pre r kind key c (some []) (qv R G P k c) (Qp k c)).bind fun part=>if Jt (jm r key) pre key 77 k c 0 (Qm k c)=some (JR kind part) then some (l++part) else none:=by
 have hkG:=(Qg hG).1 hk
 have hlen:=Rf (t:=t) pre r kind key hc hP (fun g hg i hi=>h g (by omega) i hi) (by omega) hcf
 rw [Vu (t:=t) pre r kind key hc _ (fun g hg i hi=>h g (by omega) i hi),hcf,UW pre r kind key l (by omega) (Qp k c) (Qm k c) (by rw [hl k hk c hc];simp [qv,jo])]
 rfl
theorem Cu {t:List ColB} {Q:Nat→Nat→List ModF} {R C G P n:Nat} (pre:List UInt8) (r:List KeyB) (kind key:Int) {c k:Nat} (hc:c < C) (h:∀ g,g < n→∀ i,i < C→ModsOk t (jh R G P g i) (Q g i))
  (hcf:jD pre r kind key c (some []) (jQ R C G P k) (qV Q C k)=none):∀ j,k+j≤n→jD pre r kind key c (some []) (jQ R C G P (k+j)) (qV Q C (k+j))=none:=by
 intro j
 induction j with
 | zero=>intro _;exact hcf
 | succ j ih =>
  intro hj
  rw [show k+(j+1)=k+j+1 by omega,Vu (t:=t) pre r kind key hc _ (fun g hg i hi=>h g (by omega) i hi),ih (by omega),xm]
theorem Nl (S:SheetF) (G P base:Nat) (SC:Array Value) (cv:Value) (Kb:Nat) (V:Nat→Value) (Qp:Nat→Nat→List ModF) (Qm:Nat→Nat→ModF) (Pv:Nat→Nat→Value) (pre:List UInt8) (r:List KeyB) (c:Nat) (w:World)
  (hS:SheetGo S G P base w SC cv Kb V Qp Qm Pv) (hc:c < S.cols.length) (hpre:pre.length≤20) (hsec:(jm r (jk S.cols c).key).length≤1000) :
  Calls Tryz.prog 164 #[.agg SC,.int .i64 (c:Int),strB (jm r (jk S.cols c).key),strB pre] w (Yl (jD pre r (jk S.cols c).kind (jk S.cols c).key c (some []) (qz S) S.mods) w):=by
 obtain ⟨i1,hi1,hy0,hy1,hy2⟩:=info_parts Tryz.infoCell
 have hinf:=hS.inf
 have hn6:=hS.n6
 have hkd:(jk S.cols c).kind=0∨(jk S.cols c).kind=1:=(hS.small _ (by rw [Xb hc];exact List.getElem_mem _)).kind
 have hOK:∀ g,g < jW S.rows G→∀ i,i < S.cols.length→ModsOk S.cols (jh S.rows G P g i) (Qp g i++[Qm g i]):=fun g hg i hi=>((hS.chunks i hi).ok g hg).1
 have hLN:∀ g,g < jW S.rows G→∀ i,i < S.cols.length→(Qp g i).length=jW (jv S.rows G g) P:=fun g hg i hi=>((hS.chunks i hi).ok g hg).2
 have HRW:Hid (∀ k w',k < jW S.rows G→Below w.heap.size w w'→w'.ownsRow base 113 6 (Pv k c) (Qp k c).length (Jq (jk S.cols c).key k c (Qp k c))):=fun k w' hk hb=>jw ((hS.chunks c hc).pages k hk) hb
 have HPVS:Hid (∀ k,k < jW S.rows G→∃ a m cp,Pv k c=.slice a m cp):=fun k hk=>by
  obtain ⟨a,cp,h⟩:=jr ((hS.chunks c hc).pages k hk)
  exact ⟨a,_,cp,h⟩
 have HCN:Hid (jW S.rows G≤60):=Nat.le_trans (Xg hS.g1) hS.rows
 have hcn60:=HCN.out
 have hmk:∀ k,k < jW S.rows G→(∀ m ∈ Qp k c,xX (jk S.cols c).key m)∧xX (jk S.cols c).key (Qm k c):=fun k hk=>Ps (hOK k hk c hc)
 have HCH:Hid (∀ k w',k < jW S.rows G→Below w.heap.size w w'→Calls Tryz.prog 232 #[.agg SC,.int .i64 (jk S.cols c).kind,.agg #[.int .i64 ((jv S.rows G k:Nat):Int),Pv k c,strB [77],.int .i64 (k:Int),.int .i64 (c:Int),.int .i64 0,strB (jM (jk S.cols c).key (Qm k c)).1,strB (jM (jk S.cols c).key (Qm k c)).2],strB (jm r (jk S.cols c).key),strB pre] w' (Yl (jD pre r (jk S.cols c).kind (jk S.cols c).key c (some []) (qv S.rows G P k c) (Qp k c)) w')):=fun k w' hk hb =>
  Nj SC pre r _ _ S.rows G P k c (Qp k c) (Qm k c) base (Pv k c) w' hS.c12 hS.p1 hS.p6 (Nat.le_trans (JU S.rows G k).2 hS.rows) hkd (by omega) (by omega) hpre hsec (hLN k hk c hc) (hmk k hk).1 (HRW.out k w' hk hb)
 have HPL:Hid (∀ k w',k < jW S.rows G→Calls Tryz.prog 233 #[.agg #[strB [77],.int .i64 (k:Int),.int .i64 (c:Int),.int .i64 ((0:Nat):Int),strB (jM (jk S.cols c).key (Qm k c)).1,strB (jM (jk S.cols c).key (Qm k c)).2],strB (jm r (jk S.cols c).key),strB pre] w' (AG (Jt (jm r (jk S.cols c).key) pre (jk S.cols c).key 77 k c 0 (Qm k c)) w')):=fun k w' hk=>Nw 77 k c 0 _ (Qm k c) _ pre w' (hmk k hk).2 (by omega) (by omega) (by omega) hpre hsec
 have HST:=hid (fun k l hk=>Cr (t:=S.cols) (Qp:=Qp) (Qm:=Qm) (R:=S.rows) (C:=S.cols.length) (G:=G) (P:=P) pre r (jk S.cols c).kind (jk S.cols c).key (k:=k) (l:=l) hc hS.p1 hS.g1 hk hOK hLN)
 have HNO:=hid (fun k=>Cu (t:=S.cols) (Q:=fun g c=>Qp g c++[Qm g c]) (R:=S.rows) (C:=S.cols.length) (G:=G) (P:=P) (n:=jW S.rows G) pre r (jk S.cols c).kind (jk S.cols c).key (k:=k) hc hOK)
 have HPLN:=hid (fun k part (hk:k < jW S.rows G)=>ZZ pre r (jk S.cols c).kind (jk S.cols c).key (R:=S.rows) (G:=G) (P:=P) (g:=k) (c:=c) (mp:=Qp k c) (part:=part) hS.p1 (by rw [hLN k hk c hc];simp [qv,jo]))
 have HPP:Hid (∀ k,k < jW S.rows G→0 < jv S.rows G k∧jv S.rows G k≤60):=fun k hk=>⟨(Vc hS.g1).2 ((Qg hS.g1).1 hk),Nat.le_trans (JU S.rows G k).2 hS.rows⟩
 have HALL:Hid (qz S=jQ S.rows S.cols.length G P (jW S.rows G)∧S.mods=qV (fun g c=>Qp g c++[Qm g c]) S.cols.length (jW S.rows G)):=⟨hS.spots,hS.mods⟩
 obtain ⟨cb,cc,rfl,hcb,k0,k1,k2,k3⟩:=Ec hS.cols hc
 have hrow:=(hS.chunks c hc).row
 obtain ⟨va,vc,hV⟩:=jr hrow
 have hkbc:w.cell? ⟨Kb,c,none⟩=some (.slice va (jW S.rows G) vc):=by
  rw [jd hS.kb,← hV]
  simp [hc]
 have HC15:=hid hS.c15
 have HC17:=hid hS.c17
 rw [hV] at hrow
 have Hrow:=hid hrow
 have hci:(c:Int) < (S.cols.length:Int):=by omega
 clear hrow hV hmk hOK hLN hkd hS hpre hsec HRW
 generalize jW S.rows G=CN at *
 generalize hsec0:jm r (jk S.cols c).key=sec at *
 generalize hkey0:(jk S.cols c).key=key at *
 generalize hkin0:(jk S.cols c).kind=kind at *
 clear hkey0 hkin0 hsec0
 generalize S.cols.length=n at *
 obtain ⟨hb0,hl0,_,ho0⟩:=qg w SC 120
 have x15:(w.alloc (.cells SC 120)).cell? ⟨w.heap.size,15,none⟩=some (.slice (some ⟨cb,0,none⟩) n cc):=by rw [jd ho0];exact HC15.out
 have x17:(w.alloc (.cells SC 120)).cell? ⟨w.heap.size,17,none⟩=some (.slice (some ⟨Kb,0,none⟩) n n):=by rw [jd ho0];exact HC17.out
 have z1:=jc (.cells SC 120) k1
 have z2:=jc (.cells SC 120) hkbc
 go_enter Tryz.func164,Tryz.ntmps164
 have s15:=HC15.out
 have s17:=HC17.out
 go_wp2
 clear s15 s17 x15 x17 z1 z2 k0 k1 k2 k3 hkbc HC15 HC17
 generalize w.alloc _=W0 at *
 go_loopw [10,27] (fun v i wr=>∃ (k:Nat) (l:List CellB),k≤CN∧i=.int .i64 (k:Int)∧jD pre r kind key c (some []) (jQ S.rows n G P k) (qV (fun g c=>Qp g c++[Qm g c]) n k)=some l∧l.length≤k*60∧(∀ x ∈ l,qx x)∧wr.ownsRow w.heap.size 58 3 v l.length (jG l)∧wr.heap[w.heap.size]?=some (.cells SC 120 (0,0))∧Below w.heap.size w wr) (fun _ i _=>CN - (intOf i).toNat)
 case atStart=>exact ⟨0,[],Nat.zero_le _,rfl,rfl,Nat.zero_le _,(by intro x hx;cases hx),World.ownsRow_nil _ _ _ _,ho0,hb0⟩
 case round =>
  obtain ⟨k,l,hkC,rfl,hcf,hll,hsm,hown,hq,hB⟩:=hrel
  have Hcf:=hid hcf
  have Hsm:=hid hsm
  have Hown:=hid hown
  have Hq:=hid hq
  have HB:=hid hB
  have hwz:=hB.size
  obtain ⟨wa,wc,rfl⟩:=jr hown
  clear hcf hsm hown hq hB
  by_cases hlt:k < CN
  ·have hiM:(k:Int) < (CN:Int):=by omega
   obtain ⟨vb,vc2,hva,hvb,p0,p1,p2,p3,p4,p5,p6,p7⟩:=MG (jw Hrow.out HB.out) hlt
   injection hva with hva1 hva2 hva3
   subst hva1 hva3
   clear hva2 hb0 hl0 ho0
   obtain ⟨hpp,hp60⟩:=HPP.out k hlt
   have HCHk:=hid (fun w'=>HCH.out k w' hlt)
   have HPLk:=hid (fun w'=>HPL.out k w' hlt)
   have HSTEP:=hid (HST.out k l hlt Hcf.out)
   have HPLNk:=hid (fun part=>HPLN.out k part hlt)
   have HNONE:Hid (jD pre r kind key c (some []) (jQ S.rows n G P (k+1)) (qV (fun g c=>Qp g c++[Qm g c]) n (k+1))=none→jD pre r kind key c (some []) (qz S) S.mods=none):=fun h=>by
    have:=HNO.out (k+1) h (CN - (k+1)) (by omega)
    rw [show k+1+(CN - (k+1))=CN by omega] at this
    rw [HALL.out.1,HALL.out.2];exact this
   clear HST HNO HCH HPL HPLN HPP
   generalize jv S.rows G k=pn at *
   generalize hO:jD pre r kind key c (some []) (qv S.rows G P k c) (Qp k c)=O at *
   clear hO
   generalize hO2:Jt sec pre key 77 k c 0 (Qm k c)=O2 at *
   clear hO2
   generalize (jM key (Qm k c)).1=n1 at *
   generalize (jM key (Qm k c)).2=n2 at *
   obtain ⟨pa,pm,pcp,hpv⟩:=HPVS.out k hlt
   rw [hpv] at p1 HCHk
   clear hpv HPVS
   obtain ⟨hbx,hsx,_,hhx⟩:=qg wr #[.int .i64 (pn:Int),.slice pa pm pcp,strB [77],.int .i64 (k:Int),.int .i64 (c:Int),.int .i64 0,strB n1,strB n2] 261
   have hqx:=jb hbx Hq.out
   obtain ⟨y0,y1,y2,y3,y4,y5,y6,y7⟩:=(QI hhx).1
   go_upto_region 6 with fail
   clear y0 y1 y2 y3 y4 y5 y6 y7 p0 p1 p2 p3 p4 p5 p6 p7
   have HBx:=hid hbx
   have Hhx:=hid hhx
   have Hqx:=hid hqx
   have Hox:=hid (jH Hown.out hbx)
   clear hbx hhx hqx hsx
   generalize hwx:wr.alloc _=wx at *
   clear hwx
   generalize hxs:wr.heap.size=xs at Hhx ⊢
   clear hxs
   have HINF:=hid hinf
   clear hinf
   go_wp2_with (first|(refine wpList_load_row rfl 120 (.tmp 4) rfl w.heap.size rfl 120 SC (0,0) _ Hqx.out Tryz.underlying120 rfl HINF.out ?_)|(refine wpList_load_row rfl 261 (.tmp 12) rfl xs rfl 261 _ (0,0) _ Hhx.out Tryz.underlying261 rfl (by kernel_rfl) ?_))
   refine (HCHk.out wx (HB.out.trans (HBx.out.mono hwz))).mono ?_
   rintro e w2 ⟨hb2,⟨hn2,rfl⟩|⟨part,v2,hsome,rfl,hsm2,hown2⟩⟩
   ·have HE:Hid (jD pre r kind key c (some []) (qz S) S.mods=none):=HNONE.out (by rw [HSTEP.out,hn2];rfl)
    have HBE:=hid (HB.out.trans ((HBx.out.trans (hb2.mono HBx.out.size)).mono hwz))
    clear hn2 hb2
    go_wp2
    exact ⟨rfl,HBE.out,.inl ⟨HE.out,rfl⟩⟩
   have hpl:=HPLNk.out part hsome
   have HSOME:=hid hsome
   have HSM2:=hid hsm2
   obtain ⟨a2,cap2,rfl,_,hli2⟩:=JA hown2 (fun x hx=>⟨(hsm2 x hx).1,(hsm2 x hx).2.1,Nat.le_trans (hsm2 x hx).2.2 (by decide)⟩)
   have HB2:=hid (HBx.out.trans (hb2.mono HBx.out.size))
   have Hh2:=hid (jb hb2 Hhx.out)
   have Hq2:=hid (jb hb2 Hqx.out)
   have Ho2:=hid (jH Hox.out hb2)
   have HL2:=hid hli2
   have hpl60:part.length≤60:=by omega
   have hpl0:0 < part.length:=by omega
   clear hb2 hsome hsm2 hown2 hli2 hpl
   obtain ⟨y0,y1,y2,y3,y4,y5,y6,y7⟩:=(QI Hh2.out).1
   go_wp2_with fail
   clear y0 y1 y2 y3 y4 y5 y6 y7
   refine (HPLk.out w2).mono ?_
   rintro e w3 ⟨hb3,⟨hn3,rfl⟩|⟨p,hsome3,rfl⟩⟩
   ·have HE:Hid (jD pre r kind key c (some []) (qz S) S.mods=none):=HNONE.out (by rw [HSTEP.out,HSOME.out,Option.bind_some,hn3,if_neg (by simp)])
    have HBE:=hid (HB.out.trans ((HB2.out.trans (hb3.mono HB2.out.size)).mono hwz))
    clear hn3 hb3
    go_wp2
    exact ⟨rfl,HBE.out,.inl ⟨HE.out,rfl⟩⟩
   have HB3:=hid (HB2.out.trans (hb3.mono HB2.out.size))
   have Hq3:=hid (jb hb3 Hq2.out)
   have Ho3:=hid (jH Ho2.out hb3)
   have HL3:=hid (HL2.out.later hb3)
   have HP3:=hid hsome3
   clear hb3 hsome3
   go_wp2_with fail
   refine (Cv kind a2 cap2 part w3 hpl60 HSM2.out HL3.out).mono ?_
   rintro e w4 ⟨rfl,hb4⟩
   have HB4:=hid (HB3.out.trans (hb4.mono HB3.out.size))
   have Hq4:=hid (jb hb4 Hq3.out)
   have Ho4:=hid (jH Ho3.out hb4)
   have HL4:=hid (HL3.out.later hb4)
   clear hb4
   go_wp2_with fail
   by_cases hmt:p=JR kind part
   ·have hbq:(p == JR kind part)=true:=by rw [beq_iff_eq];exact hmt
    rw [hbq]
    clear hbq
    refine (jX w4).mono ?_
    rintro e w5 ⟨rfl,rfl⟩
    have HSM:Hid (∀ x ∈ l++part,qx x):=fun x hx=>by
     rcases List.mem_append.1 hx with h|h
     ·exact Hsm.out x h
     ·exact HSM2.out x h
    have HNEW:Hid (jD pre r kind key c (some []) (jQ S.rows n G P (k+1)) (qV (fun g c=>Qp g c++[Qm g c]) n (k+1))=some (l++part)):=by
     show _=_
     rw [HSTEP.out,HSOME.out,Option.bind_some,HP3.out,if_pos (by rw [hmt])]
    clear hmt
    obtain ⟨b2,off2,rfl,hb2lt,hcell⟩:=HL4.out.at_ (List.ne_nil_of_length_pos hpl0)
    have HCL:=hid (Lies.cells hcell)
    clear hcell
    have hz4:=HB4.out.size
    go_wp2_with (refine wpList_append_lies _ rfl _ _ _ rfl w.heap.size 58 i1 _ 3 32 Tryz.underlying59 hi1 hy0 hy1 hy2 rfl (by omega) _ l.length (jG l) rfl Ho4.out ⟨b2,off2,none⟩ part.length cap2 (jG part) rfl (Jh part) HCL.out (ZR part) hpl0 (by unfold maxLen;omega) (by omega) (by omega) _ rfl ?_;intro gg gc w6 hown6 hgr6 hat6 hlt6)
    have HO6:=hid hown6
    have HQ6:=hid (jq hgr6 Ho4.out Hq4.out (by decide))
    have HB6:=hid ((HB.out.trans (HB4.out.mono hwz)).grown hgr6 (by omega) (fun k hk=>(Ho4.out.lt k hk).1))
    clear hown6 hgr6 hat6 hlt6
    go_wp2
    go_roundw
    case rel =>
     refine ⟨k+1,l++part,by omega,by go_num,HNEW.out,by rw [List.length_append];omega,HSM.out,?_,HQ6.out,HB6.out⟩
     rw [Jj,List.length_append]
     exact HO6.out
    case measure=>simp [intOf];omega
   ·have hbq:(p == JR kind part)=false:=by rw [beq_eq_false_iff_ne];exact hmt
    rw [hbq]
    clear hbq
    refine (qL w4).mono ?_
    rintro e w5 ⟨rfl,rfl⟩
    have HE:Hid (jD pre r kind key c (some []) (qz S) S.mods=none):=HNONE.out (by rw [HSTEP.out,HSOME.out,Option.bind_some,HP3.out,if_neg (by intro h;injection h with h;exact hmt h)])
    have HBE:=hid (HB.out.trans (HB4.out.mono hwz))
    clear hmt
    go_wp2
    exact ⟨rfl,HBE.out,.inl ⟨HE.out,rfl⟩⟩
  ·have hke:k=CN:=by omega
   subst hke
   have HE:Hid (jD pre r kind key c (some []) (qz S) S.mods=some l):=by
    show _=_
    rw [HALL.out.1,HALL.out.2];exact Hcf.out
   clear hlt
   go_wp2
   go_ret
   exact ⟨HB.out,.inr ⟨l,_,HE.out,rfl,Hsm.out,Hown.out⟩⟩
end
end Go.Proofs.YthhpbhpfagoapaaGreat
