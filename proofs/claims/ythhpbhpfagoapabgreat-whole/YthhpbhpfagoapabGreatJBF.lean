import Derived.Test.YthhpbhpfagoapabGreatXTRead
import Derived.Test.YthhpbhpfagoapabGreatJAF
import Derived.Test.YthhpbhpfagoapabGreatJAW
import Derived.Test.YthhpbhpfagoapabGreatJBC
namespace Go.Proofs.YthhpbhpfagoapabGreat
set_option linter.unusedVariables false
set_option linter.unusedSimpArgs false
set_option maxRecDepth 100000
set_option maxHeartbeats 16000000
open Go.RowKit
section
def MN (O:Option (List UInt8)) (w:World) (e:Ending) (w':World):Prop :=
 Below w.heap.size w w'∧((O=none∧e=gaveUp)∨∃ p,O=some p∧e=.returned (strB p))
def JE (sec pre:List UInt8) (key:Int) (s:UInt8) (g c k:Nat) (m:ModF):Option (List UInt8) :=
 if key=0 then some m.plain else xr sec m.nonce (jR pre s g c k) m.body
theorem Ri (sb:UInt8) (g c k:Nat) (key:Int) (m:ModF) (sec pre:List UInt8) (w:World) (hm:ze key m) (hg:g≤65535) (hc:c≤65535) (hk:k≤65535) (hpre:pre.length≤20) (hsec:sec.length≤1000) :
  Calls Tryz.prog 112 #[.agg #[strB [sb],.int .i64 (g:Int),.int .i64 (c:Int),.int .i64 (k:Int),strB (jO key m).1,strB (jO key m).2],strB sec,strB pre] w (MN (JE sec pre key sb g c k m) w):=by
 have HEX:Hid (∀ w':World,Calls Tryz.prog 87 #[.agg #[strB [sb],.int .i64 (g:Int),.int .i64 (c:Int),.int .i64 (k:Int)],strB pre,.slice none 0 0] w' fun e w2=>e=.returned (strB (jR pre sb g c k))∧Below w'.heap.size w' w2):=by
  intro w'
  have:=XW sb g c k pre (.slice none 0 0) [] w' hg hc hk hpre (by decide) (KK w')
  rw [List.append_nil] at this
  exact this
 have hbl:=JO pre sb g c k hpre
 rcases hm with ⟨rfl,h1,h2,h3⟩|⟨hk0,h1,h2,h3,h4⟩
 ·have HP:Hid (JE sec pre 0 sb g c k m=some m.plain):=by show _=_;unfold JE;rw [if_pos rfl]
  have e1:(jO 0 m).1=[]:=h1
  have e2:(jO 0 m).2=m.plain:=rfl
  rw [e1,e2]
  clear e1 e2 hbl h1 h2 h3 HEX hg hc hk hpre hsec
  generalize m.plain=T at *
  obtain ⟨hb0,hl0,hx0,ho0⟩:=jK w #[strB [sb],.int .i64 (g:Int),.int .i64 (c:Int),.int .i64 (k:Int),strB [],strB T] 75
  obtain ⟨⟨x0,x1,x2,x3,x4,x5⟩,_⟩:=Zb ho0
  go_enter Tryz.func112,Tryz.ntmps112
  go_wp2
  go_ret
  exact ⟨hb0,.inr ⟨T,HP.out,rfl⟩⟩
 ·have HP:Hid (JE sec pre key sb g c k m=xr sec m.nonce (jR pre sb g c k) m.body):=by show _=_;unfold JE;rw [if_neg hk0]
  have e1:(jO key m).1=m.nonce:=rfl
  have e2:(jO key m).2=m.body:=by unfold jO;rw [if_neg hk0]
  rw [e1,e2]
  have HPL:=hid (fun w'=>Yf sec m.nonce (jR pre sb g c k) m.body w' hsec (by omega) (by omega) (by unfold maxLen;omega))
  have hne:m.nonce.isEmpty=false:=by
   cases h:m.nonce with
   | nil=>rw [h] at h2;simp at h2
   | cons=>rfl
  clear e1 e2 h1 h2 h3 h4 hg hc hk hpre hsec hbl
  generalize xr sec m.nonce (jR pre sb g c k) m.body=O at *
  generalize jR pre sb g c k=ext at *
  generalize m.nonce=NN at *
  generalize m.body=BB at *
  rcases O with _|T
  all_goals
   simp only [GH] at HPL
   obtain ⟨hb0,hl0,_,ho0⟩:=jK w #[strB [sb],.int .i64 (g:Int),.int .i64 (c:Int),.int .i64 (k:Int),strB NN,strB BB] 75
   obtain ⟨⟨x0,x1,x2,x3,x4,x5⟩,_⟩:=Zb ho0
   go_enter Tryz.func112,Tryz.ntmps112
   go_wp2_with fail
   clear hne x0 x1 x2 x3 x4 x5
   generalize w.alloc _=W0 at *
   have HB0:=hid hb0
   have Ho0:=hid ho0
   have HC0:=hid (Zb ho0).1
   clear hb0 ho0
   go_region_held3 (fun w'=>w'.cell? ⟨w.heap.size,0,none⟩=some (strB [sb])∧w'.cell? ⟨w.heap.size,1,none⟩=some (.int .i64 (g:Int))∧w'.cell? ⟨w.heap.size,2,none⟩=some (.int .i64 (c:Int))∧w'.cell? ⟨w.heap.size,3,none⟩=some (.int .i64 (k:Int))∧w'.cell? ⟨w.heap.size,4,none⟩=some (strB NN)∧w'.cell? ⟨w.heap.size,5,none⟩=some (strB BB))
    (first|with_reducible exact HC2.out|with_reducible exact HC1.out|exact HC0.out)
    (first
     | (go_at_call 87;refine (HEX.out _).mono ?_;rintro e w1 ⟨rfl,hb1⟩;have hb1':=jl hb1;have HC1:=hid (Zb (jd hb1' Ho0.out)).1)
     | (go_at_call 57;refine (HPL.out _).mono ?_;rintro e w2 ⟨rfl,hb2⟩;have HC2:=hid (Zb (jd (hb1'.trans (hb2.mono hb1'.size)) Ho0.out)).1))
   have HB2:=hid (HB0.out.trans ((hb1'.trans (hb2.mono hb1'.size)).mono HB0.out.size))
   clear hb1 hb1' hb2
   go_wp2_with fail
  ·refine (qU w2).mono ?_
   rintro e w3 ⟨rfl,rfl⟩
   go_wp2
   exact ⟨rfl,HB2.out,.inl ⟨HP.out,rfl⟩⟩
  ·refine (qh w2).mono ?_
   rintro e w3 ⟨rfl,rfl⟩
   go_wp2
   go_ret
   exact ⟨HB2.out,.inr ⟨T,HP.out,rfl⟩⟩
end
section
theorem KP {s:Nat}:∀ {L:List (List Value)} (h:∀ x ∈ L,x.length=s) {k j:Nat} (hj:j < s),L.flatten[k*s+j]?=(L[k]?).bind (·[j]?):=by
 intro L
 induction L with
 | nil=>intro h k j hj;simp
 | cons x L ih =>
  intro h k j hj
  have hx:=h x (by simp)
  cases k with
  | zero =>
   simp only [List.flatten_cons,Nat.zero_mul,Nat.zero_add]
   rw [List.getElem?_append_left (by omega)]
   simp
  | succ k =>
   simp only [List.flatten_cons]
   rw [List.getElem?_append_right (by rw [hx,Nat.succ_mul];omega),hx,show (k+1)*s+j - s=k*s+j by rw [Nat.succ_mul];omega,ih (fun y hy=>h y (List.mem_cons_of_mem _ hy)) hj]
   simp
theorem Qh {key:Int} {g c:Nat} {mp:List ModF} {k:Nat} {m:ModF} (hk:mp[k]?=some m) {j:Nat} (hj:j < 6):(xT key g c mp)[k*6+j]?=(Yc key g c k m)[j]?:=by
 unfold xT
 rw [KP (s:=6) _ hj]
 ·rw [List.getElem?_mapIdx,hk];rfl
 ·intro x hx
  rw [List.mem_mapIdx] at hx
  obtain ⟨i,hi,rfl⟩:=hx
  rfl
theorem Si {w:World} {base n:Nat} {key:Int} {g c:Nat} {mp:List ModF} {k:Nat} {m:ModF} {v:Value} (h:w.ownsRow base 75 6 v n (xT key g c mp)) (hk:mp[k]?=some m) (hkn:k < n) :
  ∃ b cap,v=.slice (some ⟨b,0,none⟩) n cap∧b < w.heap.size∧w.cell? ⟨b,k*6,none⟩=some (strB [80])∧w.cell? ⟨b,k*6+1,none⟩=some (.int .i64 (g:Int))∧w.cell? ⟨b,k*6+2,none⟩=some (.int .i64 (c:Int))∧w.cell? ⟨b,k*6+3,none⟩=some (.int .i64 (k:Int))∧w.cell? ⟨b,k*6+4,none⟩=some (strB (jO key m).1)∧w.cell? ⟨b,k*6+5,none⟩=some (strB (jO key m).2):=by
 rcases h.2 with ⟨rfl,h1⟩|⟨b,cap,cur,rfl,_⟩
 ·omega
 ·refine ⟨b,cap,rfl,(h.lt b rfl).2,?_,?_,?_,?_,?_,?_⟩
  ·rw [h.cellAt _ (by omega)];exact Qh (j:=0) hk (by omega)
  ·rw [h.cellAt _ (by omega)];exact Qh (j:=1) hk (by omega)
  ·rw [h.cellAt _ (by omega)];exact Qh (j:=2) hk (by omega)
  ·rw [h.cellAt _ (by omega)];exact Qh (j:=3) hk (by omega)
  ·rw [h.cellAt _ (by omega)];exact Qh (j:=4) hk (by omega)
  ·rw [h.cellAt _ (by omega)];exact Qh (j:=5) hk (by omega)
theorem Bv (pre:List UInt8) (r:List KeyB) (kind key:Int) (x:List CellB) (g c k st many:Nat) (m:ModF):QS pre r kind key x ⟨80,g,c,k,st,many⟩ m=match JE (ji r key) pre key 80 g c k m with
  | none=>none
  | some p=>match JS kind p with
   | none=>none
   | some l=>if l.length=many then some (x++l) else none:=by
 unfold QS
 have:Jt pre r key ⟨80,g,c,k,st,many⟩ m=JE (ji r key) pre key 80 g c k m:=rfl
 rw [this]
 cases JE (ji r key) pre key 80 g c k m<;>rfl
theorem GI (pre:List UInt8) (r:List KeyB) (kind key:Int) {P g c st n k:Nat} {mp:List ModF} {m:ModF} (hk:mp[k]?=some m):jI pre r kind key c (some []) (jt P g c st n (k+1)) (mp.take (k+1))=(jI pre r kind key c (some []) (jt P g c st n k) (mp.take k)).bind fun x=>QS pre r kind key x ⟨80,g,c,k,st+k*P,jp n P k⟩ m:=by
 have hlt:=(List.getElem?_eq_some_iff.1 hk).1
 have ht:mp.take (k+1)=mp.take k++[m]:=by rw [List.take_add_one,hk];rfl
 rw [Qs,ht,zb _ _ _ _ _ _ _ _ _ _ (by simp [jt];omega)]
 cases jI pre r kind key c (some []) (jt P g c st n k) (mp.take k) with
 | none=>rw [xu];rfl
 | some x=>exact Zk pre r kind key ⟨80,g,c,k,st+k*P,jp n P k⟩ m x
theorem Dc (pre:List UInt8) (r:List KeyB) (kind key:Int) {P g c st n k:Nat} {mp:List ModF} (h:jI pre r kind key c (some []) (jt P g c st n k) (mp.take k)=none):∀ j,k+j≤mp.length→jI pre r kind key c (some []) (jt P g c st n (k+j)) (mp.take (k+j))=none:=by
 intro j
 induction j with
 | zero=>intro _;exact h
 | succ j ih =>
  intro hl
  have hm:mp[k+j]?=some mp[k+j]:=List.getElem?_eq_getElem (by omega)
  rw [show k+(j+1)=k+j+1 by omega,GI pre r kind key hm,ih (by omega)]
  rfl
theorem Me {sec pre:List UInt8} {key:Int} {s:UInt8} {g c k:Nat} {m:ModF} {p:List UInt8} (hm:ze key m) (h:JE sec pre key s g c k m=some p):p.length≤65535:=by
 unfold JE at h
 rcases hm with ⟨rfl,h1,h2,h3⟩|⟨hk0,h1,h2,h3,h4⟩
 ·rw [if_pos rfl] at h;cases h;exact h3
 ·rw [if_neg hk0] at h
  obtain ⟨e,h5⟩:=Zj h
  have:=congrArg List.length e
  rw [zc] at this
  omega
def Ir (O:Option (List CellB)) (w:World) (e:Ending) (w':World):Prop :=
 Below w.heap.size w w'∧((O=none∧e=gaveUp)∨∃ l v,O=some l∧e=.returned v∧(∀ c ∈ l,qF c)∧w'.ownsRow w.heap.size 34 3 v l.length (qx l))
theorem Dm {kind:Int} {p:List UInt8} {l:List CellB} (h:JS kind p=some l):∀ c ∈ l,qF c:=by
 obtain ⟨h1,_,h3⟩:=Uu h
 intro c hc
 refine ⟨(h3 c hc).1,(h3 c hc).2,?_⟩
 simp only [qC,Bool.and_eq_true,List.all_eq_true] at h1
 have:=h1.2 c hc
 unfold xh at this
 split at this
 ·simp only [Bool.and_eq_true,List.isEmpty_iff] at this
  rw [this.2];decide
 ·split at this
  ·rw [List.isEmpty_iff] at this
   rw [this];decide
  ·simp only [Bool.and_eq_true,decide_eq_true_eq] at this
   exact this.2
theorem Yi (SC:Array Value) (pre:List UInt8) (r:List KeyB) (kind key:Int) (R G P g c:Nat) (mp:List ModF) (mm:ModF) (base:Nat) (pv:Value) (w:World)
  (h12:SC[12]?=some (.int .i64 (P:Int))) (hP1:1≤P) (hP:P≤60) (hR:jp R G g≤60) (hkd:kind=0∨kind=1) (hg:g≤65535) (hc:c≤65535) (hpre:pre.length≤20) (hsec:(ji r key).length≤1000)
  (hml:mp.length=jY (jp R G g) P) (hmok:∀ m ∈ mp,ze key m) (hrow:w.ownsRow base 75 6 pv mp.length (xT key g c mp)) :
  Calls Tryz.prog 111 #[.agg SC,.int .i64 kind,chunkV (jp R G g) g c key pv mm,strB (ji r key),strB pre] w (Ir (jI pre r kind key c (some []) (qH R G P g c) mp) w):=by
 obtain ⟨i1,hi1,hy0,hy1,hy2⟩:=info_parts Tryz.infoCell
 have HPL:Hid (∀ (k:Nat) (m:ModF) (w':World),mp[k]?=some m→k≤60→Calls Tryz.prog 112 #[.agg #[strB [80],.int .i64 (g:Int),.int .i64 (c:Int),.int .i64 (k:Int),strB (jO key m).1,strB (jO key m).2],strB (ji r key),strB pre] w' (MN (JE (ji r key) pre key 80 g c k m) w')):=fun k m w' hk h60=>Ri 80 g c k key m (ji r key) pre w' (hmok m (List.mem_of_getElem? hk)) hg hc (by omega) hpre hsec
 have HLN:Hid (∀ (k:Nat) (m:ModF) (p:List UInt8),mp[k]?=some m→JE (ji r key) pre key 80 g c k m=some p→p.length≤maxLen):=fun k m p hk h=>Nat.le_trans (Me (hmok m (List.mem_of_getElem? hk)) h) (by decide)
 have HUN:Hid (∀ (p:List UInt8) (w':World),p.length≤maxLen→Calls Tryz.prog 128 #[.int .i64 kind,strB p] w' (Nr kind p w')):=fun p w' h=>Mo kind p w' hkd h
 have hCN:jY (jp R G g) P≤60:=Nat.le_trans (Ql hP1) hR
 have HCT:=hid (fun w':World=>UQ (jp R G g) P w' (by omega) hP1 (by omega))
 have HALL:Hid (qH R G P g c=jt P g c (g*G) (jp R G g) mp.length):=by show _=_;unfold qH;rw [hml]
 have HPP:Hid (∀ k,k < mp.length→0 < jp (jp R G g) P k∧k*P+jp (jp R G g) P k=min (k*P+P) (jp R G g)∧jp (jp R G g) P k≤60):=fun k hk=>by
  rw [hml] at hk
  have h1:=(Ju hP1).1 hk
  have h2:=(Up (n:=jp R G g) (i:=k) hP1).2 h1
  have h3:=XB (jp R G g) P k h1
  exact ⟨h2,h3,by omega⟩
 have hkP:∀ k,k≤60→k*P≤3600:=fun k hk=>by
  have:=Nat.mul_le_mul hk hP
  omega
 have HKP:=hid hkP
 have HSZ:Hid (SC.size≤100000∨True):=.inr trivial
 generalize hse:ji r key=sec at *
 have HSE:=hid hse
 clear hse
 rw [← hml] at HCT hCN
 generalize jp R G g=rows at *
 have Hrow:=hid hrow
 have H12:=hid h12
 clear hrow hmok hsec hpre hg hc hkd hml h12 hkP
 obtain ⟨hb0,hl0,ho0,hq0⟩:=JY w SC 82 #[.int .i64 (rows:Int),pv,strB [77],.int .i64 (g:Int),.int .i64 (c:Int),.int .i64 0,strB (jO key mm).1,strB (jO key mm).2] 157
 have x12:((w.alloc (.cells SC 82)).alloc (.cells #[.int .i64 (rows:Int),pv,strB [77],.int .i64 (g:Int),.int .i64 (c:Int),.int .i64 0,strB (jO key mm).1,strB (jO key mm).2] 157)).cell? ⟨w.heap.size,12,none⟩=some (.int .i64 (P:Int)):=by rw [jb ho0];exact H12.out
 obtain ⟨y0,y1,y2,y3,y4,y5,y6,y7⟩:=(Xg hq0).1
 go_enter Tryz.func111,Tryz.ntmps111
 go_wp2_with fail
 clear x12 y0 y1 y2 y3 y4 y5 y6 y7
 generalize (w.alloc _).alloc _=W0 at *
 have HB0:=hid hb0
 have Hq0:=hid hq0
 have hz0:=hb0.size
 clear hb0 hq0 ho0
 refine (HCT.out _).mono ?_
 rintro e w1 ⟨sv,rfl,hsp,hb1⟩
 obtain ⟨sa,sc,rfl⟩:=jL hsp
 have HB1:=hid (HB0.out.trans (hb1.mono HB0.out.size))
 have Hq1:=hid (jd hb1 Hq0.out)
 have Hsp:=hid (jS hsp (b':=w.heap.size) hz0)
 have hl1:=hb1.size
 clear hb1 hsp
 go_wp2
 go_loopw [11,23] (fun v i wr=>∃ (k:Nat) (l:List CellB),k≤mp.length∧i=.int .i64 (k:Int)∧jI pre r kind key c (some []) (jt P g c (g*G) rows k) (mp.take k)=some l∧l.length≤k*60∧(∀ x ∈ l,qF x)∧wr.ownsRow w.heap.size 34 3 v l.length (qx l)∧wr.heap[w.heap.size+1]?=some (.cells #[.int .i64 (rows:Int),pv,strB [77],.int .i64 (g:Int),.int .i64 (c:Int),.int .i64 0,strB (jO key mm).1,strB (jO key mm).2] 157 (0,0))∧wr.ownsRow w.heap.size 169 2 (.slice sa mp.length sc) mp.length (JJ rows P mp.length)∧Below w.heap.size w wr) (fun _ i _=>mp.length - (intOf i).toNat)
 case atStart=>exact ⟨0,[],Nat.zero_le _,rfl,rfl,Nat.zero_le _,(by intro x hx;cases hx),World.ownsRow_nil _ _ _ _,Hq1.out,Hsp.out,HB1.out⟩
 case round =>
  obtain ⟨k,l,hkC,rfl,hcf,hll,hsm,hown,hq,hsp,hB⟩:=hrel
  have Hcf:=hid hcf
  have Hsm:=hid hsm
  have Hown:=hid hown
  have Hq:=hid hq
  have Hs:=hid hsp
  have HB:=hid hB
  have hwz:=hB.size
  obtain ⟨va,vc,rfl⟩:=jL hown
  clear hcf hsm hown hq hsp hB
  by_cases hlt:k < mp.length
  ·have hiM:(k:Int) < (mp.length:Int):=by omega
   obtain ⟨m,hm⟩:∃ m,mp[k]?=some m:=⟨mp[k],List.getElem?_eq_getElem hlt⟩
   obtain ⟨sg,rfl,hsg,s1,s2⟩:=Vu Hs.out hlt
   obtain ⟨pb,pc,rfl,hpb,p0,p1,p2,p3,p4,p5⟩:=Si (jN Hrow.out HB.out) hm hlt
   obtain ⟨hpp,hpe,hp60⟩:=HPP.out k hlt
   have hkp:=HKP.out k (by omega)
   have HPLk:=hid (fun w'=>HPL.out k m w' hm (by omega))
   have HLNk:=hid (fun p=>HLN.out k m p hm)
   have HSTEP:Hid (jI pre r kind key c (some []) (jt P g c (g*G) rows (k+1)) (mp.take (k+1))=match JE sec pre key 80 g c k m with
    | none=>none
    | some p=>match JS kind p with
     | none=>none
     | some l2=>if l2.length=jp rows P k then some (l++l2) else none):=by
    show _=_
    rw [GI pre r kind key hm,Hcf.out]
    show QS _ _ _ _ _ _ _=_
    rw [Bv,HSE.out]
   have HNONE:Hid (jI pre r kind key c (some []) (jt P g c (g*G) rows (k+1)) (mp.take (k+1))=none→jI pre r kind key c (some []) (qH R G P g c) mp=none):=fun h=>by
    have:=Dc pre r kind key h (mp.length - (k+1)) (by omega)
    rw [show k+1+(mp.length - (k+1))=mp.length by omega,List.take_length] at this
    rw [HALL.out];exact this
   rw [← hpe] at s2
   have Hm:=hid hm
   clear hpe HPL HLN hm
   generalize hkp0:k*P=kP at *
   generalize hpn0:jp rows P k=pn at *
   generalize hps0:JE sec pre key 80 g c k m=PS at *
   clear hkp0 hpn0 hps0
   generalize (jO key m).1=n1 at *
   generalize (jO key m).2=n2 at *
   obtain ⟨hbx,hsx,_,hhx⟩:=jK wr #[.int .i64 (kP:Int),.int .i64 ((kP:Int)+(pn:Int))] 169
   have y1:=(Xg (jd hbx Hq.out)).1.2.1
   have q0:=je (.cells #[.int .i64 (kP:Int),.int .i64 ((kP:Int)+(pn:Int))] 169) p0
   have q1:=je (.cells #[.int .i64 (kP:Int),.int .i64 ((kP:Int)+(pn:Int))] 169) p1
   have q2:=je (.cells #[.int .i64 (kP:Int),.int .i64 ((kP:Int)+(pn:Int))] 169) p2
   have q3:=je (.cells #[.int .i64 (kP:Int),.int .i64 ((kP:Int)+(pn:Int))] 169) p3
   have q4:=je (.cells #[.int .i64 (kP:Int),.int .i64 ((kP:Int)+(pn:Int))] 169) p4
   have q5:=je (.cells #[.int .i64 (kP:Int),.int .i64 ((kP:Int)+(pn:Int))] 169) p5
   go_wp2_with fail
   clear y1 q0 q1 q2 q3 q4 q5 p0 p1 p2 p3 p4 p5 s1 s2
   have HBx:=hid hbx
   have Hhx:=hid hhx
   have Hqx:=hid (jd hbx Hq.out)
   have Hox:=hid (ju Hown.out hbx)
   have Hsx:=hid (ju Hs.out hbx)
   clear hbx hhx
   generalize wr.alloc _=wx at *
   refine (HPLk.out wx).mono ?_
   rintro e w2 ⟨hb2,⟨hn2,rfl⟩|⟨p,hsome,rfl⟩⟩
   ·have HE:Hid (jI pre r kind key c (some []) (qH R G P g c) mp=none):=HNONE.out (by rw [HSTEP.out,hn2])
    have HBE:=hid (HB.out.trans ((HBx.out.trans (hb2.mono HBx.out.size)).mono hwz))
    clear hn2 hb2
    go_wp2
    exact ⟨rfl,HBE.out,.inl ⟨HE.out,rfl⟩⟩
   have HB2:=hid (HBx.out.trans (hb2.mono HBx.out.size))
   have Hh2:=hid (jd hb2 Hhx.out)
   have Hq2:=hid (jd hb2 Hqx.out)
   have Ho2:=hid (ju Hox.out hb2)
   have Hs2:=hid (ju Hsx.out hb2)
   have HPS:=hid hsome
   clear hb2 hsome
   go_wp2_with fail
   refine (HUN.out p w2 (HLNk.out p HPS.out)).mono ?_
   rintro e w3 ⟨hb3,⟨rfl,hn3⟩|⟨l2,a2,cap2,rfl,hu,hli⟩⟩
   ·have HE:Hid (jI pre r kind key c (some []) (qH R G P g c) mp=none):=HNONE.out (by rw [HSTEP.out,HPS.out];simp only [hn3])
    have HBE:=hid (HB.out.trans ((HB2.out.trans (hb3.mono HB2.out.size)).mono hwz))
    clear hn3 hb3
    go_wp2
    exact ⟨rfl,HBE.out,.inl ⟨HE.out,rfl⟩⟩
   have HB3:=hid (HB2.out.trans (hb3.mono HB2.out.size))
   have Hh3:=hid (jd hb3 Hh2.out)
   have Hq3:=hid (jd hb3 Hq2.out)
   have Ho3:=hid (ju Ho2.out hb3)
   have Hs3:=hid (ju Hs2.out hb3)
   have HU:=hid hu
   have HLI:=hid hli
   clear hb3 hu hli
   obtain ⟨z1,z2⟩:=Bw Hh3.out
   have hl260:l2.length≤60:=by
    have:=(Uu HU.out).1
    simp only [qC,Bool.and_eq_true,decide_eq_true_eq] at this
    exact this.1.2
   go_wp2_with fail
   clear z1 z2
   by_cases hlen:l2.length=pn
   ·have hbq:((l2.length:Int) == (kP:Int)+(pn:Int) - (kP:Int))=true:=by rw [beq_iff_eq];omega
    rw [hbq]
    clear hbq
    refine (qh w3).mono ?_
    rintro e w4 ⟨rfl,rfl⟩
    have HSM:Hid (∀ x ∈ l++l2,qF x):=fun x hx=>by
     rcases List.mem_append.1 hx with h|h
     ·exact Hsm.out x h
     ·exact Dm HU.out x h
    have HNEW:Hid (jI pre r kind key c (some []) (jt P g c (g*G) rows (k+1)) (mp.take (k+1))=some (l++l2)):=by
     show _=_
     rw [HSTEP.out,HPS.out]
     simp only [HU.out,if_pos hlen]
    have hl20:0 < l2.length:=by omega
    clear hlen
    obtain ⟨b2,off2,rfl,hb2lt,hcell⟩:=HLI.out.at_ (List.ne_nil_of_length_pos hl20)
    have HCL:=hid (Lies.cells hcell)
    clear hcell
    have hz4:=HB3.out.size
    go_wp2_with (refine wpList_append_lies _ rfl _ _ _ rfl w.heap.size 34 i1 _ 3 32 Tryz.underlying29 hi1 hy0 hy1 hy2 rfl (by omega) _ l.length (qx l) rfl Ho3.out ⟨b2,off2,none⟩ l2.length cap2 (qx l2) rfl (Qa l2) HCL.out (Ru l2) hl20 (by unfold maxLen;omega) (by omega) (by omega) _ rfl ?_;intro gg gc w5 hown5 hgr5 hat5 hlt5)
    have HO5:=hid hown5
    have HQ5:=hid (jz hgr5 Ho3.out Hq3.out (by decide))
    have HS5:=hid (Hs3.out.kept hgr5 (zo Hs3.out Ho3.out (by decide)))
    have HB5:=hid ((HB.out.trans (HB3.out.mono hwz)).grown hgr5 (by omega) (fun k hk=>(Ho3.out.lt k hk).1))
    clear hown5 hgr5 hat5 hlt5
    go_wp2
    go_roundw
    case rel =>
     refine ⟨k+1,l++l2,by omega,by go_num,HNEW.out,by rw [List.length_append];omega,HSM.out,?_,HQ5.out,HS5.out,HB5.out⟩
     rw [ZX,List.length_append]
     exact HO5.out
    case measure=>simp [intOf];omega
   ·have hbq:((l2.length:Int) == (kP:Int)+(pn:Int) - (kP:Int))=false:=by rw [beq_eq_false_iff_ne];omega
    rw [hbq]
    clear hbq
    refine (qU w3).mono ?_
    rintro e w4 ⟨rfl,rfl⟩
    have HE:Hid (jI pre r kind key c (some []) (qH R G P g c) mp=none):=HNONE.out (by rw [HSTEP.out,HPS.out];simp only [HU.out,if_neg hlen])
    have HBE:=hid (HB.out.trans (HB3.out.mono hwz))
    clear hlen
    go_wp2
    exact ⟨rfl,HBE.out,.inl ⟨HE.out,rfl⟩⟩
  ·have hke:k=mp.length:=by omega
   subst hke
   have HE:Hid (jI pre r kind key c (some []) (qH R G P g c) mp=some l):=by
    have:=Hcf.out
    rw [List.take_length] at this
    show _=_
    rw [HALL.out];exact this
   clear hlt
   go_wp2
   go_ret
   exact ⟨HB.out,.inr ⟨l,_,HE.out,rfl,Hsm.out,Hown.out⟩⟩
end
section
structure SheetGo (S:SheetF) (G P base:Nat) (w:World) (SC:Array Value) (cv:Value) (Kb:Nat) (V:Nat→Value) (Qp:Nat→Nat→List ModF) (Qm:Nat→Nat→ModF) (Pv:Nat→Nat→Value):Prop where
 inf:(Tryz.prog.info? 82).map (·.size)=some SC.size
 one:SC.all (·.oneCell')=true
 c12:SC[12]?=some (.int .i64 (P:Int))
 c15:SC[15]?=some cv
 c17:SC[17]?=some (.slice (some ⟨Kb,0,none⟩) S.cols.length S.cols.length)
 cols:w.ownsRow base 31 4 cv S.cols.length (Zp S.cols)
 small:∀ c ∈ S.cols,SmallC c
 kb:w.heap[Kb]?=some (.cells ((List.range S.cols.length).map V).toArray 154 (0,0))
 chunks:∀ i,i < S.cols.length→ColIn S.cols S.rows G P base w i (jY S.rows G) (V i) Qp Qm Pv
 mods:S.mods=xl (fun g c=>Qp g c++[Qm g c]) S.cols.length (jY S.rows G)
 spots:qr S=jH S.rows S.cols.length G P (jY S.rows G)
 rows:S.rows≤60
 g1:1≤G
 g6:G≤60
 p1:1≤P
 p6:P≤60
 n6:S.cols.length≤6
theorem SheetGo.later {S:SheetF} {G P base:Nat} {w w':World} {SC:Array Value} {cv:Value} {Kb:Nat} {V:Nat→Value} {Qp:Nat→Nat→List ModF} {Qm:Nat→Nat→ModF} {Pv:Nat→Nat→Value} (h:SheetGo S G P base w SC cv Kb V Qp Qm Pv) (hb:Below w.heap.size w w'):SheetGo S G P base w' SC cv Kb V Qp Qm Pv :=
 ⟨h.inf,h.one,h.c12,h.c15,h.c17,jN h.cols hb,h.small,jd hb h.kb,fun i hi=>(h.chunks i hi).keep (fun n xs hu=>jN hu hb) (fun u n xs hu=>jN hu hb),h.mods,h.spots,h.rows,h.g1,h.g6,h.p1,h.p6,h.n6⟩
theorem Tk {S:SheetF} {f:FormF} {base foot:Nat} {parts footer:List UInt8} {w:World} {v cv pv:Value} {Kb:Nat} {V:Nat→Value} {Qp:Nat→Nat→List ModF} {Qm:Nat→Nat→ModF} {Pv:Nat→Nat→Value} (h:SheetIn S f base w v cv pv Kb V Qp Qm Pv) (hok:SheetOk foot parts footer S) :
  SheetGo S S.plan.group.toNat S.plan.page.toNat base w (qR S f cv pv Kb) cv Kb V Qp Qm Pv:=by
 obtain ⟨_,h18,hone⟩:=h.one
 have hp:=hok.plan
 simp only [qM,Bool.and_eq_true,decide_eq_true_eq] at hp
 have hh:=hok.heads
 simp only [jX,Bool.and_eq_true,decide_eq_true_eq] at hh
 refine ⟨by rw [h18];kernel_rfl,hone,?_,rfl,rfl,h.cols,h.small,h.kb,h.chunks,h.mods,rfl,hok.rows,by omega,by omega,by omega,by omega,by omega⟩
 show some (Value.int .i64 S.plan.page)=_
 rw [Int.toNat_of_nonneg (by omega)]
theorem zJ {R G:Nat} {key:Int} {c:Nat} {Qm:Nat→Nat→ModF} {Pv:Nat→Nat→Value} {n k:Nat} (hk:k < n) {j:Nat} (hj:j < 8):(xX R G key c Qm Pv n)[k*8+j]?=(Ki R G key c Qm Pv k)[j]?:=by
 unfold xX
 rw [List.flatMap_def,KP (s:=8) _ hj]
 ·rw [List.getElem?_map,List.getElem?_range hk];rfl
 ·intro x hx
  simp only [List.mem_map] at hx
  obtain ⟨i,_,rfl⟩:=hx
  rfl
theorem YL {w:World} {base n:Nat} {R G:Nat} {key:Int} {c:Nat} {Qm:Nat→Nat→ModF} {Pv:Nat→Nat→Value} {k:Nat} {v:Value} (h:w.ownsRow base 157 8 v n (xX R G key c Qm Pv n)) (hk:k < n) :
  ∃ b cap,v=.slice (some ⟨b,0,none⟩) n cap∧b < w.heap.size∧w.cell? ⟨b,k*8,none⟩=some (.int .i64 ((jp R G k:Nat):Int))∧w.cell? ⟨b,k*8+1,none⟩=some (Pv k c)∧w.cell? ⟨b,k*8+2,none⟩=some (strB [77])∧w.cell? ⟨b,k*8+3,none⟩=some (.int .i64 (k:Int))∧w.cell? ⟨b,k*8+4,none⟩=some (.int .i64 (c:Int))∧w.cell? ⟨b,k*8+5,none⟩=some (.int .i64 0)∧w.cell? ⟨b,k*8+6,none⟩=some (strB (jO key (Qm k c)).1)∧w.cell? ⟨b,k*8+7,none⟩=some (strB (jO key (Qm k c)).2):=by
 rcases h.2 with ⟨rfl,h1⟩|⟨b,cap,cur,rfl,_⟩
 ·omega
 ·refine ⟨b,cap,rfl,(h.lt b rfl).2,?_,?_,?_,?_,?_,?_,?_,?_⟩
  ·rw [h.cellAt _ (by omega)];exact zJ (j:=0) hk (by omega)
  ·rw [h.cellAt _ (by omega)];exact zJ (j:=1) hk (by omega)
  ·rw [h.cellAt _ (by omega)];exact zJ (j:=2) hk (by omega)
  ·rw [h.cellAt _ (by omega)];exact zJ (j:=3) hk (by omega)
  ·rw [h.cellAt _ (by omega)];exact zJ (j:=4) hk (by omega)
  ·rw [h.cellAt _ (by omega)];exact zJ (j:=5) hk (by omega)
  ·rw [h.cellAt _ (by omega)];exact zJ (j:=6) hk (by omega)
  ·rw [h.cellAt _ (by omega)];exact zJ (j:=7) hk (by omega)
theorem VM {t:List ColB} {c:Nat} (hc:c < t.length) {j:Nat} (hj:j < 4):(Zp t)[c*4+j]?=(LH (jf t c))[j]?:=by
 unfold Zp
 rw [List.flatMap_def,KP (s:=4) _ hj]
 ·rw [List.getElem?_map,List.getElem?_eq_getElem hc]
  simp only [Option.map_some,Option.bind_some]
  rw [xz hc]
 ·intro x hx
  simp only [List.mem_map] at hx
  obtain ⟨i,_,rfl⟩:=hx
  rfl
theorem Nx {w:World} {base:Nat} {t:List ColB} {c:Nat} {v:Value} (h:w.ownsRow base 31 4 v t.length (Zp t)) (hc:c < t.length) :
  ∃ b cap,v=.slice (some ⟨b,0,none⟩) t.length cap∧b < w.heap.size∧w.cell? ⟨b,c*4,none⟩=some (strB (jf t c).name)∧w.cell? ⟨b,c*4+1,none⟩=some (.int .i64 (jf t c).kind)∧w.cell? ⟨b,c*4+2,none⟩=some (.int .i64 (jf t c).key)∧w.cell? ⟨b,c*4+3,none⟩=some (.slice none 0 0):=by
 rcases h.2 with ⟨rfl,h1⟩|⟨b,cap,cur,rfl,_⟩
 ·omega
 ·refine ⟨b,cap,rfl,(h.lt b rfl).2,?_,?_,?_,?_⟩
  ·rw [h.cellAt _ (by omega)];exact VM (j:=0) hc (by omega)
  ·rw [h.cellAt _ (by omega)];exact VM (j:=1) hc (by omega)
  ·rw [h.cellAt _ (by omega)];exact VM (j:=2) hc (by omega)
  ·rw [h.cellAt _ (by omega)];exact VM (j:=3) hc (by omega)
theorem Sw {R G P g c:Nat} {t:List ColB} {mp:List ModF} {mm:ModF} (h:ModsOk t (jh R G P g c) (mp++[mm])):(∀ m ∈ mp,ze (jf t c).key m)∧ze (jf t c).key mm:=by
 have key:∀ {L:List SpotB} {M:List ModF},ModsOk t L M→(∀ s ∈ L,s.c=c)→∀ m ∈ M,ze (jf t c).key m:=by
  intro L M h
  induction h using ModsOk.ind with
  | nil=>intro _ m hm;cases hm
  | cons h1 _ ih =>
   intro hs m hm
   rcases List.mem_cons.1 hm with rfl|hm
   ·have:=hs _ (List.mem_cons_self ..)
    rw [← this];exact h1
   ·exact ih (fun s h=>hs s (List.mem_cons_of_mem _ h)) m hm
 have:=key h Qt
 exact ⟨fun m hm=>this m (by simp [hm]),this mm (by simp)⟩
theorem Sk {t:List ColB} {Qp:Nat→Nat→List ModF} {Qm:Nat→Nat→ModF} {R C G P:Nat} (pre:List UInt8) (r:List KeyB) (kind key:Int) {c k:Nat} (hc:c < C) (hP:1≤P) (hG:1≤G) (hk:k < jY R G) (h:∀ g,g < jY R G→∀ i,i < C→ModsOk t (jh R G P g i) (Qp g i++[Qm g i])) (hl:∀ g,g < jY R G→∀ i,i < C→(Qp g i).length=jY (jp R G g) P) {l:List CellB}
  (hcf:jI pre r kind key c (some []) (jH R C G P k) (xl (fun g c=>Qp g c++[Qm g c]) C k)=some l) :
  jI pre r kind key c (some []) (jH R C G P (k+1)) (xl (fun g c=>Qp g c++[Qm g c]) C (k+1))=(jI pre r kind key c (some []) (qH R G P k c) (Qp k c)).bind fun part=>if JE (ji r key) pre key 77 k c 0 (Qm k c)=some (Qv kind part) then some (l++part) else none:=by
 have hkG:=(Ju hG).1 hk
 have hlen:=Yr (t:=t) pre r kind key hc hP (fun g hg i hi=>h g (by omega) i hi) (by omega) hcf
 rw [VZ (t:=t) pre r kind key hc _ (fun g hg i hi=>h g (by omega) i hi),hcf,VX pre r kind key l (by omega) (Qp k c) (Qm k c) (by rw [hl k hk c hc];simp [qH,jt])]
 rfl
theorem Pa {t:List ColB} {Q:Nat→Nat→List ModF} {R C G P n:Nat} (pre:List UInt8) (r:List KeyB) (kind key:Int) {c k:Nat} (hc:c < C) (h:∀ g,g < n→∀ i,i < C→ModsOk t (jh R G P g i) (Q g i))
  (hcf:jI pre r kind key c (some []) (jH R C G P k) (xl Q C k)=none):∀ j,k+j≤n→jI pre r kind key c (some []) (jH R C G P (k+j)) (xl Q C (k+j))=none:=by
 intro j
 induction j with
 | zero=>intro _;exact hcf
 | succ j ih =>
  intro hj
  rw [show k+(j+1)=k+j+1 by omega,VZ (t:=t) pre r kind key hc _ (fun g hg i hi=>h g (by omega) i hi),ih (by omega),xu]
theorem RK (S:SheetF) (G P base:Nat) (SC:Array Value) (cv:Value) (Kb:Nat) (V:Nat→Value) (Qp:Nat→Nat→List ModF) (Qm:Nat→Nat→ModF) (Pv:Nat→Nat→Value) (pre:List UInt8) (r:List KeyB) (c:Nat) (w:World)
  (hS:SheetGo S G P base w SC cv Kb V Qp Qm Pv) (hc:c < S.cols.length) (hpre:pre.length≤20) (hsec:(ji r (jf S.cols c).key).length≤1000) :
  Calls Tryz.prog 79 #[.agg SC,.int .i64 (c:Int),strB (ji r (jf S.cols c).key),strB pre] w (Ir (jI pre r (jf S.cols c).kind (jf S.cols c).key c (some []) (qr S) S.mods) w):=by
 obtain ⟨i1,hi1,hy0,hy1,hy2⟩:=info_parts Tryz.infoCell
 have hinf:=hS.inf
 have hn6:=hS.n6
 have hkd:(jf S.cols c).kind=0∨(jf S.cols c).kind=1:=(hS.small _ (by rw [xz hc];exact List.getElem_mem _)).kind
 have hOK:∀ g,g < jY S.rows G→∀ i,i < S.cols.length→ModsOk S.cols (jh S.rows G P g i) (Qp g i++[Qm g i]):=fun g hg i hi=>((hS.chunks i hi).ok g hg).1
 have hLN:∀ g,g < jY S.rows G→∀ i,i < S.cols.length→(Qp g i).length=jY (jp S.rows G g) P:=fun g hg i hi=>((hS.chunks i hi).ok g hg).2
 have HRW:Hid (∀ k w',k < jY S.rows G→Below w.heap.size w w'→w'.ownsRow base 75 6 (Pv k c) (Qp k c).length (xT (jf S.cols c).key k c (Qp k c))):=fun k w' hk hb=>jN ((hS.chunks c hc).pages k hk) hb
 have HPVS:Hid (∀ k,k < jY S.rows G→∃ a m cp,Pv k c=.slice a m cp):=fun k hk=>by
  obtain ⟨a,cp,h⟩:=jL ((hS.chunks c hc).pages k hk)
  exact ⟨a,_,cp,h⟩
 have HCN:Hid (jY S.rows G≤60):=Nat.le_trans (Ql hS.g1) hS.rows
 have hcn60:=HCN.out
 have hmk:∀ k,k < jY S.rows G→(∀ m ∈ Qp k c,ze (jf S.cols c).key m)∧ze (jf S.cols c).key (Qm k c):=fun k hk=>Sw (hOK k hk c hc)
 have HCH:Hid (∀ k w',k < jY S.rows G→Below w.heap.size w w'→Calls Tryz.prog 111 #[.agg SC,.int .i64 (jf S.cols c).kind,.agg #[.int .i64 ((jp S.rows G k:Nat):Int),Pv k c,strB [77],.int .i64 (k:Int),.int .i64 (c:Int),.int .i64 0,strB (jO (jf S.cols c).key (Qm k c)).1,strB (jO (jf S.cols c).key (Qm k c)).2],strB (ji r (jf S.cols c).key),strB pre] w' (Ir (jI pre r (jf S.cols c).kind (jf S.cols c).key c (some []) (qH S.rows G P k c) (Qp k c)) w')):=fun k w' hk hb =>
  Yi SC pre r _ _ S.rows G P k c (Qp k c) (Qm k c) base (Pv k c) w' hS.c12 hS.p1 hS.p6 (Nat.le_trans (Jy S.rows G k).2 hS.rows) hkd (by omega) (by omega) hpre hsec (hLN k hk c hc) (hmk k hk).1 (HRW.out k w' hk hb)
 have HPL:Hid (∀ k w',k < jY S.rows G→Calls Tryz.prog 112 #[.agg #[strB [77],.int .i64 (k:Int),.int .i64 (c:Int),.int .i64 ((0:Nat):Int),strB (jO (jf S.cols c).key (Qm k c)).1,strB (jO (jf S.cols c).key (Qm k c)).2],strB (ji r (jf S.cols c).key),strB pre] w' (MN (JE (ji r (jf S.cols c).key) pre (jf S.cols c).key 77 k c 0 (Qm k c)) w')):=fun k w' hk=>Ri 77 k c 0 _ (Qm k c) _ pre w' (hmk k hk).2 (by omega) (by omega) (by omega) hpre hsec
 have HST:=hid (fun k l hk=>Sk (t:=S.cols) (Qp:=Qp) (Qm:=Qm) (R:=S.rows) (C:=S.cols.length) (G:=G) (P:=P) pre r (jf S.cols c).kind (jf S.cols c).key (k:=k) (l:=l) hc hS.p1 hS.g1 hk hOK hLN)
 have HNO:=hid (fun k=>Pa (t:=S.cols) (Q:=fun g c=>Qp g c++[Qm g c]) (R:=S.rows) (C:=S.cols.length) (G:=G) (P:=P) (n:=jY S.rows G) pre r (jf S.cols c).kind (jf S.cols c).key (k:=k) hc hOK)
 have HPLN:=hid (fun k part (hk:k < jY S.rows G)=>KX pre r (jf S.cols c).kind (jf S.cols c).key (R:=S.rows) (G:=G) (P:=P) (g:=k) (c:=c) (mp:=Qp k c) (part:=part) hS.p1 (by rw [hLN k hk c hc];simp [qH,jt]))
 have HPP:Hid (∀ k,k < jY S.rows G→0 < jp S.rows G k∧jp S.rows G k≤60):=fun k hk=>⟨(Up hS.g1).2 ((Ju hS.g1).1 hk),Nat.le_trans (Jy S.rows G k).2 hS.rows⟩
 have HALL:Hid (qr S=jH S.rows S.cols.length G P (jY S.rows G)∧S.mods=xl (fun g c=>Qp g c++[Qm g c]) S.cols.length (jY S.rows G)):=⟨hS.spots,hS.mods⟩
 obtain ⟨cb,cc,rfl,hcb,k0,k1,k2,k3⟩:=Nx hS.cols hc
 have hrow:=(hS.chunks c hc).row
 obtain ⟨va,vc,hV⟩:=jL hrow
 have hkbc:w.cell? ⟨Kb,c,none⟩=some (.slice va (jY S.rows G) vc):=by
  rw [jb hS.kb,← hV]
  simp [hc]
 have HC15:=hid hS.c15
 have HC17:=hid hS.c17
 rw [hV] at hrow
 have Hrow:=hid hrow
 have hci:(c:Int) < (S.cols.length:Int):=by omega
 clear hrow hV hmk hOK hLN hkd hS hpre hsec HRW
 generalize jY S.rows G=CN at *
 generalize hsec0:ji r (jf S.cols c).key=sec at *
 generalize hkey0:(jf S.cols c).key=key at *
 generalize hkin0:(jf S.cols c).kind=kind at *
 clear hkey0 hkin0 hsec0
 generalize S.cols.length=n at *
 obtain ⟨hb0,hl0,_,ho0⟩:=jK w SC 82
 have x15:(w.alloc (.cells SC 82)).cell? ⟨w.heap.size,15,none⟩=some (.slice (some ⟨cb,0,none⟩) n cc):=by rw [jb ho0];exact HC15.out
 have x17:(w.alloc (.cells SC 82)).cell? ⟨w.heap.size,17,none⟩=some (.slice (some ⟨Kb,0,none⟩) n n):=by rw [jb ho0];exact HC17.out
 have z1:=je (.cells SC 82) k1
 have z2:=je (.cells SC 82) hkbc
 go_enter Tryz.func79,Tryz.ntmps79
 have s15:=HC15.out
 have s17:=HC17.out
 go_wp2
 clear s15 s17 x15 x17 z1 z2 k0 k1 k2 k3 hkbc HC15 HC17
 generalize w.alloc _=W0 at *
 go_loopw [10,27] (fun v i wr=>∃ (k:Nat) (l:List CellB),k≤CN∧i=.int .i64 (k:Int)∧jI pre r kind key c (some []) (jH S.rows n G P k) (xl (fun g c=>Qp g c++[Qm g c]) n k)=some l∧l.length≤k*60∧(∀ x ∈ l,qF x)∧wr.ownsRow w.heap.size 34 3 v l.length (qx l)∧wr.heap[w.heap.size]?=some (.cells SC 82 (0,0))∧Below w.heap.size w wr) (fun _ i _=>CN - (intOf i).toNat)
 case atStart=>exact ⟨0,[],Nat.zero_le _,rfl,rfl,Nat.zero_le _,(by intro x hx;cases hx),World.ownsRow_nil _ _ _ _,ho0,hb0⟩
 case round =>
  obtain ⟨k,l,hkC,rfl,hcf,hll,hsm,hown,hq,hB⟩:=hrel
  have Hcf:=hid hcf
  have Hsm:=hid hsm
  have Hown:=hid hown
  have Hq:=hid hq
  have HB:=hid hB
  have hwz:=hB.size
  obtain ⟨wa,wc,rfl⟩:=jL hown
  clear hcf hsm hown hq hB
  by_cases hlt:k < CN
  ·have hiM:(k:Int) < (CN:Int):=by omega
   obtain ⟨vb,vc2,hva,hvb,p0,p1,p2,p3,p4,p5,p6,p7⟩:=YL (jN Hrow.out HB.out) hlt
   injection hva with hva1 hva2 hva3
   subst hva1 hva3
   clear hva2 hb0 hl0 ho0
   obtain ⟨hpp,hp60⟩:=HPP.out k hlt
   have HCHk:=hid (fun w'=>HCH.out k w' hlt)
   have HPLk:=hid (fun w'=>HPL.out k w' hlt)
   have HSTEP:=hid (HST.out k l hlt Hcf.out)
   have HPLNk:=hid (fun part=>HPLN.out k part hlt)
   have HNONE:Hid (jI pre r kind key c (some []) (jH S.rows n G P (k+1)) (xl (fun g c=>Qp g c++[Qm g c]) n (k+1))=none→jI pre r kind key c (some []) (qr S) S.mods=none):=fun h=>by
    have:=HNO.out (k+1) h (CN - (k+1)) (by omega)
    rw [show k+1+(CN - (k+1))=CN by omega] at this
    rw [HALL.out.1,HALL.out.2];exact this
   clear HST HNO HCH HPL HPLN HPP
   generalize jp S.rows G k=pn at *
   generalize hO:jI pre r kind key c (some []) (qH S.rows G P k c) (Qp k c)=O at *
   clear hO
   generalize hO2:JE sec pre key 77 k c 0 (Qm k c)=O2 at *
   clear hO2
   generalize (jO key (Qm k c)).1=n1 at *
   generalize (jO key (Qm k c)).2=n2 at *
   obtain ⟨pa,pm,pcp,hpv⟩:=HPVS.out k hlt
   rw [hpv] at p1 HCHk
   clear hpv HPVS
   obtain ⟨hbx,hsx,_,hhx⟩:=jK wr #[.int .i64 (pn:Int),.slice pa pm pcp,strB [77],.int .i64 (k:Int),.int .i64 (c:Int),.int .i64 0,strB n1,strB n2] 157
   have hqx:=jd hbx Hq.out
   obtain ⟨y0,y1,y2,y3,y4,y5,y6,y7⟩:=(Xg hhx).1
   go_upto_region 6 with fail
   clear y0 y1 y2 y3 y4 y5 y6 y7 p0 p1 p2 p3 p4 p5 p6 p7
   have HBx:=hid hbx
   have Hhx:=hid hhx
   have Hqx:=hid hqx
   have Hox:=hid (ju Hown.out hbx)
   clear hbx hhx hqx hsx
   generalize hwx:wr.alloc _=wx at *
   clear hwx
   generalize hxs:wr.heap.size=xs at Hhx ⊢
   clear hxs
   have HINF:=hid hinf
   clear hinf
   go_wp2_with (first|(refine wpList_load_row rfl 82 (.tmp 4) rfl w.heap.size rfl 82 SC (0,0) _ Hqx.out Tryz.underlying82 rfl HINF.out ?_)|(refine wpList_load_row rfl 157 (.tmp 12) rfl xs rfl 157 _ (0,0) _ Hhx.out Tryz.underlying157 rfl (by kernel_rfl) ?_))
   refine (HCHk.out wx (HB.out.trans (HBx.out.mono hwz))).mono ?_
   rintro e w2 ⟨hb2,⟨hn2,rfl⟩|⟨part,v2,hsome,rfl,hsm2,hown2⟩⟩
   ·have HE:Hid (jI pre r kind key c (some []) (qr S) S.mods=none):=HNONE.out (by rw [HSTEP.out,hn2];rfl)
    have HBE:=hid (HB.out.trans ((HBx.out.trans (hb2.mono HBx.out.size)).mono hwz))
    clear hn2 hb2
    go_wp2
    exact ⟨rfl,HBE.out,.inl ⟨HE.out,rfl⟩⟩
   have hpl:=HPLNk.out part hsome
   have HSOME:=hid hsome
   have HSM2:=hid hsm2
   obtain ⟨a2,cap2,rfl,_,hli2⟩:=RI hown2 (fun x hx=>⟨(hsm2 x hx).1,(hsm2 x hx).2.1,Nat.le_trans (hsm2 x hx).2.2 (by decide)⟩)
   have HB2:=hid (HBx.out.trans (hb2.mono HBx.out.size))
   have Hh2:=hid (jd hb2 Hhx.out)
   have Hq2:=hid (jd hb2 Hqx.out)
   have Ho2:=hid (ju Hox.out hb2)
   have HL2:=hid hli2
   have hpl60:part.length≤60:=by omega
   have hpl0:0 < part.length:=by omega
   clear hb2 hsome hsm2 hown2 hli2 hpl
   obtain ⟨y0,y1,y2,y3,y4,y5,y6,y7⟩:=(Xg Hh2.out).1
   go_wp2_with fail
   clear y0 y1 y2 y3 y4 y5 y6 y7
   refine (HPLk.out w2).mono ?_
   rintro e w3 ⟨hb3,⟨hn3,rfl⟩|⟨p,hsome3,rfl⟩⟩
   ·have HE:Hid (jI pre r kind key c (some []) (qr S) S.mods=none):=HNONE.out (by rw [HSTEP.out,HSOME.out,Option.bind_some,hn3,if_neg (by simp)])
    have HBE:=hid (HB.out.trans ((HB2.out.trans (hb3.mono HB2.out.size)).mono hwz))
    clear hn3 hb3
    go_wp2
    exact ⟨rfl,HBE.out,.inl ⟨HE.out,rfl⟩⟩
   have HB3:=hid (HB2.out.trans (hb3.mono HB2.out.size))
   have Hq3:=hid (jd hb3 Hq2.out)
   have Ho3:=hid (ju Ho2.out hb3)
   have HL3:=hid (HL2.out.later hb3)
   have HP3:=hid hsome3
   clear hb3 hsome3
   go_wp2_with fail
   refine (YR kind a2 cap2 part w3 hpl60 HSM2.out HL3.out).mono ?_
   rintro e w4 ⟨rfl,hb4⟩
   have HB4:=hid (HB3.out.trans (hb4.mono HB3.out.size))
   have Hq4:=hid (jd hb4 Hq3.out)
   have Ho4:=hid (ju Ho3.out hb4)
   have HL4:=hid (HL3.out.later hb4)
   clear hb4
   go_wp2_with fail
   by_cases hmt:p=Qv kind part
   ·have hbq:(p == Qv kind part)=true:=by rw [beq_iff_eq];exact hmt
    rw [hbq]
    clear hbq
    refine (qh w4).mono ?_
    rintro e w5 ⟨rfl,rfl⟩
    have HSM:Hid (∀ x ∈ l++part,qF x):=fun x hx=>by
     rcases List.mem_append.1 hx with h|h
     ·exact Hsm.out x h
     ·exact HSM2.out x h
    have HNEW:Hid (jI pre r kind key c (some []) (jH S.rows n G P (k+1)) (xl (fun g c=>Qp g c++[Qm g c]) n (k+1))=some (l++part)):=by
     show _=_
     rw [HSTEP.out,HSOME.out,Option.bind_some,HP3.out,if_pos (by rw [hmt])]
    clear hmt
    obtain ⟨b2,off2,rfl,hb2lt,hcell⟩:=HL4.out.at_ (List.ne_nil_of_length_pos hpl0)
    have HCL:=hid (Lies.cells hcell)
    clear hcell
    have hz4:=HB4.out.size
    go_wp2_with (refine wpList_append_lies _ rfl _ _ _ rfl w.heap.size 34 i1 _ 3 32 Tryz.underlying29 hi1 hy0 hy1 hy2 rfl (by omega) _ l.length (qx l) rfl Ho4.out ⟨b2,off2,none⟩ part.length cap2 (qx part) rfl (Qa part) HCL.out (Ru part) hpl0 (by unfold maxLen;omega) (by omega) (by omega) _ rfl ?_;intro gg gc w6 hown6 hgr6 hat6 hlt6)
    have HO6:=hid hown6
    have HQ6:=hid (jz hgr6 Ho4.out Hq4.out (by decide))
    have HB6:=hid ((HB.out.trans (HB4.out.mono hwz)).grown hgr6 (by omega) (fun k hk=>(Ho4.out.lt k hk).1))
    clear hown6 hgr6 hat6 hlt6
    go_wp2
    go_roundw
    case rel =>
     refine ⟨k+1,l++part,by omega,by go_num,HNEW.out,by rw [List.length_append];omega,HSM.out,?_,HQ6.out,HB6.out⟩
     rw [ZX,List.length_append]
     exact HO6.out
    case measure=>simp [intOf];omega
   ·have hbq:(p == Qv kind part)=false:=by rw [beq_eq_false_iff_ne];exact hmt
    rw [hbq]
    clear hbq
    refine (qU w4).mono ?_
    rintro e w5 ⟨rfl,rfl⟩
    have HE:Hid (jI pre r kind key c (some []) (qr S) S.mods=none):=HNONE.out (by rw [HSTEP.out,HSOME.out,Option.bind_some,HP3.out,if_neg (by intro h;injection h with h;exact hmt h)])
    have HBE:=hid (HB.out.trans (HB4.out.mono hwz))
    clear hmt
    go_wp2
    exact ⟨rfl,HBE.out,.inl ⟨HE.out,rfl⟩⟩
  ·have hke:k=CN:=by omega
   subst hke
   have HE:Hid (jI pre r kind key c (some []) (qr S) S.mods=some l):=by
    show _=_
    rw [HALL.out.1,HALL.out.2];exact Hcf.out
   clear hlt
   go_wp2
   go_ret
   exact ⟨HB.out,.inr ⟨l,_,HE.out,rfl,Hsm.out,Hown.out⟩⟩
end
end Go.Proofs.YthhpbhpfagoapabGreat
