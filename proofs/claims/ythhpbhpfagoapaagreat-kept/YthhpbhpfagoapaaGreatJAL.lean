import Derived.Test.YthhpbhpfagoapaaGreatJBB
import Derived.BigQuiet
import Derived.Test.YthhpbhpfagoapaaGreatJBA
import Derived.Test.YthhpbhpfagoapaaGreatJAN
namespace Go.Proofs.YthhpbhpfagoapaaGreat
set_option linter.unusedVariables false
set_option linter.unusedSimpArgs false
set_option maxRecDepth 100000
set_option maxHeartbeats 16000000
section
open Go.RowKit
theorem RA (a b:List UInt8):xj [⟨a.toArray⟩,⟨b.toArray⟩]=a++b:=by simp [xj]
theorem Iq (sec non ext cip:List UInt8):(GU sec non ext cip).length=2:=rfl
theorem CY (parts:List ByteArray) (C:Array Value) (n:Nat) (w:World) (hC:C=(parts.map Value.string).toArray) (hl:parts.length=n) (hn:n≤1000) (hs:(xj parts).length≤1000000) :
  Calls Tryz.prog 194 #[.slice (some ⟨w.heap.size,0,none⟩) n n] (w.alloc (.cells C 9)) fun e w'=>e=.returned (strB (xj parts))∧Below (w.heap.size+1) (w.alloc (.cells C 9)) w':=by
 subst hl
 refine (Ev parts w.heap.size parts.length _ hn hs (by simp) (Kj w parts C hC _)).mono ?_
 rintro e w' ⟨h1,h2⟩
 exact ⟨h1,by simpa using h2⟩
theorem Pu (sec non ext plain:ByteArray) (w:World) (h1:sec.size≤1000) (h2:non.size≤1000) (h3:ext.size≤5000) (h4:plain.size≤5000) :
  Calls Tryz.prog 257 #[.string sec,.string non,.string ext,.string plain] w fun e w' =>
   e=.returned (strB (xV sec.data.toList non.data.toList ext.data.toList plain.data.toList))∧Below w.heap.size w w':=by
 have hm:(1000:Nat)≤maxLen:=by decide
 have hm5:(5000:Nat)≤maxLen:=by decide
 go_enter Tryz.func257,Tryz.ntmps257
 go_wp2_with fail
 refine (IQ sec non plain w (Nat.le_trans h1 hm) (Nat.le_trans h2 hm) h4).mono ?_
 rintro e w1 ⟨rfl,hb1⟩
 have hl:=Jl sec.data.toList non.data.toList plain.data.toList
 have hl2:(zo sec.data.toList non.data.toList plain.data.toList).length≤5000:=by rw [hl];simpa using h4
 clear hl
 have HF:Hid (∀ c,c=zo sec.data.toList non.data.toList plain.data.toList→c++GU sec.data.toList non.data.toList ext.data.toList c=xV sec.data.toList non.data.toList ext.data.toList plain.data.toList):=by
  intro c hc;subst hc;rfl
 have HF2:=hid (HF.out _ rfl)
 clear HF
 generalize zo sec.data.toList non.data.toList plain.data.toList=cip at *
 go_wp2_with fail
 refine (YB sec non ext ⟨cip.toArray⟩ _ (Nat.le_trans h1 hm) (Nat.le_trans h2 hm) h3 (by rw [jP];omega)).mono ?_
 rintro e w2 ⟨rfl,hb2⟩
 go_wp2_with fail
 refine (CY [⟨cip.toArray⟩,⟨(GU sec.data.toList non.data.toList ext.data.toList cip).toArray⟩] _ 2 w2 rfl rfl (by decide) (by rw [RA,List.length_append,Iq];omega)).mono ?_
 rintro e w3 ⟨rfl,hb3⟩
 rw [RA,HF2.out]
 go_wp2
 go_ret
 refine ⟨rfl,?_⟩
 have z1:=hb1.size
 have z2:=hb2.size
 exact ((hb1.trans (hb2.mono z1)).alloc (by omega) _).trans (hb3.mono (by omega))
end
section
theorem MC (l:List CellB):∀ (b:Bool) (n:Nat),n+l.length≤127→(Xc b n l).length≤l.length+1:=by
 induction l with
 | nil=>intro b n h;simp only [Xc];rw [xW (by simpa using h)];simp
 | cons c l ih =>
  intro b n h
  simp only [List.length_cons] at h
  simp only [Xc]
  split
  ·have:=ih b (n+1) (by omega);simp only [List.length_cons];omega
  ·have:=ih (!b) 1 (by omega)
   rw [List.length_append,xW (by omega)]
   simp only [List.length_cons,List.length_nil];omega
theorem MM (l:List CellB) (h:l.length≤60):(zz l).length≤l.length+2:=by
 unfold zz qQ
 rw [List.length_append,xW (by omega)]
 split
 ·simp
 ·have:=MC l false 0 (by omega)
  simp;omega
theorem Pp (kind:Int) (l:List CellB) (h:∀ c ∈ l,qt c) (hn:l.length≤6):(xg kind l).length≤250:=by
 have h1:=MM l (by omega)
 have hv:(jh l).length≤6:=Nat.le_trans (List.length_filter_le ..) hn
 have hs:∀ c ∈ jh l,qt c:=fun c hc=>h c (List.mem_filter.1 hc).1
 have h2:(jH kind (jh l) 3).length≤_:=UV kind (jh l) 2
 have h3:(QR (Zi kind 0) (jh l)).length≤241:=by
  have h4:=zi (Zi kind 0) (jh l) hs (by omega) (jh l).length
  have h5:Zi kind 0≠3:=by unfold Zi;split<;>simp
  simp only [QR,qz,if_neg h5,List.length_cons,List.nil_append]
  omega
 unfold xg
 split
 ·omega
 ·rw [List.length_append];omega
theorem MZ {t:List ColB} (h:GoodT t) {s:SpotB} (hs:s.c < t.length) (hm:s.many≤60) (h6:s.sort≠77→s.many≤6):(qP t s).length≤250:=by
 obtain ⟨_,_,h3⟩:=h.cells s.c hs
 have hsm:∀ x ∈ ((je t s.c).cells.drop s.start).take s.many,qt x:=by
  rw [zg hs]
  exact fun x hx=>h3 x (List.mem_of_mem_drop (List.mem_of_mem_take hx))
 have hl:(((je t s.c).cells.drop s.start).take s.many).length≤s.many:=by rw [List.length_take];omega
 unfold qP
 split
 ·have:=Id (je t s.c).kind _ hsm (by omega);omega
 ·rename_i hne
  have:=h6 hne
  exact Pp _ _ hsm (by omega)
theorem EY {j:JobB} {r:List KeyB} (B:Nat) (l:List SpotB):∀ st:StB,(∀ s ∈ l,(qP j.table s).length≤B)→(qw j r st l).out.length≤st.out.length+(B+8)*l.length:=by
 induction l with
 | nil=>intro st _;simp [qw]
 | cons s l ih =>
  intro st hl
  have h1:=hl s (List.mem_cons_self ..)
  have h2:=YG j r (je j.table s.c).key s.sort s.g s.c s.p (qP j.table s) st
  have h3:=ih (zF j r st s) (fun x hx=>hl x (List.mem_cons_of_mem _ hx))
  have e:qw j r st (s :: l)=qw j r (zF j r st s) l:=rfl
  rw [e]
  have e2:zF j r st s=Qe j r (je j.table s.c).key s.sort s.g s.c s.p (qP j.table s) st:=rfl
  rw [← e2] at h2
  have e3:(B+8)*(s :: l).length=(B+8)*l.length+(B+8):=by rw [List.length_cons,Nat.mul_add,Nat.mul_one]
  rw [e3]
  omega
theorem Mh (R G P g c:Nat) (hP:1≤P):(jg R G P g c).length≤jo R G g+1:=by
 have h1:=Qq (n:=jo R G g) hP
 unfold jg jr
 simp
 omega
theorem Cs (R G P g C:Nat) (hP:1≤P):(jp R G P g C).length≤(jo R G g+1)*C:=by
 induction C with
 | zero=>simp [jp]
 | succ C ih =>
  have h:jp R G P g (C+1)=jp R G P g C++jg R G P g C:=by simp [jp,List.range_succ]
  have h2:=Mh R G P g C hP
  rw [h,List.length_append,Nat.mul_add,Nat.mul_one]
  omega
theorem SU (R C G P:Nat) (hP:1≤P) (hG:1≤G):∀ n,n≤jZ R G→(jy R C G P n).length≤2*min (n*G) R*C:=by
 intro n
 induction n with
 | zero=>intro _;simp [jy]
 | succ n ih =>
  intro hn
  have hnG:n*G < R:=(Ju hG).1 (by omega)
  have h1:=ih (by omega)
  have h2:=Cs R G P n C hP
  have h3:0 < jo R G n:=(UU hG).2 hnG
  have h4:=QP R G n hnG
  have h5:min ((n+1)*G) R=min (n*G) R+jo R G n:=by rw [Nat.succ_mul];omega
  rw [zC,List.length_append,h5]
  have h6:(jo R G n+1)*C≤2*jo R G n*C:=Nat.mul_le_mul_right _ (by omega)
  have h7:2*(min (n*G) R+jo R G n)*C=2*min (n*G) R*C+2*jo R G n*C:=by rw [Nat.mul_add,Nat.add_mul]
  omega
theorem Ts {j:JobB} {r:List KeyB} (h:GoodJ j r) (hC:j.table.length≤4) (hR:jY j.table≤20) (hP:j.plan.page.toNat≤6):(xC j r).length≤65000:=by
 obtain ⟨⟨a,b⟩,⟨c,d⟩,_⟩:=h.sizes
 have hpl:∀ s ∈ qS j,(qP j.table s).length≤250:=fun s hs=>by
  have hin:=h.spotIn s hs
  refine MZ h.table hin.col hin.few.2.2.2.2 (fun hne=>?_)
  simp only [qS,qi,jy,jp,List.mem_flatMap,List.mem_range] at hs
  obtain ⟨g,_,k,_,hs⟩:=hs
  rcases List.mem_append.1 hs with hs|hs
  ·simp only [jr,List.mem_map,List.mem_range] at hs
   obtain ⟨p,_,rfl⟩:=hs
   have:=(Jo (jo (jY j.table) j.plan.group.toNat g) j.plan.page.toNat p).1
   simp only
   omega
  ·simp only [List.mem_cons,List.not_mem_nil,or_false] at hs
   subst hs
   exact absurd rfl hne
 have h1:=EY (r:=r) 250 (qS j) ⟨za j.plan,[]⟩ hpl
 have h2:(qS j).length≤2*min (jZ (jY j.table) j.plan.group.toNat*j.plan.group.toNat) (jY j.table)*j.table.length:=SU _ _ _ _ c a _ (Nat.le_refl _)
 have h3:2*min (jZ (jY j.table) j.plan.group.toNat*j.plan.group.toNat) (jY j.table)*j.table.length≤40*4:=Nat.mul_le_mul (by omega) hC
 have h4:(xq j r).out.length≤4+258*(qS j).length:=h1
 have h5:=h.foot.2.2
 have h6:(Jf j r (xX j r) (xq j r)).out.length≤(xq j r).out.length+4000:=by
  unfold Jf
  split
  ·have e1:=(Kq j.draw (jl r j.plan.foot) (qE j.pre 83 0 0 0++xX j r) [] (zP (xX j r) (xq j r))).1
   have e2:=Ux (xX j r) (xq j r)
   rw [e1,e2]
   simp
   omega
  ·have e1:=(Kq j.draw (jl r j.plan.foot) (qE j.pre 70 0 0 0) (xX j r) (xq j r)).1
   rw [e1]
   omega
 unfold xC
 simp only [List.length_append,jv,List.length_cons,List.length_nil]
 omega
end
section
def atB (raw:List Int) (i:Nat):Int:=raw.getD (i % raw.length) 0
def QT (x:Int):Prop:=-9223372036854775808≤x∧x≤9223372036854775807
theorem RE (raw:List Int) (i:Nat) (h:∀ x ∈ raw,QT x):QT (atB raw i):=by
 unfold atB
 rw [List.getD_eq_getElem?_getD]
 cases hq:raw[i % raw.length]? with
 | none=>simp [QT]
 | some x=>exact h x (List.mem_of_getElem? hq)
def Zh (v:Int):Nat→Int
 | 0=>v
 | k+1=>Zh v k / 3
theorem Yf (v:Int) (h0:0≤v) (h1:v≤1099511627776) (k:Nat):0≤Zh v k∧Zh v k≤1099511627776:=by
 induction k with
 | zero=>exact ⟨h0,h1⟩
 | succ k ih=>obtain ⟨a,b⟩:=ih;simp only [Zh];omega
def Zg (v:Int):Nat→List UInt8
 | 0=>[]
 | k+1=>Zg v k++[byB (97+Zh v k % 3)]
theorem Ri (v:Int) (k:Nat):(Zg v k).length=k:=by
 induction k with
 | zero=>rfl
 | succ k ih=>simp [Zg,ih]
def XQ (c:Int):List UInt8:=Zg (qe c 1099511627776 / 13) (qe c 1099511627776 % 13).toNat
theorem EB (c:Int):(XQ c).length≤12:=by
 unfold XQ;rw [Ri];omega
def ze (kind c:Int):CellB :=
 if qe c 1099511627776 % 5=0 then ⟨true,0,[]⟩
 else if kind=1 then ⟨false,0,XQ (qe c 1099511627776 / 5)⟩
 else if qe c 1099511627776 % 5=1 then ⟨false,c,[]⟩ else ⟨false,qe c 1099511627776 / 5 % 40,[]⟩
theorem YR (kind c:Int) (hk:kind=0∨kind=1) (hc:QT c):qM kind (ze kind c)=true∧QT (ze kind c).int:=by
 have ht:=EB (qe c 1099511627776 / 5)
 unfold ze
 split
 ·exact ⟨by simp [qM],by simp [QT]⟩
 ·split
  ·rename_i h;subst h;exact ⟨by simp [qM,ht],by simp [QT]⟩
  ·rename_i h
   have h0:kind=0:=by omega
   subst h0
   split
   ·exact ⟨by simp [qM],hc⟩
   ·exact ⟨by simp [qM],by simp only [QT];omega⟩
def QB (i:Nat):List UInt8:=[99,UInt8.ofNat (97+i)]
def qr (raw:List Int):Nat:=(qe (atB raw 1) 20).toNat
def zI (raw:List Int):Nat:=(1+qe (atB raw 0) 4).toNat
def QG (raw:List Int) (i:Nat):Int:=qe (atB raw (6+i)) 2
def Xq (raw:List Int) (i n:Nat):ColB :=
 ⟨QB i,QG raw i,qe (atB raw (10+i)) 5,(List.range n).map fun k=>ze (QG raw i) (atB raw (14+i*qr raw+k))⟩
def Jw (raw:List Int) (k:Nat):List ColB:=(List.range k).map fun i=>Xq raw i (qr raw)
def KN (raw:List Int):PlanB:=⟨1+qe (atB raw 3) 12,1+qe (atB raw 4) 6,5,decide (qe (atB raw 5) 2=1)⟩
def qg (raw:List Int) (pre:List UInt8):JobB:=⟨Jw raw (zI raw),KN raw,pre.take 20,qe (atB raw 2) 65536⟩
theorem Zp (raw:List Int):1≤zI raw∧zI raw≤4:=by
 have:=qG (atB raw 0) 4 (by decide)
 unfold zI;omega
theorem Ze (raw:List Int):qr raw≤19:=by
 have:=qG (atB raw 1) 20 (by decide)
 unfold qr;omega
theorem Zo (raw:List Int) (i:Nat):QG raw i=0∨QG raw i=1:=by
 have:=qG (atB raw (6+i)) 2 (by decide)
 unfold QG;omega
theorem QY (raw:List Int) (k:Nat):(Jw raw k).length=k:=by simp [Jw]
theorem Zc (raw:List Int) (k i:Nat) (h:i < (Jw raw k).length):(Jw raw k)[i]=Xq raw i (qr raw):=by simp [Jw]
theorem Dq {i:Nat} (h:i < 4):zj (QB i)=true:=by
 have:i=0∨i=1∨i=2∨i=3:=by omega
 rcases this with rfl|rfl|rfl|rfl<;>decide
theorem Iu {i k:Nat} (hi:i < 4) (hk:k < 4) (h:QB i=QB k):i=k:=by
 have:i=0∨i=1∨i=2∨i=3:=by omega
 have:k=0∨k=1∨k=2∨k=3:=by omega
 rcases ‹i=0∨_› with rfl|rfl|rfl|rfl<;>rcases ‹k=0∨_› with rfl|rfl|rfl|rfl<;>first|rfl|(exfalso;revert h;decide)
theorem IC (t:List ColB) (n:Nat) (hn:n≤t.length) (h4:t.length≤4) (ht:∀ k (hk:k < t.length),(t[k]).name=QB k∧((t[k]).kind=0∨(t[k]).kind=1)∧0≤(t[k]).key∧(t[k]).key≤9):zH t n=true:=by
 induction n with
 | zero=>rfl
 | succ n ih =>
  have hlt:n < t.length:=by omega
  obtain ⟨h1,h2,h3,h4'⟩:=ht n hlt
  simp only [zH,ih (by omega),Bool.true_and]
  rw [List.getElem?_eq_getElem hlt]
  simp only [JZ,h1,Dq (show n < 4 by omega),Bool.true_and,Bool.and_eq_true,decide_eq_true_eq,Bool.not_eq_true']
  refine ⟨⟨⟨by omega,by omega⟩,h3,h4'⟩,?_⟩
  unfold xL
  rw [List.any_eq_false]
  intro c hc
  obtain ⟨k,hk,rfl⟩:=List.mem_iff_getElem.1 hc
  rw [List.length_take] at hk
  rw [List.getElem_take,(ht k (by omega)).1]
  simp only [beq_iff_eq]
  intro e
  have:=Iu (by omega) (by omega) e
  omega
theorem To (t:List ColB) (n:Nat) (h1:1≤t.length) (h4:t.length≤4) (hn:n≤60) (ht:∀ k (hk:k < t.length),(t[k]).name=QB k∧((t[k]).kind=0∨(t[k]).kind=1)∧0≤(t[k]).key∧(t[k]).key≤9)
  (hc:∀ c ∈ t,c.cells.length=n∧∀ x ∈ c.cells,qM c.kind x=true∧QT x.int):GoodT t:=by
 have hr:jY t=n:=by
  cases t with
  | nil=>simp at h1
  | cons c l=>exact (hc c (List.mem_cons_self ..)).1
 refine ⟨?_,fun c hc' x hx=>((hc c hc').2 x hx).2⟩
 simp only [xl,jQ,Bool.and_eq_true,decide_eq_true_eq,List.all_eq_true]
 refine ⟨⟨IC t _ (Nat.le_refl _) h4 ht,h1,by omega⟩,fun c hc'=>?_⟩
 obtain ⟨k,hk,rfl⟩:=List.mem_iff_getElem.1 hc'
 obtain ⟨a,b⟩:=hc _ hc'
 have h2:=(ht k hk).2.1
 simp only [jR,Bool.and_eq_true,Bool.or_eq_true,decide_eq_true_eq,List.all_eq_true]
 exact ⟨⟨⟨h2,by omega⟩,fun x hx=>(b x hx).1⟩,by rw [hr];exact a⟩
theorem CQ {p:PlanB} (h:(1≤p.group∧p.group≤60)∧((1≤p.page∧p.page≤60)∧(1≤p.foot∧p.foot≤9))):qB p=true:=by
 simp only [qB,Bool.and_eq_true,decide_eq_true_eq]
 exact h
theorem As (raw:List Int):qB (KN raw)=true:=by
 have h1:=qG (atB raw 3) 12 (by decide)
 have h2:=qG (atB raw 4) 6 (by decide)
 refine CQ ⟨⟨?_,?_⟩,⟨?_,?_⟩,?_,?_⟩<;>simp only [KN]<;>omega
def jL (c without:Int):List KeyB:=(Jj c without 5).map fun x=>⟨(x.1:Int),x.2⟩
end
end Go.Proofs.YthhpbhpfagoapaaGreat
