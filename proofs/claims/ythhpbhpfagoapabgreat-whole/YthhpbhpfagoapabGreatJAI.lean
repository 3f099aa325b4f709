import Derived.Test.YthhpbhpfagoapabGreatJAR
import Derived.Test.YthhpbhpfagoapabGreatJAL
import Derived.Lib.Strings
import Derived.Test.YthhpbhpfagoapabGreatJAT
import Derived.Test.YthhpbhpfagoapabGreatJAZ
import Derived.Test.YthhpbhpfagoapabGreatJAP
namespace Go.Proofs.YthhpbhpfagoapabGreat
set_option linter.unusedVariables false
set_option linter.unusedSimpArgs false
set_option maxRecDepth 100000
set_option maxHeartbeats 16000000
section
open Go.RowKit
theorem Rk (n:Nat):qI 0 n=false:=by
 have h:∀ x:Int,bits .and .i64 0 x=0:=by
  intro x
  show IntKind.i64.wrap ((BitVec.ofInt 64 0 &&& BitVec.ofInt 64 x).toNat:Nat)=0
  simp
  decide
 unfold qI
 rw [h]
 rfl
theorem XL (c without:Int):xH (jV c without)=true∧(∀ n:Int,1≤n→n≤5→jw (jV c without) n=!qI without n.toNat)∧(∀ n:Int,1≤n→n≤5→qI without n.toNat=false→ji (jV c without) n=xq c n.toNat)∧(jV c without).length≤5∧∀ x ∈ jV c without,Cv x:=by
 have e:jV c without=((((if qI without 1=true then [] else [(⟨1,xq c 1⟩:KeyB)])++(if qI without 2=true then [] else [⟨2,xq c 2⟩]))++(if qI without 3=true then [] else [⟨3,xq c 3⟩]))++(if qI without 4=true then [] else [⟨4,xq c 4⟩]))++(if qI without 5=true then [] else [⟨5,xq c 5⟩]):=by
  simp only [jV,JG,List.map_append,List.nil_append]
  cases qI without 1<;>cases qI without 2<;>cases qI without 3<;>cases qI without 4<;>cases qI without 5<;>simp
 have l:=fun n=>XS c n
 rw [e]
 refine ⟨?_,?_,?_,?_,?_⟩
 ·cases qI without 1<;>cases qI without 2<;>cases qI without 3<;>cases qI without 4<;>cases qI without 5<;>simp [xH,XT,QM,jw,l]
 ·intro n h1 h5
  have:n=1∨n=2∨n=3∨n=4∨n=5:=by omega
  rcases this with rfl|rfl|rfl|rfl|rfl
  ·show _=!qI without 1
   cases qI without 1<;>cases qI without 2<;>cases qI without 3<;>cases qI without 4<;>cases qI without 5<;>simp [jw]
  ·show _=!qI without 2
   cases qI without 1<;>cases qI without 2<;>cases qI without 3<;>cases qI without 4<;>cases qI without 5<;>simp [jw]
  ·show _=!qI without 3
   cases qI without 1<;>cases qI without 2<;>cases qI without 3<;>cases qI without 4<;>cases qI without 5<;>simp [jw]
  ·show _=!qI without 4
   cases qI without 1<;>cases qI without 2<;>cases qI without 3<;>cases qI without 4<;>cases qI without 5<;>simp [jw]
  ·show _=!qI without 5
   cases qI without 1<;>cases qI without 2<;>cases qI without 3<;>cases qI without 4<;>cases qI without 5<;>simp [jw]
 ·intro n h1 h5 ho
  have:n=1∨n=2∨n=3∨n=4∨n=5:=by omega
  rcases this with rfl|rfl|rfl|rfl|rfl
  ·have ho':qI without 1=false:=ho
   show _=xq c 1
   rw [ho']
   cases qI without 2<;>cases qI without 3<;>cases qI without 4<;>cases qI without 5<;>simp [ji,KM]
  ·have ho':qI without 2=false:=ho
   show _=xq c 2
   rw [ho']
   cases qI without 1<;>cases qI without 3<;>cases qI without 4<;>cases qI without 5<;>simp [ji,KM]
  ·have ho':qI without 3=false:=ho
   show _=xq c 3
   rw [ho']
   cases qI without 1<;>cases qI without 2<;>cases qI without 4<;>cases qI without 5<;>simp [ji,KM]
  ·have ho':qI without 4=false:=ho
   show _=xq c 4
   rw [ho']
   cases qI without 1<;>cases qI without 2<;>cases qI without 3<;>cases qI without 5<;>simp [ji,KM]
  ·have ho':qI without 5=false:=ho
   show _=xq c 5
   rw [ho']
   cases qI without 1<;>cases qI without 2<;>cases qI without 3<;>cases qI without 4<;>simp [ji,KM]
 ·cases qI without 1<;>cases qI without 2<;>cases qI without 3<;>cases qI without 4<;>cases qI without 5<;>simp
 ·intro x hx
  have hx2:x=⟨1,xq c 1⟩∨x=⟨2,xq c 2⟩∨x=⟨3,xq c 3⟩∨x=⟨4,xq c 4⟩∨x=⟨5,xq c 5⟩:=by
   simp only [List.mem_append] at hx
   rcases hx with (((hx|hx)|hx)|hx)|hx<;>split at hx<;>simp at hx<;>simp [hx]
  rcases hx2 with rfl|rfl|rfl|rfl|rfl<;>exact ⟨by rw [l];decide,by dsimp only;omega,by dsimp only;omega⟩
theorem Yo (c without:Int) {n:Int} (h1:1≤n) (h5:n≤5) (h:jw (jV c without) n=true):ji (jV c without) n=ji (jV c 0) n:=by
 have ho:qI without n.toNat=false:=by
  have:=(XL c without).2.1 n h1 h5
  rw [h] at this
  cases hq:qI without n.toNat with
  | false=>rfl
  | true=>rw [hq] at this;cases this
 rw [(XL c without).2.2.1 n h1 h5 ho,(XL c 0).2.2.1 n h1 h5 (Rk _)]
end
section
open Go.RowKit
def NR (a b c d m:Nat):Int:=if a≠8 then 1 else if b≠4 then 2 else if 5000 < c∨5000+m < d then 3 else 0
def Kt (a b:Nat):Int:=if a≠8 then 1 else if b≠4 then 2 else 0
theorem Tn (sec non:ByteArray) (w:World) (h1:sec.size≤maxLen) (h2:non.size≤maxLen) :
  Calls Tryz.prog 56 #[.string sec,.string non] w fun e w'=>e=.returned (.int .i64 (Kt sec.size non.size))∧w'=w:=by
 unfold maxLen at h1 h2
 by_cases g1:sec.size=8
 ·have e1:((sec.size:Int) != 8)=false:=by simp [g1]
  by_cases g2:non.size=4
  ·have e2:((non.size:Int) != 4)=false:=by simp [g2]
   have HE:Hid (Kt sec.size non.size=0):=by simp [Hid,Kt,g1,g2]
   clear g1 g2
   go_enter Tryz.func56,Tryz.ntmps56
   go_wp2
   go_ret
   exact ⟨xb HE.out.symm,rfl⟩
  ·have e2:((non.size:Int) != 4)=true:=by rw [bne_iff_ne];omega
   have HE:Hid (Kt sec.size non.size=2):=by simp [Hid,Kt,g1,g2]
   clear g1 g2
   go_enter Tryz.func56,Tryz.ntmps56
   go_wp2
   go_ret
   exact ⟨xb HE.out.symm,rfl⟩
 ·have e1:((sec.size:Int) != 8)=true:=by rw [bne_iff_ne];omega
  have HE:Hid (Kt sec.size non.size=1):=by simp [Hid,Kt,g1]
  clear g1
  go_enter Tryz.func56,Tryz.ntmps56
  go_wp2
  go_ret
  exact ⟨xb HE.out.symm,rfl⟩
theorem MY {a b c d m:Nat} (h:NR a b c d m=0):a=8∧b=4∧c≤5000∧d≤5000+m:=by
 unfold NR at h
 by_cases g1:a=8<;>by_cases g2:b=4<;>by_cases g3:5000 < c<;>by_cases g4:5000+m < d<;>simp_all
end
section
open Go.RowKit
def Ir (body:List UInt8):List UInt8:=body.take (body.length - 2)
def LD (body:List UInt8):List UInt8:=body.drop (body.length - 2)
def XO (sec non ext body:List UInt8):Bool:=LD body == NK sec non ext (Ir body)
theorem IZ (sec non ext c:List UInt8):xX sec non ext (zA sec non c)=c++NK sec non ext c:=by
 unfold xX
 rw [GQ]
theorem NP (sec non ext body:List UInt8):(xX sec non ext (zA sec non (Ir body)) == body)=XO sec non ext body:=by
 rw [IZ]
 have h:body=Ir body++LD body:=(List.take_append_drop _ _).symm
 unfold XO
 rw [Bool.eq_iff_iff]
 simp only [beq_iff_eq]
 constructor
 ·intro e
  have:=e.trans h
  exact (List.append_cancel_left this).symm
 ·intro e
  rw [← e];exact h.symm
theorem AO (sec non ext body:ByteArray) (w:World) (h:body.size < 2) :
  Calls Tryz.prog 57 #[.string sec,.string non,.string ext,.string body] w fun e w' =>
   e=.returned (.tuple #[strB [],.bool false])∧w'=w:=by
 go_enter Tryz.func57,Tryz.ntmps57
 go_wp2
 go_ret2
 exact ⟨rfl,rfl⟩
theorem AN (b:ByteArray):b.data.toList.length=b.size:=by simp
theorem LA (body:ByteArray):(body.extract 0 (body.size - 2)).data.toList=Ir body.data.toList:=by
 simp [Ir]
theorem SE (body:ByteArray) (hb:body.size≤5002):(body.extract 0 (body.size - 2)).size≤5000:=by
 simp;omega
theorem Sx (sec non ext:List UInt8) (body:ByteArray) (h:2≤body.size) :
  (!(body.extract ((body.size:Int) - 2).toNat body.size).toList == NK sec non ext (List.take (body.size - 2) body.data.toList))=!XO sec non ext body.data.toList:=by
 have e1:((body.size:Int) - 2).toNat=body.size - 2:=by omega
 have e2:(body.extract (body.size - 2) body.size).toList=LD body.data.toList:=by
  unfold LD
  rw [AN,Lib.extract_toList,List.take_of_length_le (by rw [List.length_drop,AN];omega)]
 rw [e1,e2]
 rfl
theorem Yz (sec non ext body:ByteArray) (w:World) (h:2≤body.size) (hb:body.size≤5002) (h1:sec.size≤1000) (h2:non.size≤1000) (h3:ext.size≤5000)
  (ho:XO sec.data.toList non.data.toList ext.data.toList body.data.toList=true) :
  Calls Tryz.prog 57 #[.string sec,.string non,.string ext,.string body] w fun e w' =>
   e=.returned (.tuple #[strB (zA sec.data.toList non.data.toList (Ir body.data.toList)),.bool true])∧Below w.heap.size w w':=by
 have hm:(1000:Nat)≤maxLen:=by decide
 have i1:(2:Int)≤(body.size:Int):=by omega
 have i2:(body.size:Int) - 2≤(body.size:Int):=by omega
 have i3:(0:Int)≤(body.size:Int) - 2:=by omega
 have hcmp:=Sx sec.data.toList non.data.toList ext.data.toList body h
 rw [ho] at hcmp
 clear ho
 go_enter Tryz.func57,Tryz.ntmps57
 go_wp2_with fail
 go_region_with (go_at_call 88;refine (Ej sec non ext _ _ (Nat.le_trans h1 hm) (Nat.le_trans h2 hm) h3 ?_).mono ?_;(simp;unfold maxLen;omega);rintro e w1 ⟨rfl,hb1⟩)
 all_goals
  go_wp2_with fail
  refine (Dl sec non _ _ (Nat.le_trans h1 hm) (Nat.le_trans h2 hm) (SE body hb)).mono ?_
  rintro e w2 ⟨rfl,hb2⟩
  rw [LA]
  go_wp2
  go_ret2
  exact ⟨rfl,(jl hb1).trans (hb2.mono hb1.size)⟩
theorem SJ (sec non ext body:ByteArray) (w:World) (h:2≤body.size) (hb:body.size≤5002) (h1:sec.size≤1000) (h2:non.size≤1000) (h3:ext.size≤5000)
  (ho:XO sec.data.toList non.data.toList ext.data.toList body.data.toList=false) :
  Calls Tryz.prog 57 #[.string sec,.string non,.string ext,.string body] w fun e w' =>
   e=.returned (.tuple #[strB [],.bool false])∧Below w.heap.size w w':=by
 have hm:(1000:Nat)≤maxLen:=by decide
 have i1:(2:Int)≤(body.size:Int):=by omega
 have i2:(body.size:Int) - 2≤(body.size:Int):=by omega
 have i3:(0:Int)≤(body.size:Int) - 2:=by omega
 have hcmp:=Sx sec.data.toList non.data.toList ext.data.toList body h
 rw [ho] at hcmp
 clear ho
 go_enter Tryz.func57,Tryz.ntmps57
 go_wp2_with fail
 go_region_with (go_at_call 88;refine (Ej sec non ext _ _ (Nat.le_trans h1 hm) (Nat.le_trans h2 hm) h3 ?_).mono ?_;(simp;unfold maxLen;omega);rintro e w1 ⟨rfl,hb1⟩)
 all_goals
  go_wp2
  go_ret2
  exact ⟨rfl,jl hb1⟩
theorem Lh (sec non ext body:ByteArray) (w:World) (h1:sec.size≤maxLen) (h2:non.size≤maxLen) (h3:ext.size≤maxLen) (h4:body.size≤maxLen)
  (hz:NR sec.size non.size ext.size body.size 2=0) (h:2≤body.size) (ho:XO sec.data.toList non.data.toList ext.data.toList body.data.toList=true) :
  Calls Tryz.prog 32 #[.string sec,.string non,.string ext,.string body] w fun e w' =>
   e=.returned (.tuple #[strB (zA sec.data.toList non.data.toList (Ir body.data.toList)),.int .i64 0])∧Below w.heap.size w w':=by
 obtain ⟨a1,a2,a3,a4⟩:=MY hz
 have HA:=hid a1
 have HB:=hid a2
 have Ho:=hid ho
 have hc:Kt sec.size non.size=0:=by simp [Kt,a1,a2]
 have Hc:=hid hc
 clear hz a1 a2 hc ho
 go_enter Tryz.func32,Tryz.ntmps32
 go_wp2_with fail
 refine (Tn sec non w h1 h2).mono ?_
 rintro e w1 ⟨rfl,rfl⟩
 rw [Hc.out]
 go_wp2_with fail
 refine (Yz sec non ext body _ h (by omega) (by rw [HA.out];decide) (by rw [HB.out];decide) a3 Ho.out).mono ?_
 rintro e w2 ⟨rfl,hb2⟩
 go_wp2
 go_ret2
 exact ⟨rfl,hb2⟩
end
section
theorem Xe (pre:List UInt8) (r:List KeyB) (key:Int) (c:Nat):∀ (L:List SpotB) (M:List ModF) (L2:List SpotB) (M2:List ModF),M.length=L.length →
  xm pre r key c (L++L2) (M++M2)=xm pre r key c L M++xm pre r key c L2 M2:=by
 intro L
 induction L with
 | nil=>intro M L2 M2 h;rw [List.eq_nil_of_length_eq_zero h];simp [xm]
 | cons s L ih =>
  intro M L2 M2 h
  cases M with
  | nil=>simp at h
  | cons m M =>
   simp only [List.cons_append,xm]
   rw [ih M L2 M2 (by simpa using h),List.append_assoc]
theorem GP (pre:List UInt8) (r:List KeyB) (key:Int) (c:Nat):∀ (L:List SpotB) (M:List ModF),(∀ s ∈ L,s.c≠c)→xm pre r key c L M=[]:=by
 intro L
 induction L with
 | nil=>intro M _;cases M<;>rfl
 | cons s L ih =>
  intro M h
  cases M with
  | nil=>rfl
  | cons m M =>
   simp only [xm]
   rw [if_neg (h s (by simp)),ih M (fun y hy=>h y (List.mem_cons_of_mem _ hy))]
   rfl
def Rp (pre:List UInt8) (r:List KeyB) (key:Int) (sort:UInt8) (g c p:Nat) (m:ModF):SealB:=⟨ji r key,m.nonce,jR pre sort g c p,m.body⟩
def zg (pre:List UInt8) (r:List KeyB) (key:Int) (g c:Nat) (mp:List ModF) (mm:ModF):List SealB:=mp.mapIdx (fun i m=>Rp pre r key 80 g c i m)++[Rp pre r key 77 g c 0 mm]
theorem Iv (pre:List UInt8) (r:List KeyB) (key:Int) (P g c start n:Nat):∀ (mp:List ModF),xm pre r key c (jt P g c start n mp.length) mp=mp.mapIdx (fun i m=>Rp pre r key 80 g c i m):=by
 intro mp
 have key2:∀ (k:Nat) (l:List ModF),l.length=k→xm pre r key c (jt P g c start n k) l=l.mapIdx (fun i m=>Rp pre r key 80 g c i m):=by
  intro k
  induction k with
  | zero=>intro l hl;rw [List.eq_nil_of_length_eq_zero hl];rfl
  | succ k ih =>
   intro l hl
   obtain ⟨l',m,rfl⟩:∃ l' m,l=l'++[m]:=⟨l.dropLast,l.getLast (by intro e;subst e;simp at hl),(List.dropLast_concat_getLast _).symm⟩
   have hl':l'.length=k:=by simpa using hl
   have e:jt P g c start n (k+1)=jt P g c start n k++[⟨80,g,c,k,start+k*P,jp n P k⟩]:=by simp [jt,List.range_succ]
   rw [e,Xe _ _ _ _ _ _ _ _ (by simp [jt,hl']),ih l' hl',List.mapIdx_append]
   congr 1
   simp [xm,Rp,hl']
 exact key2 mp.length mp rfl
theorem Ed (pre:List UInt8) (r:List KeyB) (key:Int) {R G P g c:Nat} (mp:List ModF) (mm:ModF) (hm:mp.length=jX (jp R G g) P):xm pre r key c (jh R G P g c) (mp++[mm])=zg pre r key g c mp mm:=by
 unfold jh zg
 rw [← hm,Xe _ _ _ _ _ _ _ _ (by simp [jt]),Iv]
 simp [xm,Rp]
theorem EL {t:List ColB} {Q:Nat→Nat→List ModF} {R G P g:Nat} (pre:List UInt8) (r:List KeyB) (key:Int) (c:Nat):∀ {C:Nat},(∀ i,i < C→ModsOk t (jh R G P g i) (Q g i)) →
  xm pre r key c (jr R G P g C) (xu Q g C)=if c < C then xm pre r key c (jh R G P g c) (Q g c) else []:=by
 intro C
 induction C with
 | zero=>intro _;simp [jr,xu,xm]
 | succ C ih =>
  intro h
  rw [zR,zM,Xe _ _ _ _ _ _ _ _ (qT (XE (fun i hi=>h i (by omega)))),ih (fun i hi=>h i (by omega))]
  by_cases hc:c < C
  ·rw [if_pos hc,if_pos (by omega),GP pre r key c (jh R G P g C) (Q g C) (fun s hs=>by rw [Qg s hs];omega),List.append_nil]
  ·rw [if_neg hc]
   by_cases he:c=C
   ·subst he;rw [if_pos (by omega)];rfl
   ·rw [if_neg (by omega),GP pre r key c (jh R G P g C) (Q g C) (fun s hs=>by rw [Qg s hs];omega)]
    rfl
def zo (pre:List UInt8) (r:List KeyB) (key:Int) (c:Nat) (Qp:Nat→Nat→List ModF) (Qm:Nat→Nat→ModF) (n:Nat):List SealB:=(List.range n).flatMap fun g=>zg pre r key g c (Qp g c) (Qm g c)
theorem UJ (pre:List UInt8) (r:List KeyB) (key:Int) (c:Nat) (Qp:Nat→Nat→List ModF) (Qm:Nat→Nat→ModF) (n:Nat):zo pre r key c Qp Qm (n+1)=zo pre r key c Qp Qm n++zg pre r key n c (Qp n c) (Qm n c):=by simp [zo,List.range_succ]
theorem TO {t:List ColB} {Qp:Nat→Nat→List ModF} {Qm:Nat→Nat→ModF} {R C G P:Nat} (pre:List UInt8) (r:List KeyB) (key:Int) {c:Nat} (hc:c < C):∀ {n:Nat},(∀ g,g < n→∀ i,i < C→ModsOk t (jh R G P g i) (Qp g i++[Qm g i])∧(Qp g i).length=jX (jp R G g) P) →
  xm pre r key c (jH R C G P n) (xk (fun g c=>Qp g c++[Qm g c]) C n)=zo pre r key c Qp Qm n:=by
 intro n
 induction n with
 | zero=>intro _;rfl
 | succ n ih =>
  intro h
  rw [Qk,zJ,Xe _ _ _ _ _ _ _ _ (qT (VW (Q:=fun g c=>Qp g c++[Qm g c]) (fun g hg i hi=>(h g (by omega) i hi).1))),ih (fun g hg=>h g (by omega)),EL (t:=t) (Q:=fun g c=>Qp g c++[Qm g c]) pre r key c (fun i hi=>(h n (by omega) i hi).1),if_pos hc,UJ,Ed _ _ _ _ _ (h n (by omega) c hc).2]
theorem RJ (pre:List UInt8) (r:List KeyB) (key:Int) (g c:Nat) (mp:List ModF) (mm:ModF):(zg pre r key g c mp mm).length=mp.length+1:=by simp [zg]
def Ru (key:Int) (g c:Nat) (mp:List ModF) (mm:ModF) (i:Nat):List Value :=
 if h:i < mp.length then [strB [80],.int .i64 (g:Int),.int .i64 (c:Int),.int .i64 (i:Int),strB (jO key mp[i]).1,strB (jO key mp[i]).2] else [strB [77],.int .i64 (g:Int),.int .i64 (c:Int),.int .i64 0,strB (jO key mm).1,strB (jO key mm).2]
end
section
open Go.RowKit
theorem AP (a:Option Addr) (cap:Nat) (j:JobB) (ra:Option Addr) (rcap:Nat) (r:List KeyB) (w:World) (hj:LiesJ w a cap j) (hr:LiesK w ra r) (hrm:r.length≤maxLen) :
  Calls Tryz.prog 61 #[jobV (.slice a j.table.length cap) j,.slice ra r.length rcap] w fun e w'=>e=.returned (.bool (KK j.table r j.table.length && jw r j.plan.foot))∧Below w.heap.size w w':=by
 have Hj:=hid hj
 have Hr:=hid hr
 have hlen:=hj.len
 unfold maxLen at hlen
 clear hj hr
 go_enter Tryz.func61,Tryz.ntmps61
 go_wp2
 obtain ⟨hb0,hs1,_,_⟩:=jJ w #[.slice a j.table.length cap,.int .i64 j.plan.group,.int .i64 j.plan.page,.int .i64 j.plan.foot,.bool j.plan.told,strB j.pre,.int .i64 j.draw] 27
 have Hx0:=hid (Rb w (.slice a j.table.length cap) j 27)
 have Hj0:=hid (Hj.out.later hb0)
 have Hr0:=hid (Hr.out.later hb0)
 have Hb0:=hid hb0
 clear hb0
 generalize w.alloc _=w0 at *
 go_loopw [14] (fun i wr=>∃ k:Nat,k≤j.table.length∧i=.int .i64 k∧KK j.table r k=true∧Below w0.heap.size w0 wr) (fun i _=>j.table.length - (intOf i).toNat)
 case atStart=>exact ⟨0,Nat.zero_le _,rfl,rfl,Below.refl _ _⟩
 case round =>
  obtain ⟨k,hkl,rfl,hall,hB⟩:=hrel
  have Hall:=hid hall
  clear hall
  by_cases hlt:k < j.table.length
  ·obtain ⟨b,off,rfl,hbw,hcell⟩:=(Hj0.out.table.later hB).at_ (List.ne_nil_of_length_pos (by omega))
   obtain ⟨g1,g2,g3,v,g4,ca,cap2,rfl,_⟩:=hcell k hlt
   clear hcell
   have hki:(k:Int) < (j.table.length:Int):=by omega
   have HT:=hid (Ms (r:=r) hlt)
   have HNo:Hid ((decide ((j.table[k]).key=0) || jw r (j.table[k]).key)=false→KK j.table r j.table.length=false):=by
    intro h
    simp only [KK,List.take_length,List.all_eq_false]
    exact ⟨j.table[k],List.getElem_mem hlt,by rw [h];simp⟩
   go_wp2_with fail
   obtain ⟨hbb,hsb,hcb,_⟩:=jJ wr #[strB (j.table[k]).name,.int .i64 (j.table[k]).kind,.int .i64 (j.table[k]).key,.slice ca (j.table[k]).cells.length cap2] 31
   have y2:=hcb 2
   simp only [List.getElem?_toArray,List.getElem?_cons_zero,List.getElem?_cons_succ] at y2
   have hBb:=hB.trans (hbb.mono hB.size)
   clear hcb hbb g1 g2 g3 g4 hB hbw
   generalize wr.alloc _=wb at *
   refine (QX ra rcap r (j.table[k]).key wb hrm (Hr0.out.later hBb)).mono ?_
   rintro e w2 ⟨rfl,hb2⟩
   have z2:=(hb2.cell (p:=⟨wr.heap.size,2,none⟩) hsb).trans y2
   have hB2:=hBb.trans (hb2.mono hBb.size)
   have HBB:=hid (Hb0.out.trans (hB2.mono Hb0.out.size))
   clear y2 hBb hb2
   generalize ji r (j.table[k]).key=sv at *
   cases hn:jw r (j.table[k]).key with
   | true =>
    have HT2:Hid (KK j.table r (k+1)=true):=by show _=_;rw [HT.out,Hall.out,hn];simp
    clear hn HT
    go_wp2
    go_roundw
    case rel=>exact ⟨k+1,by omega,by go_num,HT2.out,hB2⟩
    case measure=>simp [intOf];omega
   | false =>
    rw [hn] at HT HNo
    clear hn
    by_cases hk0:(j.table[k]).key=0
    ·have HT2:Hid (KK j.table r (k+1)=true):=by show _=_;rw [HT.out,Hall.out];simp [hk0]
     rw [hk0] at z2
     clear HT HNo hk0
     go_wp2
     go_roundw
     case rel=>exact ⟨k+1,by omega,by go_num,HT2.out,hB2⟩
     case measure=>simp [intOf];omega
    ·have hk1:((j.table[k]).key != 0)=true:=by simp [hk0]
     have HX:Hid (KK j.table r j.table.length=false):=HNo.out (by simp [hk0])
     clear HT HNo hk0
     go_wp2
     go_ret
     exact ⟨jZ (by rw [HX.out];rfl),HBB.out⟩
  ·have hke:k=j.table.length:=by omega
   subst hke
   obtain ⟨x0,x1,x2,x3,x4,x5,x6⟩:=Hx0.out.later hs1 hB
   clear x0 x1 x2 x4 x5 x6
   go_wp2_with fail
   refine (QX ra rcap r j.plan.foot _ hrm (Hr0.out.later hB)).mono ?_
   rintro e w2 ⟨rfl,hb2⟩
   have hB2:=hB.trans (hb2.mono hB.size)
   have HBB:=hid (Hb0.out.trans (hB2.mono Hb0.out.size))
   clear x3 hb2 hB hB2
   generalize ji r j.plan.foot=sv at *
   go_wp2
   go_ret
   exact ⟨jZ (by rw [Hall.out];rfl),HBB.out⟩
theorem Is (a:Option Addr) (cap:Nat) (j:JobB) (ra:Option Addr) (rcap:Nat) (r:List KeyB) (w:World) (hj:LiesJ w a cap j) (hr:LiesK w ra r) (hrm:r.length≤maxLen) :
  Calls Tryz.prog 36 #[jobV (.slice a j.table.length cap) j,.slice ra r.length rcap] w fun e w'=>e=.returned (.int .i64 (zD j r))∧Below w.heap.size w w':=by
 have Hj:=hid hj
 have Hr:=hid hr
 have hlen:=hj.len
 have hpre:=hj.pre
 have Hpre:=hid hpre
 unfold maxLen at hlen hpre
 clear hj hr
 have HE:Hid (zD j r=if xz j.table=false then 5 else if VZ j=false then 7 else if xH r=false then 1 else if Kp j r=true then 8 else 0):=rfl
 have HP2:Hid (VZ j=(qP j.plan && (decide (j.pre.length≤20) && (decide (0≤j.draw) && decide (j.draw≤65535))))):=rfl
 have HHM:=hid (Dr (j:=j) (r:=r))
 go_enter Tryz.func36,Tryz.ntmps36
 go_wp2_with fail
 obtain ⟨hb0,hs1,_,_⟩:=jJ w #[.slice a j.table.length cap,.int .i64 j.plan.group,.int .i64 j.plan.page,.int .i64 j.plan.foot,.bool j.plan.told,strB j.pre,.int .i64 j.draw] 27
 have Hx0:=hid (Rb w (.slice a j.table.length cap) j 27)
 have Hj0:=hid (Hj.out.later hb0)
 have Hr0:=hid (Hr.out.later hb0)
 have Hb0:=hid hb0
 clear hb0
 generalize w.alloc _=w0 at *
 refine (Af a cap j.table w0 Hj.out.len Hj.out.cap_ Hj0.out.table).mono ?_
 rintro e w1 ⟨rfl,hb1⟩
 obtain ⟨x0,x1,x2,x3,x4,x5,x6⟩:=Hx0.out.later hs1 hb1
 have HB1:=hid (Hb0.out.trans (hb1.mono Hb0.out.size))
 cases ht:xz j.table with
 | false =>
  have Ht:=hid ht
  clear ht
  go_wp2
  go_ret
  exact ⟨xb (by rw [HE.out,Ht.out];rfl),HB1.out⟩
 | true =>
  have Ht:=hid ht
  clear ht
  go_wp2_with fail
  refine (Rv j.plan _).mono ?_
  rintro e w2 ⟨rfl,hb2⟩
  have hB2:=hb1.trans (hb2.mono hb1.size)
  have HB2:=hid (Hb0.out.trans (hB2.mono Hb0.out.size))
  clear x0 x1 x2 x3 x4 x5 x6 hb1 hb2
  obtain ⟨x0,x1,x2,x3,x4,x5,x6⟩:=Hx0.out.later hs1 hB2
  cases hp1:qP j.plan with
  | false =>
   have HX:Hid (VZ j=false):=by show _=_;rw [HP2.out,hp1];rfl
   clear hp1
   go_wp2
   go_ret
   exact ⟨xb (by rw [HE.out,Ht.out,HX.out];rfl),HB2.out⟩
  | true =>
   rw [hp1] at HP2
   clear hp1
   go_wp2_with fail
   refine (Vp j.pre _ Hpre.out).mono ?_
   rintro e w3 ⟨rfl,rfl⟩
   cases hp2:decide (j.pre.length≤20) with
   | false =>
    have HX:Hid (VZ j=false):=by show _=_;rw [HP2.out,hp2];rfl
    clear hp2
    go_wp2
    go_ret
    exact ⟨xb (by rw [HE.out,Ht.out,HX.out];rfl),HB2.out⟩
   | true =>
    rw [hp2] at HP2
    clear hp2
    go_wp2_with fail
    refine (DA j.draw _).mono ?_
    rintro e w3 ⟨rfl,rfl⟩
    cases hp3:(decide (0≤j.draw) && decide (j.draw≤65535)) with
    | false =>
     have HX:Hid (VZ j=false):=by show _=_;rw [HP2.out,hp3];rfl
     clear hp3
     go_wp2
     go_ret
     exact ⟨xb (by rw [HE.out,Ht.out,HX.out];rfl),HB2.out⟩
    | true =>
     have HX:Hid (VZ j=true):=by show _=_;rw [HP2.out,hp3];rfl
     clear hp3
     go_wp2_with fail
     refine (NE ra rcap r _ hrm (Hr0.out.later hB2)).mono ?_
     rintro e w3 ⟨rfl,hb3⟩
     have hB3:=hB2.trans (hb3.mono hB2.size)
     have HB3:=hid (Hb0.out.trans (hB3.mono Hb0.out.size))
     clear x0 x1 x2 x3 x4 x5 x6 hB2 hb3
     obtain ⟨x0,x1,x2,x3,x4,x5,x6⟩:=Hx0.out.later hs1 hB3
     cases hk:xH r with
     | false =>
      have Hk:=hid hk
      clear hk
      go_wp2
      go_ret
      exact ⟨xb (by rw [HE.out,Ht.out,HX.out,Hk.out];rfl),HB3.out⟩
     | true =>
      have Hk:=hid hk
      clear hk
      go_wp2_with fail
      refine (AP a cap j ra rcap r _ (Hj0.out.later hB3) (Hr0.out.later hB3) hrm).mono ?_
      rintro e w4 ⟨rfl,hb4⟩
      have HB4:=hid (HB3.out.trans (hb4.mono HB3.out.size))
      rw [HHM.out Ht.out]
      clear x0 x1 x2 x3 x4 x5 x6 hB3 hb4
      cases hms:Kp j r with
      | true =>
       have Hms:=hid hms
       clear hms
       go_wp2
       go_ret
       exact ⟨xb (by rw [HE.out,Ht.out,HX.out,Hk.out,Hms.out];rfl),HB4.out⟩
      | false =>
       have Hms:=hid hms
       clear hms
       go_wp2
       go_ret
       exact ⟨xb (by rw [HE.out,Ht.out,HX.out,Hk.out,Hms.out];rfl),HB4.out⟩
end
end Go.Proofs.YthhpbhpfagoapabGreat
