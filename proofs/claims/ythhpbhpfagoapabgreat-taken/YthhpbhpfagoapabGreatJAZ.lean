import Derived.Test.YthhpbhpfagoapabGreatJBA
import Derived.Test.YthhpbhpfagoapabGreatJAE
import Derived.Deep.RegionHeld3
import Derived.Deep.AppendLies
namespace Go.Proofs.YthhpbhpfagoapabGreat
set_option linter.unusedVariables false
set_option linter.unusedSimpArgs false
set_option maxRecDepth 100000
set_option maxHeartbeats 16000000
open Go.RowKit
section
theorem So (p:PlanB) (w:World) (h0:1≤p.foot) (h1:p.foot≤9) :
  Calls Tryz.prog 63 #[planV p] w fun e w'=>e=.returned (strB (zw p))∧Below w.heap.size w w':=by
 have HS:Hid (zw p=[67,70]++[if p.told=true then 79 else 69]++[byB p.foot]):=rfl
 have hwf:IntKind.u8.wrap p.foot=p.foot:=by simp only [IntKind.wrap_u8];omega
 obtain ⟨a,b,c,d⟩:=p
 simp only at *
 cases d with
 | true =>
  go_enter Tryz.func63,Tryz.ntmps63
  go_wp2_with fail
  refine (zR c _ (by omega) (by omega)).mono ?_
  rintro e w1 ⟨rfl,hb1⟩
  go_wp2_with fail
  refine (QF [[67,70],[79],[byB c]] _ 3 w1 rfl rfl (by decide) (by simp)).mono ?_
  rintro e w2 ⟨rfl,hb2⟩
  go_wp2
  go_ret
  exact ⟨xj (by rw [HS.out];simp),(xG hb1).trans (hb2.mono (xG hb1).size)⟩
 | false =>
  go_enter Tryz.func63,Tryz.ntmps63
  go_wp2_with fail
  refine (zR c _ (by omega) (by omega)).mono ?_
  rintro e w1 ⟨rfl,hb1⟩
  go_wp2_with fail
  refine (QF [[67,70],[69],[byB c]] _ 3 w1 rfl rfl (by decide) (by simp)).mono ?_
  rintro e w2 ⟨rfl,hb2⟩
  go_wp2
  go_ret
  exact ⟨xj (by rw [HS.out];simp),(xG hb1).trans (hb2.mono (xG hb1).size)⟩
theorem TS (w:World):Calls Tryz.prog 93 #[.slice none 0 0] w fun e w'=>e=.returned (strB [])∧Below w.heap.size w w':=by
 obtain ⟨i0,hi,hz0,hz1,hz2⟩:=info_parts Tryz.infoU8
 go_enter Tryz.func93,Tryz.ntmps93
 go_wp2
 go_loop [3,11] (fun t i=>i=.int .i64 0∧t=.int .i64 0) (fun _ _=>0)
 case atStart=>exact ⟨rfl,rfl⟩
 case round =>
  obtain ⟨rfl,rfl⟩:=hrel
  go_wp2_with (at_make;refine wpList_make_own _ rfl (.const (.int .i64 0)) (.tmp 20) 64 rfl w.heap.size 5 i0 (.int .u8 0) 1 Tryz.underlying64 hi hz0 hz1 .i64 .i64 _ 0 rfl rfl rfl (by rw [hz2];omega) (by unfold maxLen;omega) (Nat.le_refl _) ?_;intro w3 hown hgr)
  have hB3:Below w.heap.size w w3:=(Below.refl _ _).grown hgr (Nat.le_refl _) (fun _ h=>by cases h)
  clear hgr
  go_loopw [6,24] (fun v i wr=>i=.int .i64 0∧wr.ownsRow w.heap.size 5 1 v 0 (qw [])∧Below w.heap.size w wr) (fun _ _ _=>0)
  case atStart=>exact ⟨rfl,hown,hB3⟩
  case round =>
   clear hown hB3
   obtain ⟨rfl,hown,hB⟩:=hrel
   have hcv:=Km hown
   go_wp2
   go_ret
   exact ⟨rfl,hB⟩
abbrev modV (sort:UInt8) (g c p:Nat):Value:=.agg #[strB [sort],.int .i64 (g:Int),.int .i64 (c:Int),.int .i64 (p:Int)]
def BoxM (w:World) (q:Nat) (sort:UInt8) (g c p:Nat):Prop :=
 w.cell? ⟨q,0,none⟩=some (strB [sort])∧w.cell? ⟨q,1,none⟩=some (.int .i64 (g:Int))∧w.cell? ⟨q,2,none⟩=some (.int .i64 (c:Int))∧w.cell? ⟨q,3,none⟩=some (.int .i64 (p:Int))
theorem BoxM.later {w w':World} {q g c p:Nat} {sort:UInt8} (h:BoxM w q sort g c p) (hb:Below w.heap.size w w') (hq:q < w.heap.size):BoxM w' q sort g c p:=by
 obtain ⟨h0,h1,h2,h3⟩:=h
 exact ⟨(hb.cell (p:=⟨q,_,none⟩) hq).trans h0,(hb.cell (p:=⟨q,_,none⟩) hq).trans h1,(hb.cell (p:=⟨q,_,none⟩) hq).trans h2,(hb.cell (p:=⟨q,_,none⟩) hq).trans h3⟩
theorem BoxM.alloc {w:World} {q g c p:Nat} {sort:UInt8} (h:BoxM w q sort g c p) (o:Obj):BoxM (w.alloc o) q sort g c p:=by
 obtain ⟨h0,h1,h2,h3⟩:=h
 exact ⟨je o h0,je o h1,je o h2,je o h3⟩
theorem BoxM.drew {w:World} {q g c p:Nat} {sort:UInt8} (h:BoxM w q sort g c p):BoxM w.drew q sort g c p:=h
def SX (w:World) (v:Value) (f:List UInt8):Prop:=∀ w',Below w.heap.size w w'→Calls Tryz.prog 93 #[v] w' fun e w2=>e=.returned (strB f)∧Below w'.heap.size w' w2
theorem KK (w:World):SX w (.slice none 0 0) []:=fun w' _=>TS w'
theorem XW (sort:UInt8) (g c p:Nat) (pre:List UInt8) (bv:Value) (f:List UInt8) (w:World) (hg:g≤65535) (hc:c≤65535) (hp:p≤65535) (hpre:pre.length≤20) (hf:f.length≤5000) (hJ:SX w bv f) :
  Calls Tryz.prog 87 #[modV sort g c p,strB pre,bv] w fun e w'=>e=.returned (strB (jR pre sort g c p++f))∧Below w.heap.size w w':=by
 have HJ:=hid hJ
 clear hJ
 have HE:Hid ([xB pre,[sort],qz (g:Int),qz (c:Int),qz (p:Int),f].flatten=jR pre sort g c p++f):=by simp [Hid,jR]
 have hxl:(xB pre).length≤40:=by have:=qa pre.length (by omega);simp only [xB,List.length_append];omega
 go_enter Tryz.func87,Tryz.ntmps87
 go_wp2_with fail
 obtain ⟨hb0,hs0,hc0,_⟩:=jK w #[strB [sort],.int .i64 (g:Int),.int .i64 (c:Int),.int .i64 (p:Int)] 73
 have X0:BoxM _ w.heap.size sort g c p:=⟨hc0 0,hc0 1,hc0 2,hc0 3⟩
 have Hb0:=hid hb0
 clear hc0 hb0
 generalize w.alloc _=wb at *
 generalize hX:xB pre=X at *
 generalize hG:qz (g:Int)=G at *
 generalize hC:qz (c:Int)=C at *
 generalize hP:qz (p:Int)=P at *
 have HT:Hid (∀ w',Calls Tryz.prog 115 #[strB pre] w' fun e w2=>e=.returned (strB X)∧Below w'.heap.size w' w2):=by
  intro w';rw [← hX];exact VE pre w' (by omega)
 have HG:Hid (∀ w',Calls Tryz.prog 100 #[.int .i64 (g:Int)] w' fun e w2=>e=.returned (strB G)∧Below w'.heap.size w' w2):=by
  intro w';rw [← hG];exact Qf _ w' (by omega) (by omega)
 have HC:Hid (∀ w',Calls Tryz.prog 100 #[.int .i64 (c:Int)] w' fun e w2=>e=.returned (strB C)∧Below w'.heap.size w' w2):=by
  intro w';rw [← hC];exact Qf _ w' (by omega) (by omega)
 have HP:Hid (∀ w',Calls Tryz.prog 100 #[.int .i64 (p:Int)] w' fun e w2=>e=.returned (strB P)∧Below w'.heap.size w' w2):=by
  intro w';rw [← hP];exact Qf _ w' (by omega) (by omega)
 have hGl:G.length=2:=by rw [← hG];rfl
 have hCl:C.length=2:=by rw [← hC];rfl
 have hPl:P.length=2:=by rw [← hP];rfl
 clear hX hG hC hP
 go_region_held3 (fun w'=>w'.cell? ⟨w.heap.size,0,none⟩=some (strB [sort])∧w'.cell? ⟨w.heap.size,1,none⟩=some (.int .i64 (g:Int))∧w'.cell? ⟨w.heap.size,2,none⟩=some (.int .i64 (c:Int))∧w'.cell? ⟨w.heap.size,3,none⟩=some (.int .i64 (p:Int)))
  (first|exact X6|exact X5.alloc _|exact X5|exact X4|exact X3|exact X2|exact X1|exact X0)
  (first
   | (go_at_call 115;refine (HT.out _).mono ?_;rintro e w1 ⟨rfl,hb1⟩;replace hb1:=jl hb1;have X1:=X0.later hb1 hs0;have hs1:=Nat.lt_of_lt_of_le hs0 hb1.size)
   | (go_at_call_of 100 (Value.int IntKind.i64 (g:Int));refine (HG.out _).mono ?_;rintro e w2 ⟨rfl,hb2⟩;have X2:=X1.later hb2 hs1;have hs2:=Nat.lt_of_lt_of_le hs1 hb2.size)
   | (go_at_call_of 100 (Value.int IntKind.i64 (c:Int));refine (HC.out _).mono ?_;rintro e w3 ⟨rfl,hb3⟩;have X3:=X2.later hb3 hs2;have hs3:=Nat.lt_of_lt_of_le hs2 hb3.size)
   | (go_at_call_of 100 (Value.int IntKind.i64 (p:Int));refine (HP.out _).mono ?_;rintro e w4 ⟨rfl,hb4⟩;have X4:=X3.later hb4 hs3;have hs4:=Nat.lt_of_lt_of_le hs3 hb4.size)
   | (go_at_call_of 93 bv;refine (HJ.out _ ?_).mono ?_;exact (((Hb0.out.trans (hb1.mono Hb0.out.size)).trans (hb2.mono (Nat.le_trans Hb0.out.size hb1.size))).trans (hb3.mono (Nat.le_trans (Nat.le_trans Hb0.out.size hb1.size) hb2.size))).trans (hb4.mono (Nat.le_trans (Nat.le_trans (Nat.le_trans Hb0.out.size hb1.size) hb2.size) hb3.size));rintro e w5 ⟨rfl,hb5⟩;have X5:=X4.later hb5 hs4;have hs5:=Nat.lt_of_lt_of_le hs4 hb5.size)
   | (go_at_call 93;refine (Xk [X,[sort],G,C,P,f] #[strB X,strB [sort],strB G,strB C,strB P,strB f] 6 _ _ ?_ rfl rfl ?_ ?_).mono ?_;(first|rfl|simp);decide;(simp;omega);rintro e w6 ⟨rfl,hb6⟩;have X6:=X5.later hb6 hs5))
 have hB1:=Hb0.out.trans (hb1.mono Hb0.out.size)
 have hB2:=hB1.trans (hb2.mono hB1.size)
 have hB3:=hB2.trans (hb3.mono hB2.size)
 have hB4:=hB3.trans (hb4.mono hB3.size)
 have hB5:=hB4.trans (hb5.mono hB4.size)
 have HB6:=hid (hB5.trans (hb6.mono hB5.size))
 clear X0 X1 X2 X3 X4 X5 X6 hb1 hb2 hb3 hb4 hb5 hb6 hB1 hB2 hB3 hB4 hB5
 go_wp2
 go_ret
 exact ⟨xj (by rw [← HE.out];simp),HB6.out⟩
end
section
def xJ (ps:List Nat):List Value:=ps.map fun (n:Nat)=>Value.int .i64 (n:Int)
theorem jz {w w':World} {u:Value} {base e size n q:Nat} {xs:List Value} {C:Array Value} {t:TypeId} (hg:w.grownBy w' u.ownBlock) (ho:w.ownsRow base e size u n xs) (h:w.heap[q]?=some (.cells C t (0,0))) (ht:t≠e) :
  w'.heap[q]?=some (.cells C t (0,0)):=by
 rw [hg.block q (Array.getElem?_eq_some_iff.1 h).1 ?_]
 ·exact h
 ·intro hq
  rcases ho.2 with ⟨rfl,_⟩|⟨g,cap,cur,rfl,_,hgg,_⟩
  ·simp [Value.ownBlock] at hq
  ·simp [Value.ownBlock] at hq
   subst hq
   rw [h] at hgg
   cases hgg
   exact ht rfl
theorem jd {w w':World} {q:Nat} {o:Obj} (hb:Below w.heap.size w w') (h:w.heap[q]?=some o):w'.heap[q]?=some o :=
 (hb.block q (Array.getElem?_eq_some_iff.1 h).1).trans h
theorem jo {w:World} {q:Nat} {o:Obj} (o':Obj) (h:w.heap[q]?=some o):(w.alloc o').heap[q]?=some o :=
 (World.grownBy_alloc w o' none).block q (Array.getElem?_eq_some_iff.1 h).1 (by simp) |>.trans h
theorem RL {w:World} {q:Nat} {x y z u:Value} {t:TypeId} (h:w.heap[q]?=some (.cells #[x,y,z,u] t (0,0))):w.cell? ⟨q,0,none⟩=some x∧w.cell? ⟨q,1,none⟩=some y∧w.cell? ⟨q,2,none⟩=some z :=
 ⟨by rw [jb h];rfl,by rw [jb h];rfl,by rw [jb h];rfl⟩
theorem Ia {w:World} {q:Nat} {a b c d e f g:Value} {t:TypeId} (h:w.heap[q]?=some (.cells #[a,b,c,d,e,f,g] t (0,0))) :
  w.cell? ⟨q,0,none⟩=some a∧w.cell? ⟨q,1,none⟩=some b∧w.cell? ⟨q,2,none⟩=some c∧w.cell? ⟨q,3,none⟩=some d∧w.cell? ⟨q,5,none⟩=some f∧w.cell? ⟨q,6,none⟩=some g :=
 ⟨by rw [jb h];rfl,by rw [jb h];rfl,by rw [jb h];rfl,by rw [jb h];rfl,by rw [jb h];rfl,by rw [jb h];rfl⟩
theorem Vx {α:Type} (f:α→List UInt8) (l:List α) (k:Nat) (h:k < l.length):(l.take (k+1)).flatMap f=(l.take k).flatMap f++f l[k]:=by
 rw [List.take_succ_eq_append_getElem h,List.flatMap_append];simp
theorem Ez (a b c d e:List UInt8):[a,b,c,d,e].flatten=a++b++c++d++e:=by simp
theorem Gb {w:World} {base:Nat} {pv:Value} {ps:List Nat} (h:w.ownsRow base 3 1 pv ps.length (xJ ps)) :
  ∃ pa pc,pv=.slice pa ps.length pc∧∀ j (hj:j < ps.length),∃ g,pa=some ⟨g,0,none⟩∧g < w.heap.size∧w.cell? ⟨g,j,none⟩=some (.int .i64 ((ps[j]:Nat):Int)):=by
 rcases h.2 with ⟨rfl,h0⟩|⟨g,cap,cur,rfl,_⟩
 ·exact ⟨none,0,by rw [h0],fun j hj=>by omega⟩
 ·refine ⟨some ⟨g,0,none⟩,cap,rfl,fun j hj=>⟨g,rfl,(h.lt g rfl).2,?_⟩⟩
  rw [h.cellAt j (by omega)]
  simp [xJ,hj]
theorem Pu (rows G P F:Nat) (told:Bool) (a:Option Addr) (cap:Nat) (t:List ColB) (pv:Value) (places:List Nat) (base:Nat) (w:World)
  (hr:rows≤60) (hG:G≤60) (hP:P≤60) (hF:F≤9) (ht:t.length≤6) (hps:places.length≤360) (hpb:∀ x ∈ places,x≤80000000)
  (hcol:∀ c ∈ t,c.name.length≤8∧(0≤c.kind∧c.kind≤9)∧(0≤c.key∧c.key≤9)) (hl:LiesT w a t) (hpl:w.ownsRow base 3 1 pv places.length (xJ places)) :
  Calls Tryz.prog 97 #[.agg #[.int .i64 (rows:Int),.int .i64 (G:Int),.int .i64 (P:Int),.int .i64 (F:Int),.bool told,.slice a t.length cap,pv]] w
   fun e w'=>e=.returned (strB (uB rows++uB G++uB P++uB F++uB t.length++t.flatMap jZ++places.flatMap uB))∧Below w.heap.size w w':=by
 obtain ⟨i0,hi,hz0,hz1,hz2⟩:=info_parts Tryz.infoStr
 have Hl:=hid hl
 have Hpl:=hid hpl
 have Hcol:=hid hcol
 have Hpb:=hid hpb
 clear hl hpl hcol hpb
 have hu1:=qa rows (by omega)
 have hu2:=qa G (by omega)
 have hu3:=qa P (by omega)
 have hu4:=qa F (by omega)
 have hu5:=qa t.length (by omega)
 go_enter Tryz.func97,Tryz.ntmps97
 go_wp2_with fail
 obtain ⟨hb0,hs0,hc0,hh0⟩:=jK w #[.int .i64 (rows:Int),.int .i64 (G:Int),.int .i64 (P:Int),.int .i64 (F:Int),.bool told,.slice a t.length cap,pv] 79
 have X0:=Ia hh0
 have Hb0:=hid hb0
 have Hh0:=hid hh0
 clear hc0 hb0 hh0
 generalize w.alloc _=wb at *
 have HC:Hid (∀ (n:Nat) w',n≤1000→Calls Tryz.prog 123 #[.int .i64 (n:Int)] w' fun e w2=>e=.returned (strB (uB n))∧Below w'.heap.size w' w2):=fun n w' h=>zy n w' (by omega)
 go_region_held3 (fun w'=>w'.cell? ⟨w.heap.size,0,none⟩=some (.int .i64 (rows:Int))∧w'.cell? ⟨w.heap.size,1,none⟩=some (.int .i64 (G:Int))∧w'.cell? ⟨w.heap.size,2,none⟩=some (.int .i64 (P:Int))∧w'.cell? ⟨w.heap.size,3,none⟩=some (.int .i64 (F:Int))∧w'.cell? ⟨w.heap.size,5,none⟩=some (.slice a t.length cap)∧w'.cell? ⟨w.heap.size,6,none⟩=some pv)
  (first|exact Ia (jo _ Y5)|exact Ia Y5|exact Ia Y4|exact Ia Y3|exact Ia Y2|exact Ia Y1|exact X0)
  (first
   | (go_at_call_of 123 (Value.int IntKind.i64 (rows:Int));refine (HC.out rows _ (by omega)).mono ?_;rintro e w1 ⟨rfl,hb1⟩;replace hb1:=jl hb1;have Y1:=jd hb1 Hh0.out)
   | (go_at_call_of 123 (Value.int IntKind.i64 (G:Int));refine (HC.out G _ (by omega)).mono ?_;rintro e w2 ⟨rfl,hb2⟩;have Y2:=jd hb2 Y1)
   | (go_at_call_of 123 (Value.int IntKind.i64 (P:Int));refine (HC.out P _ (by omega)).mono ?_;rintro e w3 ⟨rfl,hb3⟩;have Y3:=jd hb3 Y2)
   | (go_at_call_of 123 (Value.int IntKind.i64 (F:Int));refine (HC.out F _ (by omega)).mono ?_;rintro e w4 ⟨rfl,hb4⟩;have Y4:=jd hb4 Y3)
   | (go_at_call 123;refine (HC.out t.length _ (by omega)).mono ?_;rintro e w5 ⟨rfl,hb5⟩;have Y5:=jd hb5 Y4))
 have hB1:=Hb0.out.trans (hb1.mono Hb0.out.size)
 have hB2:=hB1.trans (hb2.mono hB1.size)
 have hB3:=hB2.trans (hb3.mono hB2.size)
 have hB4:=hB3.trans (hb4.mono hB3.size)
 have hB5:=hB4.trans (hb5.mono hB4.size)
 have HB5:=hid (hB5.alloc hB5.size (.cells #[strB (uB rows),strB (uB G),strB (uB P),strB (uB F),strB (uB t.length)] 9))
 have HO5:=hid (World.ownsRow_lit (base:=w.heap.size) (e:=9) (size:=1) w5 #[strB (uB rows),strB (uB G),strB (uB P),strB (uB F),strB (uB t.length)] 5 hB5.size (by decide) rfl)
 have HX5:=hid (jo (.cells #[strB (uB rows),strB (uB G),strB (uB P),strB (uB F),strB (uB t.length)] 9) Y5)
 have HFL:=hid (Ez (uB rows) (uB G) (uB P) (uB F) (uB t.length))
 have hHL:(uB rows++uB G++uB P++uB F++uB t.length).length≤50:=by simp only [List.length_append];omega
 obtain ⟨pa,pc,rfl,hpc⟩:=Gb Hpl.out
 have Hpc:=hid hpc
 clear X0 Y1 Y2 Y3 Y4 Y5 hb1 hb2 hb3 hb4 hb5 hB1 hB2 hB3 hB4 hB5 hu1 hu2 hu3 hu4 hu5 hpc
 generalize hHD:uB rows++uB G++uB P++uB F++uB t.length=HD at *
 have HHD:=hid hHD
 clear hHD
 have x5:=(Ia HX5.out).2.2.2.2.1
 go_wp2_with fail
 clear x5
 go_loopw [3,31] (fun v i wr=>∃ (ps:List (List UInt8)) (k:Nat),k≤t.length∧i=.int .i64 (k:Int)∧ps.length=5+3*k∧wr.ownsRow w.heap.size 9 1 v ps.length (zl ps)∧ps.flatten=HD++(t.take k).flatMap jZ∧wr.heap[w.heap.size]?=some (.cells #[.int .i64 (rows:Int),.int .i64 (G:Int),.int .i64 (P:Int),.int .i64 (F:Int),.bool told,.slice a t.length cap,.slice pa places.length pc] 79 (0,0))∧Below w.heap.size w wr)
  (fun _ i _=>t.length - (intOf i).toNat)
 case atStart=>exact ⟨[uB rows,uB G,uB P,uB F,uB t.length],0,Nat.zero_le _,rfl,rfl,HO5.out,by rw [HFL.out];simp,HX5.out,HB5.out⟩
 case round =>
  clear HO5 HX5 HB5
  obtain ⟨ps,k,hkl,rfl,hpl,hown,hfl,hbx,hB⟩:=hrel
  have Hfl:=hid hfl
  have Hbx:=hid hbx
  clear hfl hbx
  by_cases hlt:k < t.length
  ·obtain ⟨b,off,rfl,hbw,hcell⟩:=(Hl.out.later hB).at_ (List.ne_nil_of_length_pos (by omega))
   obtain ⟨g1,g2,g3,v4,g4,ca,cap2,rfl,_⟩:=hcell k hlt
   clear hcell
   have hki:(k:Int) < (t.length:Int):=by omega
   obtain ⟨hcn,⟨hck0,hck9⟩,hcy0,hcy9⟩:=Hcol.out t[k] (List.getElem_mem hlt)
   have HFT:=hid (Vx jZ t k hlt)
   have HCF:Hid (jZ t[k]=xB (t[k]).name++uB (t[k]).kind.toNat++uB (t[k]).key.toNat):=rfl
   obtain ⟨kd,hkd⟩:∃ kd:Nat,(t[k]).kind=(kd:Int):=⟨(t[k]).kind.toNat,by omega⟩
   obtain ⟨ky,hky⟩:∃ ky:Nat,(t[k]).key=(ky:Int):=⟨(t[k]).key.toNat,by omega⟩
   rw [hkd,hky] at HCF
   rw [hkd] at g2
   rw [hky] at g3
   have hkd9:kd≤9:=by omega
   have hky9:ky≤9:=by omega
   simp only [Int.toNat_natCast] at HCF
   clear hck0 hck9 hcy0 hcy9 hkd hky
   generalize (t[k]).name=nm at *
   go_wp2_with fail
   obtain ⟨hbb,hsb,hcb,hhb⟩:=jK wr #[strB nm,.int .i64 (kd:Int),.int .i64 (ky:Int),.slice ca (t[k]).cells.length cap2] 31
   have hBb:=hB.trans (hbb.mono hB.size)
   have hob:=hown.alloc (.cells #[strB nm,.int .i64 (kd:Int),.int .i64 (ky:Int),.slice ca (t[k]).cells.length cap2] 31)
   have Hbx2:=hid (jd hbb Hbx.out)
   clear g1 g2 g3 g4 hcb hbb hB hown Hbx
   generalize wr.alloc _=wc at *
   generalize hq:wr.heap.size=q at *
   clear hq
   have hxl:(xB nm).length≤20:=by have:=qa nm.length (by omega);simp only [xB,List.length_append];omega
   have HT:Hid (∀ w',Calls Tryz.prog 115 #[strB nm] w' fun e w2=>e=.returned (strB (xB nm))∧Below w'.heap.size w' w2):=fun w'=>VE nm w' (by omega)
   go_region_held3 (fun w'=>w'.cell? ⟨q,0,none⟩=some (strB nm)∧w'.cell? ⟨q,1,none⟩=some (.int .i64 (kd:Int))∧w'.cell? ⟨q,2,none⟩=some (.int .i64 (ky:Int)))
    (first|exact RL Z4|exact RL (jo _ Z3)|exact RL Z3|exact RL Z2|exact RL Z1|exact RL hhb)
    (first
     | (go_at_call 115;refine (HT.out _).mono ?_;rintro e w6 ⟨rfl,hb6⟩;replace hb6:=jl hb6;have Z1:=jd hb6 hhb)
     | (go_at_call_of 123 (Value.int IntKind.i64 (kd:Int));refine (HC.out kd _ (by omega)).mono ?_;rintro e w7 ⟨rfl,hb7⟩;have Z2:=jd hb7 Z1)
     | (go_at_call_of 123 (Value.int IntKind.i64 (ky:Int));refine (HC.out ky _ (by omega)).mono ?_;rintro e w8 ⟨rfl,hb8⟩;have Z3:=jd hb8 Z2)
     | (refine step_append_lies _ (by rfl) _ _ _ (by rfl) w.heap.size 9 i0 _ 1 16 Tryz.underlying163 hi hz0 hz1 hz2 rfl (by omega) _ ps.length (zl ps) (by rfl) ((ju (ju (ju hob hb6) hb7) hb8).alloc _) ⟨w8.heap.size,0,none⟩ 3 3 [strB (xB nm),strB (uB kd),strB (uB ky)] (by rfl) (by rfl) (World.news_of_block (cs:=#[strB (xB nm),strB (uB kd),strB (uB ky)]) (t:=9) (fr:=(0,0)) (heap_alloc_new w8 _)) (by simp [Value.oneCell']) (by omega) (by unfold maxLen;omega) (by omega) (by have:=hBb.size;have:=hb6.size;have:=hb7.size;have:=hb8.size;simp at *;omega) _ rfl ?_;intro gg cc w9 hown9 hgr9 hat9 hlt9;have Z4:=jz hgr9 ((ju (ju (ju hob hb6) hb7) hb8).alloc _) (jo _ Z3) (by decide)))
   have hB6:=hBb.trans (hb6.mono hBb.size)
   have hB7:=hB6.trans (hb7.mono hB6.size)
   have hB8:=hB7.trans (hb8.mono hB7.size)
   have HR:=hid (Qr (qs:=[xB nm,uB kd,uB ky]) _ rfl hB8 (ju (ju (ju hob hb6) hb7) hb8) hown9 hgr9)
   have HX9:=hid (jz hgr9 ((ju (ju (ju hob hb6) hb7) hb8).alloc _) (jo _ (jd hb8 (jd hb7 (jd hb6 Hbx2.out)))) (by decide))
   clear Z1 Z2 Z3 Z4 hob hb6 hb7 hb8 hown9 hgr9 hat9 hlt9 hB6 hB7 hB8 hhb hBb
   go_wp2
   go_roundw
   case rel =>
    refine ⟨ps++[xB nm,uB kd,uB ky],k+1,by omega,by go_num,by simp;omega,?_,by rw [HFT.out,← List.append_assoc,← Hfl.out,HCF.out,List.flatten_append];simp,HX9.out,HR.out.2⟩
    have:=HR.out.1
    simp only [List.length_append,List.length_cons,List.length_nil]
    rw [← hpl]
    exact this
   case measure=>simp [intOf];omega
  ·have hke:k=t.length:=by omega
   subst hke
   rw [List.take_length] at Hfl
   have x6:=(Ia Hbx.out).2.2.2.2.2
   have Hpc2:Hid (∀ j (hj:j < places.length),∃ g,pa=some ⟨g,0,none⟩∧wr.cell? ⟨g,j,none⟩=some (.int .i64 ((places[j]:Nat):Int))∧g < w.heap.size):=by
    intro j hj
    obtain ⟨g,h1,h2,h3⟩:=Hpc.out j hj
    exact ⟨g,h1,(hB.cell (p:=⟨g,j,none⟩) h2).trans h3,h2⟩
   have hFL2:(HD++t.flatMap jZ).length≤300:=by
    have:=Ub jZ 38 t (fun c hc=>by
     obtain ⟨h1,h2,h3⟩:=Hcol.out c hc
     have a:=qa c.name.length (by omega)
     have b:=qa c.kind.toNat (by omega)
     have d:=qa c.key.toNat (by omega)
     simp only [jZ,xB,List.length_append];omega)
    rw [List.length_append];omega
   have HO:=hid hown
   have HB:=hid hB
   clear hown hB
   generalize hHD2:HD++t.flatMap jZ=HD2 at *
   have HHD2:=hid hHD2
   clear hHD2
   generalize hpn:ps.length=pn at *
   have Hpn:=hid hpn
   clear hpn
   go_wp2_with fail
   clear x6
   go_loopw [3,51] (fun v i w2=>∃ (qs:List (List UInt8)) (m:Nat),m≤places.length∧i=.int .i64 (m:Int)∧qs.length=pn+m∧w2.ownsRow w.heap.size 9 1 v qs.length (zl qs)∧qs.flatten=HD2++(places.take m).flatMap uB∧Below w.heap.size w w2)
    (fun _ i _=>places.length - (intOf i).toNat)
   case atStart=>exact ⟨ps,0,Nat.zero_le _,rfl,by rw [Hpn.out];rfl,by rw [Hpn.out];exact HO.out,by rw [Hfl.out];simp,HB.out⟩
   case round =>
    clear HO HB Hpc2
    obtain ⟨qs,m,hml,rfl,hql,hown,hfl,hB⟩:=hrel
    have Hfl2:=hid hfl
    clear hfl
    by_cases hlm:m < places.length
    ·obtain ⟨g,rfl,hgw,hcm⟩:=Hpc.out m hlm
     have cm:=(hB.cell (p:=⟨g,m,none⟩) hgw).trans hcm
     have hmi:(m:Int) < (places.length:Int):=by omega
     have hpx:=Hpb.out places[m] (List.getElem_mem hlm)
     have HFT:=hid (Vx uB places m hlm)
     generalize places[m]=pl at *
     clear hcm
     go_wp2_with fail
     refine (zy pl _ (by omega)).mono ?_
     rintro e w6 ⟨rfl,hb6⟩
     have hown6:=ju hown hb6
     have hB6:=hB.trans (hb6.mono hB.size)
     clear hown hB hb6 cm
     go_wp2_with (at_builtin;refine wpList_append_own _ rfl (.tmp 55) (.tmp 58) 163 rfl w.heap.size 9 i0 (.string ⟨#[]⟩) 1 16 Tryz.underlying163 hi hz0 hz1 hz2 rfl (by decide) _ _ _ rfl (hown6.alloc _) ⟨_,0,none⟩ 1 1 [strB (uB pl)] rfl rfl ?c1 ?c2 ?c3 ?c4 ?c5 ?_)
     case c1=>exact qE w6 #[strB (uB pl)] 9
     case c2=>intro u hu;simp at hu;subst hu;rfl
     case c3=>unfold maxLen;omega
     case c4=>omega
     case c5=>have:=hB6.size;simp;omega
     intro v3 w7 hown7 hgr7 _
     have HR:=hid (Qr (qs:=[uB pl]) (k:=5+3*t.length+m+1) _ (by simp;omega) hB6 hown6 hown7 hgr7)
     clear hown6 hB6 hown7 hgr7
     go_wp2
     go_roundw
     case rel =>
      refine ⟨qs++[uB pl],m+1,by omega,by go_num,by simp;omega,?_,by rw [HFT.out,← List.append_assoc,← Hfl2.out,List.flatten_append];simp,HR.out.2⟩
      have e:(qs++[uB pl]).length=5+3*t.length+m+1:=by simp;omega
      rw [e]
      exact HR.out.1
     case measure=>simp [intOf];omega
    ·have hme:m=places.length:=by omega
     subst hme
     rw [List.take_length] at Hfl2
     have hpl2:=Ub uB 10 places (fun x hx=>qa x (by have:=Hpb.out x hx;omega))
     have hqf:qs.flatten.length≤1000000:=by rw [Hfl2.out,List.length_append];omega
     have hqn:qs≠[]:=by intro h;rw [h] at hql;simp at hql;omega
     have HJ:=hid (Xx qs w.heap.size qs.length _ wr hown hqn (by omega) hqf)
     clear hqf hqn hown
     go_wp2_with fail
     refine HJ.out.mono ?_
     rintro e w6 ⟨rfl,hb6⟩
     rw [Hfl2.out]
     have HB6:=hid (hB.trans (hb6.mono hB.size))
     clear hB hb6 Hfl2 HJ
     go_wp2
     go_ret
     exact ⟨xj (by rw [← HHD2.out,← HHD.out]),HB6.out⟩
end
end Go.Proofs.YthhpbhpfagoapabGreat
