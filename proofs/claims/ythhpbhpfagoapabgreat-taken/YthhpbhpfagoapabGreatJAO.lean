import Derived.Test.YthhpbhpfagoapabGreatJBH
import Derived.Test.YthhpbhpfagoapabGreatJBD
import Derived.Test.YthhpbhpfagoapabGreatJBK
import Derived.Test.YthhpbhpfagoapabGreatJAP
import Derived.Test.YthhpbhpfagoapabGreatJAK
import Derived.Test.YthhpbhpfagoapabGreatQJobs
import Derived.Test.YthhpbhpfagoapabGreatRTk
import Derived.Deep.Cut
import Derived.Deep.CutBlock
namespace Go.Proofs.YthhpbhpfagoapabGreat
set_option linter.unusedVariables false
set_option linter.unusedSimpArgs false
set_option maxRecDepth 100000
set_option maxHeartbeats 16000000
section
theorem Xn (pre:List UInt8) (r:List KeyB) (key:Int) (c:Nat):∀ (L:List SpotB) (M:List ModF) (L2:List SpotB) (M2:List ModF),M.length=L.length →
  xq pre r key c (L++L2) (M++M2)=xq pre r key c L M++xq pre r key c L2 M2:=by
 intro L
 induction L with
 | nil=>intro M L2 M2 h;rw [List.eq_nil_of_length_eq_zero h];simp [xq]
 | cons s L ih =>
  intro M L2 M2 h
  cases M with
  | nil=>simp at h
  | cons m M =>
   simp only [List.cons_append,xq]
   rw [ih M L2 M2 (by simpa using h),List.append_assoc]
theorem Nc (pre:List UInt8) (r:List KeyB) (key:Int) (c:Nat):∀ (L:List SpotB) (M:List ModF),(∀ s ∈ L,s.c≠c)→xq pre r key c L M=[]:=by
 intro L
 induction L with
 | nil=>intro M _;cases M<;>rfl
 | cons s L ih =>
  intro M h
  cases M with
  | nil=>rfl
  | cons m M =>
   simp only [xq]
   rw [if_neg (h s (by simp)),ih M (fun y hy=>h y (List.mem_cons_of_mem _ hy))]
   rfl
def NQ (pre:List UInt8) (r:List KeyB) (key:Int) (sort:UInt8) (g c p:Nat) (m:ModF):SealB:=⟨ji r key,m.nonce,jR pre sort g c p,m.body⟩
def zj (pre:List UInt8) (r:List KeyB) (key:Int) (g c:Nat) (mp:List ModF) (mm:ModF):List SealB:=mp.mapIdx (fun i m=>NQ pre r key 80 g c i m)++[NQ pre r key 77 g c 0 mm]
theorem IF (pre:List UInt8) (r:List KeyB) (key:Int) (P g c start n:Nat):∀ (mp:List ModF),xq pre r key c (jt P g c start n mp.length) mp=mp.mapIdx (fun i m=>NQ pre r key 80 g c i m):=by
 intro mp
 have key2:∀ (k:Nat) (l:List ModF),l.length=k→xq pre r key c (jt P g c start n k) l=l.mapIdx (fun i m=>NQ pre r key 80 g c i m):=by
  intro k
  induction k with
  | zero=>intro l hl;rw [List.eq_nil_of_length_eq_zero hl];rfl
  | succ k ih =>
   intro l hl
   obtain ⟨l',m,rfl⟩:∃ l' m,l=l'++[m]:=⟨l.dropLast,l.getLast (by intro e;subst e;simp at hl),(List.dropLast_concat_getLast _).symm⟩
   have hl':l'.length=k:=by simpa using hl
   have e:jt P g c start n (k+1)=jt P g c start n k++[⟨80,g,c,k,start+k*P,jp n P k⟩]:=by simp [jt,List.range_succ]
   rw [e,Xn _ _ _ _ _ _ _ _ (by simp [jt,hl']),ih l' hl',List.mapIdx_append]
   congr 1
   simp [xq,NQ,hl']
 exact key2 mp.length mp rfl
theorem Ik (pre:List UInt8) (r:List KeyB) (key:Int) {R G P g c:Nat} (mp:List ModF) (mm:ModF) (hm:mp.length=jY (jp R G g) P):xq pre r key c (jh R G P g c) (mp++[mm])=zj pre r key g c mp mm:=by
 unfold jh zj
 rw [← hm,Xn _ _ _ _ _ _ _ _ (by simp [jt]),IF]
 simp [xq,NQ]
theorem Ex {t:List ColB} {Q:Nat→Nat→List ModF} {R G P g:Nat} (pre:List UInt8) (r:List KeyB) (key:Int) (c:Nat):∀ {C:Nat},(∀ i,i < C→ModsOk t (jh R G P g i) (Q g i)) →
  xq pre r key c (jr R G P g C) (xx Q g C)=if c < C then xq pre r key c (jh R G P g c) (Q g c) else []:=by
 intro C
 induction C with
 | zero=>intro _;simp [jr,xx,xq]
 | succ C ih =>
  intro h
  rw [zY,zL,Xn _ _ _ _ _ _ _ _ (qV (XJ (fun i hi=>h i (by omega)))),ih (fun i hi=>h i (by omega))]
  by_cases hc:c < C
  ·rw [if_pos hc,if_pos (by omega),Nc pre r key c (jh R G P g C) (Q g C) (fun s hs=>by rw [Qt s hs];omega),List.append_nil]
  ·rw [if_neg hc]
   by_cases he:c=C
   ·subst he;rw [if_pos (by omega)];rfl
   ·rw [if_neg (by omega),Nc pre r key c (jh R G P g C) (Q g C) (fun s hs=>by rw [Qt s hs];omega)]
    rfl
def zu (pre:List UInt8) (r:List KeyB) (key:Int) (c:Nat) (Qp:Nat→Nat→List ModF) (Qm:Nat→Nat→ModF) (n:Nat):List SealB:=(List.range n).flatMap fun g=>zj pre r key g c (Qp g c) (Qm g c)
theorem UZ (pre:List UInt8) (r:List KeyB) (key:Int) (c:Nat) (Qp:Nat→Nat→List ModF) (Qm:Nat→Nat→ModF) (n:Nat):zu pre r key c Qp Qm (n+1)=zu pre r key c Qp Qm n++zj pre r key n c (Qp n c) (Qm n c):=by simp [zu,List.range_succ]
theorem Ss {t:List ColB} {Qp:Nat→Nat→List ModF} {Qm:Nat→Nat→ModF} {R C G P:Nat} (pre:List UInt8) (r:List KeyB) (key:Int) {c:Nat} (hc:c < C):∀ {n:Nat},(∀ g,g < n→∀ i,i < C→ModsOk t (jh R G P g i) (Qp g i++[Qm g i])∧(Qp g i).length=jY (jp R G g) P) →
  xq pre r key c (jH R C G P n) (xl (fun g c=>Qp g c++[Qm g c]) C n)=zu pre r key c Qp Qm n:=by
 intro n
 induction n with
 | zero=>intro _;rfl
 | succ n ih =>
  intro h
  rw [Qu,zK,Xn _ _ _ _ _ _ _ _ (qV (Gt (Q:=fun g c=>Qp g c++[Qm g c]) (fun g hg i hi=>(h g (by omega) i hi).1))),ih (fun g hg=>h g (by omega)),Ex (t:=t) (Q:=fun g c=>Qp g c++[Qm g c]) pre r key c (fun i hi=>(h n (by omega) i hi).1),if_pos hc,UZ,Ik _ _ _ _ _ (h n (by omega) c hc).2]
theorem RC (pre:List UInt8) (r:List KeyB) (key:Int) (g c:Nat) (mp:List ModF) (mm:ModF):(zj pre r key g c mp mm).length=mp.length+1:=by simp [zj]
def NW (key:Int) (g c:Nat) (mp:List ModF) (mm:ModF) (i:Nat):List Value :=
 if h:i < mp.length then [strB [80],.int .i64 (g:Int),.int .i64 (c:Int),.int .i64 (i:Int),strB (jO key mp[i]).1,strB (jO key mp[i]).2] else [strB [77],.int .i64 (g:Int),.int .i64 (c:Int),.int .i64 0,strB (jO key mm).1,strB (jO key mm).2]
end
section
open Go.RowKit
structure PieceS (key:Int) (k c:Nat) (mp:List ModF) (mm:ModF) (pre:List UInt8) (r:List KeyB) (i:Nat) (sb:UInt8) (p:Nat) (non txt:List UInt8):Prop where
 cells:NW key k c mp mm i=[strB [sb],.int .i64 (k:Int),.int .i64 (c:Int),.int .i64 (p:Int),strB non,strB txt]
 told:(zj pre r key k c mp mm)[i]?=some ⟨ji r key,non,jR pre sb k c p,txt⟩
 small:p≤65535
theorem Sp {key:Int} {k c:Nat} {mp:List ModF} {mm:ModF} (pre:List UInt8) (r:List KeyB) {i:Nat} (hi:i < mp.length+1) (hk:key≠0) (hm:mp.length≤60):∃ sb p non txt,PieceS key k c mp mm pre r i sb p non txt:=by
 by_cases h:i < mp.length
 ·refine ⟨80,i,(mp[i]).nonce,(mp[i]).body,?_,?_,by omega⟩
  ·unfold NW;rw [dif_pos h];simp [jO,hk]
  ·unfold zj;rw [List.getElem?_append_left (by simpa using h),List.getElem?_mapIdx,List.getElem?_eq_getElem h];rfl
 ·have e:i=mp.length:=by omega
  subst e
  refine ⟨77,0,mm.nonce,mm.body,?_,?_,by omega⟩
  ·unfold NW;rw [dif_neg h];simp [jO,hk]
  ·unfold zj;rw [List.getElem?_append_right (by simp)];simp [NQ]
theorem AE {key:Int} {k c:Nat} {mp:List ModF} {mm:ModF} {i j:Nat} (hi:i < mp.length+1) (hj:j < 6) :
  (xT key k c mp++[strB [77],.int .i64 (k:Int),.int .i64 (c:Int),.int .i64 0,strB (jO key mm).1,strB (jO key mm).2])[i*6+j]?=(NW key k c mp mm i)[j]?:=by
 have hlen:(xT key k c mp).length=mp.length*6:=by
  unfold xT
  rw [List.length_flatten]
  have:(mp.mapIdx (Yc key k c)).map List.length=List.replicate mp.length 6:=by
   rw [List.eq_replicate_iff]
   refine ⟨by simp,fun b hb=>?_⟩
   simp only [List.mem_map,List.mem_mapIdx] at hb
   obtain ⟨x,⟨q,hq,rfl⟩,rfl⟩:=hb
   rfl
  rw [this]
  simp
 unfold NW
 by_cases h:i < mp.length
 ·rw [List.getElem?_append_left (by omega),dif_pos h,Qh (List.getElem?_eq_getElem h) hj]
  rfl
 ·have e:i=mp.length:=by omega
  subst e
  rw [List.getElem?_append_right (by omega),dif_neg h,hlen]
  congr 1
  omega
theorem Mx {w:World} {base e s n q:Nat} {v:Value} {xs:List Value} {C:Array Value} {T:TypeId} (h:w.ownsRow base e s v n xs) (hq:w.heap[q]?=some (.cells C T (0,0))) (hT:T≠e):v.ownBlock≠some q:=by
 intro hv
 rcases h.2 with ⟨rfl,_⟩|⟨g,cap,cur,rfl,_,hg,_⟩
 ·simp [Value.ownBlock] at hv
 ·simp only [Value.ownBlock,Option.some.injEq] at hv
  subst hv
  rw [hg] at hq
  simp only [Option.some.injEq,Obj.cells.injEq] at hq
  exact hT hq.2.1.symm
theorem Aw (s:SealB):qI [s]=[strB s.secret,strB s.nonce,strB s.extra,strB s.body]:=by simp [qI]
theorem Yz (S:SheetF) (G P base:Nat) (SC:Array Value) (cv:Value) (Kb:Nat) (V:Nat→Value) (Qp:Nat→Nat→List ModF) (Qm:Nat→Nat→ModF) (Pv:Nat→Nat→Value) (pre:List UInt8) (ra:Option Addr) (rcap:Nat) (r:List KeyB) (c:Nat) (w:World)
  (hS:SheetGo S G P base w SC cv Kb V Qp Qm Pv) (hc:c < S.cols.length) (hk0:(jf S.cols c).key≠0) (hpre:pre.length≤20) (hsec:(ji r (jf S.cols c).key).length≤1000) (hrm:r.length≤maxLen) (hr:LiesK w ra r) :
  Calls Tryz.prog 55 #[.agg SC,.int .i64 (c:Int),.slice ra r.length rcap,strB pre] w fun e w'=>∃ v,e=.returned v∧w'.ownsRow w.heap.size 54 4 v (xq pre r (jf S.cols c).key c (qr S) S.mods).length (qI (xq pre r (jf S.cols c).key c (qr S) S.mods))∧(xq pre r (jf S.cols c).key c (qr S) S.mods).length≤3660∧Below w.heap.size w w':=by
 obtain ⟨i0,hi,hz0,hz1,hz2⟩:=info_parts Tryz.infoSealed
 have hinf:=hS.inf
 have hn6:=hS.n6
 have hSF:xq pre r (jf S.cols c).key c (qr S) S.mods=zu pre r (jf S.cols c).key c Qp Qm (jY S.rows G):=by
  rw [hS.spots,hS.mods]
  exact Ss (t:=S.cols) pre r _ hc (fun g hg i hi=>(hS.chunks i hi).ok g hg)
 rw [hSF]
 clear hSF
 have hcn60:jY S.rows G≤60:=Nat.le_trans (Ql hS.g1) hS.rows
 have HPG:Hid (∀ k w',k < jY S.rows G→Below w.heap.size w w'→w'.ownsRow base 75 6 (Pv k c) (Qp k c).length (xT (jf S.cols c).key k c (Qp k c))):=fun k w' hk hb=>jN ((hS.chunks c hc).pages k hk) hb
 have HQL:Hid (∀ k,k < jY S.rows G→0 < (Qp k c).length∧(Qp k c).length≤60):=fun k hk=>by
  have h1:=((hS.chunks c hc).ok k hk).2
  have hpp:0 < jp S.rows G k:=(Up hS.g1).2 ((Ju hS.g1).1 hk)
  have hp60:jp S.rows G k≤60:=Nat.le_trans (Jy S.rows G k).2 hS.rows
  have h2:=Ql (n:=jp S.rows G k) hS.p1
  have h3:0 < jY (jp S.rows G k) P:=(Ju (i:=0) hS.p1).2 (by omega)
  omega
 obtain ⟨cb,cc,rfl,hcb,_,_,k2,_⟩:=Nx hS.cols hc
 have hrow:=(hS.chunks c hc).row
 obtain ⟨va,vc,hV⟩:=jL hrow
 have hkbc:w.cell? ⟨Kb,c,none⟩=some (.slice va (jY S.rows G) vc):=by
  rw [jb hS.kb,← hV]
  simp [hc]
 have HC15:=hid hS.c15
 have HC17:=hid hS.c17
 rw [hV] at hrow
 have Hrow:=hid hrow
 have hci:(c:Int) < (S.cols.length:Int):=by omega
 have hc6:c≤6:=by omega
 have HK0:=hid hk0
 have HR:=hid hr
 have HSEC:=hid hsec
 have HK2:=hid k2
 clear hrow hV hS hk0 hr hsec k2
 generalize jY S.rows G=CN at *
 generalize hkey0:(jf S.cols c).key=key at *
 clear hkey0
 generalize S.cols.length=n at *
 obtain ⟨hb0,hl0,_,ho0⟩:=jK w SC 82
 have x17:(w.alloc (.cells SC 82)).cell? ⟨w.heap.size,17,none⟩=some (.slice (some ⟨Kb,0,none⟩) n n):=by rw [jb ho0];exact HC17.out
 have x15:(w.alloc (.cells SC 82)).cell? ⟨w.heap.size,15,none⟩=some (.slice (some ⟨cb,0,none⟩) n cc):=by rw [jb ho0];exact HC15.out
 have z2:=je (.cells SC 82) hkbc
 have HX15:=hid x15
 clear x15
 have s17:=HC17.out
 go_enter Tryz.func55,Tryz.ntmps55
 go_wp2
 clear s17 x17 z2 hkbc HC17
 have Hb0:=hid hb0
 have hl0':=hl0
 clear hb0
 generalize w.alloc _=W0 at *
 go_loopw [9,20] (fun v i wr=>∃ k:Nat,k≤CN∧i=.int .i64 (k:Int)∧wr.ownsRow w.heap.size 54 4 v (zu pre r key c Qp Qm k).length (qI (zu pre r key c Qp Qm k))∧(zu pre r key c Qp Qm k).length≤61*k∧wr.heap[w.heap.size]?=some (.cells SC 82 (0,0))∧w.heap.size < wr.heap.size∧Below w.heap.size w wr) (fun _ i _=>CN - (intOf i).toNat)
 case atStart=>exact ⟨0,Nat.zero_le _,rfl,World.ownsRow_nil _ _ _ _,Nat.le_refl _,ho0,hl0,Hb0.out⟩
 case round =>
  obtain ⟨k,hkC,rfl,hown,hll,h15,hlw,hB⟩:=hrel
  have HOwn:=hid hown
  have HB:=hid hB
  have H15:=hid h15
  obtain ⟨wa,wcp,rfl⟩:=jL hown
  clear hown hB h15
  by_cases hlt:k < CN
  ·have hiM:(k:Int) < (CN:Int):=by omega
   obtain ⟨vb,vc2,hva,hvb,p0,p1,p2,p3,p4,p5,p6,p7⟩:=YL (jN Hrow.out HB.out) hlt
   injection hva with hva1 hva2 hva3
   subst hva1 hva3
   clear hva2
   obtain ⟨hq0,hq60⟩:=HQL.out k hlt
   have hpgs:=HPG.out k wr hlt HB.out
   obtain ⟨g1,c1,hpv⟩:∃ g1 c1,Pv k c=.slice (some ⟨g1,0,none⟩) (Qp k c).length c1:=by
    rcases hpgs.2 with ⟨_,h0⟩|⟨g,cap,cur,h,_⟩
    ·omega
    ·exact ⟨g,cap,h⟩
   rw [hpv] at hpgs p1
   have HPGS:=hid hpgs
   have HSTEP:Hid (zu pre r key c Qp Qm (k+1)=zu pre r key c Qp Qm k++zj pre r key k c (Qp k c) (Qm k c)):=UZ ..
   have HPS:Hid (∀ i,i < (Qp k c).length+1→∃ (sb:UInt8) (p:Nat) (non txt:List UInt8),(∀ j,j < 6→(xT key k c (Qp k c)++[strB [77],.int .i64 (k:Int),.int .i64 (c:Int),.int .i64 0,strB (jO key (Qm k c)).1,strB (jO key (Qm k c)).2])[i*6+j]?=[strB [sb],.int .i64 (k:Int),.int .i64 (c:Int),.int .i64 (p:Int),strB non,strB txt][j]?)∧(zj pre r key k c (Qp k c) (Qm k c))[i]?=some ⟨ji r key,non,jR pre sb k c p,txt⟩∧p≤65535):=fun i hi=>by
    obtain ⟨sb,p,non,txt,h⟩:=Sp pre r hi HK0.out hq60
    exact ⟨sb,p,non,txt,fun j hj=>by rw [AE hi hj,h.cells],h.told,h.small⟩
   have HPL:Hid ((xT key k c (Qp k c)).length=(Qp k c).length*6):=hpgs.1
   have HCL:=hid (RC pre r key k c (Qp k c) (Qm k c))
   have HP1:Hid (∀ u ∈ xT key k c (Qp k c),u.oneCell'=true):=by
    intro u hu
    simp only [xT,List.mem_flatten,List.mem_mapIdx] at hu
    obtain ⟨x,⟨q,hq,rfl⟩,hu⟩:=hu
    simp only [Yc,List.mem_cons,List.not_mem_nil,or_false] at hu
    rcases hu with rfl|rfl|rfl|rfl|rfl|rfl<;>simp [Value.oneCell']
   have hg1:=(hpgs.lt g1 rfl).2
   clear hpv hpgs
   generalize xT key k c (Qp k c)=PC at *
   generalize (jO key (Qm k c)).1=m1 at *
   generalize (jO key (Qm k c)).2=m2 at *
   generalize hQl:(Qp k c).length=ql at *
   generalize zj pre r key k c (Qp k c) (Qm k c)=CSL at *
   clear hQl
   have hpn:(jp S.rows G k:Int)=(jp S.rows G k:Int):=rfl
   generalize (jp S.rows G k)=pn at *
   clear hpn
   go_upto_region 5 with fail
   clear p0 p1 p2 p3 p4 p5 p6 p7
   obtain ⟨hbb,hsb,_,hhb⟩:=jK wr #[.int .i64 (pn:Int),.slice (some ⟨g1,0,none⟩) ql c1,strB [77],.int .i64 (k:Int),.int .i64 (c:Int),.int .i64 0,strB m1,strB m2] 157
   generalize wr.alloc (.cells #[.int .i64 (pn:Int),.slice (some ⟨g1,0,none⟩) ql c1,.string ⟨#[77]⟩,.int .i64 (k:Int),.int .i64 (c:Int),.int .i64 0,.string ⟨m1.toArray⟩,.string ⟨m2.toArray⟩] 157)=w3 at *
   have y1:w3.cell? ⟨wr.heap.size,1,none⟩=some (.slice (some ⟨g1,0,none⟩) ql c1):=by rw [jb hhb];rfl
   have y2:w3.cell? ⟨wr.heap.size,2,none⟩=some (strB [77]):=by rw [jb hhb];rfl
   have y3:w3.cell? ⟨wr.heap.size,3,none⟩=some (.int .i64 (k:Int)):=by rw [jb hhb];rfl
   have y4:w3.cell? ⟨wr.heap.size,4,none⟩=some (.int .i64 (c:Int)):=by rw [jb hhb];rfl
   have y5:w3.cell? ⟨wr.heap.size,5,none⟩=some (.int .i64 0):=by rw [jb hhb];rfl
   have y6:w3.cell? ⟨wr.heap.size,6,none⟩=some (strB m1):=by rw [jb hhb];rfl
   have y7:w3.cell? ⟨wr.heap.size,7,none⟩=some (strB m2):=by rw [jb hhb];rfl
   clear hhb
   obtain ⟨hb4,hs4,ho4,hq4⟩:=JY w3 #[strB [77],.int .i64 (k:Int),.int .i64 (c:Int),.int .i64 0,strB m1,strB m2] 75 #[.slice (some ⟨g1,0,none⟩) ql c1,.slice (some ⟨w3.heap.size,0,none⟩) 1 1] 155
   have HBB:=hid hbb
   have HB34:=hid (hbb.trans (hb4.mono hbb.size))
   have hz3:wr.heap.size < w3.heap.size:=hsb
   clear hbb hsb
   go_wp2_with fail
   clear y1 y2 y3 y4 y5 y6 y7
   have HO4:=hid ho4
   have HQ4:=hid hq4
   clear hb4 ho4 hq4
   generalize (w3.alloc _).alloc _=w4 at *
   have hg14:g1 < w4.heap.size:=Nat.lt_of_lt_of_le hg1 HB34.out.size
   refine (Mj (w3.heap.size+1) g1 ql c1 w3.heap.size PC [strB [77],.int .i64 (k:Int),.int .i64 (c:Int),.int .i64 0,strB m1,strB m2] w4 hq0 hq60 hs4 (by rw [jb HQ4.out];rfl) (by rw [jb HQ4.out];rfl) HPL.out rfl hg14 (by omega)
    (fun j u hu=>by
     have h:=VL HPGS.out j u hu
     rw [show (⟨g1,0,none⟩:Addr).add j=⟨g1,j,none⟩ by simp [Addr.add];omega] at h
     exact (HB34.out.cell (p:=⟨g1,j,none⟩) hg1).trans h)
    (fun j u hu=>by rw [jb HO4.out];simpa using hu) HP1.out (by intro u hu;simp at hu;rcases hu with rfl|rfl|rfl|rfl|rfl|rfl<;>simp [Value.oneCell'])).mono ?_
   rintro e w5 ⟨pv5,rfl,hown5,hb5⟩
   obtain ⟨pa,pc5,rfl⟩:=jL hown5
   have HOP:=hid hown5
   have HB5:=hid (HB34.out.trans (hb5.mono HB34.out.size))
   have HOwn5:=hid (jN HOwn.out HB5.out)
   have H15':=hid (jd HB5.out H15.out)
   have HB5w:=hid (HB.out.trans (HB5.out.mono HB.out.size))
   have hlw5:w.heap.size < w5.heap.size:=Nat.lt_of_lt_of_le hlw HB5.out.size
   clear hown5 hb5 HO4 HQ4 HPGS HPL HP1 HOwn H15 HB HBB HB34 hs4 hg14 hz3
   generalize hCS:zu pre r key c Qp Qm k=CS at *
   clear hCS
   generalize hMX:PC++[strB [77],.int .i64 (k:Int),.int .i64 (c:Int),.int .i64 0,strB m1,strB m2]=MX at *
   clear hMX
   go_wp2
   go_loopw [9,32] (fun v i wq=>∃ i':Nat,i'≤ql+1∧i=.int .i64 (i':Int)∧wq.ownsRow w.heap.size 54 4 v (CS++CSL.take i').length (qI (CS++CSL.take i'))∧wq.heap[w.heap.size]?=some (.cells SC 82 (0,0))∧w.heap.size < wq.heap.size∧Below w.heap.size w wq∧wq.ownsRow w4.heap.size 75 6 (.slice pa (ql+1) pc5) (ql+1) MX) (fun _ i _=>ql+1 - (intOf i).toNat)
   case atStart=>exact ⟨0,Nat.zero_le _,rfl,by rw [List.take_zero,List.append_nil];exact HOwn5.out,H15'.out,hlw5,HB5w.out,HOP.out⟩
   case round =>
    obtain ⟨i',hi',rfl,hown,h15,hlq,hB,hop⟩:=hrel
    have HOwn:=hid hown
    have HOP':=hid hop
    have HB:=hid hB
    have H15:=hid h15
    obtain ⟨wa6,wc6,rfl⟩:=jL hown
    clear hown hop hB h15 HOP
    by_cases hlt2:i' < ql+1
    ·have hii:(i':Int) < ((ql+1:Nat):Int):=by omega
     obtain ⟨sb,p,non,txt,hcl,htold,hp6⟩:=HPS.out i' hlt2
     obtain ⟨gp,rfl⟩:∃ gp,pa=some ⟨gp,0,none⟩:=by
      rcases HOP'.out.2 with ⟨_,h0⟩|⟨g,cap,cur,h,_⟩
      ·omega
      ·simp only [Value.slice.injEq] at h;exact ⟨g,h.1⟩
     have hgp:=(HOP'.out.lt gp rfl).2
     have q:∀ j,j < 6→wr.cell? ⟨gp,i'*6+j,none⟩=[strB [sb],.int .i64 (k:Int),.int .i64 (c:Int),.int .i64 (p:Int),strB non,strB txt][j]?:=fun j hj=>by rw [HOP'.out.cellAt _ (by omega)];exact hcl j hj
     have q0:wr.cell? ⟨gp,i'*6,none⟩=some (strB [sb]):=q 0 (by omega)
     have q1:wr.cell? ⟨gp,i'*6+1,none⟩=some (.int .i64 (k:Int)):=q 1 (by omega)
     have q2:wr.cell? ⟨gp,i'*6+2,none⟩=some (.int .i64 (c:Int)):=q 2 (by omega)
     have q3:wr.cell? ⟨gp,i'*6+3,none⟩=some (.int .i64 (p:Int)):=q 3 (by omega)
     have q4:wr.cell? ⟨gp,i'*6+4,none⟩=some (strB non):=q 4 (by omega)
     have q5:wr.cell? ⟨gp,i'*6+5,none⟩=some (strB txt):=q 5 (by omega)
     have HTK:Hid (CSL.take (i'+1)=CSL.take i'++[⟨ji r key,non,jR pre sb k c p,txt⟩]):=by
      have hlt3:=(List.getElem?_eq_some_iff.1 htold).1
      show CSL.take (i'+1)=_
      rw [List.take_succ_eq_append_getElem hlt3,(List.getElem?_eq_some_iff.1 htold).2]
     clear hcl htold q
     go_upto_region 8 with fail
     clear q0 q1 q2 q3 q4 q5
     obtain ⟨hbb,hsb,_,hhb⟩:=jK wr #[strB [sb],.int .i64 (k:Int),.int .i64 (c:Int),.int .i64 (p:Int),strB non,strB txt] 75
     generalize wr.alloc (.cells #[.string ⟨#[sb]⟩,.int .i64 (k:Int),.int .i64 (c:Int),.int .i64 (p:Int),.string ⟨non.toArray⟩,.string ⟨txt.toArray⟩] 75)=w6 at *
     have HSF:Hid (∀ w',w'.heap[wr.heap.size]?=some (.cells #[strB [sb],.int .i64 (k:Int),.int .i64 (c:Int),.int .i64 (p:Int),strB non,strB txt] 75 (0,0))→w'.heap[w.heap.size]?=some (.cells SC 82 (0,0))→Below w.heap.size w w'→w'.cell? ⟨wr.heap.size,0,none⟩=some (strB [sb])∧w'.cell? ⟨wr.heap.size,1,none⟩=some (.int .i64 (k:Int))∧w'.cell? ⟨wr.heap.size,2,none⟩=some (.int .i64 (c:Int))∧w'.cell? ⟨wr.heap.size,3,none⟩=some (.int .i64 (p:Int))∧w'.cell? ⟨wr.heap.size,4,none⟩=some (strB non)∧w'.cell? ⟨wr.heap.size,5,none⟩=some (strB txt)∧w'.cell? ⟨w.heap.size,15,none⟩=some (.slice (some ⟨cb,0,none⟩) n cc)∧w'.cell? ⟨cb,c*4+2,none⟩=some (.int .i64 key)):=fun w' hh h15 hbw =>
      ⟨by rw [jb hh];rfl,by rw [jb hh];rfl,by rw [jb hh];rfl,by rw [jb hh];rfl,by rw [jb hh];rfl,by rw [jb hh];rfl,by rw [jb h15];exact HC15.out,(hbw.cell (p:=⟨cb,c*4+2,none⟩) hcb).trans HK2.out⟩
     have H156:=hid (jd hbb H15.out)
     have HS0:=hid (HSF.out w6 hhb H156.out (HB.out.trans (hbb.mono HB.out.size)))
     have HH6:=hid hhb
     have HBB:=hid hbb
     have HOwn6:=hid (jN HOwn.out hbb)
     have HOP6:=hid (jN HOP'.out hbb)
     have hpx6:wr.heap.size < w6.heap.size:=hsb
     have HEX:Hid (∀ w':World,Calls Tryz.prog 87 #[.agg #[strB [sb],.int .i64 (k:Int),.int .i64 (c:Int),.int .i64 (p:Int)],strB pre,.slice none 0 0] w' fun e w2=>e=.returned (strB (jR pre sb k c p))∧Below w'.heap.size w' w2):=by
      intro w'
      have:=XW sb k c p pre (.slice none 0 0) [] w' (by omega) (by omega) hp6 hpre (by decide) (KK w')
      rw [List.append_nil] at this
      exact this
     have HPSE:=hid (fun (ext:List UInt8) (w':World) (hb:Below w.heap.size w w')=>Ng [sb] (k:Int) (c:Int) (p:Int) non txt ra rcap r key ext w' hrm HSEC.out (HR.out.later hb))
     have HB6:=hid (HB.out.trans (hbb.mono HB.out.size))
     have hlen6:(CS++CSL.take i').length≤3660:=by rw [List.length_append,List.length_take];omega
     clear hbb hhb hsb HOwn HOP' H15
     generalize hpx:wr.heap.size=px at *
     clear hpx
     generalize jR pre sb k c p=ext at *
     generalize hSQ:CS++CSL.take i'=SQ at *
     have HSQ:=hid hSQ
     clear hSQ
     refine wp_region_held_drew (S:=fun w'=>w'.cell? ⟨px,0,none⟩=some (strB [sb])∧w'.cell? ⟨px,1,none⟩=some (.int .i64 (k:Int))∧w'.cell? ⟨px,2,none⟩=some (.int .i64 (c:Int))∧w'.cell? ⟨px,3,none⟩=some (.int .i64 (p:Int))∧w'.cell? ⟨px,4,none⟩=some (strB non)∧w'.cell? ⟨px,5,none⟩=some (strB txt)∧w'.cell? ⟨w.heap.size,15,none⟩=some (.slice (some ⟨cb,0,none⟩) n cc)∧w'.cell? ⟨cb,c*4+2,none⟩=some (.int .i64 key)) (by kernel_rfl) HS0.out (fun hHeld=>?_)
     refine tk 0 (.slice wa6 SQ.length wc6) ?_
     refine tk 1 (.agg #[strB [sb],.int .i64 (k:Int),.int .i64 (c:Int),.int .i64 (p:Int),strB non,strB txt]) ?_
     refine tk 2 (.slice ra r.length rcap) ?_
     refine tk 3 (.pointer (some ⟨w.heap.size,10,none⟩)) ?_
     refine tk 4 (.pointer (some ⟨w.heap.size,15,none⟩)) ?_
     refine tk 5 (.slice (some ⟨cb,0,none⟩) n cc) ?_
     refine tk 6 (.int .i64 (c:Int)) ?_
     refine tk 7 (.pointer (some ⟨cb,c*4,none⟩)) ?_
     refine tk 8 (.pointer (some ⟨cb,c*4+2,none⟩)) ?_
     refine tk 9 (.int .i64 key) ?_
     refine tk 10 (.pointer (some ⟨px,0,none⟩)) ?_
     refine tk 11 (.agg #[strB [sb],.int .i64 (k:Int),.int .i64 (c:Int),.int .i64 (p:Int)]) ?_
     refine tk 12 (strB pre) ?_
     simp only [jA,jB,jC,Act.put,jD,jE,jF]
     refine rd 13 (fun K hK=>?_)
     simp only [jA,jB,jC]
     go_simp
     go_at_call 87
     refine (HEX.out _).mono ?_
     rintro e w7 ⟨rfl,hb7⟩
     replace hb7:=jl hb7
     have HH7:=hid (jd hb7 HH6.out)
     have H157:=hid (jd hb7 H156.out)
     have HB7:=hid (HB6.out.trans (hb7.mono HB6.out.size))
     have HO7:=hid (jN HOwn6.out hb7)
     have HP7:=hid (jN HOP6.out hb7)
     have hS:=HSF.out w7 HH7.out H157.out HB7.out
     clear hb7
     try go_wp2_with fail
     refine hK.out _ _ hS (fun hHeld=>?_)
     clear hK K hS
     try simp only [jA,jB,jC,Act.put,jD,jE,jF]
     refine rd 14 (fun K hK=>?_)
     simp only [jA,jB,jC]
     go_simp
     go_at_call 84
     refine (HPSE.out ext _ HB7.out).mono ?_
     rintro e w8 ⟨rfl,hb8⟩
     have HH8:=hid (jd hb8 HH7.out)
     have H158:=hid (jd hb8 H157.out)
     have HB8:=hid (HB7.out.trans (hb8.mono HB7.out.size))
     have HO8:=hid (jN HO7.out hb8)
     have HP8:=hid (jN HP7.out hb8)
     have hS:=HSF.out w8 HH8.out H158.out HB8.out
     clear hb8
     generalize hsec8:ji r key=sec at *
     have HSC8:=hid hsec8
     clear hsec8
     try go_wp2_with fail
     refine hK.out _ _ hS (fun hHeld=>?_)
     clear hK K hS
     try simp only [jA,jB,jC,Act.put,jD,jE,jF]
     refine rd 15 (fun K hK=>?_)
     simp only [jA,jB,jC]
     go_simp
     try go_wp2_with fail
     have HHa:=hid (jo (.cells #[strB sec,strB non,strB ext,strB txt] 54) HH8.out)
     have H15a:=hid (jo (.cells #[strB sec,strB non,strB ext,strB txt] 54) H158.out)
     have HBa:=hid (HB8.out.alloc HB8.out.size (.cells #[strB sec,strB non,strB ext,strB txt] 54))
     have HOa:=hid (HO8.out.alloc (.cells #[strB sec,strB non,strB ext,strB txt] 54))
     have HPa:=hid (HP8.out.alloc (.cells #[strB sec,strB non,strB ext,strB txt] 54))
     have hS:=HSF.out _ HHa.out H15a.out HBa.out
     have hza:w.heap.size≤(w8.alloc (.cells #[strB sec,strB non,strB ext,strB txt] 54)).heap.size:=HBa.out.size
     refine hK.out _ _ hS (fun hHeld=>?_)
     clear hK K hS
     try simp only [jA,jB,jC,Act.put,jD,jE,jF]
     refine rd 16 (fun K hK=>?_)
     simp only [jA,jB,jC]
     rw [if_pos (by simp [Region.wanted])]
     refine wp_append_own _ (.tmp 36) (.tmp 51) 37 rfl w.heap.size 54 i0 _ 4 64 Tryz.underlying37 hi hz0 hz1 hz2 rfl (by decide) (.slice wa6 SQ.length wc6) SQ.length (qI SQ) rfl HOa.out ⟨w8.heap.size,0,none⟩ 1 1 [strB sec,strB non,strB ext,strB txt] rfl rfl (qE w8 #[strB sec,strB non,strB ext,strB txt] 54) (by intro u hu;simp at hu;rcases hu with rfl|rfl|rfl|rfl<;>simp [Value.oneCell']) (by unfold maxLen;omega) (by omega) hza ?_
     intro v2 w9 hown9 hgr9 _
     obtain ⟨va9,vc9,rfl⟩:=jL hown9
     have hlpx:=(Array.getElem?_eq_some_iff.1 HHa.out).1
     have hlsh:=(Array.getElem?_eq_some_iff.1 H15a.out).1
     have HH9:=hid ((hgr9.block px hlpx (fun e=>Mx HOa.out HHa.out (by decide) e.symm)).trans HHa.out)
     have H159:=hid ((hgr9.block w.heap.size hlsh (fun e=>Mx HOa.out H15a.out (by decide) e.symm)).trans H15a.out)
     have HB9:=hid (HBa.out.grown hgr9 hza (fun k hk=>(HOa.out.lt k hk).1))
     have HP9:=hid (HPa.out.kept hgr9 (zo HPa.out HOa.out (by decide)))
     have HO9:Hid (w9.ownsRow w.heap.size 54 4 (.slice va9 (SQ.length+1) vc9) (CS++CSL.take (i'+1)).length (qI (CS++CSL.take (i'+1)))):=by
      rw [HTK.out,← List.append_assoc,HSQ.out,KJ,Aw,List.length_append]
      exact hown9
     have hlq9:w.heap.size < w9.heap.size:=Nat.lt_of_lt_of_le hlsh hgr9.size
     have hS:=HSF.out w9 HH9.out H159.out HB9.out
     clear hgr9 hown9
     refine hK.out _ _ hS (fun hHeld=>?_)
     clear hK K hS
     try simp only [jA,jB,jC,Act.put,jD,jE,jF]
     refine tk 17 (.slice va9 (SQ.length+1) vc9) ?_
     simp only [jA,jB,jC,Act.put,jD,jE,jF]
     refine wpAnyH_done (by kernel_rfl) ?_ _
     clear hHeld
     go_wp2
     go_roundw
     case rel=>exact ⟨i'+1,by omega,by go_num,HO9.out,H159.out,hlq9,HB9.out,HP9.out⟩
     case measure=>simp [intOf];omega
    ·have hie:i'=ql+1:=by omega
     subst hie
     have HFS:Hid (CS++CSL.take (ql+1)=CS++CSL):=by
      show _=_
      rw [List.take_of_length_le (by rw [HCL.out];exact Nat.le_refl _)]
     have HOF:Hid (wr.ownsRow w.heap.size 54 4 (.slice wa6 (CS++CSL.take (ql+1)).length wc6) (zu pre r key c Qp Qm (k+1)).length (qI (zu pre r key c Qp Qm (k+1)))):=by
      rw [HSTEP.out,← HFS.out]
      exact HOwn.out
     have HLL:Hid ((zu pre r key c Qp Qm (k+1)).length≤61*(k+1)):=by
      show (zu pre r key c Qp Qm (k+1)).length≤_
      rw [HSTEP.out,List.length_append,HCL.out]
      omega
     have hdn:decide (((ql+1:Nat):Int) < (ql:Int)+1)=false:=by simp
     have hdn2:¬ (((ql+1:Nat):Int) < (ql:Int)+1):=by omega
     go_wp2
     go_roundw
     case rel=>exact ⟨k+1,by omega,by go_num,HOF.out,HLL.out,H15.out,hlq,HB.out⟩
     case measure=>simp [intOf];omega
  ·have hke:k=CN:=by omega
   subst hke
   go_wp2
   go_ret
   exact ⟨_,rfl,HOwn.out,by omega,HB.out⟩
end
end Go.Proofs.YthhpbhpfagoapabGreat
