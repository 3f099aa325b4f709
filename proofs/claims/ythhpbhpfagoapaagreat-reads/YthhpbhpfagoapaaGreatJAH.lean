import Derived.Test.YthhpbhpfagoapaaGreatJAN
import Derived.Laws.CopyOwn
import Derived.OwnWalk
import Derived.Deep.QuietTactic
import Derived.BigQuiet
import Derived.WalkSmall
import Derived.Deep.RegionWith
import Derived.Test.YthhpbhpfagoapaaGreatJAJ
namespace Go.Proofs.YthhpbhpfagoapaaGreat
set_option linter.unusedVariables false
set_option linter.unusedSimpArgs false
set_option maxRecDepth 100000
set_option maxHeartbeats 16000000
section
open Go.RowKit
theorem KT (w:World) (dT sT ty elem:TypeId) (g dLen dCap size:Nat) (a:Addr) (sLen sCap:Nat) (cur:Array Value) (t:TypeId) (cs:List Value)
  (hu:Tryz.prog.underlying dT=some (.slice elem)) (hs:(Tryz.prog.info? elem).map (·.size)=some size)
  (hg:w.heap[g]?=some (.cells cur t (0,0))) (hn:cs.length=Nat.min sLen dLen*size)
  (hsrc:∀ j v,cs[j]?=some v→w.cell? (a.add j)=some v) (hfit:cs.length≤cur.size) (h1:∀ v ∈ cs,v.oneCell'=true) :
  (Builtin.copy_ #[dT,sT] ty #[.slice (some ⟨g,0,none⟩) dLen dCap,.slice (some a) sLen sCap]).run Tryz.prog w =
   .ok (goInt (Nat.min sLen dLen)) (w.setRow g (cs++cur.toList.drop cs.length).toArray):=by
 have hl:=run_loadCells_list (P:=Tryz.prog) w a cs hsrc
 have hst:=run_storeCells_at Tryz.prog g 0 t cs 0 cur w hg (by simpa using hfit) h1
 cases hq:Tryz.prog.info? elem with
 | none=>simp [hq] at hs
 | some i =>
  have hi:i.size=size:=by simpa [hq] using hs
  simp only [Nat.zero_add,List.take_zero,List.nil_append] at hst
  simp [Builtin.copy_,run_underlying hu,Builtin.lenOf,Builtin.firstCells,sizeOf,typeInfo,hq,hi,← hn,hl,hst]
theorem Ri (w:World) (dT sT ty elem:TypeId) (g dLen dCap size sCap:Nat)
  (hu:Tryz.prog.underlying dT=some (.slice elem)) (hs:(Tryz.prog.info? elem).map (·.size)=some size) :
  (Builtin.copy_ #[dT,sT] ty #[.slice (some ⟨g,0,none⟩) dLen dCap,.slice none 0 sCap]).run Tryz.prog w=.ok (goInt 0) w:=by
 cases hq:Tryz.prog.info? elem with
 | none=>simp [hq] at hs
 | some i=>simp [Builtin.copy_,run_underlying hu,Builtin.lenOf,Builtin.firstCells,sizeOf,typeInfo,hq,storeCells]
theorem Lies.cells {w:World} {b off:Nat} {l:List CellB} (h:∀ j (h:j < l.length),
  w.cell? ⟨b,off+j*3,none⟩=some (.bool (l[j]).null)∧w.cell? ⟨b,off+j*3+1,none⟩=some (.int .i64 (l[j]).int)∧w.cell? ⟨b,off+j*3+2,none⟩=some (strB (l[j]).text)) :
  ∀ i v,(jG l)[i]?=some v→w.cell? ((⟨b,off,none⟩:Addr).add i)=some v:=by
 intro i v hi
 have hil:i < (jG l).length:=(List.getElem?_eq_some_iff.1 hi).1
 rw [Jl] at hil
 have hj:i / 3 < l.length:=by omega
 obtain ⟨h1,h2,h3⟩:=h (i / 3) hj
 obtain ⟨c1,c2,c3⟩:=KH l (i / 3) hj
 have ha:(⟨b,off,none⟩:Addr).add i=⟨b,off+i,none⟩:=by unfold Addr.add;split<;>simp_all
 rw [ha]
 have hm:i % 3=0∨i % 3=1∨i % 3=2:=by omega
 rcases hm with hm|hm|hm
 ·have e:i=i / 3*3:=by omega
  rw [e] at hi ⊢
  rw [c1] at hi
  rw [h1];exact hi
 ·have e:i=i / 3*3+1:=by omega
  rw [e] at hi ⊢
  rw [c2] at hi
  rw [← Nat.add_assoc,h2];exact hi
 ·have e:i=i / 3*3+2:=by omega
  rw [e] at hi ⊢
  rw [c3] at hi
  rw [← Nat.add_assoc,h3];exact hi
theorem ZN (l:List CellB):∀ v ∈ jG l,v.oneCell'=true:=by
 intro v hv
 simp only [jG,List.mem_flatMap] at hv
 obtain ⟨c,_,hc⟩:=hv
 simp at hc
 rcases hc with rfl|rfl|rfl<;>rfl
theorem PV (a a2:Option Addr) (cap cap2:Nat) (l:List CellB) (w:World) (hm:l.length≤maxLen) (hl:Lies w a l) (hl2:Lies w a2 l) :
  Calls Tryz.prog 92 #[.slice a l.length cap,.slice a2 l.length cap2] w fun e w'=>e=.returned (.bool true)∧Below w.heap.size w w':=by
 have Hl:=hid hl
 have Hl2:=hid hl2
 clear hl hl2
 unfold maxLen at hm
 have hne:((l.length:Int) != (l.length:Int))=false:=by simp
 go_enter Tryz.func92,Tryz.ntmps92
 go_wp2
 go_loopw [5] (fun i wr=>∃ k:Nat,k≤l.length∧i=.int .i64 (k:Int)∧Below w.heap.size w wr) (fun i _=>l.length - (intOf i).toNat)
 case atStart=>exact ⟨0,Nat.zero_le _,rfl,Below.refl _ _⟩
 case round =>
  obtain ⟨k,hk,rfl,hB⟩:=hrel
  by_cases hlt:k < l.length
  ·obtain ⟨b,off,rfl,hbw,hcell⟩:=(Hl.out.later hB).at_ (List.ne_nil_of_length_pos (by omega))
   obtain ⟨g1,g2,g3⟩:=hcell k hlt
   obtain ⟨b',off',rfl,hbw',hcell'⟩:=(Hl2.out.later hB).at_ (List.ne_nil_of_length_pos (by omega))
   obtain ⟨k1,k2,k3⟩:=hcell' k hlt
   clear hcell hcell'
   generalize l[k]=c at *
   have hki:(k:Int) < (l.length:Int):=by omega
   go_wp2_with fail
   go_quiet (fail)
   go_wp2_with fail
   go_roundw
   case rel=>exact ⟨k+1,by omega,by go_num,below_drewN hB nq⟩
   case measure=>simp [intOf];omega
  ·go_wp2
   go_ret
   exact ⟨rfl,hB⟩
end
section
open Go.RowKit
def xT (kind:Int) (n:Nat) (st:Option (List UInt8)):List CellB × Option (List UInt8) :=
 match qd 1 st with
 | (c :: _,some r) =>
  if kind=1∧c.toNat=3 then xF kind 3 (xU (jJ 60 (some r)).1 (jJ 60 (some r)).2).1 n (n+1) [] qy (xU (jJ 60 (some r)).1 (jJ 60 (some r)).2).2
  else xF kind c.toNat [] n (n+1) [] qy (some r)
 | _=>([],none)
theorem QZ (kind:Int) (n:Nat) (c:UInt8) (r:List UInt8):xT kind n (some (c :: r)) =
  if kind=1∧c.toNat=3 then xF kind 3 (xU (jJ 60 (some r)).1 (jJ 60 (some r)).2).1 n (n+1) [] qy (xU (jJ 60 (some r)).1 (jJ 60 (some r)).2).2
  else xF kind c.toNat [] n (n+1) [] qy (some r):=by
 simp only [xT,Ra]
theorem Ap (kind:Int) (v:List CellB) (r:List UInt8) (j:Nat) (hj:j < 3) (hk:kind=0∨kind=1) (hn:v.length≤60) (h0:kind=0→∀ c ∈ v,Mk c) (h1:kind=1→∀ c ∈ v,RU c) :
  xT kind v.length (some (zW (Xl kind j) v++r))=(v,some r):=by
 rcases hk with rfl|rfl
 ·have hv:=h0 rfl
  have hw:Xl 0 j=j:=rfl
  rw [hw]
  have e5:((j:Int) % 5)=(j:Int):=by omega
  show xT 0 v.length (some (byB ((j:Int) % 5) :: (qp j v++r)))=_
  rw [QZ,e5,JF j (by omega),if_neg (by omega)]
  have hww:qp j v=zI j v 0 v.length:=by unfold qp;rw [if_neg (by omega),List.nil_append,KJ]
  rw [hww]
  match j,hj with
  | 0,_=>exact Lt v r hv
  | 1,_=>exact Ll v r hv
  | 2,_ =>
   have:=Lw v r hv hn v.length 0 (v.length+1) qy (by omega) (by omega) (.inr (.inl rfl))
   simpa using this
 ·have hv:=h1 rfl
  match j,hj with
  | 0,_ =>
   show xT 1 v.length (some (byB 0 :: (qp 5 v++r)))=_
   rw [QZ,show (byB 0).toNat=0 from rfl,if_neg (by omega)]
   have hww:qp 5 v=zI 5 v 0 v.length:=by unfold qp;rw [if_neg (by omega),List.nil_append,KJ]
   rw [hww]
   exact SV v r hv
  | 1,_ =>
   show xT 1 v.length (some (byB 3 :: (qp 3 v++r)))=_
   rw [QZ,show (byB 3).toNat=3 from rfl,if_pos ⟨rfl,rfl⟩]
   have hd:(qb v).length≤60:=Nat.le_trans (zp v v.length) hn
   have hww:qp 3 v++r=uB (qb v).length++(xsB (qb v)++(zI 3 v 0 v.length++r)):=by
    unfold qp
    rw [if_pos rfl,Ml (qb v) (qb v).length (Nat.le_refl _),List.take_length,KJ]
    simp only [List.append_assoc]
   rw [hww,Jn 60 _ _ hd (by omega)]
   simp only
   rw [IN (qb v) _ (fun c hc=>(hv c (JZ v v.length (Nat.le_refl _) c hc)).2.2)]
   exact SR v r hv hn
  | 2,_ =>
   show xT 1 v.length (some (byB 4 :: (qp 4 v++r)))=_
   rw [QZ,show (byB 4).toNat=4 from rfl,if_neg (by omega)]
   have hww:qp 4 v=zI 4 v 0 v.length:=by unfold qp;rw [if_neg (by omega),List.nil_append,KJ]
   rw [hww]
   exact Ls v r hv
theorem DP (kind:Int) (v:List CellB):∃ j,j < 3∧jE kind v 3=zW (Xl kind j) v:=by
 have h1:jE kind v 1=zW (Xl kind 0) v:=by simp [jE]
 have h2:jE kind v 2=zW (Xl kind 1) v∨jE kind v 2=zW (Xl kind 0) v:=by
  show (if 1=0∨_ then _ else _)=_∨(if 1=0∨_ then _ else _)=_
  split
  ·exact .inl rfl
  ·exact .inr h1
 have h3:jE kind v 3=zW (Xl kind 2) v∨jE kind v 3=jE kind v 2:=by
  show (if 2=0∨_ then _ else _)=_∨(if 2=0∨_ then _ else _)=_
  split
  ·exact .inl rfl
  ·exact .inr rfl
 rcases h3 with h|h
 ·exact ⟨2,by omega,h⟩
 ·rcases h2 with h'|h'
  ·exact ⟨1,by omega,by rw [h,h']⟩
  ·exact ⟨0,by omega,by rw [h,h']⟩
def zV (n:Nat):Nat→List Bool→Bool→Option (List UInt8)→List Bool × Option (List UInt8)
 | 0,l,_,st=>(l,st)
 | f+1,l,b,st=>if l.length < n∧st.isSome=true then zV n f (l++List.replicate (jJ (n - l.length) st).1 b) (!b) (jJ (n - l.length) st).2 else (l,st)
theorem Mi (b:Bool) (l:List CellB):(l.take (rowB b l)).map (·.null)=List.replicate (rowB b l) b:=by
 apply List.ext_getElem
 ·simp only [List.length_map,List.length_take,List.length_replicate]
  have:=ZT b l
  omega
 ·intro i h1 h2
  simp only [List.length_replicate] at h2
  obtain ⟨h3,h4⟩:=GC b l i h2
  simp only [List.getElem_map,List.getElem_take,List.getElem_replicate]
  exact h4
theorem Cj (b:Bool) (l:List CellB) (h:rowB b l=0) (hl:l≠[]):rowB (!b) l≠0:=by
 cases l with
 | nil=>exact absurd rfl hl
 | cons c l =>
  simp only [rowB] at h ⊢
  have hc:¬ c.null=b:=by intro e;simp [e] at h
  have hc2:c.null=!b:=by cases hn:c.null<;>cases b<;>simp_all
  simp [hc2]
theorem CK (n:Nat) (hn:n≤60) (r:List UInt8):∀ (f:Nat) (l:List CellB) (b:Bool) (pre:List Bool),pre.length+l.length=n→2*l.length+(if rowB b l=0 then 1 else 0) < f →
  zV n f pre b (some (qO b l++r))=(pre++l.map (·.null),some r):=by
 intro f
 induction f with
 | zero=>intro l b pre _ h;omega
 | succ f ih =>
  intro l b pre hp hf
  by_cases hl:l=[]
  ·subst hl
   simp only [List.length_nil,Nat.add_zero] at hp
   rw [zV,if_neg (by omega)]
   simp [qO]
  ·have hpos:0 < l.length:=by cases l with|nil=>exact absurd rfl hl|cons c l=>simp
   have hrow:=ZT b l
   rw [zV,if_pos ⟨by omega,rfl⟩,QT b l hl,List.append_assoc,Jn _ _ _ (by omega) (by omega)]
   simp only
   have e:pre++l.map (·.null)=(pre++List.replicate (rowB b l) b)++(l.drop (rowB b l)).map (·.null):=by
    rw [List.append_assoc,← Mi b l,← List.map_append,List.take_append_drop]
   rw [e]
   refine ih (l.drop (rowB b l)) (!b) _ ?_ ?_
   ·simp only [List.length_append,List.length_replicate,List.length_drop];omega
   ·rw [List.length_drop]
    by_cases h0:rowB b l=0
    ·rw [h0,List.drop_zero,if_neg (Cj b l h0 hl)]
     rw [if_pos h0] at hf
     omega
    ·rw [if_neg h0] at hf
     split<;>omega
def qh:List Bool→List CellB→List CellB
 | [],_=>[]
 | true :: l,v=>⟨true,0,[]⟩ :: qh l v
 | false :: l,c :: v=>c :: qh l v
 | false :: l,[]=>⟨false,0,[]⟩ :: qh l []
theorem VI (l:List CellB) (h:∀ c ∈ l,c.null=true→c=⟨true,0,[]⟩):qh (l.map (·.null)) (je l)=l:=by
 induction l with
 | nil=>rfl
 | cons c l ih =>
  have ih':=ih (fun x hx=>h x (by simp [hx]))
  cases hc:c.null with
  | true =>
   have e:=h c (by simp) hc
   have ev:je (c :: l)=je l:=by simp [je,hc]
   simp only [List.map_cons,hc,ev,qh]
   rw [ih',← e]
  | false =>
   have ev:je (c :: l)=c :: je l:=by simp [je,hc]
   simp only [List.map_cons,hc,ev,qh]
   rw [ih']
def jO (l:List Bool):Nat:=(l.filter fun b=>!b).length
theorem Xo (l:List CellB):jO (l.map (·.null))=(je l).length:=by
 unfold jO je
 rw [List.filter_map,List.length_map]
 rfl
def Xf (kind:Int) (page:List UInt8):Option (List CellB) :=
 if (zV (jJ 60 (some page)).1 200 [] false (jJ 60 (some page)).2).2=none∨(zV (jJ 60 (some page)).1 200 [] false (jJ 60 (some page)).2).1.length≠(jJ 60 (some page)).1 then none
 else if jO (zV (jJ 60 (some page)).1 200 [] false (jJ 60 (some page)).2).1=0 then some (qh (zV (jJ 60 (some page)).1 200 [] false (jJ 60 (some page)).2).1 [])
 else if (xT kind (jO (zV (jJ 60 (some page)).1 200 [] false (jJ 60 (some page)).2).1) (zV (jJ 60 (some page)).1 200 [] false (jJ 60 (some page)).2).2).2=none ∨
   (xT kind (jO (zV (jJ 60 (some page)).1 200 [] false (jJ 60 (some page)).2).1) (zV (jJ 60 (some page)).1 200 [] false (jJ 60 (some page)).2).2).1.length≠jO (zV (jJ 60 (some page)).1 200 [] false (jJ 60 (some page)).2).1 then none
 else some (qh (zV (jJ 60 (some page)).1 200 [] false (jJ 60 (some page)).2).1 (xT kind (jO (zV (jJ 60 (some page)).1 200 [] false (jJ 60 (some page)).2).1) (zV (jJ 60 (some page)).1 200 [] false (jJ 60 (some page)).2).2).1)
theorem Te {c:CellB} (h:xL 0 c=true) (hn:c.null=false) (hr:-9223372036854775808≤c.int∧c.int≤9223372036854775807):Mk c:=by
 unfold xL at h
 rw [hn] at h
 simp at h
 exact ⟨hn,h,hr.1,hr.2⟩
theorem CD {c:CellB} (h:xL 1 c=true) (hn:c.null=false):RU c:=by
 unfold xL at h
 rw [hn] at h
 simp at h
 exact ⟨hn,h.1,h.2⟩
theorem CP {kind:Int} {c:CellB} (h:xL kind c=true) (hn:c.null=true):c=⟨true,0,[]⟩:=by
 unfold xL at h
 rw [if_pos hn] at h
 obtain ⟨n,i,t⟩:=c
 simp at h hn
 obtain ⟨h1,h2⟩:=h
 subst h1 h2 hn
 rfl
theorem Av (kind:Int) (l:List CellB) (rest:List UInt8) (hok:qE kind l=true) (hr:∀ c ∈ l,-9223372036854775808≤c.int∧c.int≤9223372036854775807):Xf kind (xw kind l++rest)=some l:=by
 unfold qE at hok
 simp only [Bool.and_eq_true,Bool.or_eq_true,decide_eq_true_eq,List.all_eq_true] at hok
 obtain ⟨⟨hk,hn⟩,hf⟩:=hok
 have hnull:∀ c ∈ l,c.null=true→c=⟨true,0,[]⟩:=fun c hc h=>CP (hf c hc) h
 have hfill:=VI l hnull
 have hmem:∀ c ∈ je l,c ∈ l∧c.null=false:=fun c hc=>by
  have:=List.mem_filter.1 hc
  exact ⟨this.1,by simpa using this.2⟩
 have hvl:(je l).length≤l.length:=List.length_filter_le _ _
 have hhead:∀ rest:List UInt8,jJ 60 (some (zr l++rest))=(l.length,some (qO false l++rest)):=by
  intro rest
  unfold zr
  rw [List.append_assoc]
  exact Jn 60 l.length _ hn (by omega)
 have hruns:∀ rest:List UInt8,zV l.length 200 [] false (some (qO false l++rest))=(l.map (·.null),some rest):=by
  intro rest
  have:=CK l.length hn rest 200 l false [] (by simp) (by split<;>omega)
  simpa using this
 by_cases hv:je l=[]
 ·have hp:xw kind l=zr l:=by unfold xw;rw [if_pos hv]
  unfold Xf
  rw [hp,hhead rest]
  simp only
  rw [hruns rest]
  simp only
  rw [if_neg (by simp),Xo,hv,if_pos (show ([]:List CellB).length=0 from rfl)]
  rw [hv] at hfill
  rw [hfill]
 ·have hp:xw kind l=zr l++jE kind (je l) 3:=by unfold xw;rw [if_neg hv]
  obtain ⟨j,hj,hb⟩:=DP kind (je l)
  have hg:=Ap kind (je l) rest j hj hk (by omega) (fun h c hc=>by subst h;exact Te (hf c (hmem c hc).1) (hmem c hc).2 (hr c (hmem c hc).1)) (fun h c hc=>by subst h;exact CD (hf c (hmem c hc).1) (hmem c hc).2)
  rw [← hb] at hg
  have hpos:(je l).length≠0:=fun h=>hv (List.eq_nil_of_length_eq_zero h)
  unfold Xf
  rw [hp,List.append_assoc,hhead]
  simp only
  rw [hruns]
  simp only
  rw [if_neg (by simp),Xo,if_neg hpos,hg]
  simp only
  rw [if_neg (by simp),hfill]
def JP (c:CellB):Prop:=-9223372036854775808≤c.int∧c.int≤9223372036854775807
theorem Cv (k:Nat) (hk:k < 18446744073709551616):-9223372036854775808≤zOf k∧zOf k≤9223372036854775807:=by
 unfold zOf;split<;>omega
theorem Ep (kind:Int) (e:Nat) (words:List (List UInt8)) (n len:Nat) (last:CellB) (st:Option (List UInt8)):JP (qP kind e words n len last st).1:=by
 unfold qP
 split
 ·exact zk (Uf (qd 8 st).1:Int)
 split
 ·exact zk (last.int+zOf (uR st).1)
 split
 ·exact Cv _ (DV _)
 split
 ·exact ⟨(by decide:(-9223372036854775808:Int)≤0),(by decide:(0:Int)≤9223372036854775807)⟩
 split
 ·exact ⟨(by decide:(-9223372036854775808:Int)≤0),(by decide:(0:Int)≤9223372036854775807)⟩
 split
 ·exact ⟨(by decide:(-9223372036854775808:Int)≤0),(by decide:(0:Int)≤9223372036854775807)⟩
 ·exact ⟨(by decide:(-9223372036854775808:Int)≤0),(by decide:(0:Int)≤9223372036854775807)⟩
theorem UP (kind:Int) (e:Nat) (words:List (List UInt8)) (n:Nat):∀ (f:Nat) (l:List CellB) (last:CellB) (st:Option (List UInt8)),(∀ c ∈ l,JP c)→∀ c ∈ (xF kind e words n f l last st).1,JP c:=by
 intro f
 induction f with
 | zero=>intro l last st h;exact h
 | succ f ih =>
  intro l last st h
  rw [xF]
  split
  ·refine ih _ _ _ (fun c hc=>?_)
   rcases List.mem_append.1 hc with hc|hc
   ·exact h c hc
   ·rw [(List.mem_replicate.1 hc).2]
    exact Ep _ _ _ _ _ _ _
  ·exact h
theorem YA (kind:Int) (n:Nat) (st:Option (List UInt8)):∀ c ∈ (xT kind n st).1,JP c:=by
 unfold xT
 split
 ·split
  ·exact UP _ _ _ _ _ _ _ _ (by simp)
  ·exact UP _ _ _ _ _ _ _ _ (by simp)
 ·simp
theorem Gq:∀ (l:List Bool) (v:List CellB),(∀ c ∈ v,JP c)→∀ c ∈ qh l v,JP c:=by
 intro l
 induction l with
 | nil=>intro v h c hc;simp [qh] at hc
 | cons b l ih =>
  intro v h c hc
  have h0:JP ⟨true,0,[]⟩:=⟨by decide,by decide⟩
  have h1:JP ⟨false,0,[]⟩:=⟨by decide,by decide⟩
  cases b with
  | true =>
   simp only [qh,List.mem_cons] at hc
   rcases hc with rfl|hc
   ·exact h0
   ·exact ih v h c hc
  | false =>
   cases v with
   | nil =>
    simp only [qh,List.mem_cons] at hc
    rcases hc with rfl|hc
    ·exact h1
    ·exact ih [] h c hc
   | cons d v =>
    simp only [qh,List.mem_cons] at hc
    rcases hc with rfl|hc
    ·exact h c (by simp)
    ·exact ih v (fun x hx=>h x (by simp [hx])) c hc
theorem YW {kind:Int} {page:List UInt8} {l:List CellB} (h:Xf kind page=some l):∀ c ∈ l,JP c:=by
 unfold Xf at h
 split at h
 ·cases h
 ·split at h
  ·cases h;exact Gq _ _ (by simp)
  ·split at h
   ·cases h
   ·cases h;exact Gq _ _ (YA _ _ _)
def qV (kind:Int) (page:List UInt8):Option (List CellB) :=
 match Xf kind page with
 | none=>none
 | some l=>if qE kind l=true∧xw kind l=page then some l else none
theorem XV {kind:Int} {page:List UInt8} {l:List CellB} (h:qV kind page=some l):qE kind l=true∧xw kind l=page∧∀ c ∈ l,JP c:=by
 unfold qV at h
 split at h
 ·cases h
 ·rename_i l' hl
  split at h
  ·rename_i hc
   cases h
   exact ⟨hc.1,hc.2,YW hl⟩
  ·cases h
theorem VR (kind:Int) (l:List CellB) (hok:qE kind l=true) (hr:∀ c ∈ l,JP c):qV kind (xw kind l)=some l:=by
 have:=Av kind l [] hok hr
 rw [List.append_nil] at this
 unfold qV
 rw [this]
 exact if_pos ⟨hok,rfl⟩
end
section
open Go.RowKit
def Yw (w:World) (v:Value):Option (List CellB)→Prop
 | none=>∃ a cap,v=.slice a 0 cap
 | some l=>∃ a cap,v=.slice a l.length cap∧Lies w a l
end
section
open Go.RowKit
set_option maxRecDepth 100000 in
theorem Jo (p:Nat) (s:List UInt8) (st:Option (List UInt8)) (max:Int) (w:World) (hs:s.length≤maxLen) (h0:0≤max) (h1:max≤1000000000000) (hp:jS w p s st) :
  Calls Tryz.prog 172 #[.pointer (some ⟨p,0,none⟩),.int .i64 max] w fun e w'=>e=.returned (.int .i64 ((jJ max.toNat st).1:Int))∧jS w' p s (jJ max.toNat st).2∧w.grownBy w' (some p):=by
 have Hp:=hid hp
 clear hp
 obtain ⟨m,rfl⟩:=Int.eq_ofNat_of_zero_le h0
 rw [Int.toNat_natCast]
 have hul:=DV st
 go_enter Tryz.func172,Tryz.ntmps172
 go_wp2_with fail
 refine (TM p s st _ hs Hp.out).mono ?_
 rintro e w1 ⟨rfl,hsp1,hg1⟩
 have HF:Hid (jJ m st=if m < (uR st).1 then (0,none) else uR st):=rfl
 have e1:uP 10 0 1 st=uR st:=rfl
 rw [e1] at hsp1 ⊢
 have Hsp1:=hid hsp1
 have Hg1:=hid hg1
 have Hul:=hid hul
 clear e1 hsp1 hg1 hul
 generalize hx:uR st=x at *
 obtain ⟨n,st1⟩:=x
 simp only at Hsp1 HF Hul ⊢
 clear hx
 by_cases hlt:m < n
 ·have HF2:Hid (jJ m st=(0,none)):=by have:=HF.out;rw [if_pos hlt] at this;exact this
  obtain ⟨at_,bad,hrow,hat,_⟩:=Hsp1.out
  have f2:=(xi hrow).2 2
  have c2:=(xi hrow).1.2.2
  have Hrow:=hid hrow
  have hi:(m:Int) < (n:Int):=by omega
  clear hrow HF hlt
  go_wp2
  go_ret
  rw [HF2.out]
  have hb:=Xq (v:=.bool true) Hrow.out
  exact ⟨rfl,⟨at_,true,hb.1,hat,rfl⟩,ja Hg1.out hb.2⟩
 ·have HF2:Hid (jJ m st=(n,st1)):=by have:=HF.out;rw [if_neg hlt] at this;exact this
  have hi:(n:Int)≤(m:Int):=by omega
  clear HF hlt
  go_wp2
  go_ret
  rw [HF2.out]
  exact ⟨rfl,Hsp1.out,Hg1.out⟩
theorem YC (p:Nat) (s:List UInt8) (st:Option (List UInt8)) (max:Int) (w:World) (hs:s.length≤maxLen) (h0:0≤max) (h1:max≤1000000000000) (hp:jS w p s st) :
  Calls Tryz.prog 222 #[.pointer (some ⟨p,0,none⟩),.int .i64 max] w fun e w'=>e=.returned (strB (xR max.toNat st).1)∧jS w' p s (xR max.toNat st).2∧w.grownBy w' (some p):=by
 have Hp:=hid hp
 clear hp
 have hle:=xI max.toNat st
 go_enter Tryz.func222,Tryz.ntmps222
 go_wp2_with fail
 refine (Jo p s st max _ hs h0 h1 Hp.out).mono ?_
 rintro e w1 ⟨rfl,hsp1,hg1⟩
 have HX:Hid (xR max.toNat st=qd ((jJ max.toNat st).1:Int) (jJ max.toNat st).2):=rfl
 have Hsp1:=hid hsp1
 clear hsp1
 generalize jJ max.toNat st=x at *
 go_wp2_with fail
 refine (Ql p s x.2 _ _ hs (by omega) (by omega) Hsp1.out).mono ?_
 rintro e w2 ⟨rfl,hsp2,hg2⟩
 go_wp2
 go_ret
 rw [HX.out]
 exact ⟨rfl,hsp2,ja hg1 hg2⟩
theorem SY (n:Nat) (h:n < 18446744073709551616):wrap64 (IntKind.u64.wrap ((n:Int) / 2))=(n:Int) / 2:=by
 rw [IntKind.wrap_u64];unfold wrap64;omega
theorem LW (n:Nat) (h:n < 18446744073709551616):wrap64 (wrap64 (-wrap64 (IntKind.u64.wrap ((n:Int) / 2))) - 1)=-((n:Int) / 2) - 1:=by
 rw [IntKind.wrap_u64];unfold wrap64;omega
theorem KD {n:Int} (h0:0≤n) (h1:n≤9223372036854775807):IntKind.i64.wrap n=n:=IntWalk.i64_in n ⟨by omega,by omega⟩
set_option maxRecDepth 100000 in
theorem Tp (p:Nat) (s:List UInt8) (st:Option (List UInt8)) (w:World) (hs:s.length≤maxLen) (hp:jS w p s st) :
  Calls Tryz.prog 238 #[.pointer (some ⟨p,0,none⟩)] w fun e w'=>e=.returned (.int .i64 (zOf (uR st).1))∧jS w' p s (uR st).2∧w.grownBy w' (some p):=by
 have Hp:=hid hp
 clear hp
 have hul:=DV st
 go_enter Tryz.func238,Tryz.ntmps238
 go_wp2_with fail
 refine (TM p s st _ hs Hp.out).mono ?_
 rintro e w1 ⟨rfl,hsp1,hg1⟩
 have e1:uP 10 0 1 st=uR st:=rfl
 rw [e1] at hsp1 ⊢
 have Hsp1:=hid hsp1
 have HZ:Hid (∀ n,n=(uR st).1→zOf n=zOf (uR st).1):=by intro n h;rw [h]
 clear e1 hsp1
 have hux:∃ n,n=(uR st).1:=⟨_,rfl⟩
 obtain ⟨n,hn⟩:=hux
 rw [← hn] at hul ⊢
 have HN:=hid hn
 clear hn
 have Hul:=hid hul
 by_cases hev:n % 2=0
 ·have hb:((n:Int) % 2 == 0)=true:=by simp;omega
  have HE:Hid (zOf n=(n:Int) / 2):=by simp [Hid,zOf,hev]
  clear hev hul
  go_wp2
  go_ret
  exact ⟨xe (by rw [← HZ.out n HN.out,HE.out];exact SY n Hul.out),Hsp1.out,hg1⟩
 ·have hb:((n:Int) % 2 == 0)=false:=by simp;omega
  have HE:Hid (zOf n=-((n:Int) / 2) - 1):=by simp [Hid,zOf,hev]
  clear hev hul
  go_wp2
  go_ret
  exact ⟨xe (by rw [← HZ.out n HN.out,HE.out];exact LW n Hul.out),Hsp1.out,hg1⟩
theorem LQ (n c:Nat) (h:n < 18446744073709551616) (hc:c < 256):IntKind.u64.wrap (IntKind.u64.wrap (256*(n:Int))+IntKind.u64.wrap (c:Int))=(((256*n+c) % 18446744073709551616:Nat):Int):=by
 rw [IntKind.wrap_u64,IntKind.wrap_u64,IntKind.wrap_u64];omega
set_option maxRecDepth 100000 in
theorem LC (p:Nat) (s:List UInt8) (st:Option (List UInt8)) (w:World) (hs:s.length≤maxLen) (hp:jS w p s st) :
  Calls Tryz.prog 237 #[.pointer (some ⟨p,0,none⟩)] w fun e w'=>e=.returned (.int .i64 (bR st).1)∧jS w' p s (bR st).2∧w.grownBy w' (some p):=by
 have Hp:=hid hp
 clear hp
 go_enter Tryz.func237,Tryz.ntmps237
 go_wp2_with fail
 refine (Ql p s st 8 _ hs (by decide) (by decide) Hp.out).mono ?_
 rintro e w1 ⟨rfl,hsp1,hg1⟩
 have HB:Hid (bR st=(wrap64 (Uf (qd 8 st).1:Int),(qd 8 st).2)):=rfl
 have Hsp1:=hid hsp1
 have Hg1:=hid hg1
 have hl8:=AK st
 clear hsp1 hg1
 generalize (qd 8 st).1=t at *
 go_wp2_with fail
 go_loop [4,5] (fun n i=>∃ k:Nat,k≤t.length∧i=.int .i64 ((k:Int) - 1)∧n=.int .u64 (Uf (t.drop k):Int)) (fun _ i=>((intOf i)+1).toNat)
 case atStart=>exact ⟨t.length,Nat.le_refl _,rfl,by simp [Uf]⟩
 case round =>
  obtain ⟨k,hk,rfl,rfl⟩:=hrel
  by_cases hk0:k=0
  ·subst hk0
   go_wp2
   go_ret
   rw [HB.out]
   exact ⟨rfl,Hsp1.out,Hg1.out⟩
  ·obtain ⟨m,rfl⟩:∃ m,k=m+1:=⟨k - 1,by omega⟩
   have hm:m < t.length:=by omega
   have HS:=hid (TE t m hm)
   have Hlt:=hid (SE (t.drop (m+1)))
   generalize Uf (t.drop (m+1))=n1 at *
   have e1:((m+1:Nat):Int) - 1=(m:Int):=by omega
   rw [e1]
   have hmi:(m:Int) < (t.length:Int):=by omega
   clear e1 hk0
   go_wp2
   go_round
   case rel=>exact ⟨m,by omega,rfl,by rw [HS.out];exact congrArg (Value.int IntKind.u64) (LQ n1 (t[m]).toNat Hlt.out (t[m]).toNat_lt)⟩
   case measure=>simp [intOf]
end
section
theorem Ie {R G P g c:Nat}:∀ s ∈ jh R G P g c,s.c=c∧s.many≤G:=by
 intro s hs
 rcases List.mem_append.1 hs with hs|hs
 ·simp only [jo,List.mem_map,List.mem_range] at hs
  obtain ⟨k,_,rfl⟩:=hs
  exact ⟨rfl,Nat.le_trans (JW _ _ _).2 (JW _ _ _).1⟩
 ·simp only [List.mem_cons,List.not_mem_nil,or_false] at hs
  subst hs
  exact ⟨rfl,(JW _ _ _).1⟩
theorem EI {R G P g C:Nat}:∀ s ∈ ju R G P g C,s.c < C∧s.many≤G:=by
 intro s hs
 simp only [ju,List.mem_flatMap,List.mem_range] at hs
 obtain ⟨c,hc,hs⟩:=hs
 obtain ⟨h1,h2⟩:=Ie s hs
 exact ⟨by omega,h2⟩
theorem Px {R C G P n:Nat}:∀ s ∈ jQ R C G P n,s.c < C∧s.many≤G:=by
 intro s hs
 simp only [jQ,List.mem_flatMap,List.mem_range] at hs
 obtain ⟨g,_,hs⟩:=hs
 exact EI s hs
end
section
open Go.RowKit
def Tq (c:ColB):Prop:=c.name.length≤maxLen∧(-9223372036854775808≤c.kind∧c.kind≤9223372036854775807)∧(-9223372036854775808≤c.key∧c.key≤9223372036854775807)
def DK (c:KeyB):Prop:=c.secret.length≤maxLen∧(-9223372036854775808≤c.number∧c.number≤9223372036854775807)
def HasCells (w:World) (v:Value) (l:List CellB):Prop:=∃ ca cap,v=.slice ca l.length cap∧l.length≤cap∧Lies w ca l∧l.length*32≤140737488351232
abbrev colV (c:ColB) (v:Value):Value:=.agg #[strB c.name,.int .i64 c.kind,.int .i64 c.key,v]
abbrev keyV (c:KeyB):Value:=.agg #[.int .i64 c.number,strB c.secret]
structure LiesT (w:World) (a:Option Addr) (t:List ColB):Prop where
 ok:∀ c ∈ t,Tq c
 at_:t≠[]→∃ b off,a=some ⟨b,off,none⟩∧b < w.heap.size∧∀ j (h:j < t.length),
  w.cell? ⟨b,off+j*4,none⟩=some (strB (t[j]).name)∧w.cell? ⟨b,off+j*4+1,none⟩=some (.int .i64 (t[j]).kind)∧w.cell? ⟨b,off+j*4+2,none⟩=some (.int .i64 (t[j]).key) ∧
   ∃ v,w.cell? ⟨b,off+j*4+3,none⟩=some v∧HasCells w v (t[j]).cells
structure LiesK (w:World) (a:Option Addr) (r:List KeyB):Prop where
 ok:∀ c ∈ r,DK c
 at_:r≠[]→∃ b off,a=some ⟨b,off,none⟩∧b < w.heap.size∧∀ j (h:j < r.length),
  w.cell? ⟨b,off+j*2,none⟩=some (.int .i64 (r[j]).number)∧w.cell? ⟨b,off+j*2+1,none⟩=some (strB (r[j]).secret)
theorem HasCells.later {w w':World} {v:Value} {l:List CellB} (h:HasCells w v l) (hb:Below w.heap.size w w'):HasCells w' v l:=by
 obtain ⟨ca,cap,hv,hc,hl,hm⟩:=h
 exact ⟨ca,cap,hv,hc,hl.later hb,hm⟩
theorem LiesT.later {w w':World} {a:Option Addr} {t:List ColB} (h:LiesT w a t) (hb:Below w.heap.size w w'):LiesT w' a t:=by
 refine ⟨h.ok,fun hne=>?_⟩
 obtain ⟨b,off,ha,hlt,hc⟩:=h.at_ hne
 refine ⟨b,off,ha,Nat.lt_of_lt_of_le hlt hb.size,fun j hj=>?_⟩
 obtain ⟨h1,h2,h3,v,h4,h5⟩:=hc j hj
 exact ⟨(hb.cell (p:=⟨b,_,none⟩) hlt).trans h1,(hb.cell (p:=⟨b,_,none⟩) hlt).trans h2,(hb.cell (p:=⟨b,_,none⟩) hlt).trans h3,v,(hb.cell (p:=⟨b,_,none⟩) hlt).trans h4,h5.later hb⟩
theorem LiesK.later {w w':World} {a:Option Addr} {r:List KeyB} (h:LiesK w a r) (hb:Below w.heap.size w w'):LiesK w' a r:=by
 refine ⟨h.ok,fun hne=>?_⟩
 obtain ⟨b,off,ha,hlt,hc⟩:=h.at_ hne
 refine ⟨b,off,ha,Nat.lt_of_lt_of_le hlt hb.size,fun j hj=>?_⟩
 obtain ⟨h1,h2⟩:=hc j hj
 exact ⟨(hb.cell (p:=⟨b,_,none⟩) hlt).trans h1,(hb.cell (p:=⟨b,_,none⟩) hlt).trans h2⟩
end
section
structure ModF where
 plain:List UInt8
 nonce:List UInt8
 body:List UInt8
def qC (key:Int) (m:ModF):List UInt8:=if key=0 then qw (m.plain.length:Int)++m.plain else qw (m.body.length:Int)++(m.nonce++m.body)
def xW (key:Int) (m:ModF):Prop:=(key=0∧m.nonce=[]∧m.body=[]∧m.plain.length≤65535)∨(key≠0∧m.plain=[]∧m.nonce.length=4∧2≤m.body.length∧m.body.length≤65535)
def jl (t:List ColB):List SpotB→List ModF→List UInt8
 | s :: L,m :: M=>qC (jk t s.c).key m++jl t L M
 | _,_=>[]
def jp (t:List ColB):Nat→Bool→List SpotB→List ModF→List Nat
 | n,b,s :: L,m :: M=>(if b=true then [n] else [])++jp t (n+(qC (jk t s.c).key m).length) (decide (s.sort=77)) L M
 | _,_,_,_=>[]
inductive ModsOk (t:List ColB):List SpotB→List ModF→Prop
 | nil:ModsOk t [] []
 | cons {s:SpotB} {L:List SpotB} {m:ModF} {M:List ModF}:xW (jk t s.c).key m→ModsOk t L M→ModsOk t (s :: L) (m :: M)
theorem Qj {key:Int} {m m':ModF} {r q:List UInt8} (h:xW key m) (h':xW key m') (e:qC key m++r=qC key m'++q):m=m'∧r=q:=by
 unfold qC at e
 rcases h with ⟨hk,a1,a2,a3⟩|⟨hk,a1,a2,a3,a4⟩
 ·rcases h' with ⟨_,b1,b2,b3⟩|⟨hk',_⟩
  ·rw [if_pos hk,if_pos hk,List.append_assoc,List.append_assoc] at e
   obtain ⟨e1,e2⟩:=List.append_inj e (by rw [jB,jB])
   have hl:=Qq a3 b3 e1
   obtain ⟨e3,e4⟩:=List.append_inj e2 hl
   refine ⟨?_,e4⟩
   cases m;cases m';simp_all
  ·exact absurd hk hk'
 ·rcases h' with ⟨hk',_⟩|⟨_,b1,b2,b3,b4⟩
  ·exact absurd hk' hk
  ·rw [if_neg hk,if_neg hk,List.append_assoc,List.append_assoc,List.append_assoc,List.append_assoc] at e
   obtain ⟨e1,e2⟩:=List.append_inj e (by rw [jB,jB])
   have hl:=Qq a4 b4 e1
   obtain ⟨e3,e4⟩:=List.append_inj e2 (by rw [a2,b2])
   obtain ⟨e5,e6⟩:=List.append_inj e4 hl
   refine ⟨?_,e6⟩
   cases m;cases m';simp_all
theorem It {t:List ColB} {L:List SpotB} {M M':List ModF} (h:ModsOk t L M) (h':ModsOk t L M') (e:jl t L M=jl t L M'):M=M':=by
 induction h generalizing M' with
 | nil=>cases h';rfl
 | cons hm _ ih =>
  cases h' with
  | cons hm' h2' =>
   simp only [jl] at e
   obtain ⟨e1,e2⟩:=Qj hm hm' e
   rw [e1,ih h2' e2]
structure SheetF where
 rows:Nat
 plan:PlanB
 cols:List ColB
 mods:List ModF
def qx (S:SheetF):List SpotB:=jC S.rows S.cols.length S.plan.group.toNat S.plan.page.toNat
structure SheetOk (foot:Nat) (parts footer:List UInt8) (S:SheetF):Prop where
 rows:S.rows≤60
 plan:qU S.plan=true
 told:S.plan.told=false
 foot:S.plan.foot=(foot:Int)
 heads:jV S.cols=true
 bare:∀ c ∈ S.cols,c.cells=[]
 mods:ModsOk S.cols (qx S) S.mods
 parts:parts=jl S.cols (qx S) S.mods
 footer:footer=qH S.rows S.plan S.cols (jp S.cols 4 true (qx S) S.mods)
theorem qQ {t:List ColB} {L:List SpotB} {M:List ModF} (h:ModsOk t L M):M.length=L.length:=by
 induction h with
 | nil=>rfl
 | cons _ _ ih=>simp [ih]
theorem XM {t:List ColB} (j:JobB) (r:List KeyB):∀ (L:List SpotB) (M:List ModF) (n:Nat) (b:Bool) (st:StB),M.length=L.length→(jp t n b L M).length=(zz j r st b L).length:=by
 intro L
 induction L with
 | nil=>intro M n b st h;cases M with
  | nil=>rfl
  | cons m M=>simp at h
 | cons s L ih =>
  intro M n b st h
  cases M with
  | nil=>simp at h
  | cons m M =>
   simp only [jp,zz,List.length_append]
   rw [ih M _ _ (NW j r st s) (by simpa using h)]
   cases b<;>rfl
theorem Qg {foot:Nat} {parts footer:List UInt8} {S:SheetF} (h:SheetOk foot parts footer S):(jp S.cols 4 true (qx S) S.mods).length=jW S.rows S.plan.group.toNat*S.cols.length:=by
 rw [XM ⟨[],⟨0,0,0,false⟩,[],0⟩ [] _ _ _ _ ⟨[],[]⟩ (qQ h.mods)]
 exact Zi _ _ _ _ _ _ _ _
theorem Mb {p q:PlanB} (hp:qU p=true) (hq:qU q=true) (ht:p.told=q.told) (h1:p.group.toNat=q.group.toNat) (h2:p.page.toNat=q.page.toNat) (h3:p.foot.toNat=q.foot.toNat):p=q:=by
 simp only [qU,Bool.and_eq_true,decide_eq_true_eq] at hp hq
 have e1:p.group=q.group:=by omega
 have e2:p.page=q.page:=by omega
 have e3:p.foot=q.foot:=by omega
 cases p;cases q;simp_all
theorem Sk {a b:List ColB} (ha:jV a=true) (hb:jV b=true) (ca:∀ c ∈ a,c.cells=[]) (cb:∀ c ∈ b,c.cells=[]) (h:a.map QV=b.map QV):a=b:=by
 have hl:a.length=b.length:=by have:=congrArg List.length h;simpa using this
 have parts:∀ {t:List ColB},jV t=true→∀ k (hk:k < t.length),0≤(t[k]).kind∧0≤(t[k]).key:=by
  intro t ht k hk
  simp only [jV,Bool.and_eq_true] at ht
  obtain ⟨_,h1,h2,_⟩:=QR (QK ht.1 (Nat.le_refl _) k hk).1
  exact ⟨by omega,h2⟩
 apply List.ext_getElem hl
 intro k h1 h2
 have e:QV a[k]=QV b[k]:=by
  have:(a.map QV)[k]'(by simpa using h1)=(b.map QV)[k]'(by simpa using h2):=by simp only [h]
  simpa using this
 obtain ⟨p1,p2⟩:=parts ha k h1
 obtain ⟨q1,q2⟩:=parts hb k h2
 have c1:=ca a[k] (List.getElem_mem h1)
 have c2:=cb b[k] (List.getElem_mem h2)
 generalize a[k]=x at *
 generalize b[k]=y at *
 simp only [QV,Prod.mk.injEq] at e
 obtain ⟨e1,e2,e3⟩:=e
 have k1:x.kind=y.kind:=by omega
 have k2:x.key=y.key:=by omega
 cases x;cases y;simp_all
theorem Ys {foot:Nat} {parts footer:List UInt8} {S S':SheetF} (h:SheetOk foot parts footer S) (h':SheetOk foot parts footer S'):S=S':=by
 have hf:=h.footer.symm.trans h'.footer
 obtain ⟨e1,e2,e3,e4,e5,e6⟩:=KV (Qg h) (Qg h') hf
 have hp:=Mb h.plan h'.plan (h.told.trans h'.told.symm) e2 e3 e4
 have hc:=Sk h.heads h'.heads h.bare h'.bare e5
 have hm:=h.parts.symm.trans h'.parts
 have hs:qx S=qx S':=by unfold qx;rw [e1,hp,hc]
 rw [hs,hc] at hm
 have m1:=h.mods
 rw [hs,hc] at m1
 have e7:=It m1 h'.mods hm
 cases S;cases S';simp_all
end
end Go.Proofs.YthhpbhpfagoapaaGreat
