import Derived.Test.YthhpbhpfagoapabGreatJBB
import Derived.Test.YthhpbhpfagoapabGreatJAN
import Derived.Laws.AppendOwn
import Derived.Maps.AppendAt
namespace Go.Proofs.YthhpbhpfagoapabGreat
set_option linter.unusedVariables false
set_option linter.unusedSimpArgs false
set_option maxRecDepth 100000
set_option maxHeartbeats 16000000
section
structure Like (cov:Nat→Prop) (a b:StB):Prop where
 len:a.out.length=b.out.length
 log:a.log.length=b.log.length
 same:∀ i,¬ cov i→a.out[i]?=b.out[i]?
theorem Like.add {cov:Nat→Prop} {a b:StB} (h:Like cov a b) {x y:List UInt8} (hx:x.length=y.length) (hs:∀ i,¬ cov (a.out.length+i)→x[i]?=y[i]?) {la lb:List SealB} (hl:la.length=lb.length) :
  Like cov ⟨a.out++x,la⟩ ⟨b.out++y,lb⟩:=by
 refine ⟨by simp [h.len,hx],hl,fun i hi=>?_⟩
 simp only
 by_cases hlt:i < a.out.length
 ·rw [List.getElem?_append_left hlt,List.getElem?_append_left (by rw [← h.len];exact hlt)]
  exact h.same i hi
 ·rw [List.getElem?_append_right (by omega),List.getElem?_append_right (by rw [← h.len];omega),← h.len]
  exact hs _ (by rw [Nat.add_sub_cancel' (by omega)];exact hi)
structure Twin (hk:Int→Bool) (j k:JobB):Prop where
 plan:j.plan=k.plan
 pre:j.pre=k.pre
 draw:j.draw=k.draw
 len:j.table.length=k.table.length
 rows:qb j.table=qb k.table
 head:∀ c,(jf j.table c).name=(jf k.table c).name∧(jf j.table c).kind=(jf k.table c).kind∧(jf j.table c).key=(jf k.table c).key
 cells:∀ c,hk (jf j.table c).key=false→(jf j.table c).cells=(jf k.table c).cells
 zero:hk 0=false
theorem Twin.plain {hk:Int→Bool} {j k:JobB} (h:Twin hk j k) (s:SpotB) (hs:hk (jf j.table s.c).key=false):qS j.table s=qS k.table s:=by
 unfold qS
 rw [(h.head s.c).2.1,h.cells s.c hs]
end
section
open Go.RowKit
def ZC (kind:Int) (e:Nat) (words:List (List UInt8)) (n len:Nat) (last:CellB) (st:Option (List UInt8)):CellB × Nat × Option (List UInt8) :=
 if kind=0∧e=0 then (⟨false,(bR st).1,[]⟩,1,(bR st).2)
 else if kind=0∧e=1 then (⟨false,wrap64 (last.int+zOf (uR st).1),[]⟩,1,(uR st).2)
 else if kind=0∧e=2 then (⟨false,zOf (uR (qX (n - len) st).2).1,[]⟩,(qX (n - len) st).1,if (qX (n - len) st).1=0 then none else (uR (qX (n - len) st).2).2)
 else if kind=1∧e=0 then (⟨false,0,(xR 12 st).1⟩,1,(xR 12 st).2)
 else if kind=1∧e=3∧words≠[] then (⟨false,0,words.getD (qX (words.length - 1) st).1 []⟩,1,(qX (words.length - 1) st).2)
 else if kind=1∧e=4 then (⟨false,0,last.text.take (qX last.text.length st).1++(xR 12 (qX last.text.length st).2).1⟩,1,(xR 12 (qX last.text.length st).2).2)
 else (⟨false,0,[]⟩,1,none)
def Jv (kind:Int) (e:Nat) (words:List (List UInt8)) (n:Nat):Nat→List CellB→CellB→Option (List UInt8)→List CellB × Option (List UInt8)
 | 0,l,_,st=>(l,st)
 | f+1,l,last,st =>
  if l.length < n∧st.isSome=true then
   Jv kind e words n f (l++List.replicate (ZC kind e words n l.length last st).2.1 (ZC kind e words n l.length last st).1) (ZC kind e words n l.length last st).1 (ZC kind e words n l.length last st).2.2
  else (l,st)
def zQ (w:Nat) (v:List CellB):Nat→Nat→List UInt8
 | _,0=>[]
 | i,k+1=>xM w v i++zQ w v (i+1) k
theorem Mb (w:Nat) (v:List CellB):∀ (k i:Nat),jW w v (i+k)=jW w v i++zQ w v i k:=by
 intro k
 induction k with
 | zero=>intro i;simp [zQ]
 | succ k ih =>
  intro i
  rw [show i+(k+1)=(i+1)+k by omega,ih (i+1)]
  simp [jW,zQ]
theorem UE (w:Nat) (v:List CellB):jW w v v.length=zQ w v 0 v.length:=by
 have:=Mb w v v.length 0
 simpa [jW] using this
theorem Kn (kind:Int) (e w:Nat) (words:List (List UInt8)) (v:List CellB) (r:List UInt8)
  (hstep:∀ i (h:i < v.length) (rest:List UInt8),ZC kind e words v.length i (qQ v i) (some (xM w v i++rest))=(v[i],1,some rest)) :
  ∀ (k i:Nat),i+k=v.length→Jv kind e words v.length (k+1) (v.take i) (qQ v i) (some (zQ w v i k++r))=(v,some r):=by
 intro k
 induction k with
 | zero =>
  intro i hi
  have hl:(v.take i).length=v.length:=by rw [List.length_take];omega
  simp only [Jv,zQ,List.nil_append]
  rw [if_neg (by rw [hl];omega)]
  rw [List.take_of_length_le (by omega)]
 | succ k ih =>
  intro i hi
  have hlt:i < v.length:=by omega
  have hl:(v.take i).length=i:=by rw [List.length_take];omega
  rw [Jv,if_pos (by rw [hl];exact ⟨hlt,rfl⟩),hl]
  simp only [zQ,List.append_assoc]
  rw [hstep i hlt (zQ w v (i+1) k++r)]
  have e1:v.take i++List.replicate 1 v[i]=v.take (i+1):=by rw [List.take_succ_eq_append_getElem hlt];rfl
  have e2:v[i]=qQ v (i+1):=by
   unfold qQ
   rw [if_neg (by omega),Nat.add_sub_cancel,qN v i hlt]
  simp only [e1]
  rw [e2]
  exact ih (i+1) (by omega)
def Pc (c:CellB):Prop:=c.null=false∧c.text=[]∧-9223372036854775808≤c.int∧c.int≤9223372036854775807
def Em (c:CellB):Prop:=c.null=false∧c.int=0∧c.text.length≤12
theorem Vv {c:CellB} (h:Pc c):c=⟨false,c.int,[]⟩:=by
 obtain ⟨n,i,t⟩:=c
 obtain ⟨h1,h2,_⟩:=h
 simp at h1 h2
 subst h1 h2
 rfl
theorem RX {c:CellB} (h:Em c):c=⟨false,0,c.text⟩:=by
 obtain ⟨n,i,t⟩:=c
 obtain ⟨h1,h2,_⟩:=h
 simp at h1 h2
 subst h1 h2
 rfl
theorem Fv (v:List CellB) (r:List UInt8) (hv:∀ c ∈ v,Pc c):Jv 0 0 [] v.length (v.length+1) [] xA (some (zQ 0 v 0 v.length++r))=(v,some r):=by
 have:=Kn 0 0 0 [] v r (fun i h rest=>by
  have hc:=hv v[i] (List.getElem_mem h)
  have hs:xM 0 v i=bB (v[i]).int:=by show bB (zv v i).int=_;rw [qN v i h]
  unfold ZC
  rw [if_pos ⟨rfl,rfl⟩,hs,BZ _ rest hc.2.2.1 hc.2.2.2]
  exact Prod.ext (Vv hc).symm rfl) v.length 0 (by omega)
 simpa [qQ] using this
theorem Po (a b:Int) (h0:-9223372036854775808≤b) (h1:b≤9223372036854775807):wrap64 (a+wrap64 (b - a))=b:=by
 unfold wrap64;omega
theorem FH (v:List CellB) (r:List UInt8) (hv:∀ c ∈ v,Pc c):Jv 0 1 [] v.length (v.length+1) [] xA (some (zQ 1 v 0 v.length++r))=(v,some r):=by
 have:=Kn 0 1 1 [] v r (fun i h rest=>by
  have hc:=hv v[i] (List.getElem_mem h)
  have hs:xM 1 v i=zB (wrap64 ((v[i]).int - (qQ v i).int)):=by show zB (wrap64 ((zv v i).int - (qQ v i).int))=_;rw [qN v i h]
  have hr:=JU ((v[i]).int - (qQ v i).int)
  unfold ZC
  rw [if_neg (by omega),if_pos ⟨rfl,rfl⟩,hs,BQ _ rest hr.1 hr.2,MB,Po _ _ hc.2.2.1 hc.2.2.2]
  exact Prod.ext (Vv hc).symm rfl) v.length 0 (by omega)
 simpa [qQ] using this
theorem Fg (v:List CellB) (r:List UInt8) (hv:∀ c ∈ v,Em c):Jv 1 0 [] v.length (v.length+1) [] xA (some (zQ 5 v 0 v.length++r))=(v,some r):=by
 have:=Kn 1 0 5 [] v r (fun i h rest=>by
  have hc:=hv v[i] (List.getElem_mem h)
  have hs:xM 5 v i=xB (v[i]).text:=by show xB (zv v i).text=_;rw [qN v i h]
  unfold ZC
  rw [if_neg (by omega),if_neg (by omega),if_neg (by omega),if_pos ⟨rfl,rfl⟩,hs,CP 12 _ rest hc.2.2 (by omega)]
  exact Prod.ext (RX hc).symm rfl) v.length 0 (by omega)
 simpa [qQ] using this
theorem Dg (s t:List UInt8):t.take (jT s t)++s.drop (jT s t)=s:=by
 have h:=JB s t
 have e:t.take (jT s t)=s.take (jT s t):=by
  apply List.ext_getElem
  ·rw [List.length_take,List.length_take];omega
  ·intro i h1 h2
   rw [List.length_take] at h1
   simp only [List.getElem_take]
   exact (Ya s t i (by omega) (by omega) (by omega)).symm
 rw [e,List.take_append_drop]
theorem Fb (v:List CellB) (r:List UInt8) (hv:∀ c ∈ v,Em c):Jv 1 4 [] v.length (v.length+1) [] xA (some (zQ 4 v 0 v.length++r))=(v,some r):=by
 have:=Kn 1 4 4 [] v r (fun i h rest=>by
  have hc:=hv v[i] (List.getElem_mem h)
  have hp:(qQ v i).text.length≤12:=by
   unfold qQ;split
   ·decide
   ·rw [qN v (i - 1) (by omega)];exact (hv _ (List.getElem_mem _)).2.2
  have hs:xM 4 v i=uB (jT (v[i]).text (qQ v i).text)++xB ((v[i]).text.drop (jT (v[i]).text (qQ v i).text)):=by simp only [xM,qN v i h]
  have hle:=JB (v[i]).text (qQ v i).text
  unfold ZC
  rw [if_neg (by omega),if_neg (by omega),if_neg (by omega),if_neg (by omega),if_neg (by omega),if_pos ⟨rfl,rfl⟩,hs,List.append_assoc,
   Jx _ _ _ hle.2 (by omega),CP 12 _ rest (by rw [List.length_drop];have:=hc.2.2;omega) (by omega),Dg]
  exact Prod.ext (RX hc).symm rfl) v.length 0 (by omega)
 simpa [qQ] using this
end
section
open Go.RowKit
def Uw:Nat→Option (List UInt8)→List (List UInt8) × Option (List UInt8)
 | 0,st=>([],st)
 | k+1,st=>((xR 12 st).1 :: (Uw k (xR 12 st).2).1,(Uw k (xR 12 st).2).2)
def xsB (d:List CellB):List UInt8:=d.flatMap fun c=>xB c.text
theorem Pp (d:List CellB):∀ k,k≤d.length→QJ d k=uB d.length++xsB (d.take k):=by
 intro k
 induction k with
 | zero=>intro _;simp [QJ,xsB]
 | succ k ih =>
  intro h
  rw [QJ,ih (by omega),qN d k (by omega),List.take_succ_eq_append_getElem (by omega)]
  simp only [xsB,List.flatMap_append,List.flatMap_cons,List.flatMap_nil,List.append_nil,List.append_assoc]
theorem Ae (d:List CellB) (r:List UInt8) (h:∀ c ∈ d,c.text.length≤12):Uw d.length (some (xsB d++r))=(d.map (·.text),some r):=by
 induction d with
 | nil=>rfl
 | cons c d ih =>
  have e:xsB (c :: d)++r=xB c.text++(xsB d++r):=by simp [xsB]
  rw [e]
  simp only [List.length_cons,Uw]
  rw [CP 12 c.text (xsB d++r) (h c (by simp)) (by omega)]
  simp only
  rw [ih (fun x hx=>h x (by simp [hx]))]
  rfl
theorem Fy (v:List CellB) (r:List UInt8) (hv:∀ c ∈ v,Em c) (hn:v.length≤60):Jv 1 3 ((qW v).map (·.text)) v.length (v.length+1) [] xA (some (zQ 3 v 0 v.length++r))=(v,some r):=by
 have:=Kn 1 3 3 ((qW v).map (·.text)) v r (fun i h rest=>by
  have hc:=hv v[i] (List.getElem_mem h)
  have hs:xM 3 v i=uB (qk (qW v) (v[i]).text):=by show uB (qk (qW v) (zv v i).text)=_;rw [qN v i h]
  obtain ⟨h1,h2⟩:=XU (qW v) (v[i]).text (Uy v i h)
  have hdl:=JC v v.length
  have hd2:(qW v).length≤v.length:=hdl
  have hne:(qW v).map (·.text)≠[]:=by
   intro e0
   have:=congrArg List.length e0
   simp at this
   rw [this] at h1
   simp at h1
  have hlm:((qW v).map (·.text)).length=(qW v).length:=by simp
  unfold ZC
  rw [if_neg (by omega),if_neg (by omega),if_neg (by omega),if_neg (by omega),if_pos ⟨rfl,rfl,hne⟩,hs,hlm,Jx _ _ rest (by omega) (by omega)]
  have eg:((qW v).map (·.text)).getD (qk (qW v) (v[i]).text) []=(v[i]).text:=by
   simp only [List.getD,List.getElem?_map,List.getElem?_eq_getElem h1,Option.map_some,Option.getD_some]
   exact h2
  rw [eg]
  exact Prod.ext (RX hc).symm rfl) v.length 0 (by omega)
 simpa [qQ] using this
theorem TL (w:Nat) (v:List CellB):∀ (q a k:Nat),q≤k→(∀ j,j < q→xM w v (a+j)=[])→zQ w v a k=zQ w v (a+q) (k - q):=by
 intro q
 induction q with
 | zero=>intro a k _ _;rfl
 | succ q ih =>
  intro a k hk h
  obtain ⟨k',rfl⟩:∃ k',k=k'+1:=⟨k - 1,by omega⟩
  have h0:=h 0 (by omega)
  simp only [Nat.add_zero] at h0
  simp only [zQ]
  rw [h0,List.nil_append,ih (a+1) k' (by omega) (fun j hj=>by have:=h (j+1) (by omega);rwa [show a+(j+1)=a+1+j by omega] at this)]
  congr 1<;>omega
theorem Fj (v:List CellB) (r:List UInt8) (hv:∀ c ∈ v,Pc c) (hn:v.length≤60) :
  ∀ (k i f:Nat) (last:CellB),i+k=v.length→k < f→(k=0∨i=0∨(zv v i).int≠(qQ v i).int)→Jv 0 2 [] v.length f (v.take i) last (some (zQ 2 v i k++r))=(v,some r):=by
 intro k
 induction k using Nat.strongRecOn with
 | _ k ih =>
  intro i f last hi hf hrun
  obtain ⟨f',rfl⟩:∃ f',f=f'+1:=⟨f - 1,by omega⟩
  have hl:(v.take i).length=i:=by rw [List.length_take];omega
  by_cases hk:k=0
  ·subst hk
   rw [Jv,if_neg (by rw [hl];omega),zQ,List.nil_append,List.take_of_length_le (by omega)]
  ·have hlt:i < v.length:=by omega
   have hc:=hv v[i] (List.getElem_mem hlt)
   have hrow:=NG (v[i]).int (v.drop (i+1))
   rw [List.length_drop] at hrow
   have hin:∀ j,j < Jz (v[i]).int (v.drop (i+1))→∃ h:i+1+j < v.length,v[i+1+j]=v[i]:=by
    intro j hj
    obtain ⟨h1,h2⟩:=EX (v[i]).int (v.drop (i+1)) j hj
    rw [List.length_drop] at h1
    refine ⟨by omega,?_⟩
    rw [List.getElem_drop] at h2
    rw [Vv (hv v[i+1+j] (List.getElem_mem _)),Vv hc,h2]
   have hend:∀ h:i+1+Jz (v[i]).int (v.drop (i+1)) < v.length,(v[i+1+Jz (v[i]).int (v.drop (i+1))]).int≠(v[i]).int:=by
    intro h
    have:=Rx (v[i]).int (v.drop (i+1)) (by rw [List.length_drop];omega)
    rw [List.getElem_drop] at this
    exact this
   have hs:xM 2 v i=uB (Jz (v[i]).int (v.drop (i+1))+1)++zB (v[i]).int:=by
    simp only [xM,qN v i hlt]
    rw [if_pos]
    rcases hrun with h|h|h
    ·exact absurd h hk
    ·exact .inl h
    ·rw [qN v i hlt] at h;exact .inr h
   generalize Jz (v[i]).int (v.drop (i+1))=q at *
   have hskip:zQ 2 v (i+1) (k - 1)=zQ 2 v (i+1+q) (k - 1 - q):=TL 2 v q (i+1) (k - 1) (by omega) (fun j hj=>by
    obtain ⟨h1,h2⟩:=hin j hj
    simp only [xM,qN v (i+1+j) h1,qQ]
    rw [if_neg (by omega:¬ (i+1+j=0)),qN v (i+1+j - 1) (by omega)]
    have hp:v[i+1+j - 1]=v[i]:=by
     cases j with
     | zero=>rfl
     | succ j =>
      obtain ⟨h3,h4⟩:=hin j (by omega)
      rw [← h4]
      congr 1
    rw [hp,h2]
    rw [if_neg (fun h=>h.elim (fun h=>by omega) (fun h=>h rfl))])
   obtain ⟨k',rfl⟩:∃ k',k=k'+1:=⟨k - 1,by omega⟩
   simp only [Nat.add_sub_cancel] at hskip
   rw [Jv,if_pos (by rw [hl];exact ⟨hlt,rfl⟩),hl]
   simp only [zQ,hs,hskip,List.append_assoc]
   have hstep:ZC 0 2 [] v.length i last (some (uB (q+1)++(zB (v[i]).int++(zQ 2 v (i+1+q) (k' - q)++r))))=(v[i],q+1,some (zQ 2 v (i+1+q) (k' - q)++r)):=by
    unfold ZC
    rw [if_neg (by omega),if_neg (by omega),if_pos ⟨rfl,rfl⟩,Jx _ _ _ (by omega) (by omega),BQ _ _ hc.2.2.1 hc.2.2.2]
    simp only [MB]
    rw [if_neg (by omega)]
    exact Prod.ext (Vv hc).symm rfl
   rw [hstep]
   have e1:v.take i++List.replicate (q+1) v[i]=v.take (i+1+q):=by
    apply List.ext_getElem
    ·simp only [List.length_append,List.length_take,List.length_replicate];omega
    ·intro j h1 h2
     rw [List.getElem_take]
     by_cases hj:j < i
     ·rw [List.getElem_append_left (by rw [hl];exact hj),List.getElem_take]
     ·rw [List.getElem_append_right (by rw [hl];omega),List.getElem_replicate]
      by_cases hji:j=i
      ·subst hji;rfl
      ·obtain ⟨h3,h4⟩:=hin (j - i - 1) (by rw [List.length_take] at h2;omega)
       rw [← h4]
       congr 1
       omega
   simp only [e1]
   refine ih (k' - q) (by omega) (i+1+q) f' v[i] (by omega) (by omega) ?_
   by_cases hz:k' - q=0
   ·exact .inl hz
   ·right;right
    have h5:i+1+q < v.length:=by omega
    rw [qN v (i+1+q) h5]
    unfold qQ
    rw [if_neg (by omega),qN v (i+1+q - 1) (by omega)]
    have hp:v[i+1+q - 1]=v[i]:=by
     cases q with
     | zero=>rfl
     | succ q =>
      obtain ⟨h3,h4⟩:=hin q (by omega)
      rw [← h4]
      congr 1
    rw [hp]
    exact hend h5
end
section
open Go.RowKit
def XF (kind:Int) (n:Nat) (st:Option (List UInt8)):List CellB × Option (List UInt8) :=
 match xU 1 st with
 | (c :: _,some r) =>
  if kind=1∧c.toNat=3 then Jv kind 3 (Uw (qX 60 (some r)).1 (qX 60 (some r)).2).1 n (n+1) [] xA (Uw (qX 60 (some r)).1 (qX 60 (some r)).2).2
  else Jv kind c.toNat [] n (n+1) [] xA (some r)
 | _=>([],none)
theorem ZB (kind:Int) (n:Nat) (c:UInt8) (r:List UInt8):XF kind n (some (c :: r)) =
  if kind=1∧c.toNat=3 then Jv kind 3 (Uw (qX 60 (some r)).1 (qX 60 (some r)).2).1 n (n+1) [] xA (Uw (qX 60 (some r)).1 (qX 60 (some r)).2).2
  else Jv kind c.toNat [] n (n+1) [] xA (some r):=by
 simp only [XF,RN]
theorem CD (kind:Int) (v:List CellB) (r:List UInt8) (j:Nat) (hj:j < 3) (hk:kind=0∨kind=1) (hn:v.length≤60) (h0:kind=0→∀ c ∈ v,Pc c) (h1:kind=1→∀ c ∈ v,Em c) :
  XF kind v.length (some (Xz (ZW kind j) v++r))=(v,some r):=by
 rcases hk with rfl|rfl
 ·have hv:=h0 rfl
  have hw:ZW 0 j=j:=rfl
  rw [hw]
  have e5:((j:Int) % 5)=(j:Int):=by omega
  show XF 0 v.length (some (byB ((j:Int) % 5) :: (qL j v++r)))=_
  rw [ZB,e5,JR j (by omega),if_neg (by omega)]
  have hww:qL j v=zQ j v 0 v.length:=by unfold qL;rw [if_neg (by omega),List.nil_append,UE]
  rw [hww]
  match j,hj with
  | 0,_=>exact Fv v r hv
  | 1,_=>exact FH v r hv
  | 2,_ =>
   have:=Fj v r hv hn v.length 0 (v.length+1) xA (by omega) (by omega) (.inr (.inl rfl))
   simpa using this
 ·have hv:=h1 rfl
  match j,hj with
  | 0,_ =>
   show XF 1 v.length (some (byB 0 :: (qL 5 v++r)))=_
   rw [ZB,show (byB 0).toNat=0 from rfl,if_neg (by omega)]
   have hww:qL 5 v=zQ 5 v 0 v.length:=by unfold qL;rw [if_neg (by omega),List.nil_append,UE]
   rw [hww]
   exact Fg v r hv
  | 1,_ =>
   show XF 1 v.length (some (byB 3 :: (qL 3 v++r)))=_
   rw [ZB,show (byB 3).toNat=3 from rfl,if_pos ⟨rfl,rfl⟩]
   have hd:(qW v).length≤60:=Nat.le_trans (JC v v.length) hn
   have hww:qL 3 v++r=uB (qW v).length++(xsB (qW v)++(zQ 3 v 0 v.length++r)):=by
    unfold qL
    rw [if_pos rfl,Pp (qW v) (qW v).length (Nat.le_refl _),List.take_length,UE]
    simp only [List.append_assoc]
   rw [hww,Jx 60 _ _ hd (by omega)]
   simp only
   rw [Ae (qW v) _ (fun c hc=>(hv c (Zq v v.length (Nat.le_refl _) c hc)).2.2)]
   exact Fy v r hv hn
  | 2,_ =>
   show XF 1 v.length (some (byB 4 :: (qL 4 v++r)))=_
   rw [ZB,show (byB 4).toNat=4 from rfl,if_neg (by omega)]
   have hww:qL 4 v=zQ 4 v 0 v.length:=by unfold qL;rw [if_neg (by omega),List.nil_append,UE]
   rw [hww]
   exact Fb v r hv
theorem Tm (kind:Int) (v:List CellB):∃ j,j < 3∧jQ kind v 3=Xz (ZW kind j) v:=by
 have h1:jQ kind v 1=Xz (ZW kind 0) v:=by simp [jQ]
 have h2:jQ kind v 2=Xz (ZW kind 1) v∨jQ kind v 2=Xz (ZW kind 0) v:=by
  show (if 1=0∨_ then _ else _)=_∨(if 1=0∨_ then _ else _)=_
  split
  ·exact .inl rfl
  ·exact .inr h1
 have h3:jQ kind v 3=Xz (ZW kind 2) v∨jQ kind v 3=jQ kind v 2:=by
  show (if 2=0∨_ then _ else _)=_∨(if 2=0∨_ then _ else _)=_
  split
  ·exact .inl rfl
  ·exact .inr rfl
 rcases h3 with h|h
 ·exact ⟨2,by omega,h⟩
 ·rcases h2 with h'|h'
  ·exact ⟨1,by omega,by rw [h,h']⟩
  ·exact ⟨0,by omega,by rw [h,h']⟩
def Xt (n:Nat):Nat→List Bool→Bool→Option (List UInt8)→List Bool × Option (List UInt8)
 | 0,l,_,st=>(l,st)
 | f+1,l,b,st=>if l.length < n∧st.isSome=true then Xt n f (l++List.replicate (qX (n - l.length) st).1 b) (!b) (qX (n - l.length) st).2 else (l,st)
theorem PZ (b:Bool) (l:List CellB):(l.take (Jk b l)).map (·.null)=List.replicate (Jk b l) b:=by
 apply List.ext_getElem
 ·simp only [List.length_map,List.length_take,List.length_replicate]
  have:=Nv b l
  omega
 ·intro i h1 h2
  simp only [List.length_replicate] at h2
  obtain ⟨h3,h4⟩:=EF b l i h2
  simp only [List.getElem_map,List.getElem_take,List.getElem_replicate]
  exact h4
theorem Sj (b:Bool) (l:List CellB) (h:Jk b l=0) (hl:l≠[]):Jk (!b) l≠0:=by
 cases l with
 | nil=>exact absurd rfl hl
 | cons c l =>
  simp only [Jk] at h ⊢
  have hc:¬ c.null=b:=by intro e;simp [e] at h
  have hc2:c.null=!b:=by cases hn:c.null<;>cases b<;>simp_all
  simp [hc2]
theorem PF (n:Nat) (hn:n≤60) (r:List UInt8):∀ (f:Nat) (l:List CellB) (b:Bool) (pre:List Bool),pre.length+l.length=n→2*l.length+(if Jk b l=0 then 1 else 0) < f →
  Xt n f pre b (some (qZ b l++r))=(pre++l.map (·.null),some r):=by
 intro f
 induction f with
 | zero=>intro l b pre _ h;omega
 | succ f ih =>
  intro l b pre hp hf
  by_cases hl:l=[]
  ·subst hl
   simp only [List.length_nil,Nat.add_zero] at hp
   rw [Xt,if_neg (by omega)]
   simp [qZ]
  ·have hpos:0 < l.length:=by cases l with|nil=>exact absurd rfl hl|cons c l=>simp
   have hrow:=Nv b l
   rw [Xt,if_pos ⟨by omega,rfl⟩,ZV b l hl,List.append_assoc,Jx _ _ _ (by omega) (by omega)]
   simp only
   have e:pre++l.map (·.null)=(pre++List.replicate (Jk b l) b)++(l.drop (Jk b l)).map (·.null):=by
    rw [List.append_assoc,← PZ b l,← List.map_append,List.take_append_drop]
   rw [e]
   refine ih (l.drop (Jk b l)) (!b) _ ?_ ?_
   ·simp only [List.length_append,List.length_replicate,List.length_drop];omega
   ·rw [List.length_drop]
    by_cases h0:Jk b l=0
    ·rw [h0,List.drop_zero,if_neg (Sj b l h0 hl)]
     rw [if_pos h0] at hf
     omega
    ·rw [if_neg h0] at hf
     split<;>omega
def xb:List Bool→List CellB→List CellB
 | [],_=>[]
 | true :: l,v=>⟨true,0,[]⟩ :: xb l v
 | false :: l,c :: v=>c :: xb l v
 | false :: l,[]=>⟨false,0,[]⟩ :: xb l []
theorem Gd (l:List CellB) (h:∀ c ∈ l,c.null=true→c=⟨true,0,[]⟩):xb (l.map (·.null)) (jm l)=l:=by
 induction l with
 | nil=>rfl
 | cons c l ih =>
  have ih':=ih (fun x hx=>h x (by simp [hx]))
  cases hc:c.null with
  | true =>
   have e:=h c (by simp) hc
   have ev:jm (c :: l)=jm l:=by simp [jm,hc]
   simp only [List.map_cons,hc,ev,xb]
   rw [ih',← e]
  | false =>
   have ev:jm (c :: l)=c :: jm l:=by simp [jm,hc]
   simp only [List.map_cons,hc,ev,xb]
   rw [ih']
def Vo (l:List Bool):Nat:=(l.filter fun b=>!b).length
theorem XQ (l:List CellB):Vo (l.map (·.null))=(jm l).length:=by
 unfold Vo jm
 rw [List.filter_map,List.length_map]
 rfl
def Gf (kind:Int) (page:List UInt8):Option (List CellB) :=
 if (Xt (qX 60 (some page)).1 200 [] false (qX 60 (some page)).2).2=none∨(Xt (qX 60 (some page)).1 200 [] false (qX 60 (some page)).2).1.length≠(qX 60 (some page)).1 then none
 else if Vo (Xt (qX 60 (some page)).1 200 [] false (qX 60 (some page)).2).1=0 then some (xb (Xt (qX 60 (some page)).1 200 [] false (qX 60 (some page)).2).1 [])
 else if (XF kind (Vo (Xt (qX 60 (some page)).1 200 [] false (qX 60 (some page)).2).1) (Xt (qX 60 (some page)).1 200 [] false (qX 60 (some page)).2).2).2=none ∨
   (XF kind (Vo (Xt (qX 60 (some page)).1 200 [] false (qX 60 (some page)).2).1) (Xt (qX 60 (some page)).1 200 [] false (qX 60 (some page)).2).2).1.length≠Vo (Xt (qX 60 (some page)).1 200 [] false (qX 60 (some page)).2).1 then none
 else some (xb (Xt (qX 60 (some page)).1 200 [] false (qX 60 (some page)).2).1 (XF kind (Vo (Xt (qX 60 (some page)).1 200 [] false (qX 60 (some page)).2).1) (Xt (qX 60 (some page)).1 200 [] false (qX 60 (some page)).2).2).1)
theorem LY {c:CellB} (h:xh 0 c=true) (hn:c.null=false) (hr:-9223372036854775808≤c.int∧c.int≤9223372036854775807):Pc c:=by
 unfold xh at h
 rw [hn] at h
 simp at h
 exact ⟨hn,h,hr.1,hr.2⟩
theorem PX {c:CellB} (h:xh 1 c=true) (hn:c.null=false):Em c:=by
 unfold xh at h
 rw [hn] at h
 simp at h
 exact ⟨hn,h.1,h.2⟩
theorem Tz {kind:Int} {c:CellB} (h:xh kind c=true) (hn:c.null=true):c=⟨true,0,[]⟩:=by
 unfold xh at h
 rw [if_pos hn] at h
 obtain ⟨n,i,t⟩:=c
 simp at h hn
 obtain ⟨h1,h2⟩:=h
 subst h1 h2 hn
 rfl
theorem CO (kind:Int) (l:List CellB) (rest:List UInt8) (hok:qC kind l=true) (hr:∀ c ∈ l,-9223372036854775808≤c.int∧c.int≤9223372036854775807):Gf kind (xN kind l++rest)=some l:=by
 unfold qC at hok
 simp only [Bool.and_eq_true,Bool.or_eq_true,decide_eq_true_eq,List.all_eq_true] at hok
 obtain ⟨⟨hk,hn⟩,hf⟩:=hok
 have hnull:∀ c ∈ l,c.null=true→c=⟨true,0,[]⟩:=fun c hc h=>Tz (hf c hc) h
 have hfill:=Gd l hnull
 have hmem:∀ c ∈ jm l,c ∈ l∧c.null=false:=fun c hc=>by
  have:=List.mem_filter.1 hc
  exact ⟨this.1,by simpa using this.2⟩
 have hvl:(jm l).length≤l.length:=List.length_filter_le _ _
 have hhead:∀ rest:List UInt8,qX 60 (some (zZ l++rest))=(l.length,some (qZ false l++rest)):=by
  intro rest
  unfold zZ
  rw [List.append_assoc]
  exact Jx 60 l.length _ hn (by omega)
 have hruns:∀ rest:List UInt8,Xt l.length 200 [] false (some (qZ false l++rest))=(l.map (·.null),some rest):=by
  intro rest
  have:=PF l.length hn rest 200 l false [] (by simp) (by split<;>omega)
  simpa using this
 by_cases hv:jm l=[]
 ·have hp:xN kind l=zZ l:=by unfold xN;rw [if_pos hv]
  unfold Gf
  rw [hp,hhead rest]
  simp only
  rw [hruns rest]
  simp only
  rw [if_neg (by simp),XQ,hv,if_pos (show ([]:List CellB).length=0 from rfl)]
  rw [hv] at hfill
  rw [hfill]
 ·have hp:xN kind l=zZ l++jQ kind (jm l) 3:=by unfold xN;rw [if_neg hv]
  obtain ⟨j,hj,hb⟩:=Tm kind (jm l)
  have hg:=CD kind (jm l) rest j hj hk (by omega) (fun h c hc=>by subst h;exact LY (hf c (hmem c hc).1) (hmem c hc).2 (hr c (hmem c hc).1)) (fun h c hc=>by subst h;exact PX (hf c (hmem c hc).1) (hmem c hc).2)
  rw [← hb] at hg
  have hpos:(jm l).length≠0:=fun h=>hv (List.eq_nil_of_length_eq_zero h)
  unfold Gf
  rw [hp,List.append_assoc,hhead]
  simp only
  rw [hruns]
  simp only
  rw [if_neg (by simp),XQ,if_neg hpos,hg]
  simp only
  rw [if_neg (by simp),hfill]
def JD (c:CellB):Prop:=-9223372036854775808≤c.int∧c.int≤9223372036854775807
theorem Pq (k:Nat) (hk:k < 18446744073709551616):-9223372036854775808≤zOf k∧zOf k≤9223372036854775807:=by
 unfold zOf;split<;>omega
theorem Dp (kind:Int) (e:Nat) (words:List (List UInt8)) (n len:Nat) (last:CellB) (st:Option (List UInt8)):JD (ZC kind e words n len last st).1:=by
 unfold ZC
 split
 ·exact JU (Cm (xU 8 st).1:Int)
 split
 ·exact JU (last.int+zOf (uR st).1)
 split
 ·exact Pq _ (We _)
 split
 ·exact ⟨(by decide:(-9223372036854775808:Int)≤0),(by decide:(0:Int)≤9223372036854775807)⟩
 split
 ·exact ⟨(by decide:(-9223372036854775808:Int)≤0),(by decide:(0:Int)≤9223372036854775807)⟩
 split
 ·exact ⟨(by decide:(-9223372036854775808:Int)≤0),(by decide:(0:Int)≤9223372036854775807)⟩
 ·exact ⟨(by decide:(-9223372036854775808:Int)≤0),(by decide:(0:Int)≤9223372036854775807)⟩
theorem VG (kind:Int) (e:Nat) (words:List (List UInt8)) (n:Nat):∀ (f:Nat) (l:List CellB) (last:CellB) (st:Option (List UInt8)),(∀ c ∈ l,JD c)→∀ c ∈ (Jv kind e words n f l last st).1,JD c:=by
 intro f
 induction f with
 | zero=>intro l last st h;exact h
 | succ f ih =>
  intro l last st h
  rw [Jv]
  split
  ·refine ih _ _ _ (fun c hc=>?_)
   rcases List.mem_append.1 hc with hc|hc
   ·exact h c hc
   ·rw [(List.mem_replicate.1 hc).2]
    exact Dp _ _ _ _ _ _ _
  ·exact h
theorem In (kind:Int) (n:Nat) (st:Option (List UInt8)):∀ c ∈ (XF kind n st).1,JD c:=by
 unfold XF
 split
 ·split
  ·exact VG _ _ _ _ _ _ _ _ (by simp)
  ·exact VG _ _ _ _ _ _ _ _ (by simp)
 ·simp
theorem GT:∀ (l:List Bool) (v:List CellB),(∀ c ∈ v,JD c)→∀ c ∈ xb l v,JD c:=by
 intro l
 induction l with
 | nil=>intro v h c hc;simp [xb] at hc
 | cons b l ih =>
  intro v h c hc
  have h0:JD ⟨true,0,[]⟩:=⟨by decide,by decide⟩
  have h1:JD ⟨false,0,[]⟩:=⟨by decide,by decide⟩
  cases b with
  | true =>
   simp only [xb,List.mem_cons] at hc
   rcases hc with rfl|hc
   ·exact h0
   ·exact ih v h c hc
  | false =>
   cases v with
   | nil =>
    simp only [xb,List.mem_cons] at hc
    rcases hc with rfl|hc
    ·exact h1
    ·exact ih [] h c hc
   | cons d v =>
    simp only [xb,List.mem_cons] at hc
    rcases hc with rfl|hc
    ·exact h c (by simp)
    ·exact ih v (fun x hx=>h x (by simp [hx])) c hc
theorem IM {kind:Int} {page:List UInt8} {l:List CellB} (h:Gf kind page=some l):∀ c ∈ l,JD c:=by
 unfold Gf at h
 split at h
 ·cases h
 ·split at h
  ·cases h;exact GT _ _ (by simp)
  ·split at h
   ·cases h
   ·cases h;exact GT _ _ (In _ _ _)
def JS (kind:Int) (page:List UInt8):Option (List CellB) :=
 match Gf kind page with
 | none=>none
 | some l=>if qC kind l=true∧xN kind l=page then some l else none
theorem Uu {kind:Int} {page:List UInt8} {l:List CellB} (h:JS kind page=some l):qC kind l=true∧xN kind l=page∧∀ c ∈ l,JD c:=by
 unfold JS at h
 split at h
 ·cases h
 ·rename_i l' hl
  split at h
  ·rename_i hc
   cases h
   exact ⟨hc.1,hc.2,IM hl⟩
  ·cases h
theorem Uo (kind:Int) (l:List CellB) (hok:qC kind l=true) (hr:∀ c ∈ l,JD c):JS kind (xN kind l)=some l:=by
 have:=CO kind l [] hok hr
 rw [List.append_nil] at this
 unfold JS
 rw [this]
 exact if_pos ⟨hok,rfl⟩
end
section
theorem AU {R G P g c:Nat}:∀ s ∈ jh R G P g c,s.c=c∧s.many≤G:=by
 intro s hs
 rcases List.mem_append.1 hs with hs|hs
 ·simp only [jt,List.mem_map,List.mem_range] at hs
  obtain ⟨k,_,rfl⟩:=hs
  exact ⟨rfl,Nat.le_trans (Jy _ _ _).2 (Jy _ _ _).1⟩
 ·simp only [List.mem_cons,List.not_mem_nil,or_false] at hs
  subst hs
  exact ⟨rfl,(Jy _ _ _).1⟩
theorem Uf {R G P g C:Nat}:∀ s ∈ jr R G P g C,s.c < C∧s.many≤G:=by
 intro s hs
 simp only [jr,List.mem_flatMap,List.mem_range] at hs
 obtain ⟨c,hc,hs⟩:=hs
 obtain ⟨h1,h2⟩:=AU s hs
 exact ⟨by omega,h2⟩
theorem Dr {R C G P n:Nat}:∀ s ∈ jH R C G P n,s.c < C∧s.many≤G:=by
 intro s hs
 simp only [jH,List.mem_flatMap,List.mem_range] at hs
 obtain ⟨g,_,hs⟩:=hs
 exact Uf s hs
end
section
structure FormF where
 told:Bool
 foot:Nat
 parts:List UInt8
 footer:List UInt8
 nonce:List UInt8
 body:List UInt8
def qp (f:FormF):List UInt8:=(if f.told=true then qz (f.footer.length:Int)++f.footer else [])++(qz (f.body.length:Int)++(f.nonce++f.body))
def xk (f:FormF):List UInt8:=([67,70]++[if f.told=true then 79 else 69]++[byB (f.foot:Int)])++(f.parts++(qp f++(qz ((qp f).length:Int)++[67,70])))
structure FormOk (f:FormF):Prop where
 nonce:f.nonce.length=4
 body:2≤f.body.length
 foot:1≤f.foot∧f.foot≤9
 short:(xk f).length≤65000
 none_:f.told=false→f.footer=[]
theorem Jm {a b:Nat} (ha:a≤65535) (hb:b≤65535) (h:qz (a:Int)=qz (b:Int)):a=b:=by
 unfold qz at h
 simp only [List.cons.injEq,and_true] at h
 obtain ⟨h1,h2⟩:=h
 have e1:=congrArg UInt8.toNat h1
 have e2:=congrArg UInt8.toNat h2
 simp only [UInt8.toNat_ofNat'] at e1 e2
 omega
theorem FormOk.lens {f:FormF} (h:FormOk f):(qp f).length≤64992∧f.body.length≤64992∧f.footer.length≤64992:=by
 have hs:=h.short
 have e:(xk f).length=4+(f.parts.length+((qp f).length+4)):=by
  simp only [xk,List.length_append,List.length_cons,List.length_nil,jx]
 have hfp:(qp f).length=(if f.told=true then 2+f.footer.length else 0)+(2+(f.nonce.length+f.body.length)):=by
  unfold qp
  rw [List.length_append]
  split<;>simp only [List.length_append,jx,List.length_nil]
 refine ⟨by omega,by omega,?_⟩
 cases ht:f.told with
 | true=>rw [ht] at hfp;simp only [if_true] at hfp;omega
 | false=>rw [h.none_ ht];simp
theorem Kk {a b c d:List UInt8} (h:a++b=c++d) (hl:b.length=d.length):a=c∧b=d:=by
 have hlen:=congrArg List.length h
 rw [List.length_append,List.length_append] at hlen
 exact List.append_inj h (by omega)
theorem Al {f g:FormF} (hf:FormOk f) (hg:FormOk g) (h:xk f=xk g):f=g:=by
 obtain ⟨l1,l2,l3⟩:=hf.lens
 obtain ⟨m1,m2,m3⟩:=hg.lens
 unfold xk at h
 obtain ⟨h1,h2⟩:=List.append_inj h (by simp)
 have ht:f.told=g.told:=by
  cases e1:f.told<;>cases e2:g.told<;>simp_all
 have hft:f.foot=g.foot:=by
  simp only [ht,List.cons_append,List.nil_append,List.cons.injEq,and_true,true_and] at h1
  have e:=congrArg UInt8.toNat h1
  have b1:=xY (f.foot:Int) (by omega) (by have:=hf.foot;omega)
  have b2:=xY (g.foot:Int) (by omega) (by have:=hg.foot;omega)
  omega
 have h2':(f.parts++qp f)++(qz ((qp f).length:Int)++[67,70])=(g.parts++qp g)++(qz ((qp g).length:Int)++[67,70]):=by
  rw [List.append_assoc,List.append_assoc];exact h2
 obtain ⟨h3,h4⟩:=Kk h2' (by simp [jx])
 obtain ⟨h5,_⟩:=List.append_inj h4 (by rw [jx,jx])
 have hl:=Jm (by omega) (by omega) h5
 obtain ⟨h6,h7⟩:=Kk h3 hl
 have key:f.footer=g.footer∧f.nonce=g.nonce∧f.body=g.body:=by
  unfold qp at h7
  rw [← ht] at h7
  have tail:∀ {a b:FormF},FormOk a→FormOk b→a.body.length≤65535→b.body.length≤65535→qz (a.body.length:Int)++(a.nonce++a.body)=qz (b.body.length:Int)++(b.nonce++b.body)→a.nonce=b.nonce∧a.body=b.body:=by
   intro a b ha hb _ _ e
   obtain ⟨_,e2⟩:=List.append_inj e (by rw [jx,jx])
   exact List.append_inj e2 (by rw [ha.nonce,hb.nonce])
  cases htt:f.told with
  | false =>
   rw [htt] at h7
   simp only [Bool.false_eq_true,if_false,List.nil_append] at h7
   obtain ⟨a,b⟩:=tail hf hg (by omega) (by omega) h7
   exact ⟨by rw [hf.none_ htt,hg.none_ (ht ▸ htt)],a,b⟩
  | true =>
   rw [htt] at h7
   simp only [if_true,List.append_assoc] at h7
   obtain ⟨e1,e2⟩:=List.append_inj h7 (by rw [jx,jx])
   have hlen:=Jm (by omega) (by omega) e1
   obtain ⟨e3,e4⟩:=List.append_inj e2 hlen
   obtain ⟨a,b⟩:=tail hf hg (by omega) (by omega) e4
   exact ⟨e3,a,b⟩
 obtain ⟨k1,k2,k3⟩:=key
 cases f
 cases g
 simp_all
end
section
theorem xV:∀ (n m:Nat) (r q:List UInt8),uB n++r=uB m++q→n=m∧r=q:=by
 intro n
 induction n using Nat.strongRecOn with
 | _ n ih =>
  intro m r q h
  by_cases hn:n≤127
  ·by_cases hm:m≤127
   ·rw [zt hn,zt hm] at h
    simp only [List.cons_append,List.nil_append,List.cons.injEq] at h
    obtain ⟨h1,h2⟩:=h
    have e:=congrArg UInt8.toNat h1
    rw [JR n (by omega),JR m (by omega)] at e
    exact ⟨e,h2⟩
   ·exfalso
    rw [zt hn,ZU (n:=m) (by omega)] at h
    simp only [List.cons_append,List.nil_append,List.cons.injEq] at h
    have e:=congrArg UInt8.toNat h.1
    have b1:=xY (n:Int) (by omega) (by omega)
    have b2:=xY ((m:Int) % 128+128) (by omega) (by omega)
    omega
  ·by_cases hm:m≤127
   ·exfalso
    rw [zt hm,ZU (n:=n) (by omega)] at h
    simp only [List.cons_append,List.nil_append,List.cons.injEq] at h
    have e:=congrArg UInt8.toNat h.1
    have b1:=xY (m:Int) (by omega) (by omega)
    have b2:=xY ((n:Int) % 128+128) (by omega) (by omega)
    omega
   ·rw [ZU (n:=n) (by omega),ZU (n:=m) (by omega)] at h
    simp only [List.cons_append,List.cons.injEq] at h
    obtain ⟨h1,h2⟩:=h
    have e:=congrArg UInt8.toNat h1
    have b1:=xY ((n:Int) % 128+128) (by omega) (by omega)
    have b2:=xY ((m:Int) % 128+128) (by omega) (by omega)
    obtain ⟨h3,h4⟩:=ih (n / 128) (by omega) (m / 128) r q h2
    exact ⟨by omega,h4⟩
theorem VU {s t r q:List UInt8} (h:xB s++r=xB t++q):s=t∧r=q:=by
 unfold xB at h
 rw [List.append_assoc,List.append_assoc] at h
 obtain ⟨h1,h2⟩:=xV _ _ _ _ h
 exact List.append_inj h2 h1
theorem Id:∀ (a b:List Nat),a.length=b.length→a.flatMap uB=b.flatMap uB→a=b:=by
 intro a
 induction a with
 | nil=>intro b hl _;cases b with
  | nil=>rfl
  | cons x l=>simp at hl
 | cons x l ih =>
  intro b hl h
  cases b with
  | nil=>simp at hl
  | cons y m =>
   rw [List.flatMap_cons,List.flatMap_cons] at h
   obtain ⟨h1,h2⟩:=xV _ _ _ _ h
   rw [h1,ih m (by simpa using hl) h2]
def XA (c:ColB):List UInt8 × Nat × Nat:=(c.name,c.kind.toNat,c.key.toNat)
theorem Ul:∀ (a b:List ColB) (r q:List UInt8),a.length=b.length→a.flatMap jZ++r=b.flatMap jZ++q→a.map XA=b.map XA∧r=q:=by
 intro a
 induction a with
 | nil=>intro b r q hl h;cases b with
  | nil=>exact ⟨rfl,h⟩
  | cons x l=>simp at hl
 | cons x l ih =>
  intro b r q hl h
  cases b with
  | nil=>simp at hl
  | cons y m =>
   rw [List.flatMap_cons,List.flatMap_cons] at h
   simp only [jZ,List.append_assoc] at h
   obtain ⟨h1,h2⟩:=VU h
   obtain ⟨h3,h4⟩:=xV _ _ _ _ h2
   obtain ⟨h5,h6⟩:=xV _ _ _ _ h4
   obtain ⟨h7,h8⟩:=ih m r q (by simpa using hl) h6
   refine ⟨?_,h8⟩
   simp only [List.map_cons,h7,XA,h1,h3,h5]
theorem Kd {R R':Nat} {p p':PlanB} {t t':List ColB} {pl pl':List Nat} (hl:pl.length=jY R p.group.toNat*t.length) (hl':pl'.length=jY R' p'.group.toNat*t'.length)
  (h:qn R p t pl=qn R' p' t' pl'):R=R'∧p.group.toNat=p'.group.toNat∧p.page.toNat=p'.page.toNat∧p.foot.toNat=p'.foot.toNat∧t.map XA=t'.map XA∧pl=pl':=by
 unfold qn at h
 simp only [List.append_assoc] at h
 obtain ⟨h1,h⟩:=xV _ _ _ _ h
 obtain ⟨h2,h⟩:=xV _ _ _ _ h
 obtain ⟨h3,h⟩:=xV _ _ _ _ h
 obtain ⟨h4,h⟩:=xV _ _ _ _ h
 obtain ⟨h5,h⟩:=xV _ _ _ _ h
 obtain ⟨h6,h⟩:=Ul t t' _ _ h5 h
 exact ⟨h1,h2,h3,h4,h6,Id _ _ (by rw [hl,hl',h1,h2,h5]) h⟩
end
section
structure ModF where
 plain:List UInt8
 nonce:List UInt8
 body:List UInt8
def qq (key:Int) (m:ModF):List UInt8:=if key=0 then qz (m.plain.length:Int)++m.plain else qz (m.body.length:Int)++(m.nonce++m.body)
def ze (key:Int) (m:ModF):Prop:=(key=0∧m.nonce=[]∧m.body=[]∧m.plain.length≤65535)∨(key≠0∧m.plain=[]∧m.nonce.length=4∧2≤m.body.length∧m.body.length≤65535)
def jn (t:List ColB):List SpotB→List ModF→List UInt8
 | s :: L,m :: M=>qq (jf t s.c).key m++jn t L M
 | _,_=>[]
def jJ (t:List ColB):Nat→Bool→List SpotB→List ModF→List Nat
 | n,b,s :: L,m :: M=>(if b=true then [n] else [])++jJ t (n+(qq (jf t s.c).key m).length) (decide (s.sort=77)) L M
 | _,_,_,_=>[]
def ModsOk (t:List ColB):List SpotB→List ModF→Prop
 | [],[]=>True
 | s :: L,m :: M=>ze (jf t s.c).key m∧ModsOk t L M
 | _,_=>False
theorem ModsOk.nil {t:List ColB}:ModsOk t [] []:=trivial
theorem ModsOk.cons {t:List ColB} {s:SpotB} {L:List SpotB} {m:ModF} {M:List ModF} (a:ze (jf t s.c).key m) (b:ModsOk t L M):ModsOk t (s :: L) (m :: M):=And.intro a b
theorem ModsOk.ind {t:List ColB} {motive:(L:List SpotB)→(M:List ModF)→ModsOk t L M→Prop} (nil:motive [] [] .nil)
  (cons:∀ {s:SpotB} {L:List SpotB} {m:ModF} {M:List ModF} (a:ze (jf t s.c).key m) (b:ModsOk t L M),motive L M b→motive (s :: L) (m :: M) (.cons a b)):∀ {L:List SpotB} {M:List ModF} (h:ModsOk t L M),motive L M h
 | [],[],_=>nil
 | _ :: _,_ :: _,h=>cons h.1 h.2 (ModsOk.ind nil cons h.2)
 | [],_ :: _,h=>absurd h id
 | _ :: _,[],h=>absurd h id
theorem QO {key:Int} {m m':ModF} {r q:List UInt8} (h:ze key m) (h':ze key m') (e:qq key m++r=qq key m'++q):m=m'∧r=q:=by
 unfold qq at e
 rcases h with ⟨hk,a1,a2,a3⟩|⟨hk,a1,a2,a3,a4⟩
 ·rcases h' with ⟨_,b1,b2,b3⟩|⟨hk',_⟩
  ·rw [if_pos hk,if_pos hk,List.append_assoc,List.append_assoc] at e
   obtain ⟨e1,e2⟩:=List.append_inj e (by rw [jx,jx])
   have hl:=Jm a3 b3 e1
   obtain ⟨e3,e4⟩:=List.append_inj e2 hl
   refine ⟨?_,e4⟩
   cases m;cases m';simp_all
  ·exact absurd hk hk'
 ·rcases h' with ⟨hk',_⟩|⟨_,b1,b2,b3,b4⟩
  ·exact absurd hk' hk
  ·rw [if_neg hk,if_neg hk,List.append_assoc,List.append_assoc,List.append_assoc,List.append_assoc] at e
   obtain ⟨e1,e2⟩:=List.append_inj e (by rw [jx,jx])
   have hl:=Jm a4 b4 e1
   obtain ⟨e3,e4⟩:=List.append_inj e2 (by rw [a2,b2])
   obtain ⟨e5,e6⟩:=List.append_inj e4 hl
   refine ⟨?_,e6⟩
   cases m;cases m';simp_all
theorem Ab {t:List ColB} {L:List SpotB} {M M':List ModF} (h:ModsOk t L M) (h':ModsOk t L M') (e:jn t L M=jn t L M'):M=M':=by
 induction h using ModsOk.ind generalizing M' with
 | nil=>cases h' using ModsOk.ind;rfl
 | cons hm _ ih =>
  cases h' using ModsOk.ind with
  | cons hm' h2' =>
   simp only [jn] at e
   obtain ⟨e1,e2⟩:=QO hm hm' e
   rw [e1,ih h2' e2]
structure SheetF where
 rows:Nat
 plan:PlanB
 cols:List ColB
 mods:List ModF
def qr (S:SheetF):List SpotB:=qm S.rows S.cols.length S.plan.group.toNat S.plan.page.toNat
structure SheetOk (foot:Nat) (parts footer:List UInt8) (S:SheetF):Prop where
 rows:S.rows≤60
 plan:qM S.plan=true
 told:S.plan.told=false
 foot:S.plan.foot=(foot:Int)
 heads:jX S.cols=true
 bare:∀ c ∈ S.cols,c.cells=[]
 mods:ModsOk S.cols (qr S) S.mods
 parts:parts=jn S.cols (qr S) S.mods
 footer:footer=qn S.rows S.plan S.cols (jJ S.cols 4 true (qr S) S.mods)
theorem qV {t:List ColB} {L:List SpotB} {M:List ModF} (h:ModsOk t L M):M.length=L.length:=by
 induction h using ModsOk.ind with
 | nil=>rfl
 | cons _ _ ih=>simp [ih]
theorem Uc {t:List ColB} (j:JobB) (r:List KeyB):∀ (L:List SpotB) (M:List ModF) (n:Nat) (b:Bool) (st:StB),M.length=L.length→(jJ t n b L M).length=(qP j r st b L).length:=by
 intro L
 induction L with
 | nil=>intro M n b st h;cases M with
  | nil=>rfl
  | cons m M=>simp at h
 | cons s L ih =>
  intro M n b st h
  cases M with
  | nil=>simp at h
  | cons m M =>
   simp only [jJ,qP,List.length_append]
   rw [ih M _ _ (zM j r st s) (by simpa using h)]
   cases b<;>rfl
theorem JW {foot:Nat} {parts footer:List UInt8} {S:SheetF} (h:SheetOk foot parts footer S):(jJ S.cols 4 true (qr S) S.mods).length=jY S.rows S.plan.group.toNat*S.cols.length:=by
 rw [Uc ⟨[],⟨0,0,0,false⟩,[],0⟩ [] _ _ _ _ ⟨[],[]⟩ (qV h.mods)]
 exact JZ _ _ _ _ _ _ _ _
theorem CR {p q:PlanB} (hp:qM p=true) (hq:qM q=true) (ht:p.told=q.told) (h1:p.group.toNat=q.group.toNat) (h2:p.page.toNat=q.page.toNat) (h3:p.foot.toNat=q.foot.toNat):p=q:=by
 simp only [qM,Bool.and_eq_true,decide_eq_true_eq] at hp hq
 have e1:p.group=q.group:=by omega
 have e2:p.page=q.page:=by omega
 have e3:p.foot=q.foot:=by omega
 cases p;cases q;simp_all
theorem Tl {a b:List ColB} (ha:jX a=true) (hb:jX b=true) (ca:∀ c ∈ a,c.cells=[]) (cb:∀ c ∈ b,c.cells=[]) (h:a.map XA=b.map XA):a=b:=by
 have hl:a.length=b.length:=by have:=congrArg List.length h;simpa using this
 have parts:∀ {t:List ColB},jX t=true→∀ k (hk:k < t.length),0≤(t[k]).kind∧0≤(t[k]).key:=by
  intro t ht k hk
  simp only [jX,Bool.and_eq_true] at ht
  obtain ⟨_,h1,h2,_⟩:=Qi (JF ht.1 (Nat.le_refl _) k hk).1
  exact ⟨by omega,h2⟩
 apply List.ext_getElem hl
 intro k h1 h2
 have e:XA a[k]=XA b[k]:=by
  have:(a.map XA)[k]'(by simpa using h1)=(b.map XA)[k]'(by simpa using h2):=by simp only [h]
  simpa using this
 obtain ⟨p1,p2⟩:=parts ha k h1
 obtain ⟨q1,q2⟩:=parts hb k h2
 have c1:=ca a[k] (List.getElem_mem h1)
 have c2:=cb b[k] (List.getElem_mem h2)
 generalize a[k]=x at *
 generalize b[k]=y at *
 simp only [XA,Prod.mk.injEq] at e
 obtain ⟨e1,e2,e3⟩:=e
 have k1:x.kind=y.kind:=by omega
 have k2:x.key=y.key:=by omega
 cases x;cases y;simp_all
theorem IS {foot:Nat} {parts footer:List UInt8} {S S':SheetF} (h:SheetOk foot parts footer S) (h':SheetOk foot parts footer S'):S=S':=by
 have hf:=h.footer.symm.trans h'.footer
 obtain ⟨e1,e2,e3,e4,e5,e6⟩:=Kd (JW h) (JW h') hf
 have hp:=CR h.plan h'.plan (h.told.trans h'.told.symm) e2 e3 e4
 have hc:=Tl h.heads h'.heads h.bare h'.bare e5
 have hm:=h.parts.symm.trans h'.parts
 have hs:qr S=qr S':=by unfold qr;rw [e1,hp,hc]
 rw [hs,hc] at hm
 have m1:=h.mods
 rw [hs,hc] at m1
 have e7:=Ab m1 h'.mods hm
 cases S;cases S';simp_all
end
section
theorem DC:∀ (l:List Nat),(∀ x ∈ l,x < 18446744073709551616)→(l.flatMap uB).length≤10*l.length:=by
 intro l
 induction l with
 | nil=>intro _;simp
 | cons x l ih =>
  intro h
  have h1:=qa x (h x (by simp))
  have h2:=ih (fun y hy=>h y (List.mem_cons_of_mem _ hy))
  rw [List.flatMap_cons,List.length_append,List.length_cons]
  omega
theorem Xb {foot:Nat} {parts footer:List UInt8} {S:SheetF} (hl:∀ x ∈ jJ S.cols 4 true (qr S) S.mods,x < 18446744073709551616) (h:SheetOk foot parts footer S):footer.length≤4200:=by
 have hp:=h.plan
 simp only [qM,Bool.and_eq_true,decide_eq_true_eq] at hp
 have hh:=h.heads
 simp only [jX,Bool.and_eq_true,decide_eq_true_eq] at hh
 have hr:=h.rows
 have hc:∀ c ∈ S.cols,(jZ c).length≤38:=by
  intro c hc
  obtain ⟨k,hk,rfl⟩:=List.mem_iff_getElem.1 hc
  obtain ⟨a,b,c,d⟩:=Qi (JF hh.1 (Nat.le_refl _) k hk).1
  exact GX (Ku a).2 b ⟨c,d⟩
 have h1:=Ub jZ 38 S.cols hc
 have h2:=DC _ hl
 have h3:=JW h
 have hcn:jY S.rows S.plan.group.toNat≤S.rows:=Ql (by omega)
 have h4:jY S.rows S.plan.group.toNat*S.cols.length≤60*6:=Nat.mul_le_mul (by omega) hh.2.2
 have u1:=qa S.rows (by omega)
 have u2:=qa S.plan.group.toNat (by omega)
 have u3:=qa S.plan.page.toNat (by omega)
 have u4:=qa S.plan.foot.toNat (by omega)
 have u5:=qa S.cols.length (by omega)
 rw [h.footer]
 unfold qn
 simp only [List.length_append]
 omega
end
section
open Go
theorem Vd {P:Program} (w:World) (t ty e:TypeId) (i:TypeInfo) (ht:P.underlying t=some (.slice e)) (hi:P.info? e=some i) (b:Option Addr) (n cap:Nat) (h:n≤cap) (a:Option Addr) (c:Nat) :
  (Builtin.append_ #[t,t] ty #[.slice b n cap,.slice a 0 c]).run P w=.ok (.slice b n cap) w:=by
 cases b<;>cases a<;>simp [Builtin.append_,run_underlying ht,sizeOf,typeInfo,hi,Builtin.lenOf,Builtin.firstCells,loadCells,loadCellsFrom,storeCells,h]
theorem VP {P:Program} {w:World} {o:Oper} {a:Act} {K:Act→World→Prop} {Q:Exit→Act→World→Prop} (s x:Operand) (t:TypeId)
  (ho:o.op=.call { callee:=.builtin .append,args:=#[s,x],argTypes:=#[t,t] })
  (e:TypeId) (i:TypeInfo) (ht:P.underlying t=some (.slice e)) (hi:P.info? e=some i) (b:Option Addr) (n cap:Nat) (hs:a.eval s=.slice b n cap) (hc:n≤cap) (b2:Option Addr) (c:Nat) (hx:a.eval x=.slice b2 0 c)
  (h:K (a.put o.dst (.slice b n cap)) w):o.wp P a w K Q:=by
 have hr:=Vd (P:=P) w t o.type e i ht hi b n cap hc b2 c
 unfold Oper.wp execOp
 simp only [ho,resolve,invoke,builtin,Sem.run_bind,Sem.run_pure,Result.andThen_ok,List.map_toArray,List.map_cons,List.map_nil,hs,hx,hr]
 exact h
theorem Ua {P:Program} {w:World} {ops:Array Oper} {rest:List Oper} {o:Oper} {a:Act} {Q:Exit→Act→World→Prop} (hgd:o.guard=none) (s x:Operand) (t:TypeId)
  (ho:o.op=.call { callee:=.builtin .append,args:=#[s,x],argTypes:=#[t,t] })
  (e:TypeId) (i:TypeInfo) (ht:P.underlying t=some (.slice e)) (hi:P.info? e=some i) (b:Option Addr) (n cap:Nat) (hs:a.eval s=.slice b n cap) (hc:n≤cap) (b2:Option Addr) (c:Nat) (hx:a.eval x=.slice b2 0 c)
  (h:wpList P ops Q rest (a.put o.dst (.slice b n cap)) w):wpList P ops Q (o :: rest) a w :=
 wpList_plain hgd fun _ hK=>VP s x t ho e i ht hi b n cap hs hc b2 c hx (hK _ _ h)
theorem Bi {w:World} {b e s n m:Nat} {a:Option Addr} {c:Nat} {xs:List Value} (h:w.ownsRow b e s (.slice a m c) n xs):n≤c∧m=n:=by
 rcases h.2 with ⟨h1,h2⟩|⟨g,cap,cur,h1,_,_,h3,_⟩
 ·injection h1 with _ h4 h5
  omega
 ·injection h1 with _ h4 h5
  omega
end
end Go.Proofs.YthhpbhpfagoapabGreat
