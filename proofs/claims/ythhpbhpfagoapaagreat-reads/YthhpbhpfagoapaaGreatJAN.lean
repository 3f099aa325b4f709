import Derived.Test.YthhpbhpfagoapaaGreatJAA
import Derived.Test.YthhpbhpfagoapaaGreatJAO
namespace Go.Proofs.YthhpbhpfagoapaaGreat
set_option linter.unusedVariables false
set_option linter.unusedSimpArgs false
set_option maxRecDepth 100000
set_option maxHeartbeats 16000000
section
open Go.RowKit
def qW (kind:Int) (e:Nat) (words:List (List UInt8)) (n len:Nat) (last:CellB) (st:Option (List UInt8)):CellB × Nat × Option (List UInt8) :=
 if kind=0∧e=0 then (⟨false,(bR st).1,[]⟩,1,(bR st).2)
 else if kind=0∧e=1 then (⟨false,wrap64 (last.int+zOf (uR st).1),[]⟩,1,(uR st).2)
 else if kind=0∧e=2 then (⟨false,zOf (uR (jQ (n - len) st).2).1,[]⟩,(jQ (n - len) st).1,if (jQ (n - len) st).1=0 then none else (uR (jQ (n - len) st).2).2)
 else if kind=1∧e=0 then (⟨false,0,(xR 12 st).1⟩,1,(xR 12 st).2)
 else if kind=1∧e=3∧words≠[] then (⟨false,0,words.getD (jQ (words.length - 1) st).1 []⟩,1,(jQ (words.length - 1) st).2)
 else if kind=1∧e=4 then (⟨false,0,last.text.take (jQ last.text.length st).1++(xR 12 (jQ last.text.length st).2).1⟩,1,(xR 12 (jQ last.text.length st).2).2)
 else (⟨false,0,[]⟩,1,none)
def xM (kind:Int) (e:Nat) (words:List (List UInt8)) (n:Nat):Nat→List CellB→CellB→Option (List UInt8)→List CellB × Option (List UInt8)
 | 0,l,_,st=>(l,st)
 | f+1,l,last,st =>
  if l.length < n∧st.isSome=true then
   xM kind e words n f (l++List.replicate (qW kind e words n l.length last st).2.1 (qW kind e words n l.length last st).1) (qW kind e words n l.length last st).1 (qW kind e words n l.length last st).2.2
  else (l,st)
def zU (w:Nat) (v:List CellB):Nat→Nat→List UInt8
 | _,0=>[]
 | i,k+1=>qN w v i++zU w v (i+1) k
theorem DD (w:Nat) (v:List CellB):∀ (k i:Nat),js w v (i+k)=js w v i++zU w v i k:=by
 intro k
 induction k with
 | zero=>intro i;simp [zU]
 | succ k ih =>
  intro i
  rw [show i+(k+1)=(i+1)+k by omega,ih (i+1)]
  simp [js,zU]
theorem Uf (w:Nat) (v:List CellB):js w v v.length=zU w v 0 v.length:=by
 have:=DD w v v.length 0
 simpa [js] using this
theorem ZP (kind:Int) (e w:Nat) (words:List (List UInt8)) (v:List CellB) (r:List UInt8)
  (hstep:∀ i (h:i < v.length) (rest:List UInt8),qW kind e words v.length i (jX v i) (some (qN w v i++rest))=(v[i],1,some rest)) :
  ∀ (k i:Nat),i+k=v.length→xM kind e words v.length (k+1) (v.take i) (jX v i) (some (zU w v i k++r))=(v,some r):=by
 intro k
 induction k with
 | zero =>
  intro i hi
  have hl:(v.take i).length=v.length:=by rw [aq];omega
  simp only [xM,zU,aX]
  rw [aj (by rw [hl];omega)]
  rw [aC (by omega)]
 | succ k ih =>
  intro i hi
  have hlt:i < v.length:=by omega
  have hl:(v.take i).length=i:=by rw [aq];omega
  rw [xM,aw (by rw [hl];exact ⟨hlt,rfl⟩),hl]
  simp only [zU,af]
  rw [hstep i hlt (zU w v (i+1) k++r)]
  have e1:v.take i++List.replicate 1 v[i]=v.take (i+1):=by rw [ax hlt];rfl
  have e2:v[i]=jX v (i+1):=by
   unfold jX
   rw [aj (by omega),Nat.add_sub_cancel,qg v i hlt]
  simp only [e1]
  rw [e2]
  exact ih (i+1) (by omega)
def CF (c:CellB):Prop:=c.null=false∧c.text=[]∧-9223372036854775808≤c.int∧c.int≤9223372036854775807
def RY (c:CellB):Prop:=c.null=false∧c.int=0∧c.text.length≤12
theorem VA {c:CellB} (h:CF c):c=⟨false,c.int,[]⟩:=by
 obtain ⟨n,i,t⟩:=c
 obtain ⟨h1,h2,_⟩:=h
 simp at h1 h2
 subst h1 h2
 rfl
theorem NS {c:CellB} (h:RY c):c=⟨false,0,c.text⟩:=by
 obtain ⟨n,i,t⟩:=c
 obtain ⟨h1,h2,_⟩:=h
 simp at h1 h2
 subst h1 h2
 rfl
theorem Bo (v:List CellB) (r:List UInt8) (hv:∀ c ∈ v,CF c):xM 0 0 [] v.length (v.length+1) [] qG (some (zU 0 v 0 v.length++r))=(v,some r):=by
 have:=ZP 0 0 0 [] v r (fun i h rest=>by
  have hc:=hv v[i] (al h)
  have hs:qN 0 v i=bB (v[i]).int:=by show bB (xX v i).int=_;rw [qg v i h]
  unfold qW
  rw [aw ⟨rfl,rfl⟩,hs,LI _ rest hc.2.2.1 hc.2.2.2]
  exact Prod.ext (VA hc).symm rfl) v.length 0 (by omega)
 simpa [jX] using this
theorem TA (a b:Int) (h0:-9223372036854775808≤b) (h1:b≤9223372036854775807):wrap64 (a+wrap64 (b - a))=b:=by
 unfold wrap64;omega
theorem Bk (v:List CellB) (r:List UInt8) (hv:∀ c ∈ v,CF c):xM 0 1 [] v.length (v.length+1) [] qG (some (zU 1 v 0 v.length++r))=(v,some r):=by
 have:=ZP 0 1 1 [] v r (fun i h rest=>by
  have hc:=hv v[i] (al h)
  have hs:qN 1 v i=zB (wrap64 ((v[i]).int - (jX v i).int)):=by show zB (wrap64 ((xX v i).int - (jX v i).int))=_;rw [qg v i h]
  have hr:=zr ((v[i]).int - (jX v i).int)
  unfold qW
  rw [aj (by omega),aw ⟨rfl,rfl⟩,hs,LK _ rest hr.1 hr.2,DI,TA _ _ hc.2.2.1 hc.2.2.2]
  exact Prod.ext (VA hc).symm rfl) v.length 0 (by omega)
 simpa [jX] using this
theorem Bj (v:List CellB) (r:List UInt8) (hv:∀ c ∈ v,RY c):xM 1 0 [] v.length (v.length+1) [] qG (some (zU 5 v 0 v.length++r))=(v,some r):=by
 have:=ZP 1 0 5 [] v r (fun i h rest=>by
  have hc:=hv v[i] (al h)
  have hs:qN 5 v i=xB (v[i]).text:=by show xB (xX v i).text=_;rw [qg v i h]
  unfold qW
  rw [aj (by omega),aj (by omega),aj (by omega),aw ⟨rfl,rfl⟩,hs,ME 12 _ rest hc.2.2 (by omega)]
  exact Prod.ext (NS hc).symm rfl) v.length 0 (by omega)
 simpa [jX] using this
theorem AI (s t:List UInt8):t.take (jN s t)++s.drop (jN s t)=s:=by
 have h:=Jh s t
 have e:t.take (jN s t)=s.take (jN s t):=by
  apply cx
  ·rw [aq,aq];omega
  ·intro i h1 h2
   rw [aq] at h1
   simp only [cD]
   exact (UN s t i (by omega) (by omega) (by omega)).symm
 rw [e,aD]
theorem Bd (v:List CellB) (r:List UInt8) (hv:∀ c ∈ v,RY c):xM 1 4 [] v.length (v.length+1) [] qG (some (zU 4 v 0 v.length++r))=(v,some r):=by
 have:=ZP 1 4 4 [] v r (fun i h rest=>by
  have hc:=hv v[i] (al h)
  have hp:(jX v i).text.length≤12:=by
   unfold jX;split
   ·decide
   ·rw [qg v (i - 1) (by omega)];exact (hv _ (al _)).2.2
  have hs:qN 4 v i=uB (jN (v[i]).text (jX v i).text)++xB ((v[i]).text.drop (jN (v[i]).text (jX v i).text)):=by simp only [qN,qg v i h]
  have hle:=Jh (v[i]).text (jX v i).text
  unfold qW
  rw [aj (by omega),aj (by omega),aj (by omega),aj (by omega),aj (by omega),aw ⟨rfl,rfl⟩,hs,af,
   JA _ _ _ hle.2 (by omega),ME 12 _ rest (by rw [an];have:=hc.2.2;omega) (by omega),AI]
  exact Prod.ext (NS hc).symm rfl) v.length 0 (by omega)
 simpa [jX] using this
end
section
open Go.RowKit
def zi:Nat→Option (List UInt8)→List (List UInt8) × Option (List UInt8)
 | 0,st=>([],st)
 | k+1,st=>((xR 12 st).1 :: (zi k (xR 12 st).2).1,(zi k (xR 12 st).2).2)
def xsB (d:List CellB):List UInt8:=d.flatMap fun c=>xB c.text
theorem TB (d:List CellB):∀ k,k≤d.length→zH d k=uB d.length++xsB (d.take k):=by
 intro k
 induction k with
 | zero=>intro _;simp [zH,xsB]
 | succ k ih =>
  intro h
  rw [zH,ih (by omega),qg d k (by omega),ax (by omega)]
  simp only [xsB,bf,a9,List.flatMap_nil,aB,af]
theorem IN (d:List CellB) (r:List UInt8) (h:∀ c ∈ d,c.text.length≤12):zi d.length (some (xsB d++r))=(d.map (·.text),some r):=by
 induction d with
 | nil=>rfl
 | cons c d ih =>
  have e:xsB (c :: d)++r=xB c.text++(xsB d++r):=by simp [xsB]
  rw [e]
  simp only [aH,zi]
  rw [ME 12 c.text (xsB d++r) (h c (by simp)) (by omega)]
  simp only
  rw [ih (fun x hx=>h x (by simp [hx]))]
  rfl
theorem LY (v:List CellB) (r:List UInt8) (hv:∀ c ∈ v,RY c) (hn:v.length≤60):xM 1 3 ((qi v).map (·.text)) v.length (v.length+1) [] qG (some (zU 3 v 0 v.length++r))=(v,some r):=by
 have:=ZP 1 3 3 ((qi v).map (·.text)) v r (fun i h rest=>by
  have hc:=hv v[i] (al h)
  have hs:qN 3 v i=uB (jV (qi v) (v[i]).text):=by show uB (jV (qi v) (xX v i).text)=_;rw [qg v i h]
  obtain ⟨h1,h2⟩:=QT (qi v) (v[i]).text (ZO v i h)
  have hdl:=zA v v.length
  have hd2:(qi v).length≤v.length:=hdl
  have hne:(qi v).map (·.text)≠[]:=by
   intro e0
   have:=aT List.length e0
   simp at this
   rw [this] at h1
   simp at h1
  have hlm:((qi v).map (·.text)).length=(qi v).length:=by simp
  unfold qW
  rw [aj (by omega),aj (by omega),aj (by omega),aj (by omega),aw ⟨rfl,rfl,hne⟩,hs,hlm,JA _ _ rest (by omega) (by omega)]
  have eg:((qi v).map (·.text)).getD (jV (qi v) (v[i]).text) []=(v[i]).text:=by
   simp only [List.getD,cX,ay h1,Option.map_some,Option.getD_some]
   exact h2
  rw [eg]
  exact Prod.ext (NS hc).symm rfl) v.length 0 (by omega)
 simpa [jX] using this
theorem TD (w:Nat) (v:List CellB):∀ (q a k:Nat),q≤k→(∀ j,j < q→qN w v (a+j)=[])→zU w v a k=zU w v (a+q) (k - q):=by
 intro q
 induction q with
 | zero=>intro a k _ _;rfl
 | succ q ih =>
  intro a k hk h
  obtain ⟨k',rfl⟩:∃ k',k=k'+1:=⟨k - 1,by omega⟩
  have h0:=h 0 (by omega)
  simp only [cP] at h0
  simp only [zU]
  rw [h0,aX,ih (a+1) k' (by omega) (fun j hj=>by have:=h (j+1) (by omega);rwa [show a+(j+1)=a+1+j by omega] at this)]
  congr 1<;>omega
theorem LV (v:List CellB) (r:List UInt8) (hv:∀ c ∈ v,CF c) (hn:v.length≤60) :
  ∀ (k i f:Nat) (last:CellB),i+k=v.length→k < f→(k=0∨i=0∨(xX v i).int≠(jX v i).int)→xM 0 2 [] v.length f (v.take i) last (some (zU 2 v i k++r))=(v,some r):=by
 intro k
 induction k using Nat.strongRecOn with
 | _ k ih =>
  intro i f last hi hf hrun
  obtain ⟨f',rfl⟩:∃ f',f=f'+1:=⟨f - 1,by omega⟩
  have hl:(v.take i).length=i:=by rw [aq];omega
  by_cases hk:k=0
  ·subst hk
   rw [xM,aj (by rw [hl];omega),zU,aX,aC (by omega)]
  ·have hlt:i < v.length:=by omega
   have hc:=hv v[i] (al hlt)
   have hrow:=UZ (v[i]).int (v.drop (i+1))
   rw [an] at hrow
   have hin:∀ j,j < Jm (v[i]).int (v.drop (i+1))→∃ h:i+1+j < v.length,v[i+1+j]=v[i]:=by
    intro j hj
    obtain ⟨h1,h2⟩:=Nf (v[i]).int (v.drop (i+1)) j hj
    rw [an] at h1
    refine ⟨by omega,?_⟩
    rw [aZ] at h2
    rw [VA (hv v[i+1+j] (al _)),VA hc,h2]
   have hend:∀ h:i+1+Jm (v[i]).int (v.drop (i+1)) < v.length,(v[i+1+Jm (v[i]).int (v.drop (i+1))]).int≠(v[i]).int:=by
    intro h
    have:=Ve (v[i]).int (v.drop (i+1)) (by rw [an];omega)
    rw [aZ] at this
    exact this
   have hs:qN 2 v i=uB (Jm (v[i]).int (v.drop (i+1))+1)++zB (v[i]).int:=by
    simp only [qN,qg v i hlt]
    rw [aw]
    rcases hrun with h|h|h
    ·exact absurd h hk
    ·exact .inl h
    ·rw [qg v i hlt] at h;exact .inr h
   generalize Jm (v[i]).int (v.drop (i+1))=q at *
   have hskip:zU 2 v (i+1) (k - 1)=zU 2 v (i+1+q) (k - 1 - q):=TD 2 v q (i+1) (k - 1) (by omega) (fun j hj=>by
    obtain ⟨h1,h2⟩:=hin j hj
    simp only [qN,qg v (i+1+j) h1,jX]
    rw [aj (by omega:¬ (i+1+j=0)),qg v (i+1+j - 1) (by omega)]
    have hp:v[i+1+j - 1]=v[i]:=by
     cases j with
     | zero=>rfl
     | succ j =>
      obtain ⟨h3,h4⟩:=hin j (by omega)
      rw [← h4]
      congr 1
    rw [hp,h2]
    rw [aj (fun h=>h.elim (fun h=>by omega) (fun h=>h rfl))])
   obtain ⟨k',rfl⟩:∃ k',k=k'+1:=⟨k - 1,by omega⟩
   simp only [Nat.add_sub_cancel] at hskip
   rw [xM,aw (by rw [hl];exact ⟨hlt,rfl⟩),hl]
   simp only [zU,hs,hskip,af]
   have hstep:qW 0 2 [] v.length i last (some (uB (q+1)++(zB (v[i]).int++(zU 2 v (i+1+q) (k' - q)++r))))=(v[i],q+1,some (zU 2 v (i+1+q) (k' - q)++r)):=by
    unfold qW
    rw [aj (by omega),aj (by omega),aw ⟨rfl,rfl⟩,JA _ _ _ (by omega) (by omega),LK _ _ hc.2.2.1 hc.2.2.2]
    simp only [DI]
    rw [aj (by omega)]
    exact Prod.ext (VA hc).symm rfl
   rw [hstep]
   have e1:v.take i++List.replicate (q+1) v[i]=v.take (i+1+q):=by
    apply cx
    ·simp only [ab,aq,aE];omega
    ·intro j h1 h2
     rw [cD]
     by_cases hj:j < i
     ·rw [List.getElem_append_left (by rw [hl];exact hj),cD]
     ·rw [List.getElem_append_right (by rw [hl];omega),bY]
      by_cases hji:j=i
      ·subst hji;rfl
      ·obtain ⟨h3,h4⟩:=hin (j - i - 1) (by rw [aq] at h2;omega)
       rw [← h4]
       congr 1
       omega
   simp only [e1]
   refine ih (k' - q) (by omega) (i+1+q) f' v[i] (by omega) (by omega) ?_
   by_cases hz:k' - q=0
   ·exact .inl hz
   ·right;right
    have h5:i+1+q < v.length:=by omega
    rw [qg v (i+1+q) h5]
    unfold jX
    rw [aj (by omega),qg v (i+1+q - 1) (by omega)]
    have hp:v[i+1+q - 1]=v[i]:=by
     cases q with
     | zero=>rfl
     | succ q =>
      obtain ⟨h3,h4⟩:=hin q (by omega)
      rw [← h4]
      congr 1
    rw [hp]
    exact hend h5
end
section
open Go.RowKit
def zk (kind:Int) (n:Nat) (st:Option (List UInt8)):List CellB × Option (List UInt8) :=
 match qk 1 st with
 | (c :: _,some r) =>
  if kind=1∧c.toNat=3 then xM kind 3 (zi (jQ 60 (some r)).1 (jQ 60 (some r)).2).1 n (n+1) [] qG (zi (jQ 60 (some r)).1 (jQ 60 (some r)).2).2
  else xM kind c.toNat [] n (n+1) [] qG (some r)
 | _=>([],none)
theorem Xk (kind:Int) (n:Nat) (c:UInt8) (r:List UInt8):zk kind n (some (c :: r)) =
  if kind=1∧c.toNat=3 then xM kind 3 (zi (jQ 60 (some r)).1 (jQ 60 (some r)).2).1 n (n+1) [] qG (zi (jQ 60 (some r)).1 (jQ 60 (some r)).2).2
  else xM kind c.toNat [] n (n+1) [] qG (some r):=by
 simp only [zk,NQ]
theorem Dd (kind:Int) (v:List CellB) (r:List UInt8) (j:Nat) (hj:j < 3) (hk:kind=0∨kind=1) (hn:v.length≤60) (h0:kind=0→∀ c ∈ v,CF c) (h1:kind=1→∀ c ∈ v,RY c) :
  zk kind v.length (some (zK (QD kind j) v++r))=(v,some r):=by
 rcases hk with rfl|rfl
 ·have hv:=h0 rfl
  have hw:QD 0 j=j:=rfl
  rw [hw]
  have e5:((j:Int) % 5)=(j:Int):=by omega
  show zk 0 v.length (some (byB ((j:Int) % 5) :: (qy j v++r)))=_
  rw [Xk,e5,JV j (by omega),aj (by omega)]
  have hww:qy j v=zU j v 0 v.length:=by unfold qy;rw [aj (by omega),aX,Uf]
  rw [hww]
  match j,hj with
  | 0,_=>exact Bo v r hv
  | 1,_=>exact Bk v r hv
  | 2,_ =>
   have:=LV v r hv hn v.length 0 (v.length+1) qG (by omega) (by omega) (.inr (.inl rfl))
   simpa using this
 ·have hv:=h1 rfl
  match j,hj with
  | 0,_ =>
   show zk 1 v.length (some (byB 0 :: (qy 5 v++r)))=_
   rw [Xk,show (byB 0).toNat=0 from rfl,aj (by omega)]
   have hww:qy 5 v=zU 5 v 0 v.length:=by unfold qy;rw [aj (by omega),aX,Uf]
   rw [hww]
   exact Bj v r hv
  | 1,_ =>
   show zk 1 v.length (some (byB 3 :: (qy 3 v++r)))=_
   rw [Xk,show (byB 3).toNat=3 from rfl,aw ⟨rfl,rfl⟩]
   have hd:(qi v).length≤60:=ar (zA v v.length) hn
   have hww:qy 3 v++r=uB (qi v).length++(xsB (qi v)++(zU 3 v 0 v.length++r)):=by
    unfold qy
    rw [aw rfl,TB (qi v) (qi v).length (ae _),aF,Uf]
    simp only [af]
   rw [hww,JA 60 _ _ hd (by omega)]
   simp only
   rw [IN (qi v) _ (fun c hc=>(hv c (Ql v v.length (ae _) c hc)).2.2)]
   exact LY v r hv hn
  | 2,_ =>
   show zk 1 v.length (some (byB 4 :: (qy 4 v++r)))=_
   rw [Xk,show (byB 4).toNat=4 from rfl,aj (by omega)]
   have hww:qy 4 v=zU 4 v 0 v.length:=by unfold qy;rw [aj (by omega),aX,Uf]
   rw [hww]
   exact Bd v r hv
theorem MJ (kind:Int) (v:List CellB):∃ j,j < 3∧jJ kind v 3=zK (QD kind j) v:=by
 have h1:jJ kind v 1=zK (QD kind 0) v:=by simp [jJ]
 have h2:jJ kind v 2=zK (QD kind 1) v∨jJ kind v 2=zK (QD kind 0) v:=by
  show (if 1=0∨_ then _ else _)=_∨(if 1=0∨_ then _ else _)=_
  split
  ·exact .inl rfl
  ·exact .inr h1
 have h3:jJ kind v 3=zK (QD kind 2) v∨jJ kind v 3=jJ kind v 2:=by
  show (if 2=0∨_ then _ else _)=_∨(if 2=0∨_ then _ else _)=_
  split
  ·exact .inl rfl
  ·exact .inr rfl
 rcases h3 with h|h
 ·exact ⟨2,by omega,h⟩
 ·rcases h2 with h'|h'
  ·exact ⟨1,by omega,by rw [h,h']⟩
  ·exact ⟨0,by omega,by rw [h,h']⟩
def Jg (n:Nat):Nat→List Bool→Bool→Option (List UInt8)→List Bool × Option (List UInt8)
 | 0,l,_,st=>(l,st)
 | f+1,l,b,st=>if l.length < n∧st.isSome=true then Jg n f (l++List.replicate (jQ (n - l.length) st).1 b) (!b) (jQ (n - l.length) st).2 else (l,st)
theorem Cy (b:Bool) (l:List CellB):(l.take (rowB b l)).map (·.null)=List.replicate (rowB b l) b:=by
 apply cx
 ·simp only [ch,aq,aE]
  have:=Ki b l
  omega
 ·intro i h1 h2
  simp only [aE] at h2
  obtain ⟨h3,h4⟩:=Np b l i h2
  simp only [List.getElem_map,cD,bY]
  exact h4
theorem Cd (b:Bool) (l:List CellB) (h:rowB b l=0) (hl:l≠[]):rowB (!b) l≠0:=by
 cases l with
 | nil=>exact absurd rfl hl
 | cons c l =>
  simp only [rowB] at h ⊢
  have hc:¬ c.null=b:=by intro e;simp [e] at h
  have hc2:c.null=!b:=by cases hn:c.null<;>cases b<;>simp_all
  simp [hc2]
theorem CI (n:Nat) (hn:n≤60) (r:List UInt8):∀ (f:Nat) (l:List CellB) (b:Bool) (pre:List Bool),pre.length+l.length=n→2*l.length+(if rowB b l=0 then 1 else 0) < f →
  Jg n f pre b (some (qV b l++r))=(pre++l.map (·.null),some r):=by
 intro f
 induction f with
 | zero=>intro l b pre _ h;omega
 | succ f ih =>
  intro l b pre hp hf
  by_cases hl:l=[]
  ·subst hl
   simp only [aR,cP] at hp
   rw [Jg,aj (by omega)]
   simp [qV]
  ·have hpos:0 < l.length:=by cases l with|nil=>exact absurd rfl hl|cons c l=>simp
   have hrow:=Ki b l
   rw [Jg,aw ⟨by omega,rfl⟩,Xf b l hl,af,JA _ _ _ (by omega) (by omega)]
   simp only
   have e:pre++l.map (·.null)=(pre++List.replicate (rowB b l) b)++(l.drop (rowB b l)).map (·.null):=by
    rw [af,← Cy b l,← cT,aD]
   rw [e]
   refine ih (l.drop (rowB b l)) (!b) _ ?_ ?_
   ·simp only [ab,aE,an];omega
   ·rw [an]
    by_cases h0:rowB b l=0
    ·rw [h0,List.drop_zero,aj (Cd b l h0 hl)]
     rw [aw h0] at hf
     omega
    ·rw [aj h0] at hf
     split<;>omega
def qn:List Bool→List CellB→List CellB
 | [],_=>[]
 | true :: l,v=>⟨true,0,[]⟩ :: qn l v
 | false :: l,c :: v=>c :: qn l v
 | false :: l,[]=>⟨false,0,[]⟩ :: qn l []
theorem VI (l:List CellB) (h:∀ c ∈ l,c.null=true→c=⟨true,0,[]⟩):qn (l.map (·.null)) (je l)=l:=by
 induction l with
 | nil=>rfl
 | cons c l ih =>
  have ih':=ih (fun x hx=>h x (by simp [hx]))
  cases hc:c.null with
  | true =>
   have e:=h c (by simp) hc
   have ev:je (c :: l)=je l:=by simp [je,hc]
   simp only [cK,hc,ev,qn]
   rw [ih',← e]
  | false =>
   have ev:je (c :: l)=c :: je l:=by simp [je,hc]
   simp only [cK,hc,ev,qn]
   rw [ih']
def jU (l:List Bool):Nat:=(l.filter fun b=>!b).length
theorem Xw (l:List CellB):jU (l.map (·.null))=(je l).length:=by
 unfold jU je
 rw [List.filter_map,ch]
 rfl
def Xq (kind:Int) (page:List UInt8):Option (List CellB) :=
 if (Jg (jQ 60 (some page)).1 200 [] false (jQ 60 (some page)).2).2=none∨(Jg (jQ 60 (some page)).1 200 [] false (jQ 60 (some page)).2).1.length≠(jQ 60 (some page)).1 then none
 else if jU (Jg (jQ 60 (some page)).1 200 [] false (jQ 60 (some page)).2).1=0 then some (qn (Jg (jQ 60 (some page)).1 200 [] false (jQ 60 (some page)).2).1 [])
 else if (zk kind (jU (Jg (jQ 60 (some page)).1 200 [] false (jQ 60 (some page)).2).1) (Jg (jQ 60 (some page)).1 200 [] false (jQ 60 (some page)).2).2).2=none ∨
   (zk kind (jU (Jg (jQ 60 (some page)).1 200 [] false (jQ 60 (some page)).2).1) (Jg (jQ 60 (some page)).1 200 [] false (jQ 60 (some page)).2).2).1.length≠jU (Jg (jQ 60 (some page)).1 200 [] false (jQ 60 (some page)).2).1 then none
 else some (qn (Jg (jQ 60 (some page)).1 200 [] false (jQ 60 (some page)).2).1 (zk kind (jU (Jg (jQ 60 (some page)).1 200 [] false (jQ 60 (some page)).2).1) (Jg (jQ 60 (some page)).1 200 [] false (jQ 60 (some page)).2).2).1)
theorem Ps {c:CellB} (h:xL 0 c=true) (hn:c.null=false) (hr:-9223372036854775808≤c.int∧c.int≤9223372036854775807):CF c:=by
 unfold xL at h
 rw [hn] at h
 simp at h
 exact ⟨hn,h,hr.1,hr.2⟩
theorem Ts {c:CellB} (h:xL 1 c=true) (hn:c.null=false):RY c:=by
 unfold xL at h
 rw [hn] at h
 simp at h
 exact ⟨hn,h.1,h.2⟩
theorem Tn {kind:Int} {c:CellB} (h:xL kind c=true) (hn:c.null=true):c=⟨true,0,[]⟩:=by
 unfold xL at h
 rw [aw hn] at h
 obtain ⟨n,i,t⟩:=c
 simp at h hn
 obtain ⟨h1,h2⟩:=h
 subst h1 h2 hn
 rfl
theorem Mh (kind:Int) (l:List CellB) (rest:List UInt8) (hok:qD kind l=true) (hr:∀ c ∈ l,-9223372036854775808≤c.int∧c.int≤9223372036854775807):Xq kind (xq kind l++rest)=some l:=by
 unfold qD at hok
 simp only [au,cj,az,bD] at hok
 obtain ⟨⟨hk,hn⟩,hf⟩:=hok
 have hnull:∀ c ∈ l,c.null=true→c=⟨true,0,[]⟩:=fun c hc h=>Tn (hf c hc) h
 have hfill:=VI l hnull
 have hmem:∀ c ∈ je l,c ∈ l∧c.null=false:=fun c hc=>by
  have:=bJ.1 hc
  exact ⟨this.1,by simpa using this.2⟩
 have hvl:(je l).length≤l.length:=bE _ _
 have hhead:∀ rest:List UInt8,jQ 60 (some (zC l++rest))=(l.length,some (qV false l++rest)):=by
  intro rest
  unfold zC
  rw [af]
  exact JA 60 l.length _ hn (by omega)
 have hruns:∀ rest:List UInt8,Jg l.length 200 [] false (some (qV false l++rest))=(l.map (·.null),some rest):=by
  intro rest
  have:=CI l.length hn rest 200 l false [] (by simp) (by split<;>omega)
  simpa using this
 by_cases hv:je l=[]
 ·have hp:xq kind l=zC l:=by unfold xq;rw [aw hv]
  unfold Xq
  rw [hp,hhead rest]
  simp only
  rw [hruns rest]
  simp only
  rw [aj (by simp),Xw,hv,aw (show ([]:List CellB).length=0 from rfl)]
  rw [hv] at hfill
  rw [hfill]
 ·have hp:xq kind l=zC l++jJ kind (je l) 3:=by unfold xq;rw [aj hv]
  obtain ⟨j,hj,hb⟩:=MJ kind (je l)
  have hg:=Dd kind (je l) rest j hj hk (by omega) (fun h c hc=>by subst h;exact Ps (hf c (hmem c hc).1) (hmem c hc).2 (hr c (hmem c hc).1)) (fun h c hc=>by subst h;exact Ts (hf c (hmem c hc).1) (hmem c hc).2)
  rw [← hb] at hg
  have hpos:(je l).length≠0:=fun h=>hv (ao h)
  unfold Xq
  rw [hp,af,hhead]
  simp only
  rw [hruns]
  simp only
  rw [aj (by simp),Xw,aj hpos,hg]
  simp only
  rw [aj (by simp),hfill]
def Qb (c:CellB):Prop:=-9223372036854775808≤c.int∧c.int≤9223372036854775807
theorem To (k:Nat) (hk:k < 18446744073709551616):-9223372036854775808≤zOf k∧zOf k≤9223372036854775807:=by
 unfold zOf;split<;>omega
theorem As (kind:Int) (e:Nat) (words:List (List UInt8)) (n len:Nat) (last:CellB) (st:Option (List UInt8)):Qb (qW kind e words n len last st).1:=by
 unfold qW
 split
 ·exact zr (UH (qk 8 st).1:Int)
 split
 ·exact zr (last.int+zOf (uR st).1)
 split
 ·exact To _ (MM _)
 split
 ·exact ⟨(by decide:(-9223372036854775808:Int)≤0),(by decide:(0:Int)≤9223372036854775807)⟩
 split
 ·exact ⟨(by decide:(-9223372036854775808:Int)≤0),(by decide:(0:Int)≤9223372036854775807)⟩
 split
 ·exact ⟨(by decide:(-9223372036854775808:Int)≤0),(by decide:(0:Int)≤9223372036854775807)⟩
 ·exact ⟨(by decide:(-9223372036854775808:Int)≤0),(by decide:(0:Int)≤9223372036854775807)⟩
theorem Vw (kind:Int) (e:Nat) (words:List (List UInt8)) (n:Nat):∀ (f:Nat) (l:List CellB) (last:CellB) (st:Option (List UInt8)),(∀ c ∈ l,Qb c)→∀ c ∈ (xM kind e words n f l last st).1,Qb c:=by
 intro f
 induction f with
 | zero=>intro l last st h;exact h
 | succ f ih =>
  intro l last st h
  rw [xM]
  split
  ·refine ih _ _ _ (fun c hc=>?_)
   rcases aM.1 hc with hc|hc
   ·exact h c hc
   ·rw [(bC.1 hc).2]
    exact As _ _ _ _ _ _ _
  ·exact h
theorem Ek (kind:Int) (n:Nat) (st:Option (List UInt8)):∀ c ∈ (zk kind n st).1,Qb c:=by
 unfold zk
 split
 ·split
  ·exact Vw _ _ _ _ _ _ _ _ (by simp)
  ·exact Vw _ _ _ _ _ _ _ _ (by simp)
 ·simp
theorem Gx:∀ (l:List Bool) (v:List CellB),(∀ c ∈ v,Qb c)→∀ c ∈ qn l v,Qb c:=by
 intro l
 induction l with
 | nil=>intro v h c hc;simp [qn] at hc
 | cons b l ih =>
  intro v h c hc
  have h0:Qb ⟨true,0,[]⟩:=⟨by decide,by decide⟩
  have h1:Qb ⟨false,0,[]⟩:=⟨by decide,by decide⟩
  cases b with
  | true =>
   simp only [qn,ba] at hc
   rcases hc with rfl|hc
   ·exact h0
   ·exact ih v h c hc
  | false =>
   cases v with
   | nil =>
    simp only [qn,ba] at hc
    rcases hc with rfl|hc
    ·exact h1
    ·exact ih [] h c hc
   | cons d v =>
    simp only [qn,ba] at hc
    rcases hc with rfl|hc
    ·exact h c (by simp)
    ·exact ih v (fun x hx=>h x (by simp [hx])) c hc
theorem EL {kind:Int} {page:List UInt8} {l:List CellB} (h:Xq kind page=some l):∀ c ∈ l,Qb c:=by
 unfold Xq at h
 split at h
 ·cases h
 ·split at h
  ·cases h;exact Gx _ _ (by simp)
  ·split at h
   ·cases h
   ·cases h;exact Gx _ _ (Ek _ _ _)
def xg (kind:Int) (page:List UInt8):Option (List CellB) :=
 match Xq kind page with
 | none=>none
 | some l=>if qD kind l=true∧xq kind l=page then some l else none
theorem Zg {kind:Int} {page:List UInt8} {l:List CellB} (h:xg kind page=some l):qD kind l=true∧xq kind l=page∧∀ c ∈ l,Qb c:=by
 unfold xg at h
 split at h
 ·cases h
 ·rename_i l' hl
  split at h
  ·rename_i hc
   cases h
   exact ⟨hc.1,hc.2,EL hl⟩
  ·cases h
theorem GS (kind:Int) (l:List CellB) (hok:qD kind l=true) (hr:∀ c ∈ l,Qb c):xg kind (xq kind l)=some l:=by
 have:=Mh kind l [] hok hr
 rw [aB] at this
 unfold xg
 rw [this]
 exact aw ⟨hok,rfl⟩
end
section
structure ColB where
 name:List UInt8
 kind:Int
 key:Int
 cells:List CellB
structure KeyB where
 number:Int
 secret:List UInt8
structure PlanB where
 group:Int
 page:Int
 foot:Int
 told:Bool
structure JobB where
 table:List ColB
 plan:PlanB
 pre:List UInt8
 draw:Int
structure SealB where
 secret:List UInt8
 nonce:List UInt8
 extra:List UInt8
 body:List UInt8
def xE (s:List UInt8):Bool:=s.all (fun b=>decide (97≤b.toNat) && decide (b.toNat≤122)) && (decide (1≤s.length) && decide (s.length≤8))
def zV (c:ColB):Bool:=xE c.name && ((decide (0≤c.kind) && decide (c.kind≤1)) && (decide (0≤c.key) && decide (c.key≤9)))
def zq (t:List ColB) (s:List UInt8):Bool:=t.any fun c=>c.name == s
def JO (t:List ColB):Nat→Bool
 | 0=>true
 | k+1=>JO t k && (match t[k]? with|some c=>zV c && !zq (t.take k) c.name|none=>true)
def jZ (t:List ColB):Bool:=JO t t.length && (decide (1≤t.length) && decide (t.length≤6))
def JY:List ColB→Nat
 | []=>0
 | c :: _=>c.cells.length
def Vt (t:List ColB):Bool:=jZ t && t.all fun c=>qD c.kind c.cells && decide (c.cells.length=JY t)
def qS (p:PlanB):Bool:=(decide (1≤p.group) && decide (p.group≤60)) && ((decide (1≤p.page) && decide (p.page≤60)) && (decide (1≤p.foot) && decide (p.foot≤9)))
def jy (r:List KeyB) (n:Int):Bool:=r.any fun k=>decide (k.number=n)
def Xs (k:KeyB):Bool:=(decide (1≤k.number) && decide (k.number≤9)) && decide (k.secret.length=8)
def Xt (r:List KeyB):Nat→Bool
 | 0=>true
 | k+1=>Xt r k && (match r[k]? with|some c=>Xs c && !jy (r.take k) c.number|none=>true)
def xY (r:List KeyB):Bool:=Xt r r.length
def Gm (r:List KeyB) (n:Int):Option (List UInt8):=(r.find? fun k=>decide (k.number=n)).map (·.secret)
def jl (r:List KeyB) (n:Int):List UInt8:=(Gm r n).getD []
def Ln (j:JobB) (r:List KeyB):Bool:=!jy r j.plan.foot || j.table.any fun c=>decide (0 < c.key) && !jy r c.key
def qo (pre:List UInt8) (sort:UInt8) (g c p:Nat):List UInt8:=xB pre++[sort]++qE (g:Int)++qE (c:Int)++qE (p:Int)
def jv (n size i:Nat):Nat:=min size (n - i*size)
def qb (n size:Nat):Nat:=(n+size - 1) / size
structure SpotB where
 sort:UInt8
 g:Nat
 c:Nat
 p:Nat
 start:Nat
 many:Nat
def jo (P g c start n:Nat) (k:Nat):List SpotB:=(List.range k).map fun p=>⟨80,g,c,p,start+p*P,jv n P p⟩
def jh (R G P g c:Nat):List SpotB:=jo P g c (g*G) (jv R G g) (qb (jv R G g) P)++[⟨77,g,c,0,g*G,jv R G g⟩]
def ju (R G P g C:Nat):List SpotB:=(List.range C).flatMap fun c=>jh R G P g c
def jW (R C G P n:Nat):List SpotB:=(List.range n).flatMap fun g=>ju R G P g C
def jI (R C G P:Nat):List SpotB:=jW R C G P (qb R G)
def zG (l:List CellB):Int→Int:=fun x=>l.foldl (fun m c=>if c.int < m then c.int else m) x
def JZ (l:List CellB):Int→Int:=fun x=>l.foldl (fun m c=>if m < c.int then c.int else m) x
def qJ:List CellB→Int
 | []=>0
 | c :: _=>c.int
def JL (kind:Int) (l:List CellB):List UInt8 :=
 uB (l.length - (je l).length)++if kind=0∧je l≠[] then [1]++zB (zG (je l) (qJ (je l)))++zB (JZ (je l) (qJ (je l))) else [0]
def jk (t:List ColB) (c:Nat):ColB:=t.getD c ⟨[],0,0,[]⟩
def XN (t:List ColB) (s:SpotB):List UInt8 :=
 if s.sort=77 then JL (jk t s.c).kind (((jk t s.c).cells.drop s.start).take s.many) else xq (jk t s.c).kind (((jk t s.c).cells.drop s.start).take s.many)
structure StB where
 out:List UInt8
 log:List SealB
def EP (plain:List UInt8) (st:StB):StB:=⟨st.out++(qE (plain.length:Int)++plain),st.log⟩
def VL (draw:Int) (n:Nat):List UInt8:=qE draw++qE (n:Int)
def Rz (draw:Int) (secret extra plain:List UInt8) (st:StB):StB :=
 ⟨st.out++(qE ((XU secret (VL draw st.log.length) extra plain).length:Int)++(VL draw st.log.length++XU secret (VL draw st.log.length) extra plain)),
  st.log++[⟨secret,VL draw st.log.length,extra,XU secret (VL draw st.log.length) extra plain⟩]⟩
def Yf (j:JobB) (r:List KeyB) (key:Int) (sort:UInt8) (g c p:Nat) (plain:List UInt8) (st:StB):StB :=
 if key=0 then EP plain st else Rz j.draw (jl r key) (qo j.pre sort g c p) plain st
def Uy (j:JobB) (r:List KeyB) (st:StB) (s:SpotB):StB:=Yf j r (jk j.table s.c).key s.sort s.g s.c s.p (XN j.table s) st
def Zn (j:JobB) (r:List KeyB) (st:StB) (l:List SpotB):StB:=l.foldl (Uy j r) st
def qM (b:Bool):List SpotB→Bool
 | []=>b
 | s :: l=>qM (decide (s.sort=77)) l
def zf (j:JobB) (r:List KeyB):StB→Bool→List SpotB→List Nat
 | st,b,[]=>[]
 | st,b,s :: l=>(if b=true then [st.out.length] else [])++zf j r (Uy j r st s) (decide (s.sort=77)) l
def qa (c:ColB):List UInt8:=xB c.name++uB c.kind.toNat++uB c.key.toNat
def qH (rows:Nat) (p:PlanB) (t:List ColB) (places:List Nat):List UInt8 :=
 uB rows++uB p.group.toNat++uB p.page.toNat++uB p.foot.toNat++uB t.length++t.flatMap qa++places.flatMap uB
def KS (p:PlanB):List UInt8:=[67,70]++[if p.told=true then 79 else 69]++[byB p.foot]
def Xr (j:JobB):List SpotB:=jI (JY j.table) j.table.length j.plan.group.toNat j.plan.page.toNat
def Ue (j:JobB) (r:List KeyB):List Nat:=zf j r ⟨KS j.plan,[]⟩ true (Xr j)
def BR (j:JobB) (r:List KeyB):List UInt8:=qH (JY j.table) j.plan j.table (Ue j r)
/- The laws of these. -/
theorem Qg (l m:List SpotB):∀ b,qM b (l++m)=qM (qM b l) m:=by
 induction l with
 | nil=>intro b;rfl
 | cons s l ih=>intro b;simp only [aK,qM];exact ih _
theorem QA (j:JobB) (r:List KeyB) (l m:List SpotB):∀ st b,zf j r st b (l++m)=zf j r st b l++zf j r (Zn j r st l) (qM b l) m:=by
 induction l with
 | nil=>intro st b;rfl
 | cons s l ih =>
  intro st b
  simp only [aK,zf,qM,af]
  rw [ih]
  rfl
theorem Et (j:JobB) (r:List KeyB) (l:List SpotB) (h:∀ s ∈ l,s.sort=80):∀ st,zf j r st false l=[]:=by
 induction l with
 | nil=>intro st;rfl
 | cons s l ih =>
  intro st
  have h1:=h s (bo ..)
  simp only [zf,h1]
  exact ih (fun x hx=>h x (aJ _ hx)) _
theorem Kz (l:List SpotB) (h:∀ s ∈ l,s.sort=80):l≠[]→∀ b,qM b l=false:=by
 induction l with
 | nil=>intro h0;exact absurd rfl h0
 | cons s l ih =>
  intro _ b
  have h1:=h s (bo ..)
  simp only [qM,h1]
  by_cases hl:l=[]
  ·subst hl;rfl
  ·exact ih (fun x hx=>h x (aJ _ hx)) hl _
theorem XW (P g c start n k:Nat):∀ s ∈ jo P g c start n k,s.sort=80:=by
 intro s hs
 simp only [jo,bN] at hs
 obtain ⟨p,_,rfl⟩:=hs
 rfl
theorem Ey (j:JobB) (r:List KeyB) (st:StB) (R G P g c:Nat):zf j r st true (jh R G P g c)=[st.out.length]:=by
 unfold jh
 have hs:=XW P g c (g*G) (jv R G g) (qb (jv R G g) P)
 generalize jo P g c (g*G) (jv R G g) (qb (jv R G g) P)=L at *
 cases L with
 | nil=>simp [zf]
 | cons s l =>
  have h1:=hs s (bo ..)
  have hl:∀ x ∈ l,x.sort=80:=fun x hx=>hs x (aJ _ hx)
  simp only [aK,zf,h1,bG]
  rw [QA]
  have e1:(decide ((80:UInt8)=77))=false:=by decide
  rw [e1,Et j r l hl]
  have e2:qM false l=false:=by
   by_cases h0:l=[]
   ·subst h0;rfl
   ·exact Kz l hl h0 _
  rw [e2]
  simp [zf]
theorem Rd (b:Bool) (R G P g c:Nat):qM b (jh R G P g c)=true:=by
 unfold jh
 rw [Qg]
 rfl
theorem XJ (R G P g C:Nat):qM true (ju R G P g C)=true:=by
 unfold ju
 induction C with
 | zero=>rfl
 | succ C ih=>rw [bt,bf,Qg,ih];simp only [a9,List.flatMap_nil,aB];exact Rd _ _ _ _ _ _
theorem KM (R C G P n:Nat):qM true (jW R C G P n)=true:=by
 unfold jW
 induction n with
 | zero=>rfl
 | succ n ih=>rw [bt,bf,Qg,ih];simp only [a9,List.flatMap_nil,aB];exact XJ _ _ _ _ _
theorem Qk (R G P g C:Nat):ju R G P g (C+1)=ju R G P g C++jh R G P g C:=by
 unfold ju;rw [bt,bf];simp
theorem Qn (R C G P n:Nat):jW R C G P (n+1)=jW R C G P n++ju R G P n C:=by
 unfold jW;rw [bt,bf];simp
theorem QZ (P g c start n k:Nat):jo P g c start n (k+1)=jo P g c start n k++[⟨80,g,c,k,start+k*P,jv n P k⟩]:=by
 unfold jo;rw [bt,cT];rfl
theorem QE {n size i:Nat} (hs:1≤size):i < qb n size ↔ i*size < n:=by
 unfold qb
 rw [Nat.lt_div_iff_mul_lt (by omega)]
 constructor<;>intro h<;>omega
theorem QH {n size:Nat} (hs:1≤size):qb n size≤n:=by
 rcases cR n (qb n size) with h|h
 ·have h2:=(QE (n:=n) (i:=n) hs).1 h
  have:n*1≤n*size:=bx (ae _) hs
  omega
 ·exact h
theorem Qf (n size i:Nat):jv n size i≤size∧jv n size i≤n:=by unfold jv;omega
theorem KF (n size i:Nat) (h:i*size < n):i*size+jv n size i=min (i*size+size) n:=by unfold jv;omega
theorem UY {n size i:Nat} (hs:1≤size):0 < jv n size i ↔ i*size < n:=by unfold jv;omega
theorem Tg (R G P g c:Nat) (hP:1≤P) (hG:G≤60):(jh R G P g c).length≤61:=by
 unfold jh jo
 have h1:=QH (n:=jv R G g) hP
 have h2:=(Qf R G g).1
 simp;omega
theorem Ys (R G P g C:Nat) (hP:1≤P) (hG:G≤60):(ju R G P g C).length≤61*C:=by
 induction C with
 | zero=>simp [ju]
 | succ C ih=>have:=Tg R G P g C hP hG;rw [Qk,ab];omega
theorem VD (R C G P n:Nat) (hP:1≤P) (hG:G≤60) (hC:C≤6):(jW R C G P n).length≤366*n:=by
 induction n with
 | zero=>simp [jW]
 | succ n ih=>have:=Ys R G P n C hP hG;rw [Qn,ab];omega
theorem YH (kind:Int) (v:List CellB) (k:Nat):(jJ kind v (k+1)).length≤(zK (QD kind 0) v).length:=by
 induction k with
 | zero=>simp [jJ]
 | succ k ih =>
  rw [jJ]
  split
  ·rename_i h
   rcases h with h|h
   ·omega
   ·omega
  ·exact ih
theorem TW (kind:Int) (l:List CellB) (h:∀ c ∈ l,qr c) (hn:l.length≤60):(xq kind l).length≤3500:=by
 have h1:=XC l hn
 have hv:(je l).length≤60:=ar (bE ..) hn
 have hs:∀ c ∈ je l,qr c:=fun c hc=>h c (bJ.1 hc).1
 have h2:(jJ kind (je l) 3).length≤_:=YH kind (je l) 2
 have h3:(zK (QD kind 0) (je l)).length≤2401:=by
  have h4:=xj (QD kind 0) (je l) hs hv (je l).length
  have h5:QD kind 0≠3:=by unfold QD;split<;>simp
  simp only [zK,qy,aj h5,aH,aX]
  omega
 unfold xq
 split
 ·omega
 ·rw [ab];omega
theorem Zj (l:List CellB) (h:∀ c ∈ l,qr c):∀ x:Int,(-9223372036854775808≤x∧x≤9223372036854775807)→-9223372036854775808≤zG l x∧zG l x≤9223372036854775807:=by
 induction l with
 | nil=>intro x hx;exact hx
 | cons c l ih =>
  intro x hx
  obtain ⟨c0,c1,_⟩:=h c (bo ..)
  refine ih (fun y hy=>h y (aJ _ hy)) _ ?_
  dsimp only
  split<;>omega
theorem ZX (l:List CellB) (h:∀ c ∈ l,qr c):∀ x:Int,(-9223372036854775808≤x∧x≤9223372036854775807)→-9223372036854775808≤JZ l x∧JZ l x≤9223372036854775807:=by
 induction l with
 | nil=>intro x hx;exact hx
 | cons c l ih =>
  intro x hx
  obtain ⟨c0,c1,_⟩:=h c (bo ..)
  refine ih (fun y hy=>h y (aJ _ hy)) _ ?_
  dsimp only
  split<;>omega
theorem JH (l:List CellB) (h:∀ c ∈ l,qr c):-9223372036854775808≤qJ l∧qJ l≤9223372036854775807:=by
 cases l with
 | nil=>simp [qJ]
 | cons c l=>obtain ⟨c0,c1,_⟩:=h c (bo ..);exact ⟨c0,c1⟩
theorem TT (kind:Int) (l:List CellB) (h:∀ c ∈ l,qr c) (hn:l.length≤60):(JL kind l).length≤40:=by
 have hs:∀ c ∈ je l,qr c:=fun c hc=>h c (bJ.1 hc).1
 have h1:=jM (l.length - (je l).length) (by omega)
 have hf:=JH _ hs
 obtain ⟨a0,a1⟩:=Zj _ hs _ hf
 obtain ⟨b0,b1⟩:=ZX _ hs _ hf
 have h2:=Zt _ a0 a1
 have h3:=Zt _ b0 b1
 unfold JL
 rw [ab]
 split
 ·simp only [ab,aH,aR];omega
 ·simp only [aH,aR];omega
theorem XH (pre:List UInt8) (sort:UInt8) (g c p:Nat) (h:pre.length≤20):(qo pre sort g c p).length≤40:=by
 have:=jM pre.length (by omega)
 simp only [qo,xB,ab,jG,aH,aR];omega
structure SpotIn (t:List ColB) (s:SpotB):Prop where
 sort:s.sort=80∨s.sort=77
 col:s.c < t.length
 rows:s.start+s.many≤JY t
 few:s.g < 60∧s.c < 60∧s.p < 60∧s.start < 60∧s.many≤60
theorem SN {t:List ColB} {R G P g c k:Nat} (hR:R=JY t) (hr:R≤60) (hG:1≤G) (hP:1≤P) (hG6:G≤60) (hc:c < t.length) (hC:t.length≤6) (hg:g*G < R) (hk:k*P < jv R G g) :
  SpotIn t ⟨80,g,c,k,g*G+k*P,jv (jv R G g) P k⟩:=by
 have h1:g*1≤g*G:=bx (ae _) hG
 have h2:k*1≤k*P:=bx (ae _) hP
 have h3:=KF R G g hg
 have h4:=KF (jv R G g) P k hk
 have h5:=Qf R G g
 refine ⟨.inl rfl,hc,?_,?_,?_,?_,?_,?_⟩<;>simp only<;>omega
theorem Ll {t:List ColB} {R G g c:Nat} (hR:R=JY t) (hr:R≤60) (hG:1≤G) (hG6:G≤60) (hc:c < t.length) (hC:t.length≤6) (hg:g*G < R) :
  SpotIn t ⟨77,g,c,0,g*G,jv R G g⟩:=by
 have h1:g*1≤g*G:=bx (ae _) hG
 have h3:=KF R G g hg
 have h5:=Qf R G g
 refine ⟨.inr rfl,hc,?_,?_,?_,?_,?_,?_⟩<;>simp only<;>omega
theorem TR {t:List ColB} {R G P g c:Nat} (hR:R=JY t) (hr:R≤60) (hG:1≤G) (hP:1≤P) (hG6:G≤60) (hc:c < t.length) (hC:t.length≤6) (hg:g*G < R) :
  ∀ s ∈ jh R G P g c,SpotIn t s:=by
 intro s hs
 rcases aM.1 hs with hs|hs
 ·simp only [jo,bN,bW] at hs
  obtain ⟨k,hk,rfl⟩:=hs
  exact SN hR hr hG hP hG6 hc hC hg ((QE hP).1 hk)
 ·simp only [ba,bs,cM] at hs
  subst hs
  exact Ll hR hr hG hG6 hc hC hg
theorem IB {t:List ColB} {R G P:Nat} (hR:R=JY t) (hr:R≤60) (hG:1≤G) (hP:1≤P) (hG6:G≤60) (hC:t.length≤6) :
  ∀ s ∈ jI R t.length G P,SpotIn t s:=by
 intro s hs
 simp only [jI,jW,ju,bT,bW] at hs
 obtain ⟨g,hg,c,hc,hs⟩:=hs
 exact TR hR hr hG hP hG6 hc hC ((QE hG).1 hg) s hs
theorem Yn {t:List ColB} (h:Vt t=true):(1≤t.length∧t.length≤6)∧∀ c ∈ t,qD c.kind c.cells=true∧c.cells.length=JY t:=by
 simp only [Vt,jZ,au,az,bD] at h
 exact ⟨h.1.2,h.2⟩
theorem Qs {t:List ColB} {n:Nat} (h:JO t n=true) (hn:n≤t.length):∀ k (hk:k < n),zV (t[k]'(by omega))=true∧zq (t.take k) (t[k]'(by omega)).name=false:=by
 induction n with
 | zero=>intro k hk;omega
 | succ n ih =>
  intro k hk
  simp only [JO,au] at h
  rcases cR k n with hkn|hkn
  ·exact ih h.1 (by omega) k hkn
  ·have:k=n:=by omega
   subst this
   have h2:=h.2
   rw [ay (by omega)] at h2
   simpa using h2
theorem Qj {c:ColB} (h:zV c=true):xE c.name=true∧(c.kind=0∨c.kind=1)∧0≤c.key∧c.key≤9:=by
 simp only [zV,au,az] at h
 exact ⟨h.1,by omega,h.2.2.1,h.2.2.2⟩
theorem Vq {s:List UInt8} (h:xE s=true):1≤s.length∧s.length≤8:=by
 simp only [xE,au,az] at h
 exact h.2
structure GoodT (t:List ColB):Prop where
 ok:Vt t=true
 fits:∀ c ∈ t,∀ x ∈ c.cells,-9223372036854775808≤x.int∧x.int≤9223372036854775807
theorem GoodT.few {t:List ColB} (h:GoodT t):1≤t.length∧t.length≤6:=(Yn h.ok).1
theorem GoodT.head {t:List ColB} (h:GoodT t) (c:Nat) (hc:c < t.length):xE (t[c]).name=true∧((t[c]).kind=0∨(t[c]).kind=1)∧0≤(t[c]).key∧(t[c]).key≤9:=by
 have h1:=h.ok
 simp only [Vt,jZ,au] at h1
 exact Qj (Qs h1.1.1 (ae _) c hc).1
theorem GoodT.cells {t:List ColB} (h:GoodT t) (c:Nat) (hc:c < t.length):(t[c]).cells.length=JY t∧(t[c]).cells.length≤60∧∀ x ∈ (t[c]).cells,qr x:=by
 obtain ⟨h1,h2⟩:=(Yn h.ok).2 t[c] (al hc)
 have hf:=h.fits t[c] (al hc)
 simp only [qD,au,cj,az,bD] at h1
 refine ⟨h2,h1.1.2,fun x hx=>⟨(hf x hx).1,(hf x hx).2,?_⟩⟩
 have:=h1.2 x hx
 unfold xL at this
 split at this
 ·simp at this;rw [this.2];simp
 ·split at this
  ·simp at this;rw [this];simp
  ·simp at this;exact this.2
theorem GoodT.rows {t:List ColB} (h:GoodT t):JY t≤60:=by
 obtain ⟨h1,_⟩:=h.few
 have h2:=h.cells 0 (by omega)
 omega
theorem Qd {t:List ColB} {c:Nat} (h:c < t.length):jk t c=t[c]:=by simp [jk,h]
theorem VW {t:List ColB} (h:GoodT t) {s:SpotB} (hs:s.c < t.length) (hm:s.many≤60):(XN t s).length≤3500:=by
 obtain ⟨_,_,h3⟩:=h.cells s.c hs
 have hsm:∀ x ∈ ((jk t s.c).cells.drop s.start).take s.many,qr x:=by
  rw [Qd hs]
  exact fun x hx=>h3 x (List.mem_of_mem_drop (bg hx))
 have hl:(((jk t s.c).cells.drop s.start).take s.many).length≤60:=by rw [aq];omega
 unfold XN
 split
 ·have:=TT (jk t s.c).kind _ hsm hl;omega
 ·exact TW _ _ hsm hl
theorem Sg (plain:List UInt8) (st:StB):(EP plain st).out.length=st.out.length+plain.length+2:=by
 simp only [EP,ab,jG];omega
theorem Ti (d:Int) (n:Nat):(VL d n).length=4:=rfl
theorem PD (d:Int) (s e p:List UInt8) (st:StB):(Rz d s e p st).out.length=st.out.length+p.length+8∧(Rz d s e p st).log.length=st.log.length+1:=by
 refine ⟨?_,by simp [Rz]⟩
 simp only [Rz,ab,jG,Ti,ZU]
 omega
theorem MN (j:JobB) (r:List KeyB) (key:Int) (sort:UInt8) (g c p:Nat) (plain:List UInt8) (st:StB) :
  (Yf j r key sort g c p plain st).out.length≤st.out.length+plain.length+8∧(Yf j r key sort g c p plain st).log.length≤st.log.length+1:=by
 unfold Yf
 split
 ·rw [Sg];simp only [EP];omega
 ·have:=PD j.draw (jl r key) (qo j.pre sort g c p) plain st;omega
theorem AD {j:JobB} {r:List KeyB} (h:GoodT j.table) (l:List SpotB):∀ st:StB,(∀ s ∈ l,s.c < j.table.length∧s.many≤60) →
  (Zn j r st l).out.length≤st.out.length+3508*l.length∧(Zn j r st l).log.length≤st.log.length+l.length:=by
 induction l with
 | nil=>intro st _;simp [Zn]
 | cons s l ih =>
  intro st hl
  obtain ⟨a0,a1⟩:=hl s (bo ..)
  have h1:=VW h a0 a1
  have h2:=MN j r (jk j.table s.c).key s.sort s.g s.c s.p (XN j.table s) st
  have h3:=ih (Uy j r st s) (fun x hx=>hl x (aJ _ hx))
  have e:Zn j r st (s :: l)=Zn j r (Uy j r st s) l:=rfl
  rw [e]
  simp only [aH]
  have e2:Uy j r st s=Yf j r (jk j.table s.c).key s.sort s.g s.c s.p (XN j.table s) st:=rfl
  rw [← e2] at h2
  omega
theorem ZE (j:JobB) (r:List KeyB) (st:StB) (R G P g C:Nat):(zf j r st true (ju R G P g C)).length=C:=by
 induction C with
 | zero=>rfl
 | succ C ih=>rw [Qk,QA,ab,ih,XJ,Ey];rfl
theorem Xg (j:JobB) (r:List KeyB) (st:StB) (R C G P n:Nat):(zf j r st true (jW R C G P n)).length=n*C:=by
 induction n with
 | zero=>simp [jW,zf]
 | succ n ih=>rw [Qn,QA,ab,ih,KM,ZE,bL]
theorem CD {j:JobB} {r:List KeyB} (h:GoodT j.table) (l:List SpotB):∀ (st:StB) (b:Bool),(∀ s ∈ l,s.c < j.table.length∧s.many≤60) →
  ∀ p ∈ zf j r st b l,p≤st.out.length+3508*l.length:=by
 induction l with
 | nil=>intro st b _ p hp;simp [zf] at hp
 | cons s l ih =>
  intro st b hl p hp
  simp only [zf,aM] at hp
  rcases hp with hp|hp
  ·split at hp
   ·simp only [ba,bs,cM] at hp;simp only [aH];omega
   ·simp at hp
  ·obtain ⟨a0,a1⟩:=hl s (bo ..)
   have h1:=VW h a0 a1
   have h2:=MN j r (jk j.table s.c).key s.sort s.g s.c s.p (XN j.table s) st
   have e2:Uy j r st s=Yf j r (jk j.table s.c).key s.sort s.g s.c s.p (XN j.table s) st:=rfl
   rw [← e2] at h2
   have:=ih _ _ (fun x hx=>hl x (aJ _ hx)) p hp
   simp only [aH]
   omega
theorem KH {α:Type} (f:α→List UInt8) (m:Nat) (l:List α) (h:∀ x ∈ l,(f x).length≤m):(l.flatMap f).length≤m*l.length:=by
 induction l with
 | nil=>simp
 | cons a l ih =>
  have h1:=h a (bo ..)
  have h2:=ih (fun x hx=>h x (aJ _ hx))
  rw [a9,ab,aH,Nat.mul_succ]
  omega
theorem GE {c:ColB} (h:c.name.length≤8) (h1:c.kind=0∨c.kind=1) (h2:0≤c.key∧c.key≤9):(qa c).length≤38:=by
 have a:=jM c.name.length (by omega)
 have b:=jM c.kind.toNat (by omega)
 have d:=jM c.key.toNat (by omega)
 simp only [qa,xB,ab];omega
theorem Dw {t:List ColB} (h:GoodT t) {p:PlanB} (hp:qS p=true) (places:List Nat) (hl:places.length≤360) (hb:∀ x ∈ places,x < 18446744073709551616):(qH (JY t) p t places).length≤3900:=by
 have h0:=h.rows
 obtain ⟨_,h6⟩:=h.few
 have hc:∀ c ∈ t,(qa c).length≤38:=by
  intro c hc
  obtain ⟨k,hk,rfl⟩:=cz.1 hc
  obtain ⟨a,b,d⟩:=h.head k hk
  exact GE (Vq a).2 b d
 have h1:=KH qa 38 t hc
 have h2:=KH uB 10 places (fun x hx=>jM x (hb x hx))
 simp only [qS,au,az] at hp
 have a:=jM (JY t) (by omega)
 have b:=jM p.group.toNat (by omega)
 have d:=jM p.page.toNat (by omega)
 have e:=jM p.foot.toNat (by omega)
 have f:=jM t.length (by omega)
 simp only [qH,ab]
 omega
structure GoodJ (j:JobB) (r:List KeyB):Prop where
 table:GoodT j.table
 plan:qS j.plan=true
 pre:j.pre.length≤20
 draw:0≤j.draw∧j.draw≤65535
 ring:xY r=true
 has:Ln j r=false
theorem GoodJ.sizes {j:JobB} {r:List KeyB} (h:GoodJ j r):(1≤j.plan.group.toNat∧j.plan.group.toNat≤60)∧(1≤j.plan.page.toNat∧j.plan.page.toNat≤60)∧1≤j.plan.foot∧j.plan.foot≤9:=by
 have hp:=h.plan
 simp only [qS,au,az] at hp
 exact ⟨⟨by omega,by omega⟩,⟨by omega,by omega⟩,by omega,by omega⟩
theorem GoodJ.spotIn {j:JobB} {r:List KeyB} (h:GoodJ j r):∀ s ∈ Xr j,SpotIn j.table s:=by
 obtain ⟨⟨a,b⟩,⟨c,d⟩,_⟩:=h.sizes
 exact IB rfl h.table.rows a c b h.table.few.2
theorem GoodJ.spotLen {j:JobB} {r:List KeyB} (h:GoodJ j r):(Xr j).length≤21960:=by
 obtain ⟨⟨a,b⟩,⟨c,d⟩,_⟩:=h.sizes
 have h1:=VD (JY j.table) j.table.length j.plan.group.toNat j.plan.page.toNat (qb (JY j.table) j.plan.group.toNat) c b h.table.few.2
 have h2:=QH (n:=JY j.table) a
 have h3:=h.table.rows
 unfold Xr jI
 omega
theorem GoodJ.foot {j:JobB} {r:List KeyB} (h:GoodJ j r):(Ue j r).length≤360∧(∀ x ∈ Ue j r,x≤80000000)∧(BR j r).length≤3900:=by
 obtain ⟨⟨a,b⟩,⟨c,d⟩,_⟩:=h.sizes
 have h1:=Xg j r ⟨KS j.plan,[]⟩ (JY j.table) j.table.length j.plan.group.toNat j.plan.page.toNat (qb (JY j.table) j.plan.group.toNat)
 have h2:=QH (n:=JY j.table) a
 have h3:=h.table.rows
 have h4:=h.table.few.2
 have h5:qb (JY j.table) j.plan.group.toNat*j.table.length≤60*6:=bx (by omega) h4
 have hl:(Ue j r).length≤360:=by
  unfold Ue Xr jI
  omega
 have h6:=CD (r:=r) h.table (Xr j) ⟨KS j.plan,[]⟩ true (fun s hs=>⟨(h.spotIn s hs).col,(h.spotIn s hs).few.2.2.2.2⟩)
 have h7:=h.spotLen
 have h8:(KS j.plan).length=4:=rfl
 have hb:∀ x ∈ Ue j r,x≤80000000:=by
  intro x hx
  have:=h6 x hx
  simp only [h8] at this
  omega
 exact ⟨hl,hb,Dw h.table h.plan _ hl (fun x hx=>by have:=hb x hx;omega)⟩
theorem GoodJ.body {j:JobB} {r:List KeyB} (h:GoodJ j r) (n:Nat):(Zn j r ⟨KS j.plan,[]⟩ ((Xr j).take n)).out.length≤80000000∧(Zn j r ⟨KS j.plan,[]⟩ ((Xr j).take n)).log.length≤21960:=by
 have h6:=AD (r:=r) h.table ((Xr j).take n) ⟨KS j.plan,[]⟩ (fun s hs=>⟨(h.spotIn s (bg hs)).col,(h.spotIn s (bg hs)).few.2.2.2.2⟩)
 have h7:=h.spotLen
 have h8:(KS j.plan).length=4:=rfl
 have h9:((Xr j).take n).length≤(Xr j).length:=by rw [aq];omega
 simp only [h8,aR] at h6
 omega
end
section
theorem AC {R G P g c:Nat}:∀ s ∈ jh R G P g c,s.c=c∧s.many≤G:=by
 intro s hs
 rcases aM.1 hs with hs|hs
 ·simp only [jo,bN,bW] at hs
  obtain ⟨k,_,rfl⟩:=hs
  exact ⟨rfl,ar (Qf _ _ _).2 (Qf _ _ _).1⟩
 ·simp only [ba,bs,cM] at hs
  subst hs
  exact ⟨rfl,(Qf _ _ _).1⟩
theorem Aj {R G P g C:Nat}:∀ s ∈ ju R G P g C,s.c < C∧s.many≤G:=by
 intro s hs
 simp only [ju,bT,bW] at hs
 obtain ⟨c,hc,hs⟩:=hs
 obtain ⟨h1,h2⟩:=AC s hs
 exact ⟨by omega,h2⟩
theorem TK {R C G P n:Nat}:∀ s ∈ jW R C G P n,s.c < C∧s.many≤G:=by
 intro s hs
 simp only [jW,bT,bW] at hs
 obtain ⟨g,_,hs⟩:=hs
 exact Aj s hs
end
end Go.Proofs.YthhpbhpfagoapaaGreat
