import Derived.Test.YthhpbhpfagoapaaGreatJBJ
namespace Go.Proofs.YthhpbhpfagoapaaGreat
set_option linter.unusedVariables false
set_option linter.unusedSimpArgs false
set_option maxRecDepth 100000
set_option maxHeartbeats 16000000
section
open Go.RowKit
def Kp:Nat→Option (List UInt8)→List (List UInt8) × Option (List UInt8)
 | 0,st=>([],st)
 | k+1,st=>((xR 12 st).1 :: (Kp k (xR 12 st).2).1,(Kp k (xR 12 st).2).2)
def xsB (d:List CellB):List UInt8:=d.flatMap fun c=>xB c.text
theorem Mn (d:List CellB):∀ k,k≤d.length→JO d k=uB d.length++xsB (d.take k):=by
 intro k
 induction k with
 | zero=>intro _;simp [JO,xsB]
 | succ k ih =>
  intro h
  rw [JO,ih (by omega),qD d k (by omega),List.take_succ_eq_append_getElem (by omega)]
  simp only [xsB,List.flatMap_append,List.flatMap_cons,List.flatMap_nil,List.append_nil,List.append_assoc]
theorem EO (d:List CellB) (r:List UInt8) (h:∀ c ∈ d,c.text.length≤12):Kp d.length (some (xsB d++r))=(d.map (·.text),some r):=by
 induction d with
 | nil=>rfl
 | cons c d ih =>
  have e:xsB (c :: d)++r=xB c.text++(xsB d++r):=by simp [xsB]
  rw [e]
  simp only [List.length_cons,Kp]
  rw [DJ 12 c.text (xsB d++r) (h c (by simp)) (by omega)]
  simp only
  rw [ih (fun x hx=>h x (by simp [hx]))]
  rfl
theorem Lm (v:List CellB) (r:List UInt8) (hv:∀ c ∈ v,Rx c) (hn:v.length≤60):zQ 1 3 ((qL v).map (·.text)) v.length (v.length+1) [] xb (some (zp 3 v 0 v.length++r))=(v,some r):=by
 have:=Zt 1 3 3 ((qL v).map (·.text)) v r (fun i h rest=>by
  have hc:=hv v[i] (List.getElem_mem h)
  have hs:xu 3 v i=uB (qb (qL v) (v[i]).text):=by show uB (qb (qL v) (xY v i).text)=_;rw [qD v i h]
  obtain ⟨h1,h2⟩:=Xn (qL v) (v[i]).text (KL v i h)
  have hdl:=Jb v v.length
  have hd2:(qL v).length≤v.length:=hdl
  have hne:(qL v).map (·.text)≠[]:=by
   intro e0
   have:=congrArg List.length e0
   simp at this
   rw [this] at h1
   simp at h1
  have hlm:((qL v).map (·.text)).length=(qL v).length:=by simp
  unfold Za
  rw [if_neg (by omega),if_neg (by omega),if_neg (by omega),if_neg (by omega),if_pos ⟨rfl,rfl,hne⟩,hs,hlm,zR _ _ rest (by omega) (by omega)]
  have eg:((qL v).map (·.text)).getD (qb (qL v) (v[i]).text) []=(v[i]).text:=by
   simp only [List.getD,List.getElem?_map,List.getElem?_eq_getElem h1,Option.map_some,Option.getD_some]
   exact h2
  rw [eg]
  exact Prod.ext (NO hc).symm rfl) v.length 0 (by omega)
 simpa [qF] using this
theorem Mg (w:Nat) (v:List CellB):∀ (q a k:Nat),q≤k→(∀ j,j < q→xu w v (a+j)=[])→zp w v a k=zp w v (a+q) (k - q):=by
 intro q
 induction q with
 | zero=>intro a k _ _;rfl
 | succ q ih =>
  intro a k hk h
  obtain ⟨k',rfl⟩:∃ k',k=k'+1:=⟨k - 1,by omega⟩
  have h0:=h 0 (by omega)
  simp only [Nat.add_zero] at h0
  simp only [zp]
  rw [h0,List.nil_append,ih (a+1) k' (by omega) (fun j hj=>by have:=h (j+1) (by omega);rwa [show a+(j+1)=a+1+j by omega] at this)]
  congr 1<;>omega
theorem SW (v:List CellB) (r:List UInt8) (hv:∀ c ∈ v,Ca c) (hn:v.length≤60) :
  ∀ (k i f:Nat) (last:CellB),i+k=v.length→k < f→(k=0∨i=0∨(xY v i).int≠(qF v i).int)→zQ 0 2 [] v.length f (v.take i) last (some (zp 2 v i k++r))=(v,some r):=by
 intro k
 induction k using Nat.strongRecOn with
 | _ k ih =>
  intro i f last hi hf hrun
  obtain ⟨f',rfl⟩:∃ f',f=f'+1:=⟨f - 1,by omega⟩
  have hl:(v.take i).length=i:=by rw [List.length_take];omega
  by_cases hk:k=0
  ·subst hk
   rw [zQ,if_neg (by rw [hl];omega),zp,List.nil_append,List.take_of_length_le (by omega)]
  ·have hlt:i < v.length:=by omega
   have hc:=hv v[i] (List.getElem_mem hlt)
   have hrow:=Gw (v[i]).int (v.drop (i+1))
   rw [List.length_drop] at hrow
   have hin:∀ j,j < zT (v[i]).int (v.drop (i+1))→∃ h:i+1+j < v.length,v[i+1+j]=v[i]:=by
    intro j hj
    obtain ⟨h1,h2⟩:=YP (v[i]).int (v.drop (i+1)) j hj
    rw [List.length_drop] at h1
    refine ⟨by omega,?_⟩
    rw [List.getElem_drop] at h2
    rw [Uz (hv v[i+1+j] (List.getElem_mem _)),Uz hc,h2]
   have hend:∀ h:i+1+zT (v[i]).int (v.drop (i+1)) < v.length,(v[i+1+zT (v[i]).int (v.drop (i+1))]).int≠(v[i]).int:=by
    intro h
    have:=NF (v[i]).int (v.drop (i+1)) (by rw [List.length_drop];omega)
    rw [List.getElem_drop] at this
    exact this
   have hs:xu 2 v i=uB (zT (v[i]).int (v.drop (i+1))+1)++zB (v[i]).int:=by
    simp only [xu,qD v i hlt]
    rw [if_pos]
    rcases hrun with h|h|h
    ·exact absurd h hk
    ·exact .inl h
    ·rw [qD v i hlt] at h;exact .inr h
   generalize zT (v[i]).int (v.drop (i+1))=q at *
   have hskip:zp 2 v (i+1) (k - 1)=zp 2 v (i+1+q) (k - 1 - q):=Mg 2 v q (i+1) (k - 1) (by omega) (fun j hj=>by
    obtain ⟨h1,h2⟩:=hin j hj
    simp only [xu,qD v (i+1+j) h1,qF]
    rw [if_neg (by omega:¬ (i+1+j=0)),qD v (i+1+j - 1) (by omega)]
    have hp:v[i+1+j - 1]=v[i]:=by
     cases j with
     | zero=>rfl
     | succ j =>
      obtain ⟨h3,h4⟩:=hin j (by omega)
      rw [← h4]
      congr 1
    rw [hp,h2]
    rw [if_neg (fun h=>h.elim (fun h=>by omega) (fun h=>h rfl))])
   obtain ⟨k',rfl⟩:∃ k',k=k'+1:=⟨k - 1,by omega⟩
   simp only [Nat.add_sub_cancel] at hskip
   rw [zQ,if_pos (by rw [hl];exact ⟨hlt,rfl⟩),hl]
   simp only [zp,hs,hskip,List.append_assoc]
   have hstep:Za 0 2 [] v.length i last (some (uB (q+1)++(zB (v[i]).int++(zp 2 v (i+1+q) (k' - q)++r))))=(v[i],q+1,some (zp 2 v (i+1+q) (k' - q)++r)):=by
    unfold Za
    rw [if_neg (by omega),if_neg (by omega),if_pos ⟨rfl,rfl⟩,zR _ _ _ (by omega) (by omega),SJ _ _ hc.2.2.1 hc.2.2.2]
    simp only [Dn]
    rw [if_neg (by omega)]
    exact Prod.ext (Uz hc).symm rfl
   rw [hstep]
   have e1:v.take i++List.replicate (q+1) v[i]=v.take (i+1+q):=by
    apply List.ext_getElem
    ·simp only [List.length_append,List.length_take,List.length_replicate];omega
    ·intro j h1 h2
     rw [List.getElem_take]
     by_cases hj:j < i
     ·rw [List.getElem_append_left (by rw [hl];exact hj),List.getElem_take]
     ·rw [List.getElem_append_right (by rw [hl];omega),List.getElem_replicate]
      by_cases hji:j=i
      ·subst hji;rfl
      ·obtain ⟨h3,h4⟩:=hin (j - i - 1) (by rw [List.length_take] at h2;omega)
       rw [← h4]
       congr 1
       omega
   simp only [e1]
   refine ih (k' - q) (by omega) (i+1+q) f' v[i] (by omega) (by omega) ?_
   by_cases hz:k' - q=0
   ·exact .inl hz
   ·right;right
    have h5:i+1+q < v.length:=by omega
    rw [qD v (i+1+q) h5]
    unfold qF
    rw [if_neg (by omega),qD v (i+1+q - 1) (by omega)]
    have hp:v[i+1+q - 1]=v[i]:=by
     cases q with
     | zero=>rfl
     | succ q =>
      obtain ⟨h3,h4⟩:=hin q (by omega)
      rw [← h4]
      congr 1
    rw [hp]
    exact hend h5
end
section
open Go.RowKit
def QW (kind:Int) (n:Nat) (st:Option (List UInt8)):List CellB × Option (List UInt8) :=
 match xz 1 st with
 | (c :: _,some r) =>
  if kind=1∧c.toNat=3 then zQ kind 3 (Kp (qN 60 (some r)).1 (qN 60 (some r)).2).1 n (n+1) [] xb (Kp (qN 60 (some r)).1 (qN 60 (some r)).2).2
  else zQ kind c.toNat [] n (n+1) [] xb (some r)
 | _=>([],none)
theorem XU (kind:Int) (n:Nat) (c:UInt8) (r:List UInt8):QW kind n (some (c :: r)) =
  if kind=1∧c.toNat=3 then zQ kind 3 (Kp (qN 60 (some r)).1 (qN 60 (some r)).2).1 n (n+1) [] xb (Kp (qN 60 (some r)).1 (qN 60 (some r)).2).2
  else zQ kind c.toNat [] n (n+1) [] xb (some r):=by
 simp only [QW,GA]
theorem AX (kind:Int) (v:List CellB) (r:List UInt8) (j:Nat) (hj:j < 3) (hk:kind=0∨kind=1) (hn:v.length≤60) (h0:kind=0→∀ c ∈ v,Ca c) (h1:kind=1→∀ c ∈ v,Rx c) :
  QW kind v.length (some (QR (Zi kind j) v++r))=(v,some r):=by
 rcases hk with rfl|rfl
 ·have hv:=h0 rfl
  have hw:Zi 0 j=j:=rfl
  rw [hw]
  have e5:((j:Int) % 5)=(j:Int):=by omega
  show QW 0 v.length (some (byB ((j:Int) % 5) :: (qz j v++r)))=_
  rw [XU,e5,Jn j (by omega),if_neg (by omega)]
  have hww:qz j v=zp j v 0 v.length:=by unfold qz;rw [if_neg (by omega),List.nil_append,KQ]
  rw [hww]
  match j,hj with
  | 0,_=>exact Lx v r hv
  | 1,_=>exact Lr v r hv
  | 2,_ =>
   have:=SW v r hv hn v.length 0 (v.length+1) xb (by omega) (by omega) (.inr (.inl rfl))
   simpa using this
 ·have hv:=h1 rfl
  match j,hj with
  | 0,_ =>
   show QW 1 v.length (some (byB 0 :: (qz 5 v++r)))=_
   rw [XU,show (byB 0).toNat=0 from rfl,if_neg (by omega)]
   have hww:qz 5 v=zp 5 v 0 v.length:=by unfold qz;rw [if_neg (by omega),List.nil_append,KQ]
   rw [hww]
   exact Lo v r hv
  | 1,_ =>
   show QW 1 v.length (some (byB 3 :: (qz 3 v++r)))=_
   rw [XU,show (byB 3).toNat=3 from rfl,if_pos ⟨rfl,rfl⟩]
   have hd:(qL v).length≤60:=Nat.le_trans (Jb v v.length) hn
   have hww:qz 3 v++r=uB (qL v).length++(xsB (qL v)++(zp 3 v 0 v.length++r)):=by
    unfold qz
    rw [if_pos rfl,Mn (qL v) (qL v).length (Nat.le_refl _),List.take_length,KQ]
    simp only [List.append_assoc]
   rw [hww,zR 60 _ _ hd (by omega)]
   simp only
   rw [EO (qL v) _ (fun c hc=>(hv c (XI v v.length (Nat.le_refl _) c hc)).2.2)]
   exact Lm v r hv hn
  | 2,_ =>
   show QW 1 v.length (some (byB 4 :: (qz 4 v++r)))=_
   rw [XU,show (byB 4).toNat=4 from rfl,if_neg (by omega)]
   have hww:qz 4 v=zp 4 v 0 v.length:=by unfold qz;rw [if_neg (by omega),List.nil_append,KQ]
   rw [hww]
   exact Ls v r hv
theorem DI (kind:Int) (v:List CellB):∃ j,j < 3∧jH kind v 3=QR (Zi kind j) v:=by
 have h1:jH kind v 1=QR (Zi kind 0) v:=by simp [jH]
 have h2:jH kind v 2=QR (Zi kind 1) v∨jH kind v 2=QR (Zi kind 0) v:=by
  show (if 1=0∨_ then _ else _)=_∨(if 1=0∨_ then _ else _)=_
  split
  ·exact .inl rfl
  ·exact .inr h1
 have h3:jH kind v 3=QR (Zi kind 2) v∨jH kind v 3=jH kind v 2:=by
  show (if 2=0∨_ then _ else _)=_∨(if 2=0∨_ then _ else _)=_
  split
  ·exact .inl rfl
  ·exact .inr rfl
 rcases h3 with h|h
 ·exact ⟨2,by omega,h⟩
 ·rcases h2 with h'|h'
  ·exact ⟨1,by omega,by rw [h,h']⟩
  ·exact ⟨0,by omega,by rw [h,h']⟩
def QO (n:Nat):Nat→List Bool→Bool→Option (List UInt8)→List Bool × Option (List UInt8)
 | 0,l,_,st=>(l,st)
 | f+1,l,b,st=>if l.length < n∧st.isSome=true then QO n f (l++List.replicate (qN (n - l.length) st).1 b) (!b) (qN (n - l.length) st).2 else (l,st)
theorem MK (b:Bool) (l:List CellB):(l.take (zG b l)).map (·.null)=List.replicate (zG b l) b:=by
 apply List.ext_getElem
 ·simp only [List.length_map,List.length_take,List.length_replicate]
  have:=Gl b l
  omega
 ·intro i h1 h2
  simp only [List.length_replicate] at h2
  obtain ⟨h3,h4⟩:=YF b l i h2
  simp only [List.getElem_map,List.getElem_take,List.getElem_replicate]
  exact h4
theorem CG (b:Bool) (l:List CellB) (h:zG b l=0) (hl:l≠[]):zG (!b) l≠0:=by
 cases l with
 | nil=>exact absurd rfl hl
 | cons c l =>
  simp only [zG] at h ⊢
  have hc:¬ c.null=b:=by intro e;simp [e] at h
  have hc2:c.null=!b:=by cases hn:c.null<;>cases b<;>simp_all
  simp [hc2]
theorem CB (n:Nat) (hn:n≤60) (r:List UInt8):∀ (f:Nat) (l:List CellB) (b:Bool) (pre:List Bool),pre.length+l.length=n→2*l.length+(if zG b l=0 then 1 else 0) < f →
  QO n f pre b (some (qQ b l++r))=(pre++l.map (·.null),some r):=by
 intro f
 induction f with
 | zero=>intro l b pre _ h;omega
 | succ f ih =>
  intro l b pre hp hf
  by_cases hl:l=[]
  ·subst hl
   simp only [List.length_nil,Nat.add_zero] at hp
   rw [QO,if_neg (by omega)]
   simp [qQ]
  ·have hpos:0 < l.length:=by cases l with|nil=>exact absurd rfl hl|cons c l=>simp
   have hrow:=Gl b l
   rw [QO,if_pos ⟨by omega,rfl⟩,Zn b l hl,List.append_assoc,zR _ _ _ (by omega) (by omega)]
   simp only
   have e:pre++l.map (·.null)=(pre++List.replicate (zG b l) b)++(l.drop (zG b l)).map (·.null):=by
    rw [List.append_assoc,← MK b l,← List.map_append,List.take_append_drop]
   rw [e]
   refine ih (l.drop (zG b l)) (!b) _ ?_ ?_
   ·simp only [List.length_append,List.length_replicate,List.length_drop];omega
   ·rw [List.length_drop]
    by_cases h0:zG b l=0
    ·rw [h0,List.drop_zero,if_neg (CG b l h0 hl)]
     rw [if_pos h0] at hf
     omega
    ·rw [if_neg h0] at hf
     split<;>omega
def qR:List Bool→List CellB→List CellB
 | [],_=>[]
 | true :: l,v=>⟨true,0,[]⟩ :: qR l v
 | false :: l,c :: v=>c :: qR l v
 | false :: l,[]=>⟨false,0,[]⟩ :: qR l []
theorem Vw (l:List CellB) (h:∀ c ∈ l,c.null=true→c=⟨true,0,[]⟩):qR (l.map (·.null)) (jh l)=l:=by
 induction l with
 | nil=>rfl
 | cons c l ih =>
  have ih':=ih (fun x hx=>h x (by simp [hx]))
  cases hc:c.null with
  | true =>
   have e:=h c (by simp) hc
   have ev:jh (c :: l)=jh l:=by simp [jh,hc]
   simp only [List.map_cons,hc,ev,qR]
   rw [ih',← e]
  | false =>
   have ev:jh (c :: l)=c :: jh l:=by simp [jh,hc]
   simp only [List.map_cons,hc,ev,qR]
   rw [ih']
def Uj (l:List Bool):Nat:=(l.filter fun b=>!b).length
theorem Xi (l:List CellB):Uj (l.map (·.null))=(jh l).length:=by
 unfold Uj jh
 rw [List.filter_map,List.length_map]
 rfl
def Vk (kind:Int) (page:List UInt8):Option (List CellB) :=
 if (QO (qN 60 (some page)).1 200 [] false (qN 60 (some page)).2).2=none∨(QO (qN 60 (some page)).1 200 [] false (qN 60 (some page)).2).1.length≠(qN 60 (some page)).1 then none
 else if Uj (QO (qN 60 (some page)).1 200 [] false (qN 60 (some page)).2).1=0 then some (qR (QO (qN 60 (some page)).1 200 [] false (qN 60 (some page)).2).1 [])
 else if (QW kind (Uj (QO (qN 60 (some page)).1 200 [] false (qN 60 (some page)).2).1) (QO (qN 60 (some page)).1 200 [] false (qN 60 (some page)).2).2).2=none ∨
   (QW kind (Uj (QO (qN 60 (some page)).1 200 [] false (qN 60 (some page)).2).1) (QO (qN 60 (some page)).1 200 [] false (qN 60 (some page)).2).2).1.length≠Uj (QO (qN 60 (some page)).1 200 [] false (qN 60 (some page)).2).1 then none
 else some (qR (QO (qN 60 (some page)).1 200 [] false (qN 60 (some page)).2).1 (QW kind (Uj (QO (qN 60 (some page)).1 200 [] false (qN 60 (some page)).2).1) (QO (qN 60 (some page)).1 200 [] false (qN 60 (some page)).2).2).1)
theorem Pw {c:CellB} (h:qM 0 c=true) (hn:c.null=false) (hr:-9223372036854775808≤c.int∧c.int≤9223372036854775807):Ca c:=by
 unfold qM at h
 rw [hn] at h
 simp at h
 exact ⟨hn,h,hr.1,hr.2⟩
theorem MW {c:CellB} (h:qM 1 c=true) (hn:c.null=false):Rx c:=by
 unfold qM at h
 rw [hn] at h
 simp at h
 exact ⟨hn,h.1,h.2⟩
theorem Ta {kind:Int} {c:CellB} (h:qM kind c=true) (hn:c.null=true):c=⟨true,0,[]⟩:=by
 unfold qM at h
 rw [if_pos hn] at h
 obtain ⟨n,i,t⟩:=c
 simp at h hn
 obtain ⟨h1,h2⟩:=h
 subst h1 h2 hn
 rfl
theorem IY (kind:Int) (l:List CellB) (rest:List UInt8) (hok:jR kind l=true) (hr:∀ c ∈ l,-9223372036854775808≤c.int∧c.int≤9223372036854775807):Vk kind (xg kind l++rest)=some l:=by
 unfold jR at hok
 simp only [Bool.and_eq_true,Bool.or_eq_true,decide_eq_true_eq,List.all_eq_true] at hok
 obtain ⟨⟨hk,hn⟩,hf⟩:=hok
 have hnull:∀ c ∈ l,c.null=true→c=⟨true,0,[]⟩:=fun c hc h=>Ta (hf c hc) h
 have hfill:=Vw l hnull
 have hmem:∀ c ∈ jh l,c ∈ l∧c.null=false:=fun c hc=>by
  have:=List.mem_filter.1 hc
  exact ⟨this.1,by simpa using this.2⟩
 have hvl:(jh l).length≤l.length:=List.length_filter_le _ _
 have hhead:∀ rest:List UInt8,qN 60 (some (zz l++rest))=(l.length,some (qQ false l++rest)):=by
  intro rest
  unfold zz
  rw [List.append_assoc]
  exact zR 60 l.length _ hn (by omega)
 have hruns:∀ rest:List UInt8,QO l.length 200 [] false (some (qQ false l++rest))=(l.map (·.null),some rest):=by
  intro rest
  have:=CB l.length hn rest 200 l false [] (by simp) (by split<;>omega)
  simpa using this
 by_cases hv:jh l=[]
 ·have hp:xg kind l=zz l:=by unfold xg;rw [if_pos hv]
  unfold Vk
  rw [hp,hhead rest]
  simp only
  rw [hruns rest]
  simp only
  rw [if_neg (by simp),Xi,hv,if_pos (show ([]:List CellB).length=0 from rfl)]
  rw [hv] at hfill
  rw [hfill]
 ·have hp:xg kind l=zz l++jH kind (jh l) 3:=by unfold xg;rw [if_neg hv]
  obtain ⟨j,hj,hb⟩:=DI kind (jh l)
  have hg:=AX kind (jh l) rest j hj hk (by omega) (fun h c hc=>by subst h;exact Pw (hf c (hmem c hc).1) (hmem c hc).2 (hr c (hmem c hc).1)) (fun h c hc=>by subst h;exact MW (hf c (hmem c hc).1) (hmem c hc).2)
  rw [← hb] at hg
  have hpos:(jh l).length≠0:=fun h=>hv (List.eq_nil_of_length_eq_zero h)
  unfold Vk
  rw [hp,List.append_assoc,hhead]
  simp only
  rw [hruns]
  simp only
  rw [if_neg (by simp),Xi,if_neg hpos,hg]
  simp only
  rw [if_neg (by simp),hfill]
def Jh (c:CellB):Prop:=-9223372036854775808≤c.int∧c.int≤9223372036854775807
theorem CX (k:Nat) (hk:k < 18446744073709551616):-9223372036854775808≤zOf k∧zOf k≤9223372036854775807:=by
 unfold zOf;split<;>omega
theorem ES (kind:Int) (e:Nat) (words:List (List UInt8)) (n len:Nat) (last:CellB) (st:Option (List UInt8)):Jh (Za kind e words n len last st).1:=by
 unfold Za
 split
 ·exact Jt (AL (xz 8 st).1:Int)
 split
 ·exact Jt (last.int+zOf (uR st).1)
 split
 ·exact CX _ (LC _)
 split
 ·exact ⟨(by decide:(-9223372036854775808:Int)≤0),(by decide:(0:Int)≤9223372036854775807)⟩
 split
 ·exact ⟨(by decide:(-9223372036854775808:Int)≤0),(by decide:(0:Int)≤9223372036854775807)⟩
 split
 ·exact ⟨(by decide:(-9223372036854775808:Int)≤0),(by decide:(0:Int)≤9223372036854775807)⟩
 ·exact ⟨(by decide:(-9223372036854775808:Int)≤0),(by decide:(0:Int)≤9223372036854775807)⟩
theorem UP (kind:Int) (e:Nat) (words:List (List UInt8)) (n:Nat):∀ (f:Nat) (l:List CellB) (last:CellB) (st:Option (List UInt8)),(∀ c ∈ l,Jh c)→∀ c ∈ (zQ kind e words n f l last st).1,Jh c:=by
 intro f
 induction f with
 | zero=>intro l last st h;exact h
 | succ f ih =>
  intro l last st h
  rw [zQ]
  split
  ·refine ih _ _ _ (fun c hc=>?_)
   rcases List.mem_append.1 hc with hc|hc
   ·exact h c hc
   ·rw [(List.mem_replicate.1 hc).2]
    exact ES _ _ _ _ _ _ _
  ·exact h
theorem Ym (kind:Int) (n:Nat) (st:Option (List UInt8)):∀ c ∈ (QW kind n st).1,Jh c:=by
 unfold QW
 split
 ·split
  ·exact UP _ _ _ _ _ _ _ _ (by simp)
  ·exact UP _ _ _ _ _ _ _ _ (by simp)
 ·simp
theorem VD:∀ (l:List Bool) (v:List CellB),(∀ c ∈ v,Jh c)→∀ c ∈ qR l v,Jh c:=by
 intro l
 induction l with
 | nil=>intro v h c hc;simp [qR] at hc
 | cons b l ih =>
  intro v h c hc
  have h0:Jh ⟨true,0,[]⟩:=⟨by decide,by decide⟩
  have h1:Jh ⟨false,0,[]⟩:=⟨by decide,by decide⟩
  cases b with
  | true =>
   simp only [qR,List.mem_cons] at hc
   rcases hc with rfl|hc
   ·exact h0
   ·exact ih v h c hc
  | false =>
   cases v with
   | nil =>
    simp only [qR,List.mem_cons] at hc
    rcases hc with rfl|hc
    ·exact h1
    ·exact ih [] h c hc
   | cons d v =>
    simp only [qR,List.mem_cons] at hc
    rcases hc with rfl|hc
    ·exact h c (by simp)
    ·exact ih v (fun x hx=>h x (by simp [hx])) c hc
theorem Yd {kind:Int} {page:List UInt8} {l:List CellB} (h:Vk kind page=some l):∀ c ∈ l,Jh c:=by
 unfold Vk at h
 split at h
 ·cases h
 ·split at h
  ·cases h;exact VD _ _ (by simp)
  ·split at h
   ·cases h
   ·cases h;exact VD _ _ (Ym _ _ _)
def xf (kind:Int) (page:List UInt8):Option (List CellB) :=
 match Vk kind page with
 | none=>none
 | some l=>if jR kind l=true∧xg kind l=page then some l else none
theorem Km {kind:Int} {page:List UInt8} {l:List CellB} (h:xf kind page=some l):jR kind l=true∧xg kind l=page∧∀ c ∈ l,Jh c:=by
 unfold xf at h
 split at h
 ·cases h
 ·rename_i l' hl
  split at h
  ·rename_i hc
   cases h
   exact ⟨hc.1,hc.2,Yd hl⟩
  ·cases h
theorem Zd (kind:Int) (l:List CellB) (hok:jR kind l=true) (hr:∀ c ∈ l,Jh c):xf kind (xg kind l)=some l:=by
 have:=IY kind l [] hok hr
 rw [List.append_nil] at this
 unfold xf
 rw [this]
 exact if_pos ⟨hok,rfl⟩
end
section
def Ui:List UInt8→Nat
 | a :: b :: _=>a.toNat+256*b.toNat
 | _=>0
def JW (st:Option (List UInt8)):Nat × Option (List UInt8):=(Ui (xz 2 st).1,(xz 2 st).2)
def zD (st:Option (List UInt8)):(List UInt8 × List UInt8) × Option (List UInt8) :=
 (((xz 4 (JW st).2).1,(xz ((JW st).1:Int) (xz 4 (JW st).2).2).1),if (JW st).1 < 2 then none else (xz ((JW st).1:Int) (xz 4 (JW st).2).2).2)
theorem KM (n:Int):xz n none=([],none):=rfl
theorem PP (l:List UInt8):Ui l≤65535:=by
 match l with
 | []=>simp [Ui]
 | [a]=>simp [Ui]
 | a :: b :: _=>have:=a.toNat_lt;have:=b.toNat_lt;simp only [Ui];omega
theorem RG (a b:UInt8):qv ((a.toNat+256*b.toNat:Nat):Int)=[a,b]:=by
 have ha:=a.toNat_lt
 have hb:=b.toNat_lt
 unfold qv
 simp only [List.cons.injEq,and_true]
 constructor
 ·apply UInt8.toNat_inj.1;simp only [UInt8.toNat_ofNat'];omega
 ·apply UInt8.toNat_inj.1;simp only [UInt8.toNat_ofNat'];omega
theorem RP (n:Nat) (h:n≤65535) (r:List UInt8):Ui (qv (n:Int)++r)=n:=by
 unfold qv
 simp only [List.cons_append,List.nil_append,Ui,UInt8.toNat_ofNat']
 omega
theorem XA {n:Nat} {l:List UInt8} {t r:List UInt8} (h:xz (n:Int) (some l)=(t,some r)):l=t++r∧t.length=n:=by
 by_cases hn:n≤l.length
 ·rw [KR (by omega) (by omega)] at h
  simp only [Prod.mk.injEq,Option.some.injEq,Int.toNat_natCast] at h
  obtain ⟨rfl,rfl⟩:=h
  exact ⟨(List.take_append_drop ..).symm,by rw [List.length_take];omega⟩
 ·rw [TZ (.inr (by omega))] at h
  simp at h
theorem Vr {l r:List UInt8} {n:Nat} (h:JW (some l)=(n,some r)):l=qv (n:Int)++r∧n≤65535:=by
 unfold JW at h
 simp only [Prod.mk.injEq] at h
 obtain ⟨h1,h2⟩:=h
 have h3:xz ((2:Nat):Int) (some l)=((xz 2 (some l)).1,some r):=by
  show xz 2 (some l)=_
  rw [← h2]
 obtain ⟨h4,h5⟩:=XA h3
 generalize (xz 2 (some l)).1=t at *
 match t,h5 with
 | [a,b],_ =>
  simp only [Ui] at h1
  subst h1
  rw [RG]
  exact ⟨h4,by have:=a.toNat_lt;have:=b.toNat_lt;omega⟩
theorem VB (n:Nat) (h:n≤65535) (r:List UInt8):JW (some (qv (n:Int)++r))=(n,some r):=by
 unfold JW
 have:=Qj (qv (n:Int)) r
 rw [jv] at this
 rw [show xz 2 (some (qv (n:Int)++r))=(qv (n:Int),some r) from this]
 have h2:=RP n h []
 rw [List.append_nil] at h2
 simp [h2]
theorem UI:zD none=(([],[]),none):=rfl
theorem ZH {l r:List UInt8} {x:List UInt8 × List UInt8} (h:zD (some l)=(x,some r)):l=qv (x.2.length:Int)++(x.1++x.2)++r∧x.1.length=4∧2≤x.2.length∧x.2.length≤65535:=by
 unfold zD at h
 simp only [Prod.mk.injEq] at h
 obtain ⟨h1,h2⟩:=h
 split at h2
 ·cases h2
 ·rename_i hn
  cases hq:(JW (some l)).2 with
  | none=>rw [hq] at h2;simp [KM] at h2
  | some l1 =>
   obtain ⟨h3,h4⟩:=Vr (l:=l) (r:=l1) (n:=(JW (some l)).1) (by rw [← hq])
   rw [hq] at h1 h2
   cases hq2:(xz 4 (some l1)).2 with
   | none=>rw [hq2] at h2;simp [KM] at h2
   | some l2 =>
    obtain ⟨h5,h6⟩:=XA (n:=4) (l:=l1) (t:=(xz 4 (some l1)).1) (r:=l2) (by show xz 4 (some l1)=_;rw [← hq2])
    rw [hq2] at h1 h2
    obtain ⟨h7,h8⟩:=XA (n:=(JW (some l)).1) (l:=l2) (t:=(xz ((JW (some l)).1:Int) (some l2)).1) (r:=r) (by rw [← h2])
    subst h1
    simp only
    rw [h8]
    refine ⟨?_,h6,by omega,h4⟩
    rw [List.append_assoc,List.append_assoc,← h7,← h5]
    exact h3
theorem ZJ {x:List UInt8 × List UInt8} (h1:x.1.length=4) (h2:2≤x.2.length) (h3:x.2.length≤65535) (r:List UInt8):zD (some (qv (x.2.length:Int)++(x.1++x.2)++r))=(x,some r):=by
 unfold zD
 rw [List.append_assoc,List.append_assoc,VB _ h3]
 have e1:xz 4 (some (x.1++(x.2++r)))=(x.1,some (x.2++r)):=by
  have:=Qj x.1 (x.2++r)
  rw [h1] at this
  exact this
 simp only [e1,Qj]
 rw [if_neg (by omega)]
def Iv (file:List UInt8):Option FormF :=
 if 65000 < file.length∨file.length < 8∨file.take 2≠[67,70]∨file.drop (file.length - 2)≠[67,70]∨(file.getD 2 0≠69∧file.getD 2 0≠79)∨(file.getD 3 0).toNat < 1∨9 < (file.getD 3 0).toNat then none
 else if file.length < 8+Ui (file.drop (file.length - 4)) then none
 else
  let from_:=file.length - 4 - Ui (file.drop (file.length - 4))
  let part:=(file.drop from_).take (file.length - 4 - from_)
  let told:=decide (file.getD 2 0=79)
  let a:=if told=true then xz ((JW (some part)).1:Int) (JW (some part)).2 else ([],some part)
  let b:=zD a.2
  if b.2=some [] then some ⟨told,(file.getD 3 0).toNat,(file.drop 4).take (from_ - 4),a.1,b.1.1,b.1.2⟩ else none
theorem Pm {file:List UInt8} {a b:Nat} (ha:4≤a) (hab:a≤b) (hb:b+4=file.length) (h1:file.take 2=[67,70]) (h2:file.drop (file.length - 2)=[67,70]) :
  file=([67,70]++[file.getD 2 0]++[file.getD 3 0])++((file.drop 4).take (a - 4)++((file.drop a).take (b - a)++((file.drop b).take 2++[67,70]))):=by
 have e2:(file.drop b).drop 2=[67,70]:=by rw [List.drop_drop,← h2];congr 1;omega
 have e3:file.drop b=(file.drop b).take 2++[67,70]:=by rw [← e2,List.take_append_drop]
 have e4:file.drop a=(file.drop a).take (b - a)++file.drop b:=by
  conv=>lhs;rw [← List.take_append_drop (b - a) (file.drop a)]
  rw [List.drop_drop]
  congr 2
  omega
 have e5:file.drop 4=(file.drop 4).take (a - 4)++file.drop a:=by
  conv=>lhs;rw [← List.take_append_drop (a - 4) (file.drop 4)]
  rw [List.drop_drop]
  congr 2
  omega
 rw [← e3,← e4,← e5]
 match file,h1 with
 | x :: y :: z :: u :: l,h1 =>
  simp only [List.take_succ_cons,List.take_zero,List.cons.injEq,and_true] at h1
  obtain ⟨rfl,rfl⟩:=h1
  simp
 | [],h1=>simp at h1
 | [x],h1=>simp at h1
 | [x,y],_=>exfalso;have:([x,y]:List UInt8).length=2:=rfl;omega
 | [x,y,z],_=>exfalso;have:([x,y,z]:List UInt8).length=3:=rfl;omega
theorem Ip (file:List UInt8) (o:Option FormF) (hS0:∀ f,FormOk f→xd f=file→o=some f) (hN0:(∀ f,FormOk f→xd f≠file)→o=none):Iv file=o:=by
 cases hf:Iv file with
 | some f =>
  unfold Iv at hf
  split at hf
  ·cases hf
  rename_i hc
  split at hf
  ·cases hf
  rename_i hl
  simp only [not_or,Decidable.not_and_iff_or_not,Decidable.not_not,ne_eq] at hc
  obtain ⟨c1,c2,c3,c4,c5,c6,c7⟩:=hc
  have hn:=PP (file.drop (file.length - 4))
  have hcut:=Pm (file:=file) (a:=file.length - 4 - Ui (file.drop (file.length - 4))) (b:=file.length - 4) (by omega) (by omega) (by omega) c3 c4
  simp only at hf
  have hend:(file.drop (file.length - 4)).take 2=qv ((Ui (file.drop (file.length - 4)):Nat):Int):=by
   have hlen:(file.drop (file.length - 4)).length=4:=by rw [List.length_drop];omega
   match hd:file.drop (file.length - 4),hlen with
   | [x,y,z,u],_=>simp only [List.take_succ_cons,List.take_zero,Ui];rw [RG]
  rw [hend] at hcut
  generalize hN:Ui (file.drop (file.length - 4))=N at *
  generalize hF:file.length - 4 - N=F at *
  have hFN:file.length - 4 - F=N:=by omega
  rw [hFN] at hf hcut
  have hpl:((file.drop F).take N).length=N:=by rw [List.length_take,List.length_drop];omega
  generalize hP:(file.drop F).take N=part at *
  by_cases hb:(zD (if decide (file.getD 2 0=79)=true then xz ((JW (some part)).1:Int) (JW (some part)).2 else ([],some part)).2).2=some []
  ·rw [if_pos hb] at hf
   simp only [Option.some.injEq] at hf
   subst hf
   symm
   have key:∀ (told:Bool) (footer:List UInt8) (x:List UInt8 × List UInt8),told=decide (file.getD 2 0=79)→(told=false→footer=[])→part=(if told=true then qv (footer.length:Int)++footer else [])++(qv (x.2.length:Int)++(x.1++x.2))→x.1.length=4→2≤x.2.length →
     FormOk ⟨told,(file.getD 3 0).toNat,(file.drop 4).take (F - 4),footer,x.1,x.2⟩∧xd ⟨told,(file.getD 3 0).toNat,(file.drop 4).take (F - 4),footer,x.1,x.2⟩=file:=by
    intro told footer x ht hno hpart hx1 hx2
    have hfile:xd ⟨told,(file.getD 3 0).toNat,(file.drop 4).take (F - 4),footer,x.1,x.2⟩=file:=by
     refine Eq.trans ?_ hcut.symm
     unfold xd qh
     simp only
     rw [← hpart]
     have e1:(if told=true then (79:UInt8) else 69)=file.getD 2 0:=by
      rw [ht]
      by_cases h79:file.getD 2 0=79
      ·rw [h79];rfl
      ·rw [decide_eq_false h79]
       have:file.getD 2 0=69:=by
        rcases c5 with h|h
        ·exact h
        ·exact absurd h h79
       rw [this];rfl
     have e2:byB (((file.getD 3 0).toNat:Nat):Int)=file.getD 3 0:=by
      apply UInt8.toNat_inj.1
      rw [Jn _ (by omega)]
     rw [e1,e2,hpl]
    exact ⟨⟨hx1,hx2,⟨by simp only;omega,by simp only;omega⟩,by rw [hfile];omega,hno⟩,hfile⟩
   by_cases h79:file.getD 2 0=79
   ·have ht:decide (file.getD 2 0=79)=true:=decide_eq_true h79
    rw [ht] at hb ⊢
    simp only [if_true] at hb ⊢
    cases hq:(JW (some part)).2 with
    | none=>rw [hq,KM,UI] at hb;simp at hb
    | some l1 =>
     obtain ⟨h3,h4⟩:=Vr (l:=part) (r:=l1) (n:=(JW (some part)).1) (by rw [← hq])
     rw [hq] at hb
     generalize hn0:(JW (some part)).1=n0 at *
     cases hq2:(xz (n0:Int) (some l1)).2 with
     | none=>rw [hq2,UI] at hb;simp at hb
     | some l2 =>
      obtain ⟨h5,h6⟩:=XA (n:=n0) (l:=l1) (t:=(xz (n0:Int) (some l1)).1) (r:=l2) (by rw [← hq2])
      rw [hq2] at hb
      try rw [hq2]
      generalize (xz (n0:Int) (some l1)).1=T at *
      obtain ⟨h7,h8,h9,h10⟩:=ZH (l:=l2) (r:=[]) (x:=(zD (some l2)).1) (by rw [← hb])
      obtain ⟨k1,k2⟩:=key true T (zD (some l2)).1 ht.symm (fun h=>by cases h) (by
       rw [if_pos rfl,h6,h3,h5]
       rw [List.append_nil] at h7
       rw [← h7,List.append_assoc]
       ) h8 h9
      exact hS0 _ k1 k2
   ·have ht:decide (file.getD 2 0=79)=false:=decide_eq_false h79
    rw [ht] at hb ⊢
    simp only [Bool.false_eq_true,if_false] at hb ⊢
    obtain ⟨h7,h8,h9,h10⟩:=ZH (l:=part) (r:=[]) (x:=(zD (some part)).1) (by rw [← hb])
    obtain ⟨k1,k2⟩:=key false [] (zD (some part)).1 ht.symm (fun _=>rfl) (by
     rw [if_neg (by decide),List.nil_append]
     rw [List.append_nil] at h7
     exact h7) h8 h9
    exact hS0 _ k1 k2
  ·rw [if_neg hb] at hf
   cases hf
 | none =>
  symm
  apply hN0
  intro f hok e
  obtain ⟨l1,l2,l3⟩:=hok.lens
  have hlen:file.length=4+(f.parts.length+((qh f).length+4)):=by
   rw [← e]
   simp only [xd,List.length_append,List.length_cons,List.length_nil,jv]
  have hsh:=hok.short
  rw [e] at hsh
  have hd:file.drop (file.length - 4)=qv ((qh f).length:Int)++[67,70]:=by
   rw [hlen,show 4+(f.parts.length+((qh f).length+4)) - 4=4+(f.parts.length+(qh f).length) by omega,← e]
   unfold xd
   rw [← List.drop_drop,List.drop_left' (by simp),← List.append_assoc,List.drop_left' (by simp)]
  have hN:Ui (file.drop (file.length - 4))=(qh f).length:=by rw [hd];exact RP _ (by omega) _
  have hF:file.length - 4 - (qh f).length=4+f.parts.length:=by omega
  have hpart:(file.drop (4+f.parts.length)).take (file.length - 4 - (4+f.parts.length))=qh f:=by
   rw [show file.length - 4 - (4+f.parts.length)=(qh f).length by omega,← e]
   unfold xd
   rw [← List.drop_drop,List.drop_left' (by simp),List.drop_left' rfl,List.take_left' rfl]
  have hparts:(file.drop 4).take (4+f.parts.length - 4)=f.parts:=by
   rw [← e]
   unfold xd
   rw [List.drop_left' (by simp),List.take_left' (by omega)]
  have h2:file.getD 2 0=if f.told=true then 79 else 69:=by rw [← e];simp [xd]
  have h3:(file.getD 3 0).toNat=f.foot:=by
   have:file.getD 3 0=byB (f.foot:Int):=by rw [← e];simp [xd]
   rw [this]
   exact Jn _ (by have:=hok.foot;omega)
  have ht2:file.take 2=[67,70]:=by rw [← e];simp [xd]
  have hd2:file.drop (file.length - 2)=[67,70]:=by
   rw [show file.length - 2=(file.length - 4)+2 by omega,← List.drop_drop,hd]
   rfl
  have hft:=hok.foot
  unfold Iv at hf
  rw [if_neg,if_neg] at hf
  ·simp only [hN,hF,hpart,hparts] at hf
   cases htold:f.told with
   | true =>
    rw [htold,if_pos rfl] at h2
    simp only [h2,decide_true,if_true] at hf
    have hfp:qh f=qv (f.footer.length:Int)++(f.footer++(qv (f.body.length:Int)++(f.nonce++f.body))):=by
     unfold qh
     rw [htold,if_pos rfl,List.append_assoc]
    have hs:=ZJ (x:=(f.nonce,f.body)) hok.nonce hok.body (by simp only;omega) []
    simp only [List.append_nil] at hs
    rw [hfp,VB _ (by omega),Qj,hs] at hf
    simp at hf
   | false =>
    rw [htold,if_neg (by decide)] at h2
    simp only [h2,show decide ((69:UInt8)=79)=false from by decide,Bool.false_eq_true,if_false] at hf
    have hfp:qh f=qv (f.body.length:Int)++(f.nonce++f.body):=by
     unfold qh
     rw [htold,if_neg (by decide),List.nil_append]
    have hs:=ZJ (x:=(f.nonce,f.body)) hok.nonce hok.body (by simp only;omega) []
    simp only [List.append_nil] at hs
    rw [hfp,hs] at hf
    simp at hf
  ·rw [hN];omega
  ·rw [h3,ht2,hd2,h2]
   rintro (h|h|h|h|h|h|h)
   ·omega
   ·omega
   ·exact h rfl
   ·exact h rfl
   ·revert h;cases f.told<;>decide
   ·omega
   ·omega
end
section
def Kh (st:Option (List UInt8)):Nat→List ColB × Option (List UInt8)
 | 0=>([],st)
 | i+1=>((Kh st i).1++[⟨(xR 8 (Kh st i).2).1,((qN 1 (xR 8 (Kh st i).2).2).1:Nat),((qN 9 (qN 1 (xR 8 (Kh st i).2).2).2).1:Nat),[]⟩],(qN 9 (qN 1 (xR 8 (Kh st i).2).2).2).2)
theorem Ab (st:Option (List UInt8)) (i:Nat):∀ c ∈ (Kh st i).1,c.cells=[]:=by
 induction i with
 | zero=>intro c hc;simp [Kh] at hc
 | succ i ih =>
  intro c hc
  simp only [Kh,List.mem_append,List.mem_singleton] at hc
  rcases hc with hc|rfl
  ·exact ih c hc
  ·rfl
theorem DB {t:List ColB} (r:List UInt8) (h:∀ c ∈ t,c.name.length≤8∧(c.kind=0∨c.kind=1)∧0≤c.key∧c.key≤9∧c.cells=[]):∀ i,i≤t.length→Kh (some (t.flatMap jT++r)) i=(t.take i,some ((t.drop i).flatMap jT++r)):=by
 intro i
 induction i with
 | zero=>intro _;simp [Kh]
 | succ i ih =>
  intro hi
  have hlt:i < t.length:=by omega
  obtain ⟨h1,h2,h3,h4,h5⟩:=h t[i] (List.getElem_mem hlt)
  simp only [Kh,ih (by omega)]
  rw [List.drop_eq_getElem_cons hlt,List.flatMap_cons]
  simp only [jT,List.append_assoc]
  rw [DJ 8 _ _ h1 (by decide)]
  simp only
  rw [zR 1 _ _ (by omega) (by decide)]
  simp only
  rw [zR 9 _ _ (by omega) (by decide)]
  simp only
  rw [List.take_succ_eq_append_getElem hlt]
  congr 3
  generalize t[i]=c at *
  cases c
  simp only [ColB.mk.injEq,true_and] at *
  refine ⟨by omega,by omega,h5.symm⟩
def Nh (key:Int) (st:Option (List UInt8)):ModF × Option (List UInt8) :=
 if key=0 then (⟨(xz ((JW st).1:Int) (JW st).2).1,[],[]⟩,(xz ((JW st).1:Int) (JW st).2).2)
 else (⟨[],(zD st).1.1,(zD st).1.2⟩,(zD st).2)
theorem MH (key:Int):Nh key none=(⟨[],[],[]⟩,none):=by
 unfold Nh
 split<;>rfl
theorem CA {key:Int} {l r:List UInt8} {m:ModF} (h:Nh key (some l)=(m,some r)):xO key m∧l=qq key m++r:=by
 unfold Nh at h
 unfold xO qq
 by_cases hk:key=0
 ·rw [if_pos hk] at h
  rw [if_pos hk]
  simp only [Prod.mk.injEq] at h
  obtain ⟨h1,h2⟩:=h
  cases hq:(JW (some l)).2 with
  | none=>rw [hq] at h2;simp [KM] at h2
  | some l1 =>
   obtain ⟨h3,h4⟩:=Vr (l:=l) (r:=l1) (n:=(JW (some l)).1) (by rw [← hq])
   rw [hq] at h1 h2
   obtain ⟨h5,h6⟩:=XA (n:=(JW (some l)).1) (l:=l1) (t:=(xz ((JW (some l)).1:Int) (some l1)).1) (r:=r) (by rw [← h2])
   subst h1
   refine ⟨.inl ⟨hk,rfl,rfl,by simp only [h6];exact h4⟩,?_⟩
   simp only [h6]
   rw [List.append_assoc,← h5]
   exact h3
 ·rw [if_neg hk] at h
  rw [if_neg hk]
  simp only [Prod.mk.injEq] at h
  obtain ⟨h1,h2⟩:=h
  obtain ⟨h7,h8,h9,h10⟩:=ZH (l:=l) (r:=r) (x:=(zD (some l)).1) (by rw [← h2])
  subst h1
  exact ⟨.inr ⟨hk,rfl,h8,h9,h10⟩,h7⟩
theorem Cg {key:Int} {m:ModF} (h:xO key m) (r:List UInt8):Nh key (some (qq key m++r))=(m,some r):=by
 unfold Nh qq
 rcases h with ⟨hk,h1,h2,h3⟩|⟨hk,h1,h2,h3,h4⟩
 ·rw [if_pos hk,if_pos hk,List.append_assoc,VB _ h3,Qj]
  cases m;simp_all
 ·rw [if_neg hk,if_neg hk,ZJ (x:=(m.nonce,m.body)) h2 h3 h4]
  cases m;simp_all
def Nm (t:List ColB) (q:List ModF × Option (List UInt8)) (s:SpotB):List ModF × Option (List UInt8):=(q.1++[(Nh (je t s.c).key q.2).1],(Nh (je t s.c).key q.2).2)
def SE (t:List ColB) (st:Option (List UInt8)) (L:List SpotB):List ModF × Option (List UInt8):=L.foldl (Nm t) ([],st)
theorem AW (t:List ColB):∀ (L:List SpotB) (M:List ModF),(L.foldl (Nm t) (M,none)).2=none:=by
 intro L
 induction L with
 | nil=>intro M;rfl
 | cons s L ih=>intro M;simp only [List.foldl_cons,Nm,MH];exact ih _
theorem AA (t:List ColB):∀ (L:List SpotB) (M0:List ModF) (l r:List UInt8) (M:List ModF),L.foldl (Nm t) (M0,some l)=(M,some r)→∃ M1,M=M0++M1∧ModsOk t L M1∧l=jk t L M1++r:=by
 intro L
 induction L with
 | nil=>intro M0 l r M h;simp only [List.foldl_nil,Prod.mk.injEq,Option.some.injEq] at h;exact ⟨[],by rw [← h.1];simp,.nil,by rw [h.2];rfl⟩
 | cons s L ih =>
  intro M0 l r M h
  simp only [List.foldl_cons,Nm] at h
  cases hq:(Nh (je t s.c).key (some l)).2 with
  | none =>
   rw [hq] at h
   have:=AW t L (M0++[(Nh (je t s.c).key (some l)).1])
   rw [h] at this
   cases this
  | some l1 =>
   rw [hq] at h
   obtain ⟨h1,h2⟩:=CA (key:=(je t s.c).key) (l:=l) (r:=l1) (m:=(Nh (je t s.c).key (some l)).1) (by rw [← hq])
   obtain ⟨M1,h3,h4,h5⟩:=ih _ _ _ _ h
   exact ⟨_ :: M1,by rw [h3,List.append_assoc];rfl,.cons h1 h4,by
    simp only [jk,List.append_assoc]
    rw [← h5]
    exact h2⟩
theorem Ap {t:List ColB} {L:List SpotB} {M:List ModF} (h:ModsOk t L M):∀ (M0:List ModF) (r:List UInt8),L.foldl (Nm t) (M0,some (jk t L M++r))=(M0++M,some r):=by
 induction h using ModsOk.ind with
 | nil=>intro M0 r;simp [jk]
 | cons hm _ ih =>
  intro M0 r
  simp only [List.foldl_cons,Nm,jk,List.append_assoc]
  rw [Cg hm]
  simp only
  rw [ih]
  simp
def KZ (footer:List UInt8):PlanB :=
 ⟨((qN 60 (qN 60 (some footer)).2).1:Nat),((qN 60 (qN 60 (qN 60 (some footer)).2).2).1:Nat),((qN 9 (qN 60 (qN 60 (qN 60 (some footer)).2).2).2).1:Nat),false⟩
def GD (footer:List UInt8):Nat:=(qN 60 (some footer)).1
def Kd (footer:List UInt8):List ColB × Option (List UInt8) :=
 Kh (qN 6 (qN 9 (qN 60 (qN 60 (qN 60 (some footer)).2).2).2).2).2 (qN 6 (qN 9 (qN 60 (qN 60 (qN 60 (some footer)).2).2).2).2).1
def Ak (foot:Nat) (footer:List UInt8):Bool:=(!(Kd footer).2.isNone && (qB (KZ footer) && (jQ (Kd footer).1 && decide ((KZ footer).foot=(foot:Int)))))
def Vi (footer:List UInt8):List SpotB:=qi (GD footer) (Kd footer).1.length (KZ footer).group.toNat (KZ footer).page.toNat
def GT (parts footer:List UInt8):List ModF × Option (List UInt8):=SE (Kd footer).1 (some parts) (Vi footer)
def Tw (foot:Nat) (parts footer:List UInt8):Option SheetF :=
 if Ak foot footer=true then
  if (GT parts footer).2=some []∧qd (GD footer) (KZ footer) (Kd footer).1 (jx (Kd footer).1 4 true (Vi footer) (GT parts footer).1)=footer then some ⟨GD footer,KZ footer,(Kd footer).1,(GT parts footer).1⟩ else none
 else none
theorem DN (foot:Nat) (parts footer:List UInt8) (o:Option SheetF) (hS0:∀ S,SheetOk foot parts footer S→o=some S) (hN0:(∀ S,¬ SheetOk foot parts footer S)→o=none):Tw foot parts footer=o:=by
 cases hl:Tw foot parts footer with
 | some S =>
  symm
  apply hS0
  unfold Tw at hl
  split at hl
  ·rename_i hh
   split at hl
   ·rename_i hm
    cases hl
    obtain ⟨h1,h2⟩:=hm
    simp only [Ak,Bool.and_eq_true,decide_eq_true_eq] at hh
    obtain ⟨_,hp,hc,hf⟩:=hh
    obtain ⟨M1,e1,e2,e3⟩:=AA (Kd footer).1 (Vi footer) [] parts [] (GT parts footer).1 (by
     show GT parts footer=_
     rw [← h1])
    simp only [List.nil_append] at e1
    rw [e1] at h2 ⊢
    rw [List.append_nil] at e3
    have hR:GD footer≤60:=PU _ _
    have hB:∀ c ∈ (Kd footer).1,c.cells=[]:=Ab _ _
    have hT:(KZ footer).told=false:=rfl
    unfold Vi at *
    generalize GD footer=R at *
    generalize (Kd footer).1=C at *
    generalize KZ footer=p at *
    exact ⟨hR,hp,hT,hf,hc,hB,e2,e3,h2.symm⟩
   ·cases hl
  ·cases hl
 | none =>
  symm
  apply hN0
  intro S hS
  have hf:=hS.footer
  have hp:=hS.plan
  have hpl:=hS.plan
  simp only [qB,Bool.and_eq_true,decide_eq_true_eq] at hpl
  have hcs:∀ c ∈ S.cols,c.name.length≤8∧(c.kind=0∨c.kind=1)∧0≤c.key∧c.key≤9∧c.cells=[]:=by
   intro c hc
   obtain ⟨k,hk,rfl⟩:=List.mem_iff_getElem.1 hc
   have hh:=hS.heads
   simp only [jQ,Bool.and_eq_true] at hh
   obtain ⟨a,b,c,d⟩:=JF (zX hh.1 (Nat.le_refl _) k hk).1
   exact ⟨(ZF a).2,b,c,d,hS.bare _ (List.getElem_mem hk)⟩
  have hlen:S.cols.length≤6:=by
   have hh:=hS.heads
   simp only [jQ,Bool.and_eq_true,decide_eq_true_eq] at hh
   exact hh.2.2
  have hfoot:S.plan.foot=(foot:Int):=hS.foot
  unfold qd at hf
  simp only [List.append_assoc] at hf
  have hrow:=hS.rows
  generalize hPL:(jx S.cols 4 true (qJ S) S.mods).flatMap uB=PB at hf
  have r1:=zR 60 S.rows (uB S.plan.group.toNat++(uB S.plan.page.toNat++(uB S.plan.foot.toNat++(uB S.cols.length++(S.cols.flatMap jT++PB))))) hrow (by decide)
  have r2:=zR 60 S.plan.group.toNat (uB S.plan.page.toNat++(uB S.plan.foot.toNat++(uB S.cols.length++(S.cols.flatMap jT++PB)))) (by omega) (by decide)
  have r3:=zR 60 S.plan.page.toNat (uB S.plan.foot.toNat++(uB S.cols.length++(S.cols.flatMap jT++PB))) (by omega) (by decide)
  have r4:=zR 9 S.plan.foot.toNat (uB S.cols.length++(S.cols.flatMap jT++PB)) (by omega) (by decide)
  have r5:=zR 6 S.cols.length (S.cols.flatMap jT++PB) hlen (by decide)
  rw [← hf] at r1
  have eR:GD footer=S.rows:=by unfold GD;rw [r1]
  have eP:KZ footer=S.plan:=by
   unfold KZ
   rw [r1]
   simp only
   rw [r2]
   simp only
   rw [r3]
   simp only
   rw [r4]
   have ht:=hS.told
   generalize S.plan=p at *
   cases p
   simp only [PlanB.mk.injEq] at *
   exact ⟨by omega,by omega,by omega,ht.symm⟩
  have eC:Kd footer=(S.cols,some PB):=by
   unfold Kd
   rw [r1]
   simp only
   rw [r2]
   simp only
   rw [r3]
   simp only
   rw [r4]
   simp only
   rw [r5]
   simp only
   rw [DB PB hcs _ (Nat.le_refl _)]
   simp
  have eS:Vi footer=qJ S:=by unfold Vi qJ;rw [eR,eC,eP]
  have eM:GT parts footer=(S.mods,some []):=by
   unfold GT
   rw [eC,eS,hS.parts]
   have:=Ap hS.mods [] []
   simpa [SE] using this
  unfold Tw at hl
  rw [if_pos,if_pos] at hl
  ·cases hl
  ·refine ⟨by rw [eM],?_⟩
   rw [eM,eR,eP,eC,eS]
   exact hS.footer.symm
  ·simp only [Ak,eC,eP,hp,hS.heads,hfoot,Option.isNone_some,Bool.not_false,Bool.true_and,decide_true]
end
section
def Ja (file:List UInt8):Option FormF:=Iv file
theorem Kv {f:FormF} (h:FormOk f):Ja (xd f)=some f :=
 Ip _ _ (fun g hg e=>congrArg some (IP h hg e.symm)) (fun hn=>absurd rfl (hn f h))
theorem zY {file:List UInt8} (h:∀ f,FormOk f→xd f≠file):Ja file=none :=
 Ip _ _ (fun f h1 h2=>absurd h2 (h f h1)) (fun _=>rfl)
theorem Cj {file:List UInt8} {f:FormF} (h:Ja file=some f):FormOk f∧xd f=file:=by
 by_cases hex:∃ g,FormOk g∧xd g=file
 ·obtain ⟨g,hg,e⟩:=hex
  rw [← e,Kv hg] at h
  cases h
  exact ⟨hg,e⟩
 ·rw [zY (fun g hg e=>hex ⟨g,hg,e⟩)] at h
  cases h
def xQ (foot:Nat) (parts footer:List UInt8):Option SheetF:=Tw foot parts footer
theorem ZW {foot:Nat} {parts footer:List UInt8} {S:SheetF} (h:SheetOk foot parts footer S):xQ foot parts footer=some S :=
 DN _ _ _ _ (fun T hT=>congrArg some (YZ h hT)) (fun hn=>absurd h (hn S))
theorem Xe {foot:Nat} {parts footer:List UInt8} (h:∀ S,¬ SheetOk foot parts footer S):xQ foot parts footer=none :=
 DN _ _ _ _ (fun S h1=>absurd h1 (h S)) (fun _=>rfl)
theorem GR {foot:Nat} {parts footer:List UInt8} {S:SheetF} (h:xQ foot parts footer=some S):SheetOk foot parts footer S:=by
 by_cases hex:∃ T,SheetOk foot parts footer T
 ·obtain ⟨T,hT⟩:=hex
  rw [ZW hT] at h
  cases h
  exact hT
 ·rw [Xe (fun T hT=>hex ⟨T,hT⟩)] at h
  cases h
def xy (sec non ext body:List UInt8):Option (List UInt8) :=
 if body.length≤5002∧2≤body.length∧xV sec non ext (zo sec non (body.take (body.length - 2)))=body then some (zo sec non (body.take (body.length - 2))) else none
structure FoundB where
 name:List UInt8
 kind:Int
 key:Int
 state:Int
 cells:List CellB
def QX (pre:List UInt8) (r:List KeyB) (key:Int) (s:SpotB) (m:ModF):Option (List UInt8) :=
 if key=0 then some m.plain else xy (jl r key) m.nonce (qE pre s.sort s.g s.c s.p) m.body
def Xa (pre:List UInt8) (r:List KeyB) (kind key:Int) (cells:List CellB) (s:SpotB) (m:ModF):Option (List CellB) :=
 match QX pre r key s m with
 | none=>none
 | some plain =>
  if s.sort=77 then (if plain=JI kind (cells.drop s.start) then some cells else none)
  else match xf kind plain with
   | none=>none
   | some l=>if l.length=s.many then some (cells++l) else none
def jz (pre:List UInt8) (r:List KeyB) (kind key:Int) (c:Nat):Option (List CellB)→List SpotB→List ModF→Option (List CellB)
 | none,_,_=>none
 | some cells,s :: L,m :: M=>jz pre r kind key c (if s.c=c then Xa pre r kind key cells s m else some cells) L M
 | some cells,_,_=>some cells
def xr (pre:List UInt8) (r:List KeyB) (S:SheetF) (c:Nat):FoundB :=
 if 0 < (je S.cols c).key∧js r (je S.cols c).key=false then ⟨(je S.cols c).name,(je S.cols c).kind,(je S.cols c).key,1,[]⟩
 else match jz pre r (je S.cols c).kind (je S.cols c).key c (some []) (qJ S) S.mods with
  | none=>⟨(je S.cols c).name,(je S.cols c).kind,(je S.cols c).key,2,[]⟩
  | some cells=>⟨(je S.cols c).name,(je S.cols c).kind,(je S.cols c).key,0,cells⟩
def zn (file pre:List UInt8) (r:List KeyB) (trust:Bool):Int × Option SheetF :=
 if 20 < pre.length then (7,none)
 else if xG r=false then (1,none)
 else match Ja file with
  | none=>(9,none)
  | some f =>
   if f.told=true then
    match xQ f.foot f.parts f.footer with
    | none=>(9,none)
    | some S =>
     if trust=true then (0,some S)
     else if js r (f.foot:Int)=false then (8,none)
     else if xy (jl r (f.foot:Int)) f.nonce (qE pre 83 0 0 0++f.footer) f.body=some [] then (0,some S) else (4,none)
   else if js r (f.foot:Int)=false then (8,none)
   else match xy (jl r (f.foot:Int)) f.nonce (qE pre 70 0 0 0) f.body with
    | none=>(4,none)
    | some footer =>
     match xQ f.foot f.parts footer with
     | none=>(9,none)
     | some S=>(0,some S)
end
section
theorem zr {t:List ColB}:∀ (L:List SpotB) (M:List ModF) (L2:List SpotB) (M2:List ModF),M.length=L.length→jk t (L++L2) (M++M2)=jk t L M++jk t L2 M2:=by
 intro L
 induction L with
 | nil=>intro M L2 M2 h;rw [List.eq_nil_of_length_eq_zero h];simp [jk]
 | cons s L ih =>
  intro M L2 M2 h
  cases M with
  | nil=>simp at h
  | cons m M =>
   simp only [List.cons_append,jk,List.append_assoc]
   rw [ih M L2 M2 (by simpa using h)]
theorem ModsOk.append {t:List ColB} {L:List SpotB} {M:List ModF} {L2:List SpotB} {M2:List ModF} (h:ModsOk t L M) (h2:ModsOk t L2 M2):ModsOk t (L++L2) (M++M2):=by
 induction h using ModsOk.ind with
 | nil=>exact h2
 | cons hm _ ih=>exact .cons hm ih
theorem GI {t:List ColB} {L:List SpotB}:∀ {L2:List SpotB} {M:List ModF},ModsOk t (L++L2) M→∃ M1 M2,M=M1++M2∧ModsOk t L M1∧ModsOk t L2 M2:=by
 induction L with
 | nil=>intro L2 M h;exact ⟨[],M,rfl,.nil,h⟩
 | cons s L ih =>
  intro L2 M h
  cases h using ModsOk.ind with
  | cons hm h2 =>
   obtain ⟨M1,M2,h3,h4,h5⟩:=ih h2
   exact ⟨_ :: M1,M2,by rw [h3];rfl,.cons hm h4,h5⟩
theorem Qb {t:List ColB}:∀ (L:List SpotB) (M:List ModF) (L2:List SpotB) (M2:List ModF) (n:Nat) (b:Bool),M.length=L.length→jx t n b (L++L2) (M++M2)=jx t n b L M++jx t (n+(jk t L M).length) (xD b L) L2 M2:=by
 intro L
 induction L with
 | nil=>intro M L2 M2 n b h;rw [List.eq_nil_of_length_eq_zero h];simp [jx,jk,xD]
 | cons s L ih =>
  intro M L2 M2 n b h
  cases M with
  | nil=>simp at h
  | cons m M =>
   simp only [List.cons_append,jk,jx,List.append_assoc,xD,List.length_append]
   rw [ih M L2 M2 _ _ (by simpa using h),Nat.add_assoc]
def xE (Q:Nat→Nat→List ModF) (g C:Nat):List ModF:=(List.range C).flatMap fun c=>Q g c
def qW (Q:Nat→Nat→List ModF) (C n:Nat):List ModF:=(List.range n).flatMap fun g=>xE Q g C
theorem zU (Q:Nat→Nat→List ModF) (g C:Nat):xE Q g (C+1)=xE Q g C++Q g C:=by simp [xE,List.range_succ]
theorem QJ (Q:Nat→Nat→List ModF) (C n:Nat):qW Q C (n+1)=qW Q C n++xE Q n C:=by simp [qW,List.range_succ]
theorem ZS {t:List ColB} {Q:Nat→Nat→List ModF} {R G P g:Nat}:∀ {C:Nat},(∀ c,c < C→ModsOk t (jg R G P g c) (Q g c))→ModsOk t (jp R G P g C) (xE Q g C):=by
 intro C
 induction C with
 | zero=>intro _;exact .nil
 | succ C ih=>intro h;rw [zU,zE];exact (ih (fun c hc=>h c (by omega))).append (h C (by omega))
theorem Rw {t:List ColB} {Q:Nat→Nat→List ModF} {R C G P:Nat}:∀ {n:Nat},(∀ g,g < n→∀ c,c < C→ModsOk t (jg R G P g c) (Q g c))→ModsOk t (jy R C G P n) (qW Q C n):=by
 intro n
 induction n with
 | zero=>intro _;exact .nil
 | succ n ih=>intro h;rw [QJ,zC];exact (ih (fun g hg=>h g (by omega))).append (ZS (h n (by omega)))
theorem Vl {t:List ColB}:∀ (L:List SpotB) (M:List ModF) (n:Nat),(∀ s ∈ L,s.sort=80)→jx t n false L M=[]:=by
 intro L
 induction L with
 | nil=>intro M n _;cases M<;>rfl
 | cons s L ih =>
  intro M n h
  cases M with
  | nil=>rfl
  | cons m M =>
   have hs:=h s (by simp)
   simp only [jx,hs]
   rw [show decide ((80:UInt8)=77)=false from by decide,ih M _ (fun x hx=>h x (List.mem_cons_of_mem _ hx))]
   rfl
theorem Vx {t:List ColB} {R G P g c n:Nat} {M:List ModF} (h:M.length=(jg R G P g c).length):jx t n true (jg R G P g c) M=[n]:=by
 cases hp:jr P g c (g*G) (jo R G g) (jZ (jo R G g) P) with
 | nil =>
  unfold jg at h ⊢
  rw [hp] at h ⊢
  obtain ⟨m,rfl⟩:=List.length_eq_one_iff.1 h
  rfl
 | cons s L =>
  have hsort:=Xt P g c (g*G) (jo R G g) (jZ (jo R G g) P)
  rw [hp] at hsort
  unfold jg at h ⊢
  rw [hp] at h ⊢
  obtain ⟨M0,m,rfl⟩:∃ M0 m,M=M0++[m]:=by
   have hne:M≠[]:=by intro e;rw [e] at h;simp at h
   exact ⟨M.dropLast,M.getLast hne,(List.dropLast_concat_getLast hne).symm⟩
  have hl:M0.length=(s :: L).length:=by simp at h ⊢;omega
  rw [Qb _ _ _ _ _ _ hl]
  cases M0 with
  | nil=>simp at hl
  | cons m0 M0 =>
   have hm:xD true (s :: L)=false:=KD _ hsort (by simp) true
   simp only [jx]
   rw [hm,show decide (s.sort=77)=false from by rw [hsort s (by simp)];decide,Vl L M0 _ (fun x hx=>hsort x (List.mem_cons_of_mem _ hx))]
   rfl
theorem xF (pre:List UInt8) (r:List KeyB) (kind key:Int) (c:Nat) (L:List SpotB) (M:List ModF):jz pre r kind key c none L M=none:=by cases L<;>cases M<;>rfl
theorem xJ (pre:List UInt8) (r:List KeyB) (kind key:Int) (c:Nat):∀ (L:List SpotB) (M:List ModF) (L2:List SpotB) (M2:List ModF) (x:Option (List CellB)),M.length=L.length →
  jz pre r kind key c x (L++L2) (M++M2)=jz pre r kind key c (jz pre r kind key c x L M) L2 M2:=by
 intro L
 induction L with
 | nil=>intro M L2 M2 x h;rw [List.eq_nil_of_length_eq_zero h];cases x<;>simp [jz,xF]
 | cons s L ih =>
  intro M L2 M2 x h
  cases M with
  | nil=>simp at h
  | cons m M =>
   cases x with
   | none=>simp [xF]
   | some cells =>
    simp only [List.cons_append,jz]
    exact ih M L2 M2 _ (by simpa using h)
theorem XP (pre:List UInt8) (r:List KeyB) (kind key:Int) (c:Nat):∀ (L:List SpotB) (M:List ModF) (x:Option (List CellB)),(∀ s ∈ L,s.c≠c)→jz pre r kind key c x L M=x:=by
 intro L
 induction L with
 | nil=>intro M x _;cases x<;>cases M<;>rfl
 | cons s L ih =>
  intro M x h
  cases x with
  | none=>exact xF ..
  | some cells =>
   cases M with
   | nil=>rfl
   | cons m M =>
    simp only [jz]
    rw [if_neg (h s (by simp))]
    exact ih M _ (fun y hy=>h y (List.mem_cons_of_mem _ hy))
theorem Xl {R G P g c:Nat}:∀ s ∈ jg R G P g c,s.c=c:=by
 intro s hs
 simp only [jg,jr,List.mem_append,List.mem_map,List.mem_range,List.mem_singleton] at hs
 rcases hs with ⟨p,_,rfl⟩|rfl<;>rfl
theorem El {t:List ColB} {Q:Nat→Nat→List ModF} {R G P g:Nat} (pre:List UInt8) (r:List KeyB) (kind key:Int) (c:Nat) (x:Option (List CellB)):∀ {C:Nat},(∀ i,i < C→ModsOk t (jg R G P g i) (Q g i)) →
  jz pre r kind key c x (jp R G P g C) (xE Q g C)=if c < C then jz pre r kind key c x (jg R G P g c) (Q g c) else x:=by
 intro C
 induction C with
 | zero=>intro _;simp [jp,xE];cases x<;>rfl
 | succ C ih =>
  intro h
  rw [zU,zE,xJ _ _ _ _ _ _ _ _ _ _ (qX (ZS (fun i hi=>h i (by omega)))),ih (fun i hi=>h i (by omega))]
  by_cases hc:c < C
  ·rw [if_pos hc,if_pos (by omega),XP]
   intro s hs
   rw [Xl s hs];omega
  ·rw [if_neg hc]
   by_cases he:c=C
   ·subst he;rw [if_pos (by omega)]
   ·rw [if_neg (by omega),XP]
    intro s hs
    rw [Xl s hs];omega
theorem Vh {t:List ColB} {Q:Nat→Nat→List ModF} {R C G P:Nat} (pre:List UInt8) (r:List KeyB) (kind key:Int) {c:Nat} (hc:c < C) (x:Option (List CellB)) {n:Nat} (h:∀ g,g < n+1→∀ i,i < C→ModsOk t (jg R G P g i) (Q g i)) :
  jz pre r kind key c x (jy R C G P (n+1)) (qW Q C (n+1))=jz pre r kind key c (jz pre r kind key c x (jy R C G P n) (qW Q C n)) (jg R G P n c) (Q n c):=by
 rw [QJ,zC,xJ _ _ _ _ _ _ _ _ _ _ (qX (Rw (fun g hg=>h g (by omega)))),El pre r kind key c _ (h n (by omega)),if_pos hc]
theorem XH (pre:List UInt8) (r:List KeyB) (kind key:Int) (s:SpotB) (m:ModF) (cells:List CellB):jz pre r kind key s.c (some cells) [s] [m]=Xa pre r kind key cells s m:=by
 simp only [jz,if_true]
 cases Xa pre r kind key cells s m<;>rfl
theorem YM (pre:List UInt8) (r:List KeyB) (kind key:Int) (c:Nat) (cells:List CellB):∀ (L:List SpotB) (M:List ModF) (x:List CellB),(∀ s ∈ L,s.sort=80)→jz pre r kind key c (some (cells++x)) L M=(jz pre r kind key c (some x) L M).map (cells++·):=by
 intro L
 induction L with
 | nil=>intro M x _;cases M<;>rfl
 | cons s L ih =>
  intro M x h
  cases M with
  | nil=>rfl
  | cons m M =>
   simp only [jz]
   by_cases hc:s.c=c
   ·rw [if_pos hc,if_pos hc]
    have hs:¬ s.sort=77:=by rw [h s (by simp)];decide
    unfold Xa
    simp only [if_neg hs]
    cases QX pre r key s m with
    | none=>simp [xF]
    | some plain =>
     dsimp only
     cases hu:xf kind plain with
     | none=>simp [xF]
     | some l =>
      dsimp only
      by_cases hm:l.length=s.many
      ·rw [if_pos hm,if_pos hm,List.append_assoc];exact ih M _ (fun y hy=>h y (List.mem_cons_of_mem _ hy))
      ·rw [if_neg hm,if_neg hm];simp [xF]
   ·rw [if_neg hc,if_neg hc]
    exact ih M _ (fun y hy=>h y (List.mem_cons_of_mem _ hy))
def qu (R G P g c:Nat):List SpotB:=jr P g c (g*G) (jo R G g) (jZ (jo R G g) P)
def Qv (R G g c:Nat):SpotB:=⟨77,g,c,0,g*G,jo R G g⟩
theorem Ub (R G P g c:Nat):jg R G P g c=qu R G P g c++[Qv R G g c]:=rfl
theorem US (pre:List UInt8) (r:List KeyB) (kind key:Int) {R G P g c:Nat} (cells:List CellB) (hl:cells.length=g*G) (mp:List ModF) (mm:ModF) (hm:mp.length=(qu R G P g c).length) :
  jz pre r kind key c (some cells) (jg R G P g c) (mp++[mm])=(jz pre r kind key c (some []) (qu R G P g c) mp).bind fun part=>if QX pre r key (Qv R G g c) mm=some (JI kind part) then some (cells++part) else none:=by
 rw [Ub,xJ _ _ _ _ _ _ _ _ _ _ hm]
 have h1:=YM pre r kind key c cells (qu R G P g c) mp [] (Xt _ _ _ _ _ _)
 rw [List.append_nil] at h1
 rw [h1]
 cases jz pre r kind key c (some []) (qu R G P g c) mp with
 | none=>simp [xF]
 | some part =>
  simp only [Option.map_some,Option.bind_some]
  have:=XH pre r kind key (Qv R G g c) mm (cells++part)
  rw [show (Qv R G g c).c=c from rfl] at this
  rw [this]
  unfold Xa
  have hd:(cells++part).drop (Qv R G g c).start=part:=by
   show (cells++part).drop (g*G)=part
   rw [← hl,List.drop_left]
  rw [hd]
  cases QX pre r key (Qv R G g c) mm with
  | none=>simp
  | some plain=>simp only [Option.some.injEq,if_pos (show (Qv R G g c).sort=77 from rfl)]
theorem Vb (pre:List UInt8) (r:List KeyB) (kind key:Int) {P g c start n:Nat}:∀ (k:Nat) (mp:List ModF) (part:List CellB),mp.length=k→k*P≤n+P→jz pre r kind key c (some []) (jr P g c start n k) mp=some part→part.length=min (k*P) n:=by
 intro k
 induction k with
 | zero=>intro mp part hl _ h;rw [List.eq_nil_of_length_eq_zero hl] at h;simp [jr,jz] at h;subst h;simp
 | succ k ih =>
  intro mp part hl hk h
  obtain ⟨M0,m,rfl⟩:∃ M0 m,mp=M0++[m]:=by
   have hne:mp≠[]:=by intro e;rw [e] at hl;simp at hl
   exact ⟨mp.dropLast,mp.getLast hne,(List.dropLast_concat_getLast hne).symm⟩
  have hl0:M0.length=k:=by simp at hl;omega
  rw [JK,xJ _ _ _ _ _ _ _ _ _ _ (by rw [hl0];simp [jr])] at h
  rw [Nat.succ_mul] at hk ⊢
  cases hc:jz pre r kind key c (some []) (jr P g c start n k) M0 with
  | none=>rw [hc,xF] at h;cases h
  | some x =>
   rw [hc] at h
   have hx:=ih M0 x hl0 (by omega) hc
   have:=XH pre r kind key ⟨80,g,c,k,start+k*P,jo n P k⟩ m x
   simp only at this
   rw [this] at h
   unfold Xa at h
   simp only [show ¬ ((80:UInt8)=77) from by decide,if_false] at h
   split at h
   ·cases h
   ·split at h
    ·cases h
    ·split at h
     ·rename_i hmany
      cases h
      rw [List.length_append,hx,hmany]
      unfold jo
      omega
     ·cases h
theorem UL {n size:Nat} (hs:1≤size):n≤jZ n size*size∧jZ n size*size≤n+size:=by
 have h1:=(Ju (n:=n) (i:=jZ n size) hs)
 have h2:¬ jZ n size*size < n:=fun h=>by have:=h1.2 h;omega
 refine ⟨by omega,?_⟩
 rcases Nat.eq_zero_or_pos (jZ n size) with h0|h0
 ·rw [h0];omega
 ·have h3:=(Ju (n:=n) (i:=jZ n size - 1) hs).1 (by omega)
  have h4:(jZ n size - 1)*size+size=jZ n size*size:=by rw [← Nat.succ_mul];congr 1;omega
  omega
theorem Ke (pre:List UInt8) (r:List KeyB) (kind key:Int) {R G P g c:Nat} (hP:1≤P) {mp:List ModF} {part:List CellB} (hm:mp.length=(qu R G P g c).length) (h:jz pre r kind key c (some []) (qu R G P g c) mp=some part):part.length=jo R G g:=by
 have hk:mp.length=jZ (jo R G g) P:=by rw [hm];simp [qu,jr]
 have h1:=UL (n:=jo R G g) hP
 have:=Vb pre r kind key _ mp part hk h1.2 h
 omega
theorem Rb {t:List ColB} {Q:Nat→Nat→List ModF} {R C G P:Nat} (pre:List UInt8) (r:List KeyB) (kind key:Int) {c:Nat} (hc:c < C) (hP:1≤P):∀ {n:Nat} {cells:List CellB},(∀ g,g < n→∀ i,i < C→ModsOk t (jg R G P g i) (Q g i))→n*G≤R+G →
  jz pre r kind key c (some []) (jy R C G P n) (qW Q C n)=some cells→cells.length=min (n*G) R:=by
 intro n
 induction n with
 | zero=>intro cells _ _ h;simp [jy,jz] at h;subst h;simp
 | succ n ih =>
  intro cells h hn e
  rw [Vh pre r kind key hc _ h] at e
  rw [Nat.succ_mul] at hn ⊢
  cases hx:jz pre r kind key c (some []) (jy R C G P n) (qW Q C n) with
  | none=>rw [hx,xF] at e;cases e
  | some x =>
   rw [hx] at e
   have hl:=ih (fun g hg=>h g (by omega)) (by omega) hx
   have hq:=qX (h n (by omega) c hc)
   obtain ⟨mp,mm,hmm⟩:∃ mp mm,Q n c=mp++[mm]:=by
    have hne:Q n c≠[]:=by intro e;rw [e] at hq;simp [jg] at hq
    exact ⟨(Q n c).dropLast,(Q n c).getLast hne,(List.dropLast_concat_getLast hne).symm⟩
   have hmp:mp.length=(qu R G P n c).length:=by rw [hmm,Ub] at hq;simpa using hq
   rw [hmm,US pre r kind key x (by omega) mp mm hmp] at e
   cases hp:jz pre r kind key c (some []) (qu R G P n c) mp with
   | none=>rw [hp] at e;simp at e
   | some part =>
    rw [hp] at e
    have hpl:=Ke pre r kind key hP hmp hp
    simp only [Option.bind_some] at e
    split at e
    ·cases e
     rw [List.length_append,hl,hpl]
     unfold jo
     omega
    ·cases e
end
end Go.Proofs.YthhpbhpfagoapaaGreat
