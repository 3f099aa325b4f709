import Derived.Test.YthhpbhpfagoapaaGreatJAO
import Derived.ProofKit
import Derived.OpenShut
import Derived.Deep.Slices
import Derived.Deep.Strs
import Derived.SizedLaws
import Derived.Test.YthhpbhpfagoapaaGreatJAG
import Derived.Test.YthhpbhpfagoapaaGreatJAM
import Derived.Test.YthhpbhpfagoapaaGreatJAL
namespace Go.Proofs.YthhpbhpfagoapaaGreat
set_option linter.unusedVariables false
set_option linter.unusedSimpArgs false
set_option maxRecDepth 100000
set_option maxHeartbeats 16000000
section
open Go.ChangeShapes Go.WideShapes Go.ChangeAt Go.RowKit Go.Deep
theorem lt_of_cell {w:World} {b o:Nat} {v:Value} (h:w.cell? ⟨b,o,none⟩=some v):b < w.heap.size:=by
 rcases Nat.lt_or_ge b w.heap.size with h1|h1
 ·exact h1
 ·simp [World.cell?,Array.getElem?_eq_none h1] at h
theorem wf_range {x:Int} (h:(Lit.int .i64 x).wf=true):-9223372036854775808≤x∧x≤9223372036854775807:=by
 simp [Lit.wf,IntKind.min,IntKind.max,IntKind.signed,IntKind.bits] at h
 exact ⟨by omega,by omega⟩
end
section
def wayN (kind:Int) (k:Nat):Nat:=if kind=0 then k else if k=0 then 5 else k+2
def candB (n:Nat) (v:List CellB):List UInt8:=byB ((n:Int) % 5) :: wayB n v
def bestTo (kind:Int) (v:List CellB):Nat→List UInt8
 | 0=>[]
 | k+1=>if k=0∨(candB (wayN kind k) v).length < (bestTo kind v k).length then candB (wayN kind k) v else bestTo kind v k
def pageB (kind:Int) (l:List CellB):List UInt8:=if valuesB l=[] then headB l else headB l++bestTo kind (valuesB l) 3
theorem wayB_len (n:Nat) (v:List CellB) (h:∀ c ∈ v,smallC c) (hn:v.length≤60):(wayB n v).length≤5000:=by
 have h1:=stepsTo_len n v h hn v.length
 have hd:∀ c ∈ diffB v,smallC c:=fun c hc=>h c (diffTo_mem v v.length (Nat.le_refl _) c hc)
 have hl:(diffB v).length≤60:=Nat.le_trans (diffTo_len v v.length) hn
 have h2:=wordsTo_len (diffB v) hd hl (diffB v).length
 unfold wayB
 rw [List.length_append]
 split<;>simp<;>omega
theorem bestTo_len (kind:Int) (v:List CellB) (h:∀ c ∈ v,smallC c) (hn:v.length≤60) (k:Nat):(bestTo kind v k).length≤5001:=by
 induction k with
 | zero=>simp [bestTo]
 | succ k ih =>
  have:=wayB_len (wayN kind k) v h hn
  simp only [bestTo]
  split
  ·simp only [candB,List.length_cons];omega
  ·exact ih
end
section
open Go.RowKit
def stepG (kind:Int) (e:Nat) (words:List (List UInt8)) (n len:Nat) (last:CellB) (st:Option (List UInt8)):CellB × Nat × Option (List UInt8) :=
 if kind=0∧e=0 then (⟨false,(bR st).1,[]⟩,1,(bR st).2)
 else if kind=0∧e=1 then (⟨false,wrap64 (last.int+zOf (uR st).1),[]⟩,1,(uR st).2)
 else if kind=0∧e=2 then (⟨false,zOf (uR (fewR (n - len) st).2).1,[]⟩,(fewR (n - len) st).1,if (fewR (n - len) st).1=0 then none else (uR (fewR (n - len) st).2).2)
 else if kind=1∧e=0 then (⟨false,0,(xR 12 st).1⟩,1,(xR 12 st).2)
 else if kind=1∧e=3∧words≠[] then (⟨false,0,words.getD (fewR (words.length - 1) st).1 []⟩,1,(fewR (words.length - 1) st).2)
 else if kind=1∧e=4 then (⟨false,0,last.text.take (fewR last.text.length st).1++(xR 12 (fewR last.text.length st).2).1⟩,1,(xR 12 (fewR last.text.length st).2).2)
 else (⟨false,0,[]⟩,1,none)
def guessF (kind:Int) (e:Nat) (words:List (List UInt8)) (n:Nat):Nat→List CellB→CellB→Option (List UInt8)→List CellB × Option (List UInt8)
 | 0,l,_,st=>(l,st)
 | f+1,l,last,st =>
  if l.length < n∧st.isSome=true then
   guessF kind e words n f (l++List.replicate (stepG kind e words n l.length last st).2.1 (stepG kind e words n l.length last st).1) (stepG kind e words n l.length last st).1 (stepG kind e words n l.length last st).2.2
  else (l,st)
def tailB (w:Nat) (v:List CellB):Nat→Nat→List UInt8
 | _,0=>[]
 | i,k+1=>stepB w v i++tailB w v (i+1) k
theorem steps_tail (w:Nat) (v:List CellB):∀ (k i:Nat),stepsTo w v (i+k)=stepsTo w v i++tailB w v i k:=by
 intro k
 induction k with
 | zero=>intro i;simp [tailB]
 | succ k ih =>
  intro i
  rw [show i+(k+1)=(i+1)+k by omega,ih (i+1)]
  simp [stepsTo,tailB]
theorem steps_all (w:Nat) (v:List CellB):stepsTo w v v.length=tailB w v 0 v.length:=by
 have:=steps_tail w v v.length 0
 simpa [stepsTo] using this
theorem guess_one (kind:Int) (e w:Nat) (words:List (List UInt8)) (v:List CellB) (r:List UInt8)
  (hstep:∀ i (h:i < v.length) (rest:List UInt8),stepG kind e words v.length i (prevB v i) (some (stepB w v i++rest))=(v[i],1,some rest)) :
  ∀ (k i:Nat),i+k=v.length→guessF kind e words v.length (k+1) (v.take i) (prevB v i) (some (tailB w v i k++r))=(v,some r):=by
 intro k
 induction k with
 | zero =>
  intro i hi
  have hl:(v.take i).length=v.length:=by rw [List.length_take];omega
  simp only [guessF,tailB,List.nil_append]
  rw [if_neg (by rw [hl];omega)]
  rw [List.take_of_length_le (by omega)]
 | succ k ih =>
  intro i hi
  have hlt:i < v.length:=by omega
  have hl:(v.take i).length=i:=by rw [List.length_take];omega
  rw [guessF,if_pos (by rw [hl];exact ⟨hlt,rfl⟩),hl]
  simp only [tailB,List.append_assoc]
  rw [hstep i hlt (tailB w v (i+1) k++r)]
  have e1:v.take i++List.replicate 1 v[i]=v.take (i+1):=by rw [List.take_succ_eq_append_getElem hlt];rfl
  have e2:v[i]=prevB v (i+1):=by
   unfold prevB
   rw [if_neg (by omega),Nat.add_sub_cancel,nthB_at v i hlt]
  simp only [e1]
  rw [e2]
  exact ih (i+1) (by omega)
def intV (c:CellB):Prop:=c.null=false∧c.text=[]∧-9223372036854775808≤c.int∧c.int≤9223372036854775807
def textV (c:CellB):Prop:=c.null=false∧c.int=0∧c.text.length≤12
theorem intV_eq {c:CellB} (h:intV c):c=⟨false,c.int,[]⟩:=by
 obtain ⟨n,i,t⟩:=c
 obtain ⟨h1,h2,_⟩:=h
 simp at h1 h2
 subst h1 h2
 rfl
theorem textV_eq {c:CellB} (h:textV c):c=⟨false,0,c.text⟩:=by
 obtain ⟨n,i,t⟩:=c
 obtain ⟨h1,h2,_⟩:=h
 simp at h1 h2
 subst h1 h2
 rfl
theorem guess0 (v:List CellB) (r:List UInt8) (hv:∀ c ∈ v,intV c):guessF 0 0 [] v.length (v.length+1) [] cellD (some (tailB 0 v 0 v.length++r))=(v,some r):=by
 have:=guess_one 0 0 0 [] v r (fun i h rest=>by
  have hc:=hv v[i] (List.getElem_mem h)
  have hs:stepB 0 v i=bB (v[i]).int:=by show bB (nthB v i).int=_;rw [nthB_at v i h]
  unfold stepG
  rw [if_pos ⟨rfl,rfl⟩,hs,bR_bB _ rest hc.2.2.1 hc.2.2.2]
  exact Prod.ext (intV_eq hc).symm rfl) v.length 0 (by omega)
 simpa [prevB] using this
theorem wrap_back (a b:Int) (h0:-9223372036854775808≤b) (h1:b≤9223372036854775807):wrap64 (a+wrap64 (b - a))=b:=by
 unfold wrap64;omega
theorem guess1 (v:List CellB) (r:List UInt8) (hv:∀ c ∈ v,intV c):guessF 0 1 [] v.length (v.length+1) [] cellD (some (tailB 1 v 0 v.length++r))=(v,some r):=by
 have:=guess_one 0 1 1 [] v r (fun i h rest=>by
  have hc:=hv v[i] (List.getElem_mem h)
  have hs:stepB 1 v i=zB (wrap64 ((v[i]).int - (prevB v i).int)):=by show zB (wrap64 ((nthB v i).int - (prevB v i).int))=_;rw [nthB_at v i h]
  have hr:=wrap64_range ((v[i]).int - (prevB v i).int)
  unfold stepG
  rw [if_neg (by omega),if_pos ⟨rfl,rfl⟩,hs,uR_zB _ rest hr.1 hr.2,zOf_zN,wrap_back _ _ hc.2.2.1 hc.2.2.2]
  exact Prod.ext (intV_eq hc).symm rfl) v.length 0 (by omega)
 simpa [prevB] using this
theorem guess5 (v:List CellB) (r:List UInt8) (hv:∀ c ∈ v,textV c):guessF 1 0 [] v.length (v.length+1) [] cellD (some (tailB 5 v 0 v.length++r))=(v,some r):=by
 have:=guess_one 1 0 5 [] v r (fun i h rest=>by
  have hc:=hv v[i] (List.getElem_mem h)
  have hs:stepB 5 v i=xB (v[i]).text:=by show xB (nthB v i).text=_;rw [nthB_at v i h]
  unfold stepG
  rw [if_neg (by omega),if_neg (by omega),if_neg (by omega),if_pos ⟨rfl,rfl⟩,hs,xR_xB 12 _ rest hc.2.2 (by omega)]
  exact Prod.ext (textV_eq hc).symm rfl) v.length 0 (by omega)
 simpa [prevB] using this
theorem take_shared (s t:List UInt8):t.take (sharedB s t)++s.drop (sharedB s t)=s:=by
 have h:=sharedB_le s t
 have e:t.take (sharedB s t)=s.take (sharedB s t):=by
  apply List.ext_getElem
  ·rw [List.length_take,List.length_take];omega
  ·intro i h1 h2
   rw [List.length_take] at h1
   simp only [List.getElem_take]
   exact (sharedB_lt s t i (by omega) (by omega) (by omega)).symm
 rw [e,List.take_append_drop]
theorem guess4 (v:List CellB) (r:List UInt8) (hv:∀ c ∈ v,textV c):guessF 1 4 [] v.length (v.length+1) [] cellD (some (tailB 4 v 0 v.length++r))=(v,some r):=by
 have:=guess_one 1 4 4 [] v r (fun i h rest=>by
  have hc:=hv v[i] (List.getElem_mem h)
  have hp:(prevB v i).text.length≤12:=by
   unfold prevB;split
   ·decide
   ·rw [nthB_at v (i - 1) (by omega)];exact (hv _ (List.getElem_mem _)).2.2
  have hs:stepB 4 v i=uB (sharedB (v[i]).text (prevB v i).text)++xB ((v[i]).text.drop (sharedB (v[i]).text (prevB v i).text)):=by simp only [stepB,nthB_at v i h]
  have hle:=sharedB_le (v[i]).text (prevB v i).text
  unfold stepG
  rw [if_neg (by omega),if_neg (by omega),if_neg (by omega),if_neg (by omega),if_neg (by omega),if_pos ⟨rfl,rfl⟩,hs,List.append_assoc,
   fewR_uB _ _ _ hle.2 (by omega),xR_xB 12 _ rest (by rw [List.length_drop];have:=hc.2.2;omega) (by omega),take_shared]
  exact Prod.ext (textV_eq hc).symm rfl) v.length 0 (by omega)
 simpa [prevB] using this
end
section
open Go.RowKit
def wordsR:Nat→Option (List UInt8)→List (List UInt8) × Option (List UInt8)
 | 0,st=>([],st)
 | k+1,st=>((xR 12 st).1 :: (wordsR k (xR 12 st).2).1,(wordsR k (xR 12 st).2).2)
def xsB (d:List CellB):List UInt8:=d.flatMap fun c=>xB c.text
theorem words_all (d:List CellB):∀ k,k≤d.length→wordsTo d k=uB d.length++xsB (d.take k):=by
 intro k
 induction k with
 | zero=>intro _;simp [wordsTo,xsB]
 | succ k ih =>
  intro h
  rw [wordsTo,ih (by omega),nthB_at d k (by omega),List.take_succ_eq_append_getElem (by omega)]
  simp only [xsB,List.flatMap_append,List.flatMap_cons,List.flatMap_nil,List.append_nil,List.append_assoc]
theorem wordsR_back (d:List CellB) (r:List UInt8) (h:∀ c ∈ d,c.text.length≤12):wordsR d.length (some (xsB d++r))=(d.map (·.text),some r):=by
 induction d with
 | nil=>rfl
 | cons c d ih =>
  have e:xsB (c :: d)++r=xB c.text++(xsB d++r):=by simp [xsB]
  rw [e]
  simp only [List.length_cons,wordsR]
  rw [xR_xB 12 c.text (xsB d++r) (h c (by simp)) (by omega)]
  simp only
  rw [ih (fun x hx=>h x (by simp [hx]))]
  rfl
theorem guess3 (v:List CellB) (r:List UInt8) (hv:∀ c ∈ v,textV c) (hn:v.length≤60):guessF 1 3 ((diffB v).map (·.text)) v.length (v.length+1) [] cellD (some (tailB 3 v 0 v.length++r))=(v,some r):=by
 have:=guess_one 1 3 3 ((diffB v).map (·.text)) v r (fun i h rest=>by
  have hc:=hv v[i] (List.getElem_mem h)
  have hs:stepB 3 v i=uB (firstB (diffB v) (v[i]).text):=by show uB (firstB (diffB v) (nthB v i).text)=_;rw [nthB_at v i h]
  obtain ⟨h1,h2⟩:=firstB_at (diffB v) (v[i]).text (diffB_has v i h)
  have hdl:=diffTo_len v v.length
  have hd2:(diffB v).length≤v.length:=hdl
  have hne:(diffB v).map (·.text)≠[]:=by
   intro e0
   have:=congrArg List.length e0
   simp at this
   rw [this] at h1
   simp at h1
  have hlm:((diffB v).map (·.text)).length=(diffB v).length:=by simp
  unfold stepG
  rw [if_neg (by omega),if_neg (by omega),if_neg (by omega),if_neg (by omega),if_pos ⟨rfl,rfl,hne⟩,hs,hlm,fewR_uB _ _ rest (by omega) (by omega)]
  have eg:((diffB v).map (·.text)).getD (firstB (diffB v) (v[i]).text) []=(v[i]).text:=by
   simp only [List.getD,List.getElem?_map,List.getElem?_eq_getElem h1,Option.map_some,Option.getD_some]
   exact h2
  rw [eg]
  exact Prod.ext (textV_eq hc).symm rfl) v.length 0 (by omega)
 simpa [prevB] using this
theorem tail_skip (w:Nat) (v:List CellB):∀ (q a k:Nat),q≤k→(∀ j,j < q→stepB w v (a+j)=[])→tailB w v a k=tailB w v (a+q) (k - q):=by
 intro q
 induction q with
 | zero=>intro a k _ _;rfl
 | succ q ih =>
  intro a k hk h
  obtain ⟨k',rfl⟩:∃ k',k=k'+1:=⟨k - 1,by omega⟩
  have h0:=h 0 (by omega)
  simp only [Nat.add_zero] at h0
  simp only [tailB]
  rw [h0,List.nil_append,ih (a+1) k' (by omega) (fun j hj=>by have:=h (j+1) (by omega);rwa [show a+(j+1)=a+1+j by omega] at this)]
  congr 1<;>omega
theorem guess2 (v:List CellB) (r:List UInt8) (hv:∀ c ∈ v,intV c) (hn:v.length≤60) :
  ∀ (k i f:Nat) (last:CellB),i+k=v.length→k < f→(k=0∨i=0∨(nthB v i).int≠(prevB v i).int)→guessF 0 2 [] v.length f (v.take i) last (some (tailB 2 v i k++r))=(v,some r):=by
 intro k
 induction k using Nat.strongRecOn with
 | _ k ih =>
  intro i f last hi hf hrun
  obtain ⟨f',rfl⟩:∃ f',f=f'+1:=⟨f - 1,by omega⟩
  have hl:(v.take i).length=i:=by rw [List.length_take];omega
  by_cases hk:k=0
  ·subst hk
   rw [guessF,if_neg (by rw [hl];omega),tailB,List.nil_append,List.take_of_length_le (by omega)]
  ·have hlt:i < v.length:=by omega
   have hc:=hv v[i] (List.getElem_mem hlt)
   have hrow:=rowI_le (v[i]).int (v.drop (i+1))
   rw [List.length_drop] at hrow
   have hin:∀ j,j < rowI (v[i]).int (v.drop (i+1))→∃ h:i+1+j < v.length,v[i+1+j]=v[i]:=by
    intro j hj
    obtain ⟨h1,h2⟩:=rowI_lt (v[i]).int (v.drop (i+1)) j hj
    rw [List.length_drop] at h1
    refine ⟨by omega,?_⟩
    rw [List.getElem_drop] at h2
    rw [intV_eq (hv v[i+1+j] (List.getElem_mem _)),intV_eq hc,h2]
   have hend:∀ h:i+1+rowI (v[i]).int (v.drop (i+1)) < v.length,(v[i+1+rowI (v[i]).int (v.drop (i+1))]).int≠(v[i]).int:=by
    intro h
    have:=rowI_end (v[i]).int (v.drop (i+1)) (by rw [List.length_drop];omega)
    rw [List.getElem_drop] at this
    exact this
   have hs:stepB 2 v i=uB (rowI (v[i]).int (v.drop (i+1))+1)++zB (v[i]).int:=by
    simp only [stepB,nthB_at v i hlt]
    rw [if_pos]
    rcases hrun with h|h|h
    ·exact absurd h hk
    ·exact .inl h
    ·rw [nthB_at v i hlt] at h;exact .inr h
   generalize rowI (v[i]).int (v.drop (i+1))=q at *
   have hskip:tailB 2 v (i+1) (k - 1)=tailB 2 v (i+1+q) (k - 1 - q):=tail_skip 2 v q (i+1) (k - 1) (by omega) (fun j hj=>by
    obtain ⟨h1,h2⟩:=hin j hj
    simp only [stepB,nthB_at v (i+1+j) h1,prevB]
    rw [if_neg (by omega:¬ (i+1+j=0)),nthB_at v (i+1+j - 1) (by omega)]
    have hp:v[i+1+j - 1]=v[i]:=by
     cases j with
     | zero=>rfl
     | succ j =>
      obtain ⟨h3,h4⟩:=hin j (by omega)
      rw [← h4]
      congr 1
    rw [hp,h2]
    rw [if_neg (fun h=>h.elim (fun h=>by omega) (fun h=>h rfl))])
   obtain ⟨k',rfl⟩:∃ k',k=k'+1:=⟨k - 1,by omega⟩
   simp only [Nat.add_sub_cancel] at hskip
   rw [guessF,if_pos (by rw [hl];exact ⟨hlt,rfl⟩),hl]
   simp only [tailB,hs,hskip,List.append_assoc]
   have hstep:stepG 0 2 [] v.length i last (some (uB (q+1)++(zB (v[i]).int++(tailB 2 v (i+1+q) (k' - q)++r))))=(v[i],q+1,some (tailB 2 v (i+1+q) (k' - q)++r)):=by
    unfold stepG
    rw [if_neg (by omega),if_neg (by omega),if_pos ⟨rfl,rfl⟩,fewR_uB _ _ _ (by omega) (by omega),uR_zB _ _ hc.2.2.1 hc.2.2.2]
    simp only [zOf_zN]
    rw [if_neg (by omega)]
    exact Prod.ext (intV_eq hc).symm rfl
   rw [hstep]
   have e1:v.take i++List.replicate (q+1) v[i]=v.take (i+1+q):=by
    apply List.ext_getElem
    ·simp only [List.length_append,List.length_take,List.length_replicate];omega
    ·intro j h1 h2
     rw [List.getElem_take]
     by_cases hj:j < i
     ·rw [List.getElem_append_left (by rw [hl];exact hj),List.getElem_take]
     ·rw [List.getElem_append_right (by rw [hl];omega),List.getElem_replicate]
      by_cases hji:j=i
      ·subst hji;rfl
      ·obtain ⟨h3,h4⟩:=hin (j - i - 1) (by rw [List.length_take] at h2;omega)
       rw [← h4]
       congr 1
       omega
   simp only [e1]
   refine ih (k' - q) (by omega) (i+1+q) f' v[i] (by omega) (by omega) ?_
   by_cases hz:k' - q=0
   ·exact .inl hz
   ·right;right
    have h5:i+1+q < v.length:=by omega
    rw [nthB_at v (i+1+q) h5]
    unfold prevB
    rw [if_neg (by omega),nthB_at v (i+1+q - 1) (by omega)]
    have hp:v[i+1+q - 1]=v[i]:=by
     cases q with
     | zero=>rfl
     | succ q =>
      obtain ⟨h3,h4⟩:=hin q (by omega)
      rw [← h4]
      congr 1
    rw [hp]
    exact hend h5
end
section
open Go.RowKit
def guessR (kind:Int) (n:Nat) (st:Option (List UInt8)):List CellB × Option (List UInt8) :=
 match takeP 1 st with
 | (c :: _,some r) =>
  if kind=1∧c.toNat=3 then guessF kind 3 (wordsR (fewR 60 (some r)).1 (fewR 60 (some r)).2).1 n (n+1) [] cellD (wordsR (fewR 60 (some r)).1 (fewR 60 (some r)).2).2
  else guessF kind c.toNat [] n (n+1) [] cellD (some r)
 | _=>([],none)
theorem guessR_cons (kind:Int) (n:Nat) (c:UInt8) (r:List UInt8):guessR kind n (some (c :: r)) =
  if kind=1∧c.toNat=3 then guessF kind 3 (wordsR (fewR 60 (some r)).1 (fewR 60 (some r)).2).1 n (n+1) [] cellD (wordsR (fewR 60 (some r)).1 (fewR 60 (some r)).2).2
  else guessF kind c.toNat [] n (n+1) [] cellD (some r):=by
 simp only [guessR,takeP_cons]
theorem guess_back (kind:Int) (v:List CellB) (r:List UInt8) (j:Nat) (hj:j < 3) (hk:kind=0∨kind=1) (hn:v.length≤60) (h0:kind=0→∀ c ∈ v,intV c) (h1:kind=1→∀ c ∈ v,textV c) :
  guessR kind v.length (some (candB (wayN kind j) v++r))=(v,some r):=by
 rcases hk with rfl|rfl
 ·have hv:=h0 rfl
  have hw:wayN 0 j=j:=rfl
  rw [hw]
  have e5:((j:Int) % 5)=(j:Int):=by omega
  show guessR 0 v.length (some (byB ((j:Int) % 5) :: (wayB j v++r)))=_
  rw [guessR_cons,e5,byB_nat j (by omega),if_neg (by omega)]
  have hww:wayB j v=tailB j v 0 v.length:=by unfold wayB;rw [if_neg (by omega),List.nil_append,steps_all]
  rw [hww]
  match j,hj with
  | 0,_=>exact guess0 v r hv
  | 1,_=>exact guess1 v r hv
  | 2,_ =>
   have:=guess2 v r hv hn v.length 0 (v.length+1) cellD (by omega) (by omega) (.inr (.inl rfl))
   simpa using this
 ·have hv:=h1 rfl
  match j,hj with
  | 0,_ =>
   show guessR 1 v.length (some (byB 0 :: (wayB 5 v++r)))=_
   rw [guessR_cons,show (byB 0).toNat=0 from rfl,if_neg (by omega)]
   have hww:wayB 5 v=tailB 5 v 0 v.length:=by unfold wayB;rw [if_neg (by omega),List.nil_append,steps_all]
   rw [hww]
   exact guess5 v r hv
  | 1,_ =>
   show guessR 1 v.length (some (byB 3 :: (wayB 3 v++r)))=_
   rw [guessR_cons,show (byB 3).toNat=3 from rfl,if_pos ⟨rfl,rfl⟩]
   have hd:(diffB v).length≤60:=Nat.le_trans (diffTo_len v v.length) hn
   have hww:wayB 3 v++r=uB (diffB v).length++(xsB (diffB v)++(tailB 3 v 0 v.length++r)):=by
    unfold wayB
    rw [if_pos rfl,words_all (diffB v) (diffB v).length (Nat.le_refl _),List.take_length,steps_all]
    simp only [List.append_assoc]
   rw [hww,fewR_uB 60 _ _ hd (by omega)]
   simp only
   rw [wordsR_back (diffB v) _ (fun c hc=>(hv c (diffTo_mem v v.length (Nat.le_refl _) c hc)).2.2)]
   exact guess3 v r hv hn
  | 2,_ =>
   show guessR 1 v.length (some (byB 4 :: (wayB 4 v++r)))=_
   rw [guessR_cons,show (byB 4).toNat=4 from rfl,if_neg (by omega)]
   have hww:wayB 4 v=tailB 4 v 0 v.length:=by unfold wayB;rw [if_neg (by omega),List.nil_append,steps_all]
   rw [hww]
   exact guess4 v r hv
theorem best_is (kind:Int) (v:List CellB):∃ j,j < 3∧bestTo kind v 3=candB (wayN kind j) v:=by
 have h1:bestTo kind v 1=candB (wayN kind 0) v:=by simp [bestTo]
 have h2:bestTo kind v 2=candB (wayN kind 1) v∨bestTo kind v 2=candB (wayN kind 0) v:=by
  show (if 1=0∨_ then _ else _)=_∨(if 1=0∨_ then _ else _)=_
  split
  ·exact .inl rfl
  ·exact .inr h1
 have h3:bestTo kind v 3=candB (wayN kind 2) v∨bestTo kind v 3=bestTo kind v 2:=by
  show (if 2=0∨_ then _ else _)=_∨(if 2=0∨_ then _ else _)=_
  split
  ·exact .inl rfl
  ·exact .inr rfl
 rcases h3 with h|h
 ·exact ⟨2,by omega,h⟩
 ·rcases h2 with h'|h'
  ·exact ⟨1,by omega,by rw [h,h']⟩
  ·exact ⟨0,by omega,by rw [h,h']⟩
def runsF (n:Nat):Nat→List Bool→Bool→Option (List UInt8)→List Bool × Option (List UInt8)
 | 0,l,_,st=>(l,st)
 | f+1,l,b,st=>if l.length < n∧st.isSome=true then runsF n f (l++List.replicate (fewR (n - l.length) st).1 b) (!b) (fewR (n - l.length) st).2 else (l,st)
theorem row_flags (b:Bool) (l:List CellB):(l.take (rowB b l)).map (·.null)=List.replicate (rowB b l) b:=by
 apply List.ext_getElem
 ·simp only [List.length_map,List.length_take,List.length_replicate]
  have:=rowB_le b l
  omega
 ·intro i h1 h2
  simp only [List.length_replicate] at h2
  obtain ⟨h3,h4⟩:=rowB_lt b l i h2
  simp only [List.getElem_map,List.getElem_take,List.getElem_replicate]
  exact h4
theorem row_other (b:Bool) (l:List CellB) (h:rowB b l=0) (hl:l≠[]):rowB (!b) l≠0:=by
 cases l with
 | nil=>exact absurd rfl hl
 | cons c l =>
  simp only [rowB] at h ⊢
  have hc:¬ c.null=b:=by intro e;simp [e] at h
  have hc2:c.null=!b:=by cases hn:c.null<;>cases b<;>simp_all
  simp [hc2]
theorem runs_back (n:Nat) (hn:n≤60) (r:List UInt8):∀ (f:Nat) (l:List CellB) (b:Bool) (pre:List Bool),pre.length+l.length=n→2*l.length+(if rowB b l=0 then 1 else 0) < f →
  runsF n f pre b (some (restRuns b l++r))=(pre++l.map (·.null),some r):=by
 intro f
 induction f with
 | zero=>intro l b pre _ h;omega
 | succ f ih =>
  intro l b pre hp hf
  by_cases hl:l=[]
  ·subst hl
   simp only [List.length_nil,Nat.add_zero] at hp
   rw [runsF,if_neg (by omega)]
   simp [restRuns]
  ·have hpos:0 < l.length:=by cases l with|nil=>exact absurd rfl hl|cons c l=>simp
   have hrow:=rowB_le b l
   rw [runsF,if_pos ⟨by omega,rfl⟩,restRuns_step b l hl,List.append_assoc,fewR_uB _ _ _ (by omega) (by omega)]
   simp only
   have e:pre++l.map (·.null)=(pre++List.replicate (rowB b l) b)++(l.drop (rowB b l)).map (·.null):=by
    rw [List.append_assoc,← row_flags b l,← List.map_append,List.take_append_drop]
   rw [e]
   refine ih (l.drop (rowB b l)) (!b) _ ?_ ?_
   ·simp only [List.length_append,List.length_replicate,List.length_drop];omega
   ·rw [List.length_drop]
    by_cases h0:rowB b l=0
    ·rw [h0,List.drop_zero,if_neg (row_other b l h0 hl)]
     rw [if_pos h0] at hf
     omega
    ·rw [if_neg h0] at hf
     split<;>omega
def fillB:List Bool→List CellB→List CellB
 | [],_=>[]
 | true :: l,v=>⟨true,0,[]⟩ :: fillB l v
 | false :: l,c :: v=>c :: fillB l v
 | false :: l,[]=>⟨false,0,[]⟩ :: fillB l []
theorem fill_back (l:List CellB) (h:∀ c ∈ l,c.null=true→c=⟨true,0,[]⟩):fillB (l.map (·.null)) (valuesB l)=l:=by
 induction l with
 | nil=>rfl
 | cons c l ih =>
  have ih':=ih (fun x hx=>h x (by simp [hx]))
  cases hc:c.null with
  | true =>
   have e:=h c (by simp) hc
   have ev:valuesB (c :: l)=valuesB l:=by simp [valuesB,hc]
   simp only [List.map_cons,hc,ev,fillB]
   rw [ih',← e]
  | false =>
   have ev:valuesB (c :: l)=c :: valuesB l:=by simp [valuesB,hc]
   simp only [List.map_cons,hc,ev,fillB]
   rw [ih']
def countB (l:List Bool):Nat:=(l.filter fun b=>!b).length
theorem count_values (l:List CellB):countB (l.map (·.null))=(valuesB l).length:=by
 unfold countB valuesB
 rw [List.filter_map,List.length_map]
 rfl
def cellsR (kind:Int) (page:List UInt8):Option (List CellB) :=
 if (runsF (fewR 60 (some page)).1 200 [] false (fewR 60 (some page)).2).2=none∨(runsF (fewR 60 (some page)).1 200 [] false (fewR 60 (some page)).2).1.length≠(fewR 60 (some page)).1 then none
 else if countB (runsF (fewR 60 (some page)).1 200 [] false (fewR 60 (some page)).2).1=0 then some (fillB (runsF (fewR 60 (some page)).1 200 [] false (fewR 60 (some page)).2).1 [])
 else if (guessR kind (countB (runsF (fewR 60 (some page)).1 200 [] false (fewR 60 (some page)).2).1) (runsF (fewR 60 (some page)).1 200 [] false (fewR 60 (some page)).2).2).2=none ∨
   (guessR kind (countB (runsF (fewR 60 (some page)).1 200 [] false (fewR 60 (some page)).2).1) (runsF (fewR 60 (some page)).1 200 [] false (fewR 60 (some page)).2).2).1.length≠countB (runsF (fewR 60 (some page)).1 200 [] false (fewR 60 (some page)).2).1 then none
 else some (fillB (runsF (fewR 60 (some page)).1 200 [] false (fewR 60 (some page)).2).1 (guessR kind (countB (runsF (fewR 60 (some page)).1 200 [] false (fewR 60 (some page)).2).1) (runsF (fewR 60 (some page)).1 200 [] false (fewR 60 (some page)).2).2).1)
theorem fits_int {c:CellB} (h:fitsB 0 c=true) (hn:c.null=false) (hr:-9223372036854775808≤c.int∧c.int≤9223372036854775807):intV c:=by
 unfold fitsB at h
 rw [hn] at h
 simp at h
 exact ⟨hn,h,hr.1,hr.2⟩
theorem fits_text {c:CellB} (h:fitsB 1 c=true) (hn:c.null=false):textV c:=by
 unfold fitsB at h
 rw [hn] at h
 simp at h
 exact ⟨hn,h.1,h.2⟩
theorem fits_null {kind:Int} {c:CellB} (h:fitsB kind c=true) (hn:c.null=true):c=⟨true,0,[]⟩:=by
 unfold fitsB at h
 rw [if_pos hn] at h
 obtain ⟨n,i,t⟩:=c
 simp at h hn
 obtain ⟨h1,h2⟩:=h
 subst h1 h2 hn
 rfl
theorem cells_back (kind:Int) (l:List CellB) (rest:List UInt8) (hok:cellsOkB kind l=true) (hr:∀ c ∈ l,-9223372036854775808≤c.int∧c.int≤9223372036854775807):cellsR kind (pageB kind l++rest)=some l:=by
 unfold cellsOkB at hok
 simp only [Bool.and_eq_true,Bool.or_eq_true,decide_eq_true_eq,List.all_eq_true] at hok
 obtain ⟨⟨hk,hn⟩,hf⟩:=hok
 have hnull:∀ c ∈ l,c.null=true→c=⟨true,0,[]⟩:=fun c hc h=>fits_null (hf c hc) h
 have hfill:=fill_back l hnull
 have hmem:∀ c ∈ valuesB l,c ∈ l∧c.null=false:=fun c hc=>by
  have:=List.mem_filter.1 hc
  exact ⟨this.1,by simpa using this.2⟩
 have hvl:(valuesB l).length≤l.length:=List.length_filter_le _ _
 have hhead:∀ rest:List UInt8,fewR 60 (some (headB l++rest))=(l.length,some (restRuns false l++rest)):=by
  intro rest
  unfold headB
  rw [List.append_assoc]
  exact fewR_uB 60 l.length _ hn (by omega)
 have hruns:∀ rest:List UInt8,runsF l.length 200 [] false (some (restRuns false l++rest))=(l.map (·.null),some rest):=by
  intro rest
  have:=runs_back l.length hn rest 200 l false [] (by simp) (by split<;>omega)
  simpa using this
 by_cases hv:valuesB l=[]
 ·have hp:pageB kind l=headB l:=by unfold pageB;rw [if_pos hv]
  unfold cellsR
  rw [hp,hhead rest]
  simp only
  rw [hruns rest]
  simp only
  rw [if_neg (by simp),count_values,hv,if_pos (show ([]:List CellB).length=0 from rfl)]
  rw [hv] at hfill
  rw [hfill]
 ·have hp:pageB kind l=headB l++bestTo kind (valuesB l) 3:=by unfold pageB;rw [if_neg hv]
  obtain ⟨j,hj,hb⟩:=best_is kind (valuesB l)
  have hg:=guess_back kind (valuesB l) rest j hj hk (by omega) (fun h c hc=>by subst h;exact fits_int (hf c (hmem c hc).1) (hmem c hc).2 (hr c (hmem c hc).1)) (fun h c hc=>by subst h;exact fits_text (hf c (hmem c hc).1) (hmem c hc).2)
  rw [← hb] at hg
  have hpos:(valuesB l).length≠0:=fun h=>hv (List.eq_nil_of_length_eq_zero h)
  unfold cellsR
  rw [hp,List.append_assoc,hhead]
  simp only
  rw [hruns]
  simp only
  rw [if_neg (by simp),count_values,if_neg hpos,hg]
  simp only
  rw [if_neg (by simp),hfill]
def rangeC (c:CellB):Prop:=-9223372036854775808≤c.int∧c.int≤9223372036854775807
theorem zOf_range (k:Nat) (hk:k < 18446744073709551616):-9223372036854775808≤zOf k∧zOf k≤9223372036854775807:=by
 unfold zOf;split<;>omega
theorem stepG_range (kind:Int) (e:Nat) (words:List (List UInt8)) (n len:Nat) (last:CellB) (st:Option (List UInt8)):rangeC (stepG kind e words n len last st).1:=by
 unfold stepG
 split
 ·exact wrap64_range (lowN (takeP 8 st).1:Int)
 split
 ·exact wrap64_range (last.int+zOf (uR st).1)
 split
 ·exact zOf_range _ (uR_lt _)
 split
 ·exact ⟨(by decide:(-9223372036854775808:Int)≤0),(by decide:(0:Int)≤9223372036854775807)⟩
 split
 ·exact ⟨(by decide:(-9223372036854775808:Int)≤0),(by decide:(0:Int)≤9223372036854775807)⟩
 split
 ·exact ⟨(by decide:(-9223372036854775808:Int)≤0),(by decide:(0:Int)≤9223372036854775807)⟩
 ·exact ⟨(by decide:(-9223372036854775808:Int)≤0),(by decide:(0:Int)≤9223372036854775807)⟩
theorem guessF_range (kind:Int) (e:Nat) (words:List (List UInt8)) (n:Nat):∀ (f:Nat) (l:List CellB) (last:CellB) (st:Option (List UInt8)),(∀ c ∈ l,rangeC c)→∀ c ∈ (guessF kind e words n f l last st).1,rangeC c:=by
 intro f
 induction f with
 | zero=>intro l last st h;exact h
 | succ f ih =>
  intro l last st h
  rw [guessF]
  split
  ·refine ih _ _ _ (fun c hc=>?_)
   rcases List.mem_append.1 hc with hc|hc
   ·exact h c hc
   ·rw [(List.mem_replicate.1 hc).2]
    exact stepG_range _ _ _ _ _ _ _
  ·exact h
theorem guessR_range (kind:Int) (n:Nat) (st:Option (List UInt8)):∀ c ∈ (guessR kind n st).1,rangeC c:=by
 unfold guessR
 split
 ·split
  ·exact guessF_range _ _ _ _ _ _ _ _ (by simp)
  ·exact guessF_range _ _ _ _ _ _ _ _ (by simp)
 ·simp
theorem fillB_range:∀ (l:List Bool) (v:List CellB),(∀ c ∈ v,rangeC c)→∀ c ∈ fillB l v,rangeC c:=by
 intro l
 induction l with
 | nil=>intro v h c hc;simp [fillB] at hc
 | cons b l ih =>
  intro v h c hc
  have h0:rangeC ⟨true,0,[]⟩:=⟨by decide,by decide⟩
  have h1:rangeC ⟨false,0,[]⟩:=⟨by decide,by decide⟩
  cases b with
  | true =>
   simp only [fillB,List.mem_cons] at hc
   rcases hc with rfl|hc
   ·exact h0
   ·exact ih v h c hc
  | false =>
   cases v with
   | nil =>
    simp only [fillB,List.mem_cons] at hc
    rcases hc with rfl|hc
    ·exact h1
    ·exact ih [] h c hc
   | cons d v =>
    simp only [fillB,List.mem_cons] at hc
    rcases hc with rfl|hc
    ·exact h c (by simp)
    ·exact ih v (fun x hx=>h x (by simp [hx])) c hc
theorem cellsR_range {kind:Int} {page:List UInt8} {l:List CellB} (h:cellsR kind page=some l):∀ c ∈ l,rangeC c:=by
 unfold cellsR at h
 split at h
 ·cases h
 ·split at h
  ·cases h;exact fillB_range _ _ (by simp)
  ·split at h
   ·cases h
   ·cases h;exact fillB_range _ _ (guessR_range _ _ _)
def unpageB (kind:Int) (page:List UInt8):Option (List CellB) :=
 match cellsR kind page with
 | none=>none
 | some l=>if cellsOkB kind l=true∧pageB kind l=page then some l else none
theorem unpage_some {kind:Int} {page:List UInt8} {l:List CellB} (h:unpageB kind page=some l):cellsOkB kind l=true∧pageB kind l=page∧∀ c ∈ l,rangeC c:=by
 unfold unpageB at h
 split at h
 ·cases h
 ·rename_i l' hl
  split at h
  ·rename_i hc
   cases h
   exact ⟨hc.1,hc.2,cellsR_range hl⟩
  ·cases h
theorem unpage_page (kind:Int) (l:List CellB) (hok:cellsOkB kind l=true) (hr:∀ c ∈ l,rangeC c):unpageB kind (pageB kind l)=some l:=by
 have:=cells_back kind l [] hok hr
 rw [List.append_nil] at this
 unfold unpageB
 rw [this]
 exact if_pos ⟨hok,rfl⟩
end
section
structure ColB where
 name:List UInt8
 kind:Int
 key:Int
 cells:List CellB
structure KeyB where
 number:Int
 secret:List UInt8
structure PlanB where
 group:Int
 page:Int
 foot:Int
 told:Bool
structure JobB where
 table:List ColB
 plan:PlanB
 pre:List UInt8
 draw:Int
structure SealB where
 secret:List UInt8
 nonce:List UInt8
 extra:List UInt8
 body:List UInt8
def nameOkB (s:List UInt8):Bool:=s.all (fun b=>decide (97≤b.toNat) && decide (b.toNat≤122)) && (decide (1≤s.length) && decide (s.length≤8))
def headOkB (c:ColB):Bool:=nameOkB c.name && ((decide (0≤c.kind) && decide (c.kind≤1)) && (decide (0≤c.key) && decide (c.key≤9)))
def hasNameB (t:List ColB) (s:List UInt8):Bool:=t.any fun c=>c.name == s
def headsTo (t:List ColB):Nat→Bool
 | 0=>true
 | k+1=>headsTo t k && (match t[k]? with|some c=>headOkB c && !hasNameB (t.take k) c.name|none=>true)
def headsOkB (t:List ColB):Bool:=headsTo t t.length && (decide (1≤t.length) && decide (t.length≤6))
def rowsB:List ColB→Nat
 | []=>0
 | c :: _=>c.cells.length
def tableOkB (t:List ColB):Bool:=headsOkB t && t.all fun c=>cellsOkB c.kind c.cells && decide (c.cells.length=rowsB t)
def planOkB (p:PlanB):Bool:=(decide (1≤p.group) && decide (p.group≤60)) && ((decide (1≤p.page) && decide (p.page≤60)) && (decide (1≤p.foot) && decide (p.foot≤9)))
def hasNumB (r:List KeyB) (n:Int):Bool:=r.any fun k=>decide (k.number=n)
def keyOkB (k:KeyB):Bool:=(decide (1≤k.number) && decide (k.number≤9)) && decide (k.secret.length=8)
def ringTo (r:List KeyB):Nat→Bool
 | 0=>true
 | k+1=>ringTo r k && (match r[k]? with|some c=>keyOkB c && !hasNumB (r.take k) c.number|none=>true)
def ringOkB (r:List KeyB):Bool:=ringTo r r.length
def findB (r:List KeyB) (n:Int):Option (List UInt8):=(r.find? fun k=>decide (k.number=n)).map (·.secret)
def secretB (r:List KeyB) (n:Int):List UInt8:=(findB r n).getD []
def missesB (j:JobB) (r:List KeyB):Bool:=!hasNumB r j.plan.foot || j.table.any fun c=>decide (0 < c.key) && !hasNumB r c.key
def jobErrB (j:JobB) (r:List KeyB):Int :=
 if tableOkB j.table=false then 5
 else if (planOkB j.plan && (decide (j.pre.length≤20) && (decide (0≤j.draw) && decide (j.draw≤65535))))=false then 7
 else if ringOkB r=false then 1
 else if missesB j r=true then 8 else 0
def boundB (pre:List UInt8) (sort:UInt8) (g c p:Nat):List UInt8:=xB pre++[sort]++twoB (g:Int)++twoB (c:Int)++twoB (p:Int)
def partN (n size i:Nat):Nat:=min size (n - i*size)
def cntN (n size:Nat):Nat:=(n+size - 1) / size
structure SpotB where
 sort:UInt8
 g:Nat
 c:Nat
 p:Nat
 start:Nat
 many:Nat
def pageSpots (P g c start n:Nat) (k:Nat):List SpotB:=(List.range k).map fun p=>⟨80,g,c,p,start+p*P,partN n P p⟩
def chunkSpots (R G P g c:Nat):List SpotB:=pageSpots P g c (g*G) (partN R G g) (cntN (partN R G g) P)++[⟨77,g,c,0,g*G,partN R G g⟩]
def groupSpots (R G P g C:Nat):List SpotB:=(List.range C).flatMap fun c=>chunkSpots R G P g c
def spotsTo (R C G P n:Nat):List SpotB:=(List.range n).flatMap fun g=>groupSpots R G P g C
def spotsB (R C G P:Nat):List SpotB:=spotsTo R C G P (cntN R G)
def leastB (l:List CellB):Int→Int:=fun x=>l.foldl (fun m c=>if c.int < m then c.int else m) x
def mostB (l:List CellB):Int→Int:=fun x=>l.foldl (fun m c=>if m < c.int then c.int else m) x
def firstInt:List CellB→Int
 | []=>0
 | c :: _=>c.int
def metaB (kind:Int) (l:List CellB):List UInt8 :=
 uB (l.length - (valuesB l).length)++if kind=0∧valuesB l≠[] then [1]++zB (leastB (valuesB l) (firstInt (valuesB l)))++zB (mostB (valuesB l) (firstInt (valuesB l))) else [0]
def colAt (t:List ColB) (c:Nat):ColB:=t.getD c ⟨[],0,0,[]⟩
def plainB (t:List ColB) (s:SpotB):List UInt8 :=
 if s.sort=77 then metaB (colAt t s.c).kind (((colAt t s.c).cells.drop s.start).take s.many) else pageB (colAt t s.c).kind (((colAt t s.c).cells.drop s.start).take s.many)
structure StB where
 out:List UInt8
 log:List SealB
def openSt (plain:List UInt8) (st:StB):StB:=⟨st.out++(twoB (plain.length:Int)++plain),st.log⟩
def nonceB (draw:Int) (n:Nat):List UInt8:=twoB draw++twoB (n:Int)
def sealSt (draw:Int) (secret extra plain:List UInt8) (st:StB):StB :=
 ⟨st.out++(twoB ((bodyB secret (nonceB draw st.log.length) extra plain).length:Int)++(nonceB draw st.log.length++bodyB secret (nonceB draw st.log.length) extra plain)),
  st.log++[⟨secret,nonceB draw st.log.length,extra,bodyB secret (nonceB draw st.log.length) extra plain⟩]⟩
def modSt (j:JobB) (r:List KeyB) (key:Int) (sort:UInt8) (g c p:Nat) (plain:List UInt8) (st:StB):StB :=
 if key=0 then openSt plain st else sealSt j.draw (secretB r key) (boundB j.pre sort g c p) plain st
def spotSt (j:JobB) (r:List KeyB) (st:StB) (s:SpotB):StB:=modSt j r (colAt j.table s.c).key s.sort s.g s.c s.p (plainB j.table s) st
def spotsSt (j:JobB) (r:List KeyB) (st:StB) (l:List SpotB):StB:=l.foldl (spotSt j r) st
def metaLast (b:Bool):List SpotB→Bool
 | []=>b
 | s :: l=>metaLast (decide (s.sort=77)) l
def placesB (j:JobB) (r:List KeyB):StB→Bool→List SpotB→List Nat
 | st,b,[]=>[]
 | st,b,s :: l=>(if b=true then [st.out.length] else [])++placesB j r (spotSt j r st s) (decide (s.sort=77)) l
def colFoot (c:ColB):List UInt8:=xB c.name++uB c.kind.toNat++uB c.key.toNat
def footerB (rows:Nat) (p:PlanB) (t:List ColB) (places:List Nat):List UInt8 :=
 uB rows++uB p.group.toNat++uB p.page.toNat++uB p.foot.toNat++uB t.length++t.flatMap colFoot++places.flatMap uB
def startB (p:PlanB):List UInt8:=[67,70]++[if p.told=true then 79 else 69]++[byB p.foot]
def spotsJ (j:JobB):List SpotB:=spotsB (rowsB j.table) j.table.length j.plan.group.toNat j.plan.page.toNat
def bodySt (j:JobB) (r:List KeyB):StB:=spotsSt j r ⟨startB j.plan,[]⟩ (spotsJ j)
def placesJ (j:JobB) (r:List KeyB):List Nat:=placesB j r ⟨startB j.plan,[]⟩ true (spotsJ j)
def footJ (j:JobB) (r:List KeyB):List UInt8:=footerB (rowsB j.table) j.plan j.table (placesJ j r)
def endSt (j:JobB) (r:List KeyB) (f:List UInt8) (st:StB):StB :=
 if j.plan.told=true then sealSt j.draw (secretB r j.plan.foot) (boundB j.pre 83 0 0 0++f) [] (openSt f st)
 else sealSt j.draw (secretB r j.plan.foot) (boundB j.pre 70 0 0 0) f st
def fileB (j:JobB) (r:List KeyB):List UInt8 :=
 (endSt j r (footJ j r) (bodySt j r)).out++(twoB (((endSt j r (footJ j r) (bodySt j r)).out.length - (bodySt j r).out.length:Nat):Int)++[67,70])
def logB (j:JobB) (r:List KeyB):List SealB:=(endSt j r (footJ j r) (bodySt j r)).log
/- The laws of these. -/
theorem metaLast_append (l m:List SpotB):∀ b,metaLast b (l++m)=metaLast (metaLast b l) m:=by
 induction l with
 | nil=>intro b;rfl
 | cons s l ih=>intro b;simp only [List.cons_append,metaLast];exact ih _
theorem spotsSt_append (j:JobB) (r:List KeyB) (st:StB) (l m:List SpotB):spotsSt j r st (l++m)=spotsSt j r (spotsSt j r st l) m:=by
 unfold spotsSt;rw [List.foldl_append]
theorem placesB_append (j:JobB) (r:List KeyB) (l m:List SpotB):∀ st b,placesB j r st b (l++m)=placesB j r st b l++placesB j r (spotsSt j r st l) (metaLast b l) m:=by
 induction l with
 | nil=>intro st b;rfl
 | cons s l ih =>
  intro st b
  simp only [List.cons_append,placesB,metaLast,List.append_assoc]
  rw [ih]
  rfl
theorem places_pages (j:JobB) (r:List KeyB) (l:List SpotB) (h:∀ s ∈ l,s.sort=80):∀ st,placesB j r st false l=[]:=by
 induction l with
 | nil=>intro st;rfl
 | cons s l ih =>
  intro st
  have h1:=h s (List.mem_cons_self ..)
  simp only [placesB,h1]
  exact ih (fun x hx=>h x (List.mem_cons_of_mem _ hx)) _
theorem metaLast_pages (l:List SpotB) (h:∀ s ∈ l,s.sort=80):l≠[]→∀ b,metaLast b l=false:=by
 induction l with
 | nil=>intro h0;exact absurd rfl h0
 | cons s l ih =>
  intro _ b
  have h1:=h s (List.mem_cons_self ..)
  simp only [metaLast,h1]
  by_cases hl:l=[]
  ·subst hl;rfl
  ·exact ih (fun x hx=>h x (List.mem_cons_of_mem _ hx)) hl _
theorem pageSpots_sort (P g c start n k:Nat):∀ s ∈ pageSpots P g c start n k,s.sort=80:=by
 intro s hs
 simp only [pageSpots,List.mem_map] at hs
 obtain ⟨p,_,rfl⟩:=hs
 rfl
theorem places_chunk (j:JobB) (r:List KeyB) (st:StB) (R G P g c:Nat):placesB j r st true (chunkSpots R G P g c)=[st.out.length]:=by
 unfold chunkSpots
 have hs:=pageSpots_sort P g c (g*G) (partN R G g) (cntN (partN R G g) P)
 generalize pageSpots P g c (g*G) (partN R G g) (cntN (partN R G g) P)=L at *
 cases L with
 | nil=>simp [placesB]
 | cons s l =>
  have h1:=hs s (List.mem_cons_self ..)
  have hl:∀ x ∈ l,x.sort=80:=fun x hx=>hs x (List.mem_cons_of_mem _ hx)
  simp only [List.cons_append,placesB,h1,if_true]
  rw [placesB_append]
  have e1:(decide ((80:UInt8)=77))=false:=by decide
  rw [e1,places_pages j r l hl]
  have e2:metaLast false l=false:=by
   by_cases h0:l=[]
   ·subst h0;rfl
   ·exact metaLast_pages l hl h0 _
  rw [e2]
  simp [placesB]
theorem metaLast_chunk (b:Bool) (R G P g c:Nat):metaLast b (chunkSpots R G P g c)=true:=by
 unfold chunkSpots
 rw [metaLast_append]
 rfl
theorem metaLast_group (R G P g C:Nat):metaLast true (groupSpots R G P g C)=true:=by
 unfold groupSpots
 induction C with
 | zero=>rfl
 | succ C ih=>rw [List.range_succ,List.flatMap_append,metaLast_append,ih];simp only [List.flatMap_cons,List.flatMap_nil,List.append_nil];exact metaLast_chunk _ _ _ _ _ _
theorem metaLast_to (R C G P n:Nat):metaLast true (spotsTo R C G P n)=true:=by
 unfold spotsTo
 induction n with
 | zero=>rfl
 | succ n ih=>rw [List.range_succ,List.flatMap_append,metaLast_append,ih];simp only [List.flatMap_cons,List.flatMap_nil,List.append_nil];exact metaLast_group _ _ _ _ _
theorem group_succ (R G P g C:Nat):groupSpots R G P g (C+1)=groupSpots R G P g C++chunkSpots R G P g C:=by
 unfold groupSpots;rw [List.range_succ,List.flatMap_append];simp
theorem spots_succ (R C G P n:Nat):spotsTo R C G P (n+1)=spotsTo R C G P n++groupSpots R G P n C:=by
 unfold spotsTo;rw [List.range_succ,List.flatMap_append];simp
theorem page_succ (P g c start n k:Nat):pageSpots P g c start n (k+1)=pageSpots P g c start n k++[⟨80,g,c,k,start+k*P,partN n P k⟩]:=by
 unfold pageSpots;rw [List.range_succ,List.map_append];rfl
theorem cnt_lt {n size i:Nat} (hs:1≤size):i < cntN n size ↔ i*size < n:=by
 unfold cntN
 rw [Nat.lt_div_iff_mul_lt (by omega)]
 constructor<;>intro h<;>omega
theorem cnt_le {n size:Nat} (hs:1≤size):cntN n size≤n:=by
 rcases Nat.lt_or_ge n (cntN n size) with h|h
 ·have h2:=(cnt_lt (n:=n) (i:=n) hs).1 h
  have:n*1≤n*size:=Nat.mul_le_mul (Nat.le_refl _) hs
  omega
 ·exact h
theorem part_le (n size i:Nat):partN n size i≤size∧partN n size i≤n:=by unfold partN;omega
theorem part_end (n size i:Nat) (h:i*size < n):i*size+partN n size i=min (i*size+size) n:=by unfold partN;omega
theorem part_pos {n size i:Nat} (hs:1≤size):0 < partN n size i ↔ i*size < n:=by unfold partN;omega
theorem chunk_len (R G P g c:Nat) (hP:1≤P) (hG:G≤60):(chunkSpots R G P g c).length≤61:=by
 unfold chunkSpots pageSpots
 have h1:=cnt_le (n:=partN R G g) hP
 have h2:=(part_le R G g).1
 simp;omega
theorem group_len (R G P g C:Nat) (hP:1≤P) (hG:G≤60):(groupSpots R G P g C).length≤61*C:=by
 induction C with
 | zero=>simp [groupSpots]
 | succ C ih=>have:=chunk_len R G P g C hP hG;rw [group_succ,List.length_append];omega
theorem spots_len (R C G P n:Nat) (hP:1≤P) (hG:G≤60) (hC:C≤6):(spotsTo R C G P n).length≤366*n:=by
 induction n with
 | zero=>simp [spotsTo]
 | succ n ih=>have:=group_len R G P n C hP hG;rw [spots_succ,List.length_append];omega
theorem bestTo_first (kind:Int) (v:List CellB) (k:Nat):(bestTo kind v (k+1)).length≤(candB (wayN kind 0) v).length:=by
 induction k with
 | zero=>simp [bestTo]
 | succ k ih =>
  rw [bestTo]
  split
  ·rename_i h
   rcases h with h|h
   ·omega
   ·omega
  ·exact ih
theorem page_len (kind:Int) (l:List CellB) (h:∀ c ∈ l,smallC c) (hn:l.length≤60):(pageB kind l).length≤3500:=by
 have h1:=headB_len l hn
 have hv:(valuesB l).length≤60:=Nat.le_trans (List.length_filter_le ..) hn
 have hs:∀ c ∈ valuesB l,smallC c:=fun c hc=>h c (List.mem_filter.1 hc).1
 have h2:(bestTo kind (valuesB l) 3).length≤_:=bestTo_first kind (valuesB l) 2
 have h3:(candB (wayN kind 0) (valuesB l)).length≤2401:=by
  have h4:=stepsTo_len (wayN kind 0) (valuesB l) hs hv (valuesB l).length
  have h5:wayN kind 0≠3:=by unfold wayN;split<;>simp
  simp only [candB,wayB,if_neg h5,List.length_cons,List.nil_append]
  omega
 unfold pageB
 split
 ·omega
 ·rw [List.length_append];omega
theorem least_range (l:List CellB) (h:∀ c ∈ l,smallC c):∀ x:Int,(-9223372036854775808≤x∧x≤9223372036854775807)→-9223372036854775808≤leastB l x∧leastB l x≤9223372036854775807:=by
 induction l with
 | nil=>intro x hx;exact hx
 | cons c l ih =>
  intro x hx
  obtain ⟨c0,c1,_⟩:=h c (List.mem_cons_self ..)
  refine ih (fun y hy=>h y (List.mem_cons_of_mem _ hy)) _ ?_
  dsimp only
  split<;>omega
theorem most_range (l:List CellB) (h:∀ c ∈ l,smallC c):∀ x:Int,(-9223372036854775808≤x∧x≤9223372036854775807)→-9223372036854775808≤mostB l x∧mostB l x≤9223372036854775807:=by
 induction l with
 | nil=>intro x hx;exact hx
 | cons c l ih =>
  intro x hx
  obtain ⟨c0,c1,_⟩:=h c (List.mem_cons_self ..)
  refine ih (fun y hy=>h y (List.mem_cons_of_mem _ hy)) _ ?_
  dsimp only
  split<;>omega
theorem firstInt_range (l:List CellB) (h:∀ c ∈ l,smallC c):-9223372036854775808≤firstInt l∧firstInt l≤9223372036854775807:=by
 cases l with
 | nil=>simp [firstInt]
 | cons c l=>obtain ⟨c0,c1,_⟩:=h c (List.mem_cons_self ..);exact ⟨c0,c1⟩
theorem meta_len (kind:Int) (l:List CellB) (h:∀ c ∈ l,smallC c) (hn:l.length≤60):(metaB kind l).length≤40:=by
 have hs:∀ c ∈ valuesB l,smallC c:=fun c hc=>h c (List.mem_filter.1 hc).1
 have h1:=uB_len10 (l.length - (valuesB l).length) (by omega)
 have hf:=firstInt_range _ hs
 obtain ⟨a0,a1⟩:=least_range _ hs _ hf
 obtain ⟨b0,b1⟩:=most_range _ hs _ hf
 have h2:=zB_len _ a0 a1
 have h3:=zB_len _ b0 b1
 unfold metaB
 rw [List.length_append]
 split
 ·simp only [List.length_append,List.length_cons,List.length_nil];omega
 ·simp only [List.length_cons,List.length_nil];omega
theorem bound_len (pre:List UInt8) (sort:UInt8) (g c p:Nat) (h:pre.length≤20):(boundB pre sort g c p).length≤40:=by
 have:=uB_len10 pre.length (by omega)
 simp only [boundB,xB,List.length_append,twoB_length,List.length_cons,List.length_nil];omega
structure SpotIn (t:List ColB) (s:SpotB):Prop where
 sort:s.sort=80∨s.sort=77
 col:s.c < t.length
 rows:s.start+s.many≤rowsB t
 few:s.g < 60∧s.c < 60∧s.p < 60∧s.start < 60∧s.many≤60
theorem page_in {t:List ColB} {R G P g c k:Nat} (hR:R=rowsB t) (hr:R≤60) (hG:1≤G) (hP:1≤P) (hG6:G≤60) (hc:c < t.length) (hC:t.length≤6) (hg:g*G < R) (hk:k*P < partN R G g) :
  SpotIn t ⟨80,g,c,k,g*G+k*P,partN (partN R G g) P k⟩:=by
 have h1:g*1≤g*G:=Nat.mul_le_mul (Nat.le_refl _) hG
 have h2:k*1≤k*P:=Nat.mul_le_mul (Nat.le_refl _) hP
 have h3:=part_end R G g hg
 have h4:=part_end (partN R G g) P k hk
 have h5:=part_le R G g
 refine ⟨.inl rfl,hc,?_,?_,?_,?_,?_,?_⟩<;>simp only<;>omega
theorem meta_in {t:List ColB} {R G g c:Nat} (hR:R=rowsB t) (hr:R≤60) (hG:1≤G) (hG6:G≤60) (hc:c < t.length) (hC:t.length≤6) (hg:g*G < R) :
  SpotIn t ⟨77,g,c,0,g*G,partN R G g⟩:=by
 have h1:g*1≤g*G:=Nat.mul_le_mul (Nat.le_refl _) hG
 have h3:=part_end R G g hg
 have h5:=part_le R G g
 refine ⟨.inr rfl,hc,?_,?_,?_,?_,?_,?_⟩<;>simp only<;>omega
theorem chunk_in {t:List ColB} {R G P g c:Nat} (hR:R=rowsB t) (hr:R≤60) (hG:1≤G) (hP:1≤P) (hG6:G≤60) (hc:c < t.length) (hC:t.length≤6) (hg:g*G < R) :
  ∀ s ∈ chunkSpots R G P g c,SpotIn t s:=by
 intro s hs
 rcases List.mem_append.1 hs with hs|hs
 ·simp only [pageSpots,List.mem_map,List.mem_range] at hs
  obtain ⟨k,hk,rfl⟩:=hs
  exact page_in hR hr hG hP hG6 hc hC hg ((cnt_lt hP).1 hk)
 ·simp only [List.mem_cons,List.not_mem_nil,or_false] at hs
  subst hs
  exact meta_in hR hr hG hG6 hc hC hg
theorem spots_in {t:List ColB} {R G P:Nat} (hR:R=rowsB t) (hr:R≤60) (hG:1≤G) (hP:1≤P) (hG6:G≤60) (hC:t.length≤6) :
  ∀ s ∈ spotsB R t.length G P,SpotIn t s:=by
 intro s hs
 simp only [spotsB,spotsTo,groupSpots,List.mem_flatMap,List.mem_range] at hs
 obtain ⟨g,hg,c,hc,hs⟩:=hs
 exact chunk_in hR hr hG hP hG6 hc hC ((cnt_lt hG).1 hg) s hs
theorem table_col {t:List ColB} (h:tableOkB t=true):(1≤t.length∧t.length≤6)∧∀ c ∈ t,cellsOkB c.kind c.cells=true∧c.cells.length=rowsB t:=by
 simp only [tableOkB,headsOkB,Bool.and_eq_true,decide_eq_true_eq,List.all_eq_true] at h
 exact ⟨h.1.2,h.2⟩
theorem headsTo_at {t:List ColB} {n:Nat} (h:headsTo t n=true) (hn:n≤t.length):∀ k (hk:k < n),headOkB (t[k]'(by omega))=true∧hasNameB (t.take k) (t[k]'(by omega)).name=false:=by
 induction n with
 | zero=>intro k hk;omega
 | succ n ih =>
  intro k hk
  simp only [headsTo,Bool.and_eq_true] at h
  rcases Nat.lt_or_ge k n with hkn|hkn
  ·exact ih h.1 (by omega) k hkn
  ·have:k=n:=by omega
   subst this
   have h2:=h.2
   rw [List.getElem?_eq_getElem (by omega)] at h2
   simpa using h2
theorem head_parts {c:ColB} (h:headOkB c=true):nameOkB c.name=true∧(c.kind=0∨c.kind=1)∧0≤c.key∧c.key≤9:=by
 simp only [headOkB,Bool.and_eq_true,decide_eq_true_eq] at h
 exact ⟨h.1,by omega,h.2.2.1,h.2.2.2⟩
theorem name_len {s:List UInt8} (h:nameOkB s=true):1≤s.length∧s.length≤8:=by
 simp only [nameOkB,Bool.and_eq_true,decide_eq_true_eq] at h
 exact h.2
structure GoodT (t:List ColB):Prop where
 ok:tableOkB t=true
 fits:∀ c ∈ t,∀ x ∈ c.cells,-9223372036854775808≤x.int∧x.int≤9223372036854775807
theorem GoodT.few {t:List ColB} (h:GoodT t):1≤t.length∧t.length≤6:=(table_col h.ok).1
theorem GoodT.head {t:List ColB} (h:GoodT t) (c:Nat) (hc:c < t.length):nameOkB (t[c]).name=true∧((t[c]).kind=0∨(t[c]).kind=1)∧0≤(t[c]).key∧(t[c]).key≤9:=by
 have h1:=h.ok
 simp only [tableOkB,headsOkB,Bool.and_eq_true] at h1
 exact head_parts (headsTo_at h1.1.1 (Nat.le_refl _) c hc).1
theorem GoodT.cells {t:List ColB} (h:GoodT t) (c:Nat) (hc:c < t.length):(t[c]).cells.length=rowsB t∧(t[c]).cells.length≤60∧∀ x ∈ (t[c]).cells,smallC x:=by
 obtain ⟨h1,h2⟩:=(table_col h.ok).2 t[c] (List.getElem_mem hc)
 have hf:=h.fits t[c] (List.getElem_mem hc)
 simp only [cellsOkB,Bool.and_eq_true,Bool.or_eq_true,decide_eq_true_eq,List.all_eq_true] at h1
 refine ⟨h2,h1.1.2,fun x hx=>⟨(hf x hx).1,(hf x hx).2,?_⟩⟩
 have:=h1.2 x hx
 unfold fitsB at this
 split at this
 ·simp at this;rw [this.2];simp
 ·split at this
  ·simp at this;rw [this];simp
  ·simp at this;exact this.2
theorem GoodT.rows {t:List ColB} (h:GoodT t):rowsB t≤60:=by
 obtain ⟨h1,_⟩:=h.few
 have h2:=h.cells 0 (by omega)
 omega
theorem colAt_eq {t:List ColB} {c:Nat} (h:c < t.length):colAt t c=t[c]:=by simp [colAt,h]
theorem plain_len {t:List ColB} (h:GoodT t) {s:SpotB} (hs:s.c < t.length) (hm:s.many≤60):(plainB t s).length≤3500:=by
 obtain ⟨_,_,h3⟩:=h.cells s.c hs
 have hsm:∀ x ∈ ((colAt t s.c).cells.drop s.start).take s.many,smallC x:=by
  rw [colAt_eq hs]
  exact fun x hx=>h3 x (List.mem_of_mem_drop (List.mem_of_mem_take hx))
 have hl:(((colAt t s.c).cells.drop s.start).take s.many).length≤60:=by rw [List.length_take];omega
 unfold plainB
 split
 ·have:=meta_len (colAt t s.c).kind _ hsm hl;omega
 ·exact page_len _ _ hsm hl
theorem open_len (plain:List UInt8) (st:StB):(openSt plain st).out.length=st.out.length+plain.length+2:=by
 simp only [openSt,List.length_append,twoB_length];omega
theorem nonce_len (d:Int) (n:Nat):(nonceB d n).length=4:=rfl
theorem seal_len (d:Int) (s e p:List UInt8) (st:StB):(sealSt d s e p st).out.length=st.out.length+p.length+8∧(sealSt d s e p st).log.length=st.log.length+1:=by
 refine ⟨?_,by simp [sealSt]⟩
 simp only [sealSt,List.length_append,twoB_length,nonce_len,bodyB_length]
 omega
theorem mod_len (j:JobB) (r:List KeyB) (key:Int) (sort:UInt8) (g c p:Nat) (plain:List UInt8) (st:StB) :
  (modSt j r key sort g c p plain st).out.length≤st.out.length+plain.length+8∧(modSt j r key sort g c p plain st).log.length≤st.log.length+1:=by
 unfold modSt
 split
 ·rw [open_len];simp only [openSt];omega
 ·have:=seal_len j.draw (secretB r key) (boundB j.pre sort g c p) plain st;omega
theorem spotsSt_len {j:JobB} {r:List KeyB} (h:GoodT j.table) (l:List SpotB):∀ st:StB,(∀ s ∈ l,s.c < j.table.length∧s.many≤60) →
  (spotsSt j r st l).out.length≤st.out.length+3508*l.length∧(spotsSt j r st l).log.length≤st.log.length+l.length:=by
 induction l with
 | nil=>intro st _;simp [spotsSt]
 | cons s l ih =>
  intro st hl
  obtain ⟨a0,a1⟩:=hl s (List.mem_cons_self ..)
  have h1:=plain_len h a0 a1
  have h2:=mod_len j r (colAt j.table s.c).key s.sort s.g s.c s.p (plainB j.table s) st
  have h3:=ih (spotSt j r st s) (fun x hx=>hl x (List.mem_cons_of_mem _ hx))
  have e:spotsSt j r st (s :: l)=spotsSt j r (spotSt j r st s) l:=rfl
  rw [e]
  simp only [List.length_cons]
  have e2:spotSt j r st s=modSt j r (colAt j.table s.c).key s.sort s.g s.c s.p (plainB j.table s) st:=rfl
  rw [← e2] at h2
  omega
theorem places_group_len (j:JobB) (r:List KeyB) (st:StB) (R G P g C:Nat):(placesB j r st true (groupSpots R G P g C)).length=C:=by
 induction C with
 | zero=>rfl
 | succ C ih=>rw [group_succ,placesB_append,List.length_append,ih,metaLast_group,places_chunk];rfl
theorem places_to_len (j:JobB) (r:List KeyB) (st:StB) (R C G P n:Nat):(placesB j r st true (spotsTo R C G P n)).length=n*C:=by
 induction n with
 | zero=>simp [spotsTo,placesB]
 | succ n ih=>rw [spots_succ,placesB_append,List.length_append,ih,metaLast_to,places_group_len,Nat.succ_mul]
theorem places_le {j:JobB} {r:List KeyB} (h:GoodT j.table) (l:List SpotB):∀ (st:StB) (b:Bool),(∀ s ∈ l,s.c < j.table.length∧s.many≤60) →
  ∀ p ∈ placesB j r st b l,p≤st.out.length+3508*l.length:=by
 induction l with
 | nil=>intro st b _ p hp;simp [placesB] at hp
 | cons s l ih =>
  intro st b hl p hp
  simp only [placesB,List.mem_append] at hp
  rcases hp with hp|hp
  ·split at hp
   ·simp only [List.mem_cons,List.not_mem_nil,or_false] at hp;simp only [List.length_cons];omega
   ·simp at hp
  ·obtain ⟨a0,a1⟩:=hl s (List.mem_cons_self ..)
   have h1:=plain_len h a0 a1
   have h2:=mod_len j r (colAt j.table s.c).key s.sort s.g s.c s.p (plainB j.table s) st
   have e2:spotSt j r st s=modSt j r (colAt j.table s.c).key s.sort s.g s.c s.p (plainB j.table s) st:=rfl
   rw [← e2] at h2
   have:=ih _ _ (fun x hx=>hl x (List.mem_cons_of_mem _ hx)) p hp
   simp only [List.length_cons]
   omega
theorem flat_len {α:Type} (f:α→List UInt8) (m:Nat) (l:List α) (h:∀ x ∈ l,(f x).length≤m):(l.flatMap f).length≤m*l.length:=by
 induction l with
 | nil=>simp
 | cons a l ih =>
  have h1:=h a (List.mem_cons_self ..)
  have h2:=ih (fun x hx=>h x (List.mem_cons_of_mem _ hx))
  rw [List.flatMap_cons,List.length_append,List.length_cons,Nat.mul_succ]
  omega
theorem colFoot_len {c:ColB} (h:c.name.length≤8) (h1:c.kind=0∨c.kind=1) (h2:0≤c.key∧c.key≤9):(colFoot c).length≤38:=by
 have a:=uB_len10 c.name.length (by omega)
 have b:=uB_len10 c.kind.toNat (by omega)
 have d:=uB_len10 c.key.toNat (by omega)
 simp only [colFoot,xB,List.length_append];omega
theorem footer_len {t:List ColB} (h:GoodT t) {p:PlanB} (hp:planOkB p=true) (places:List Nat) (hl:places.length≤360) (hb:∀ x ∈ places,x < 18446744073709551616):(footerB (rowsB t) p t places).length≤3900:=by
 have h0:=h.rows
 obtain ⟨_,h6⟩:=h.few
 have hc:∀ c ∈ t,(colFoot c).length≤38:=by
  intro c hc
  obtain ⟨k,hk,rfl⟩:=List.mem_iff_getElem.1 hc
  obtain ⟨a,b,d⟩:=h.head k hk
  exact colFoot_len (name_len a).2 b d
 have h1:=flat_len colFoot 38 t hc
 have h2:=flat_len uB 10 places (fun x hx=>uB_len10 x (hb x hx))
 simp only [planOkB,Bool.and_eq_true,decide_eq_true_eq] at hp
 have a:=uB_len10 (rowsB t) (by omega)
 have b:=uB_len10 p.group.toNat (by omega)
 have d:=uB_len10 p.page.toNat (by omega)
 have e:=uB_len10 p.foot.toNat (by omega)
 have f:=uB_len10 t.length (by omega)
 simp only [footerB,List.length_append]
 omega
structure GoodJ (j:JobB) (r:List KeyB):Prop where
 table:GoodT j.table
 plan:planOkB j.plan=true
 pre:j.pre.length≤20
 draw:0≤j.draw∧j.draw≤65535
 ring:ringOkB r=true
 has:missesB j r=false
theorem GoodJ.sizes {j:JobB} {r:List KeyB} (h:GoodJ j r):(1≤j.plan.group.toNat∧j.plan.group.toNat≤60)∧(1≤j.plan.page.toNat∧j.plan.page.toNat≤60)∧1≤j.plan.foot∧j.plan.foot≤9:=by
 have hp:=h.plan
 simp only [planOkB,Bool.and_eq_true,decide_eq_true_eq] at hp
 exact ⟨⟨by omega,by omega⟩,⟨by omega,by omega⟩,by omega,by omega⟩
theorem GoodJ.spotIn {j:JobB} {r:List KeyB} (h:GoodJ j r):∀ s ∈ spotsJ j,SpotIn j.table s:=by
 obtain ⟨⟨a,b⟩,⟨c,d⟩,_⟩:=h.sizes
 exact spots_in rfl h.table.rows a c b h.table.few.2
theorem GoodJ.spotLen {j:JobB} {r:List KeyB} (h:GoodJ j r):(spotsJ j).length≤21960:=by
 obtain ⟨⟨a,b⟩,⟨c,d⟩,_⟩:=h.sizes
 have h1:=spots_len (rowsB j.table) j.table.length j.plan.group.toNat j.plan.page.toNat (cntN (rowsB j.table) j.plan.group.toNat) c b h.table.few.2
 have h2:=cnt_le (n:=rowsB j.table) a
 have h3:=h.table.rows
 unfold spotsJ spotsB
 omega
theorem GoodJ.foot {j:JobB} {r:List KeyB} (h:GoodJ j r):(placesJ j r).length≤360∧(∀ x ∈ placesJ j r,x≤80000000)∧(footJ j r).length≤3900:=by
 obtain ⟨⟨a,b⟩,⟨c,d⟩,_⟩:=h.sizes
 have h1:=places_to_len j r ⟨startB j.plan,[]⟩ (rowsB j.table) j.table.length j.plan.group.toNat j.plan.page.toNat (cntN (rowsB j.table) j.plan.group.toNat)
 have h2:=cnt_le (n:=rowsB j.table) a
 have h3:=h.table.rows
 have h4:=h.table.few.2
 have h5:cntN (rowsB j.table) j.plan.group.toNat*j.table.length≤60*6:=Nat.mul_le_mul (by omega) h4
 have hl:(placesJ j r).length≤360:=by
  unfold placesJ spotsJ spotsB
  omega
 have h6:=places_le (r:=r) h.table (spotsJ j) ⟨startB j.plan,[]⟩ true (fun s hs=>⟨(h.spotIn s hs).col,(h.spotIn s hs).few.2.2.2.2⟩)
 have h7:=h.spotLen
 have h8:(startB j.plan).length=4:=rfl
 have hb:∀ x ∈ placesJ j r,x≤80000000:=by
  intro x hx
  have:=h6 x hx
  simp only [h8] at this
  omega
 exact ⟨hl,hb,footer_len h.table h.plan _ hl (fun x hx=>by have:=hb x hx;omega)⟩
theorem GoodJ.body {j:JobB} {r:List KeyB} (h:GoodJ j r) (n:Nat):(spotsSt j r ⟨startB j.plan,[]⟩ ((spotsJ j).take n)).out.length≤80000000∧(spotsSt j r ⟨startB j.plan,[]⟩ ((spotsJ j).take n)).log.length≤21960:=by
 have h6:=spotsSt_len (r:=r) h.table ((spotsJ j).take n) ⟨startB j.plan,[]⟩ (fun s hs=>⟨(h.spotIn s (List.mem_of_mem_take hs)).col,(h.spotIn s (List.mem_of_mem_take hs)).few.2.2.2.2⟩)
 have h7:=h.spotLen
 have h8:(startB j.plan).length=4:=rfl
 have h9:((spotsJ j).take n).length≤(spotsJ j).length:=by rw [List.length_take];omega
 simp only [h8,List.length_nil] at h6
 omega
end
end Go.Proofs.YthhpbhpfagoapaaGreat
