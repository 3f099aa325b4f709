import Derived.Test.YthhpbhpfagoapaaGreatJBB
import Derived.Test.YthhpbhpfagoapaaGreatJAR
namespace Go.Proofs.YthhpbhpfagoapaaGreat
set_option linter.unusedVariables false
set_option linter.unusedSimpArgs false
set_option maxRecDepth 100000
set_option maxHeartbeats 16000000
section
structure Like (cov:Nat→Prop) (a b:StB):Prop where
 len:a.out.length=b.out.length
 log:a.log.length=b.log.length
 same:∀ i,¬ cov i→a.out[i]?=b.out[i]?
theorem Like.add {cov:Nat→Prop} {a b:StB} (h:Like cov a b) {x y:List UInt8} (hx:x.length=y.length) (hs:∀ i,¬ cov (a.out.length+i)→x[i]?=y[i]?) {la lb:List SealB} (hl:la.length=lb.length) :
  Like cov ⟨a.out++x,la⟩ ⟨b.out++y,lb⟩:=by
 refine ⟨by simp [h.len,hx],hl,fun i hi=>?_⟩
 simp only
 by_cases hlt:i < a.out.length
 ·rw [List.getElem?_append_left hlt,List.getElem?_append_left (by rw [← h.len];exact hlt)]
  exact h.same i hi
 ·rw [List.getElem?_append_right (by omega),List.getElem?_append_right (by rw [← h.len];omega),← h.len]
  exact hs _ (by rw [Nat.add_sub_cancel' (by omega)];exact hi)
structure Twin (hk:Int→Bool) (j k:JobB):Prop where
 plan:j.plan=k.plan
 pre:j.pre=k.pre
 draw:j.draw=k.draw
 len:j.table.length=k.table.length
 rows:jY j.table=jY k.table
 head:∀ c,(je j.table c).name=(je k.table c).name∧(je j.table c).kind=(je k.table c).kind∧(je j.table c).key=(je k.table c).key
 cells:∀ c,hk (je j.table c).key=false→(je j.table c).cells=(je k.table c).cells
 zero:hk 0=false
theorem Twin.plain {hk:Int→Bool} {j k:JobB} (h:Twin hk j k) (s:SpotB) (hs:hk (je j.table s.c).key=false):qP j.table s=qP k.table s:=by
 unfold qP
 rw [(h.head s.c).2.1,h.cells s.c hs]
end
section
open Go.RowKit
def Za (kind:Int) (e:Nat) (words:List (List UInt8)) (n len:Nat) (last:CellB) (st:Option (List UInt8)):CellB × Nat × Option (List UInt8) :=
 if kind=0∧e=0 then (⟨false,(bR st).1,[]⟩,1,(bR st).2)
 else if kind=0∧e=1 then (⟨false,wrap64 (last.int+zOf (uR st).1),[]⟩,1,(uR st).2)
 else if kind=0∧e=2 then (⟨false,zOf (uR (qN (n - len) st).2).1,[]⟩,(qN (n - len) st).1,if (qN (n - len) st).1=0 then none else (uR (qN (n - len) st).2).2)
 else if kind=1∧e=0 then (⟨false,0,(xR 12 st).1⟩,1,(xR 12 st).2)
 else if kind=1∧e=3∧words≠[] then (⟨false,0,words.getD (qN (words.length - 1) st).1 []⟩,1,(qN (words.length - 1) st).2)
 else if kind=1∧e=4 then (⟨false,0,last.text.take (qN last.text.length st).1++(xR 12 (qN last.text.length st).2).1⟩,1,(xR 12 (qN last.text.length st).2).2)
 else (⟨false,0,[]⟩,1,none)
def zQ (kind:Int) (e:Nat) (words:List (List UInt8)) (n:Nat):Nat→List CellB→CellB→Option (List UInt8)→List CellB × Option (List UInt8)
 | 0,l,_,st=>(l,st)
 | f+1,l,last,st =>
  if l.length < n∧st.isSome=true then
   zQ kind e words n f (l++List.replicate (Za kind e words n l.length last st).2.1 (Za kind e words n l.length last st).1) (Za kind e words n l.length last st).1 (Za kind e words n l.length last st).2.2
  else (l,st)
def zp (w:Nat) (v:List CellB):Nat→Nat→List UInt8
 | _,0=>[]
 | i,k+1=>xu w v i++zp w v (i+1) k
theorem AD (w:Nat) (v:List CellB):∀ (k i:Nat),jN w v (i+k)=jN w v i++zp w v i k:=by
 intro k
 induction k with
 | zero=>intro i;simp [zp]
 | succ k ih =>
  intro i
  rw [show i+(k+1)=(i+1)+k by omega,ih (i+1)]
  simp [jN,zp]
theorem KQ (w:Nat) (v:List CellB):jN w v v.length=zp w v 0 v.length:=by
 have:=AD w v v.length 0
 simpa [jN] using this
theorem Zt (kind:Int) (e w:Nat) (words:List (List UInt8)) (v:List CellB) (r:List UInt8)
  (hstep:∀ i (h:i < v.length) (rest:List UInt8),Za kind e words v.length i (qF v i) (some (xu w v i++rest))=(v[i],1,some rest)) :
  ∀ (k i:Nat),i+k=v.length→zQ kind e words v.length (k+1) (v.take i) (qF v i) (some (zp w v i k++r))=(v,some r):=by
 intro k
 induction k with
 | zero =>
  intro i hi
  have hl:(v.take i).length=v.length:=by rw [List.length_take];omega
  simp only [zQ,zp,List.nil_append]
  rw [if_neg (by rw [hl];omega)]
  rw [List.take_of_length_le (by omega)]
 | succ k ih =>
  intro i hi
  have hlt:i < v.length:=by omega
  have hl:(v.take i).length=i:=by rw [List.length_take];omega
  rw [zQ,if_pos (by rw [hl];exact ⟨hlt,rfl⟩),hl]
  simp only [zp,List.append_assoc]
  rw [hstep i hlt (zp w v (i+1) k++r)]
  have e1:v.take i++List.replicate 1 v[i]=v.take (i+1):=by rw [List.take_succ_eq_append_getElem hlt];rfl
  have e2:v[i]=qF v (i+1):=by
   unfold qF
   rw [if_neg (by omega),Nat.add_sub_cancel,qD v i hlt]
  simp only [e1]
  rw [e2]
  exact ih (i+1) (by omega)
def Ca (c:CellB):Prop:=c.null=false∧c.text=[]∧-9223372036854775808≤c.int∧c.int≤9223372036854775807
def Rx (c:CellB):Prop:=c.null=false∧c.int=0∧c.text.length≤12
theorem Uz {c:CellB} (h:Ca c):c=⟨false,c.int,[]⟩:=by
 obtain ⟨n,i,t⟩:=c
 obtain ⟨h1,h2,_⟩:=h
 simp at h1 h2
 subst h1 h2
 rfl
theorem NO {c:CellB} (h:Rx c):c=⟨false,0,c.text⟩:=by
 obtain ⟨n,i,t⟩:=c
 obtain ⟨h1,h2,_⟩:=h
 simp at h1 h2
 subst h1 h2
 rfl
theorem Lx (v:List CellB) (r:List UInt8) (hv:∀ c ∈ v,Ca c):zQ 0 0 [] v.length (v.length+1) [] xb (some (zp 0 v 0 v.length++r))=(v,some r):=by
 have:=Zt 0 0 0 [] v r (fun i h rest=>by
  have hc:=hv v[i] (List.getElem_mem h)
  have hs:xu 0 v i=bB (v[i]).int:=by show bB (xY v i).int=_;rw [qD v i h]
  unfold Za
  rw [if_pos ⟨rfl,rfl⟩,hs,SK _ rest hc.2.2.1 hc.2.2.2]
  exact Prod.ext (Uz hc).symm rfl) v.length 0 (by omega)
 simpa [qF] using this
theorem ML (a b:Int) (h0:-9223372036854775808≤b) (h1:b≤9223372036854775807):wrap64 (a+wrap64 (b - a))=b:=by
 unfold wrap64;omega
theorem Lr (v:List CellB) (r:List UInt8) (hv:∀ c ∈ v,Ca c):zQ 0 1 [] v.length (v.length+1) [] xb (some (zp 1 v 0 v.length++r))=(v,some r):=by
 have:=Zt 0 1 1 [] v r (fun i h rest=>by
  have hc:=hv v[i] (List.getElem_mem h)
  have hs:xu 1 v i=zB (wrap64 ((v[i]).int - (qF v i).int)):=by show zB (wrap64 ((xY v i).int - (qF v i).int))=_;rw [qD v i h]
  have hr:=Jt ((v[i]).int - (qF v i).int)
  unfold Za
  rw [if_neg (by omega),if_pos ⟨rfl,rfl⟩,hs,SJ _ rest hr.1 hr.2,Dn,ML _ _ hc.2.2.1 hc.2.2.2]
  exact Prod.ext (Uz hc).symm rfl) v.length 0 (by omega)
 simpa [qF] using this
theorem Lo (v:List CellB) (r:List UInt8) (hv:∀ c ∈ v,Rx c):zQ 1 0 [] v.length (v.length+1) [] xb (some (zp 5 v 0 v.length++r))=(v,some r):=by
 have:=Zt 1 0 5 [] v r (fun i h rest=>by
  have hc:=hv v[i] (List.getElem_mem h)
  have hs:xu 5 v i=xB (v[i]).text:=by show xB (xY v i).text=_;rw [qD v i h]
  unfold Za
  rw [if_neg (by omega),if_neg (by omega),if_neg (by omega),if_pos ⟨rfl,rfl⟩,hs,DJ 12 _ rest hc.2.2 (by omega)]
  exact Prod.ext (NO hc).symm rfl) v.length 0 (by omega)
 simpa [qF] using this
theorem IB (s t:List UInt8):t.take (jJ s t)++s.drop (jJ s t)=s:=by
 have h:=Jg s t
 have e:t.take (jJ s t)=s.take (jJ s t):=by
  apply List.ext_getElem
  ·rw [List.length_take,List.length_take];omega
  ·intro i h1 h2
   rw [List.length_take] at h1
   simp only [List.getElem_take]
   exact (Gz s t i (by omega) (by omega) (by omega)).symm
 rw [e,List.take_append_drop]
theorem Ls (v:List CellB) (r:List UInt8) (hv:∀ c ∈ v,Rx c):zQ 1 4 [] v.length (v.length+1) [] xb (some (zp 4 v 0 v.length++r))=(v,some r):=by
 have:=Zt 1 4 4 [] v r (fun i h rest=>by
  have hc:=hv v[i] (List.getElem_mem h)
  have hp:(qF v i).text.length≤12:=by
   unfold qF;split
   ·decide
   ·rw [qD v (i - 1) (by omega)];exact (hv _ (List.getElem_mem _)).2.2
  have hs:xu 4 v i=uB (jJ (v[i]).text (qF v i).text)++xB ((v[i]).text.drop (jJ (v[i]).text (qF v i).text)):=by simp only [xu,qD v i h]
  have hle:=Jg (v[i]).text (qF v i).text
  unfold Za
  rw [if_neg (by omega),if_neg (by omega),if_neg (by omega),if_neg (by omega),if_neg (by omega),if_pos ⟨rfl,rfl⟩,hs,List.append_assoc,
   zR _ _ _ hle.2 (by omega),DJ 12 _ rest (by rw [List.length_drop];have:=hc.2.2;omega) (by omega),IB]
  exact Prod.ext (NO hc).symm rfl) v.length 0 (by omega)
 simpa [qF] using this
end
section
theorem EC {R G P g c:Nat}:∀ s ∈ jg R G P g c,s.c=c∧s.many≤G:=by
 intro s hs
 rcases List.mem_append.1 hs with hs|hs
 ·simp only [jr,List.mem_map,List.mem_range] at hs
  obtain ⟨k,_,rfl⟩:=hs
  exact ⟨rfl,Nat.le_trans (Jo _ _ _).2 (Jo _ _ _).1⟩
 ·simp only [List.mem_cons,List.not_mem_nil,or_false] at hs
  subst hs
  exact ⟨rfl,(Jo _ _ _).1⟩
theorem Kk {R G P g C:Nat}:∀ s ∈ jp R G P g C,s.c < C∧s.many≤G:=by
 intro s hs
 simp only [jp,List.mem_flatMap,List.mem_range] at hs
 obtain ⟨c,hc,hs⟩:=hs
 obtain ⟨h1,h2⟩:=EC s hs
 exact ⟨by omega,h2⟩
theorem IS {R C G P n:Nat}:∀ s ∈ jy R C G P n,s.c < C∧s.many≤G:=by
 intro s hs
 simp only [jy,List.mem_flatMap,List.mem_range] at hs
 obtain ⟨g,_,hs⟩:=hs
 exact Kk s hs
end
section
structure FormF where
 told:Bool
 foot:Nat
 parts:List UInt8
 footer:List UInt8
 nonce:List UInt8
 body:List UInt8
def qh (f:FormF):List UInt8:=(if f.told=true then qv (f.footer.length:Int)++f.footer else [])++(qv (f.body.length:Int)++(f.nonce++f.body))
def xd (f:FormF):List UInt8:=([67,70]++[if f.told=true then 79 else 69]++[byB (f.foot:Int)])++(f.parts++(qh f++(qv ((qh f).length:Int)++[67,70])))
structure FormOk (f:FormF):Prop where
 nonce:f.nonce.length=4
 body:2≤f.body.length
 foot:1≤f.foot∧f.foot≤9
 short:(xd f).length≤65000
 none_:f.told=false→f.footer=[]
theorem JX {a b:Nat} (ha:a≤65535) (hb:b≤65535) (h:qv (a:Int)=qv (b:Int)):a=b:=by
 unfold qv at h
 simp only [List.cons.injEq,and_true] at h
 obtain ⟨h1,h2⟩:=h
 have e1:=congrArg UInt8.toNat h1
 have e2:=congrArg UInt8.toNat h2
 simp only [UInt8.toNat_ofNat'] at e1 e2
 omega
theorem FormOk.lens {f:FormF} (h:FormOk f):(qh f).length≤64992∧f.body.length≤64992∧f.footer.length≤64992:=by
 have hs:=h.short
 have e:(xd f).length=4+(f.parts.length+((qh f).length+4)):=by
  simp only [xd,List.length_append,List.length_cons,List.length_nil,jv]
 have hfp:(qh f).length=(if f.told=true then 2+f.footer.length else 0)+(2+(f.nonce.length+f.body.length)):=by
  unfold qh
  rw [List.length_append]
  split<;>simp only [List.length_append,jv,List.length_nil]
 refine ⟨by omega,by omega,?_⟩
 cases ht:f.told with
 | true=>rw [ht] at hfp;simp only [if_true] at hfp;omega
 | false=>rw [h.none_ ht];simp
theorem Zv {a b c d:List UInt8} (h:a++b=c++d) (hl:b.length=d.length):a=c∧b=d:=by
 have hlen:=congrArg List.length h
 rw [List.length_append,List.length_append] at hlen
 exact List.append_inj h (by omega)
theorem IP {f g:FormF} (hf:FormOk f) (hg:FormOk g) (h:xd f=xd g):f=g:=by
 obtain ⟨l1,l2,l3⟩:=hf.lens
 obtain ⟨m1,m2,m3⟩:=hg.lens
 unfold xd at h
 obtain ⟨h1,h2⟩:=List.append_inj h (by simp)
 have ht:f.told=g.told:=by
  cases e1:f.told<;>cases e2:g.told<;>simp_all
 have hft:f.foot=g.foot:=by
  simp only [ht,List.cons_append,List.nil_append,List.cons.injEq,and_true,true_and] at h1
  have e:=congrArg UInt8.toNat h1
  have b1:=xH (f.foot:Int) (by omega) (by have:=hf.foot;omega)
  have b2:=xH (g.foot:Int) (by omega) (by have:=hg.foot;omega)
  omega
 have h2':(f.parts++qh f)++(qv ((qh f).length:Int)++[67,70])=(g.parts++qh g)++(qv ((qh g).length:Int)++[67,70]):=by
  rw [List.append_assoc,List.append_assoc];exact h2
 obtain ⟨h3,h4⟩:=Zv h2' (by simp [jv])
 obtain ⟨h5,_⟩:=List.append_inj h4 (by rw [jv,jv])
 have hl:=JX (by omega) (by omega) h5
 obtain ⟨h6,h7⟩:=Zv h3 hl
 have key:f.footer=g.footer∧f.nonce=g.nonce∧f.body=g.body:=by
  unfold qh at h7
  rw [← ht] at h7
  have tail:∀ {a b:FormF},FormOk a→FormOk b→a.body.length≤65535→b.body.length≤65535→qv (a.body.length:Int)++(a.nonce++a.body)=qv (b.body.length:Int)++(b.nonce++b.body)→a.nonce=b.nonce∧a.body=b.body:=by
   intro a b ha hb _ _ e
   obtain ⟨_,e2⟩:=List.append_inj e (by rw [jv,jv])
   exact List.append_inj e2 (by rw [ha.nonce,hb.nonce])
  cases htt:f.told with
  | false =>
   rw [htt] at h7
   simp only [Bool.false_eq_true,if_false,List.nil_append] at h7
   obtain ⟨a,b⟩:=tail hf hg (by omega) (by omega) h7
   exact ⟨by rw [hf.none_ htt,hg.none_ (ht ▸ htt)],a,b⟩
  | true =>
   rw [htt] at h7
   simp only [if_true,List.append_assoc] at h7
   obtain ⟨e1,e2⟩:=List.append_inj h7 (by rw [jv,jv])
   have hlen:=JX (by omega) (by omega) e1
   obtain ⟨e3,e4⟩:=List.append_inj e2 hlen
   obtain ⟨a,b⟩:=tail hf hg (by omega) (by omega) e4
   exact ⟨e3,a,b⟩
 obtain ⟨k1,k2,k3⟩:=key
 cases f
 cases g
 simp_all
end
section
theorem xA:∀ (n m:Nat) (r q:List UInt8),uB n++r=uB m++q→n=m∧r=q:=by
 intro n
 induction n using Nat.strongRecOn with
 | _ n ih =>
  intro m r q h
  by_cases hn:n≤127
  ·by_cases hm:m≤127
   ·rw [xW hn,xW hm] at h
    simp only [List.cons_append,List.nil_append,List.cons.injEq] at h
    obtain ⟨h1,h2⟩:=h
    have e:=congrArg UInt8.toNat h1
    rw [Jn n (by omega),Jn m (by omega)] at e
    exact ⟨e,h2⟩
   ·exfalso
    rw [xW hn,Zj (n:=m) (by omega)] at h
    simp only [List.cons_append,List.nil_append,List.cons.injEq] at h
    have e:=congrArg UInt8.toNat h.1
    have b1:=xH (n:Int) (by omega) (by omega)
    have b2:=xH ((m:Int) % 128+128) (by omega) (by omega)
    omega
  ·by_cases hm:m≤127
   ·exfalso
    rw [xW hm,Zj (n:=n) (by omega)] at h
    simp only [List.cons_append,List.nil_append,List.cons.injEq] at h
    have e:=congrArg UInt8.toNat h.1
    have b1:=xH (m:Int) (by omega) (by omega)
    have b2:=xH ((n:Int) % 128+128) (by omega) (by omega)
    omega
   ·rw [Zj (n:=n) (by omega),Zj (n:=m) (by omega)] at h
    simp only [List.cons_append,List.cons.injEq] at h
    obtain ⟨h1,h2⟩:=h
    have e:=congrArg UInt8.toNat h1
    have b1:=xH ((n:Int) % 128+128) (by omega) (by omega)
    have b2:=xH ((m:Int) % 128+128) (by omega) (by omega)
    obtain ⟨h3,h4⟩:=ih (n / 128) (by omega) (m / 128) r q h2
    exact ⟨by omega,h4⟩
theorem NH {s t r q:List UInt8} (h:xB s++r=xB t++q):s=t∧r=q:=by
 unfold xB at h
 rw [List.append_assoc,List.append_assoc] at h
 obtain ⟨h1,h2⟩:=xA _ _ _ _ h
 exact List.append_inj h2 h1
theorem Ea:∀ (a b:List Nat),a.length=b.length→a.flatMap uB=b.flatMap uB→a=b:=by
 intro a
 induction a with
 | nil=>intro b hl _;cases b with
  | nil=>rfl
  | cons x l=>simp at hl
 | cons x l ih =>
  intro b hl h
  cases b with
  | nil=>simp at hl
  | cons y m =>
   rw [List.flatMap_cons,List.flatMap_cons] at h
   obtain ⟨h1,h2⟩:=xA _ _ _ _ h
   rw [h1,ih m (by simpa using hl) h2]
def QM (c:ColB):List UInt8 × Nat × Nat:=(c.name,c.kind.toNat,c.key.toNat)
theorem Ko:∀ (a b:List ColB) (r q:List UInt8),a.length=b.length→a.flatMap jT++r=b.flatMap jT++q→a.map QM=b.map QM∧r=q:=by
 intro a
 induction a with
 | nil=>intro b r q hl h;cases b with
  | nil=>exact ⟨rfl,h⟩
  | cons x l=>simp at hl
 | cons x l ih =>
  intro b r q hl h
  cases b with
  | nil=>simp at hl
  | cons y m =>
   rw [List.flatMap_cons,List.flatMap_cons] at h
   simp only [jT,List.append_assoc] at h
   obtain ⟨h1,h2⟩:=NH h
   obtain ⟨h3,h4⟩:=xA _ _ _ _ h2
   obtain ⟨h5,h6⟩:=xA _ _ _ _ h4
   obtain ⟨h7,h8⟩:=ih m r q (by simpa using hl) h6
   refine ⟨?_,h8⟩
   simp only [List.map_cons,h7,QM,h1,h3,h5]
theorem KX {R R':Nat} {p p':PlanB} {t t':List ColB} {pl pl':List Nat} (hl:pl.length=jZ R p.group.toNat*t.length) (hl':pl'.length=jZ R' p'.group.toNat*t'.length)
  (h:qd R p t pl=qd R' p' t' pl'):R=R'∧p.group.toNat=p'.group.toNat∧p.page.toNat=p'.page.toNat∧p.foot.toNat=p'.foot.toNat∧t.map QM=t'.map QM∧pl=pl':=by
 unfold qd at h
 simp only [List.append_assoc] at h
 obtain ⟨h1,h⟩:=xA _ _ _ _ h
 obtain ⟨h2,h⟩:=xA _ _ _ _ h
 obtain ⟨h3,h⟩:=xA _ _ _ _ h
 obtain ⟨h4,h⟩:=xA _ _ _ _ h
 obtain ⟨h5,h⟩:=xA _ _ _ _ h
 obtain ⟨h6,h⟩:=Ko t t' _ _ h5 h
 exact ⟨h1,h2,h3,h4,h6,Ea _ _ (by rw [hl,hl',h1,h2,h5]) h⟩
end
section
structure ModF where
 plain:List UInt8
 nonce:List UInt8
 body:List UInt8
def qq (key:Int) (m:ModF):List UInt8:=if key=0 then qv (m.plain.length:Int)++m.plain else qv (m.body.length:Int)++(m.nonce++m.body)
def xO (key:Int) (m:ModF):Prop:=(key=0∧m.nonce=[]∧m.body=[]∧m.plain.length≤65535)∨(key≠0∧m.plain=[]∧m.nonce.length=4∧2≤m.body.length∧m.body.length≤65535)
def jk (t:List ColB):List SpotB→List ModF→List UInt8
 | s :: L,m :: M=>qq (je t s.c).key m++jk t L M
 | _,_=>[]
def jx (t:List ColB):Nat→Bool→List SpotB→List ModF→List Nat
 | n,b,s :: L,m :: M=>(if b=true then [n] else [])++jx t (n+(qq (je t s.c).key m).length) (decide (s.sort=77)) L M
 | _,_,_,_=>[]
def ModsOk (t:List ColB):List SpotB→List ModF→Prop
 | [],[]=>True
 | s :: L,m :: M=>xO (je t s.c).key m∧ModsOk t L M
 | _,_=>False
theorem ModsOk.nil {t:List ColB}:ModsOk t [] []:=trivial
theorem ModsOk.cons {t:List ColB} {s:SpotB} {L:List SpotB} {m:ModF} {M:List ModF} (a:xO (je t s.c).key m) (b:ModsOk t L M):ModsOk t (s :: L) (m :: M):=And.intro a b
theorem ModsOk.ind {t:List ColB} {motive:(L:List SpotB)→(M:List ModF)→ModsOk t L M→Prop} (nil:motive [] [] .nil)
  (cons:∀ {s:SpotB} {L:List SpotB} {m:ModF} {M:List ModF} (a:xO (je t s.c).key m) (b:ModsOk t L M),motive L M b→motive (s :: L) (m :: M) (.cons a b)):∀ {L:List SpotB} {M:List ModF} (h:ModsOk t L M),motive L M h
 | [],[],_=>nil
 | _ :: _,_ :: _,h=>cons h.1 h.2 (ModsOk.ind nil cons h.2)
 | [],_ :: _,h=>absurd h id
 | _ :: _,[],h=>absurd h id
theorem Qa {key:Int} {m m':ModF} {r q:List UInt8} (h:xO key m) (h':xO key m') (e:qq key m++r=qq key m'++q):m=m'∧r=q:=by
 unfold qq at e
 rcases h with ⟨hk,a1,a2,a3⟩|⟨hk,a1,a2,a3,a4⟩
 ·rcases h' with ⟨_,b1,b2,b3⟩|⟨hk',_⟩
  ·rw [if_pos hk,if_pos hk,List.append_assoc,List.append_assoc] at e
   obtain ⟨e1,e2⟩:=List.append_inj e (by rw [jv,jv])
   have hl:=JX a3 b3 e1
   obtain ⟨e3,e4⟩:=List.append_inj e2 hl
   refine ⟨?_,e4⟩
   cases m;cases m';simp_all
  ·exact absurd hk hk'
 ·rcases h' with ⟨hk',_⟩|⟨_,b1,b2,b3,b4⟩
  ·exact absurd hk' hk
  ·rw [if_neg hk,if_neg hk,List.append_assoc,List.append_assoc,List.append_assoc,List.append_assoc] at e
   obtain ⟨e1,e2⟩:=List.append_inj e (by rw [jv,jv])
   have hl:=JX a4 b4 e1
   obtain ⟨e3,e4⟩:=List.append_inj e2 (by rw [a2,b2])
   obtain ⟨e5,e6⟩:=List.append_inj e4 hl
   refine ⟨?_,e6⟩
   cases m;cases m';simp_all
theorem Ii {t:List ColB} {L:List SpotB} {M M':List ModF} (h:ModsOk t L M) (h':ModsOk t L M') (e:jk t L M=jk t L M'):M=M':=by
 induction h using ModsOk.ind generalizing M' with
 | nil=>cases h' using ModsOk.ind;rfl
 | cons hm _ ih =>
  cases h' using ModsOk.ind with
  | cons hm' h2' =>
   simp only [jk] at e
   obtain ⟨e1,e2⟩:=Qa hm hm' e
   rw [e1,ih h2' e2]
structure SheetF where
 rows:Nat
 plan:PlanB
 cols:List ColB
 mods:List ModF
def qJ (S:SheetF):List SpotB:=qi S.rows S.cols.length S.plan.group.toNat S.plan.page.toNat
structure SheetOk (foot:Nat) (parts footer:List UInt8) (S:SheetF):Prop where
 rows:S.rows≤60
 plan:qB S.plan=true
 told:S.plan.told=false
 foot:S.plan.foot=(foot:Int)
 heads:jQ S.cols=true
 bare:∀ c ∈ S.cols,c.cells=[]
 mods:ModsOk S.cols (qJ S) S.mods
 parts:parts=jk S.cols (qJ S) S.mods
 footer:footer=qd S.rows S.plan S.cols (jx S.cols 4 true (qJ S) S.mods)
theorem qX {t:List ColB} {L:List SpotB} {M:List ModF} (h:ModsOk t L M):M.length=L.length:=by
 induction h using ModsOk.ind with
 | nil=>rfl
 | cons _ _ ih=>simp [ih]
theorem KA {t:List ColB} (j:JobB) (r:List KeyB):∀ (L:List SpotB) (M:List ModF) (n:Nat) (b:Bool) (st:StB),M.length=L.length→(jx t n b L M).length=(qC j r st b L).length:=by
 intro L
 induction L with
 | nil=>intro M n b st h;cases M with
  | nil=>rfl
  | cons m M=>simp at h
 | cons s L ih =>
  intro M n b st h
  cases M with
  | nil=>simp at h
  | cons m M =>
   simp only [jx,qC,List.length_append]
   rw [ih M _ _ (zF j r st s) (by simpa using h)]
   cases b<;>rfl
theorem JU {foot:Nat} {parts footer:List UInt8} {S:SheetF} (h:SheetOk foot parts footer S):(jx S.cols 4 true (qJ S) S.mods).length=jZ S.rows S.plan.group.toNat*S.cols.length:=by
 rw [KA ⟨[],⟨0,0,0,false⟩,[],0⟩ [] _ _ _ _ ⟨[],[]⟩ (qX h.mods)]
 exact Qz _ _ _ _ _ _ _ _
theorem DT {p q:PlanB} (hp:qB p=true) (hq:qB q=true) (ht:p.told=q.told) (h1:p.group.toNat=q.group.toNat) (h2:p.page.toNat=q.page.toNat) (h3:p.foot.toNat=q.foot.toNat):p=q:=by
 simp only [qB,Bool.and_eq_true,decide_eq_true_eq] at hp hq
 have e1:p.group=q.group:=by omega
 have e2:p.page=q.page:=by omega
 have e3:p.foot=q.foot:=by omega
 cases p;cases q;simp_all
theorem Sb {a b:List ColB} (ha:jQ a=true) (hb:jQ b=true) (ca:∀ c ∈ a,c.cells=[]) (cb:∀ c ∈ b,c.cells=[]) (h:a.map QM=b.map QM):a=b:=by
 have hl:a.length=b.length:=by have:=congrArg List.length h;simpa using this
 have parts:∀ {t:List ColB},jQ t=true→∀ k (hk:k < t.length),0≤(t[k]).kind∧0≤(t[k]).key:=by
  intro t ht k hk
  simp only [jQ,Bool.and_eq_true] at ht
  obtain ⟨_,h1,h2,_⟩:=JF (zX ht.1 (Nat.le_refl _) k hk).1
  exact ⟨by omega,h2⟩
 apply List.ext_getElem hl
 intro k h1 h2
 have e:QM a[k]=QM b[k]:=by
  have:(a.map QM)[k]'(by simpa using h1)=(b.map QM)[k]'(by simpa using h2):=by simp only [h]
  simpa using this
 obtain ⟨p1,p2⟩:=parts ha k h1
 obtain ⟨q1,q2⟩:=parts hb k h2
 have c1:=ca a[k] (List.getElem_mem h1)
 have c2:=cb b[k] (List.getElem_mem h2)
 generalize a[k]=x at *
 generalize b[k]=y at *
 simp only [QM,Prod.mk.injEq] at e
 obtain ⟨e1,e2,e3⟩:=e
 have k1:x.kind=y.kind:=by omega
 have k2:x.key=y.key:=by omega
 cases x;cases y;simp_all
theorem YZ {foot:Nat} {parts footer:List UInt8} {S S':SheetF} (h:SheetOk foot parts footer S) (h':SheetOk foot parts footer S'):S=S':=by
 have hf:=h.footer.symm.trans h'.footer
 obtain ⟨e1,e2,e3,e4,e5,e6⟩:=KX (JU h) (JU h') hf
 have hp:=DT h.plan h'.plan (h.told.trans h'.told.symm) e2 e3 e4
 have hc:=Sb h.heads h'.heads h.bare h'.bare e5
 have hm:=h.parts.symm.trans h'.parts
 have hs:qJ S=qJ S':=by unfold qJ;rw [e1,hp,hc]
 rw [hs,hc] at hm
 have m1:=h.mods
 rw [hs,hc] at m1
 have e7:=Ii m1 h'.mods hm
 cases S;cases S';simp_all
end
section
theorem IE:∀ (l:List Nat),(∀ x ∈ l,x < 18446744073709551616)→(l.flatMap uB).length≤10*l.length:=by
 intro l
 induction l with
 | nil=>intro _;simp
 | cons x l ih =>
  intro h
  have h1:=jS x (h x (by simp))
  have h2:=ih (fun y hy=>h y (List.mem_cons_of_mem _ hy))
  rw [List.flatMap_cons,List.length_append,List.length_cons]
  omega
theorem Vj {foot:Nat} {parts footer:List UInt8} {S:SheetF} (hl:∀ x ∈ jx S.cols 4 true (qJ S) S.mods,x < 18446744073709551616) (h:SheetOk foot parts footer S):footer.length≤4200:=by
 have hp:=h.plan
 simp only [qB,Bool.and_eq_true,decide_eq_true_eq] at hp
 have hh:=h.heads
 simp only [jQ,Bool.and_eq_true,decide_eq_true_eq] at hh
 have hr:=h.rows
 have hc:∀ c ∈ S.cols,(jT c).length≤38:=by
  intro c hc
  obtain ⟨k,hk,rfl⟩:=List.mem_iff_getElem.1 hc
  obtain ⟨a,b,c,d⟩:=JF (zX hh.1 (Nat.le_refl _) k hk).1
  exact VY (ZF a).2 b ⟨c,d⟩
 have h1:=Kw jT 38 S.cols hc
 have h2:=IE _ hl
 have h3:=JU h
 have hcn:jZ S.rows S.plan.group.toNat≤S.rows:=Qq (by omega)
 have h4:jZ S.rows S.plan.group.toNat*S.cols.length≤60*6:=Nat.mul_le_mul (by omega) hh.2.2
 have u1:=jS S.rows (by omega)
 have u2:=jS S.plan.group.toNat (by omega)
 have u3:=jS S.plan.page.toNat (by omega)
 have u4:=jS S.plan.foot.toNat (by omega)
 have u5:=jS S.cols.length (by omega)
 rw [h.footer]
 unfold qd
 simp only [List.length_append]
 omega
end
end Go.Proofs.YthhpbhpfagoapaaGreat
