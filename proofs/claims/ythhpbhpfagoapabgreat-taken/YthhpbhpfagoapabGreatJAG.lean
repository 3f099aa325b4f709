import Derived.Test.YthhpbhpfagoapabGreatJAN
import Derived.Test.YthhpbhpfagoapabGreatKHead
namespace Go.Proofs.YthhpbhpfagoapabGreat
set_option linter.unusedVariables false
set_option linter.unusedSimpArgs false
set_option maxRecDepth 100000
set_option maxHeartbeats 16000000
section
def StandsIn (s t:List UInt8):Prop:=∃ a b,s=a++t++b
theorem StandsIn.mid {s u t:List UInt8} (h:StandsIn s u) (h2:StandsIn u t):StandsIn s t:=by
 obtain ⟨a,b,rfl⟩:=h
 obtain ⟨c,d,rfl⟩:=h2
 exact ⟨a++c,d++b,by simp [List.append_assoc]⟩
theorem DK {t:List ColB}:∀ (L:List SpotB) (M:List ModF) (i:Nat) (s:SpotB) (m:ModF),L[i]?=some s→M[i]?=some m→StandsIn (jn t L M) (qw (jg t s.c).key m):=by
 intro L
 induction L with
 | nil=>intro M i s m h;simp at h
 | cons s0 L ih =>
  intro M i s m h h2
  cases M with
  | nil=>simp at h2
  | cons m0 M =>
   cases i with
   | zero =>
    simp only [List.getElem?_cons_zero,Option.some.injEq] at h h2
    subst h
    subst h2
    exact ⟨[],jn t L M,by simp [jn]⟩
   | succ i =>
    simp only [List.getElem?_cons_succ] at h h2
    obtain ⟨a,b,e⟩:=ih M i s m h h2
    exact ⟨qw (jg t s0.c).key m0++a,b,by simp [jn,e,List.append_assoc]⟩
theorem Ss {t:List ColB} {L:List SpotB} {M:List ModF} (h:ModsOk t L M):∀ (i:Nat) (s:SpotB) (m:ModF),L[i]?=some s→M[i]?=some m→zv (jg t s.c).key m:=by
 induction h with
 | nil=>intro i s m h;simp at h
 | cons h1 _ ih =>
  intro i s m h h2
  cases i with
  | zero =>
   simp only [List.getElem?_cons_zero,Option.some.injEq] at h h2
   subst h
   subst h2
   exact h1
  | succ i =>
   simp only [List.getElem?_cons_succ] at h h2
   exact ih i s m h h2
theorem Ds {pre:List UInt8} {r:List KeyB} {key:Int} {c:Nat}:∀ (L:List SpotB) (M:List ModF) (x:SealB),x ∈ xm pre r key c L M→∃ (i:Nat) (s:SpotB) (m:ModF),L[i]?=some s∧M[i]?=some m∧s.c=c∧x=⟨ji r key,m.nonce,jR pre s.sort s.g s.c s.p,m.body⟩:=by
 intro L
 induction L with
 | nil=>intro M x h;cases M<;>simp [xm] at h
 | cons s L ih =>
  intro M x h
  cases M with
  | nil=>simp [xm] at h
  | cons m M =>
   simp only [xm,List.mem_append] at h
   rcases h with h|h
   ·split at h
    ·rename_i hc
     simp only [List.mem_cons,List.not_mem_nil,or_false] at h
     exact ⟨0,s,m,rfl,rfl,hc,h⟩
    ·simp at h
   ·obtain ⟨i,s',m',h1,h2,h3,h4⟩:=ih M x h
    exact ⟨i+1,s',m',h1,h2,h3,h4⟩
structure SeenOk (file:List UInt8) (x:SealB):Prop where
 stands:StandsIn file (x.nonce++x.body)
 opens:∃ p,xp x.secret x.nonce x.extra x.body=some p
 secret:x.secret.length=8
 nonce:x.nonce.length=4
 extra:x.extra.length≤5000
 body:x.body.length≤5002
theorem LT {file pre:List UInt8} {r:List KeyB} {S:SheetF} {f:FormF} (h:xe file pre r false=(0,some S)) (hf:zd file=some f):∀ x ∈ Zf pre r f S,SeenOk file x:=by
 obtain ⟨hp20,hring,f',footer,hf',hn,hS,h1,h2⟩:=UY h
 rw [hf] at hf'
 cases hf'
 obtain ⟨hok,hfile⟩:=ZY hf
 have hsh:=Zd hS
 have hfl:=(KZ h hf).1
 have hparts:StandsIn file f.parts:=by
  rw [← hfile]
  exact ⟨_,_,by unfold zi;rw [← List.append_assoc]⟩
 intro x hx
 unfold Zf at hx
 rcases List.mem_cons.1 hx with rfl|hx
 ·have hst:StandsIn file ((zf pre r f).nonce++(zf pre r f).body):=by
   rw [← hfile]
   show StandsIn (zi f) (f.nonce++f.body)
   unfold zi qW
   refine ⟨([67,70]++[if f.told=true then 79 else 69]++[byB (f.foot:Int)])++f.parts++((if f.told=true then qQ (f.footer.length:Int)++f.footer else [])++qQ (f.body.length:Int)),(qQ (((if f.told=true then qQ (f.footer.length:Int)++f.footer else [])++(qQ (f.body.length:Int)++(f.nonce++f.body))).length:Int)++[67,70]),?_⟩
   simp only [List.append_assoc]
  have hb1:=JN pre 83 0 0 0 hp20
  have hb2:=JN pre 70 0 0 0 hp20
  have hf42:f.told=true→f.footer.length≤4200:=by
   intro ht
   have e:=(h1 ht).1
   subst e
   exact QL (fun x hx=>by
    have hle:=Xf _ _ _ _ x hx
    have h3:=(Za f).2.2
    have h4:=(zO hok rfl).len
    have h5:=hok.short
    rw [← hsh.parts] at hle
    omega) hsh
  cases ht:f.told with
  | true =>
   have ho:=(h1 ht).2
   have:=hf42 ht
   refine ⟨hst,⟨[],?_⟩,Qb hring hn,hok.nonce,?_,(XQ ho).2⟩
   ·simp only [zf,ht,if_true];exact ho
   ·simp only [zf,ht,if_true,List.length_append];omega
  | false =>
   have ho:=h2 ht
   refine ⟨hst,⟨footer,?_⟩,Qb hring hn,hok.nonce,?_,(XQ ho).2⟩
   ·simp only [zf,ht,Bool.false_eq_true,if_false];exact ho
   ·simp only [zf,ht,Bool.false_eq_true,if_false];omega
 ·simp only [List.mem_flatMap,List.mem_range] at hx
  obtain ⟨c,hc,hx⟩:=hx
  split at hx
  ·rename_i hpv
   have hk0:=ND hpv
   obtain ⟨i,s,m,hs,hm,hsc,rfl⟩:=Ds _ _ _ hx
   have hst:(qh pre r S c).state=0:=by
    simp only [xC,Bool.and_eq_true,decide_eq_true_eq] at hpv
    exact hpv.2
   have hmo:=Ss hsh.mods i s m hs hm
   rw [hsc] at hmo
   have hmo2:m.nonce.length=4∧m.body.length≤65535:=by
    rcases hmo with ⟨h0,_⟩|⟨_,_,h4,_,h6⟩
    ·exact absurd h0 hk0
    ·exact ⟨h4,h6⟩
   have hstand:=DK (t:=S.cols) (qt S) S.mods i s m hs hm
   rw [← hsh.parts,hsc] at hstand
   have hin:StandsIn (qw (jg S.cols c).key m) (m.nonce++m.body):=⟨qQ (m.body.length:Int),[],by unfold qw;rw [if_neg hk0];simp⟩
   unfold qh at hst
   by_cases hlock:0 < (jg S.cols c).key∧jw r (jg S.cols c).key=false
   ·rw [if_pos hlock] at hst;simp at hst
   ·rw [if_neg hlock] at hst
    have hkp:0 < (jg S.cols c).key:=by
     have hsm:=Qj hsh.heads hsh.bare (jg S.cols c) (by rw [xy hc];exact List.getElem_mem _)
     have:=hsm.key
     omega
    have hhas:jw r (jg S.cols c).key=true:=by
     cases hq:jw r (jg S.cols c).key with
     | true=>rfl
     | false=>exact absurd ⟨hkp,hq⟩ hlock
    cases hcells:jI pre r (jg S.cols c).kind (jg S.cols c).key c (some []) (qt S) S.mods with
    | none=>rw [hcells] at hst;simp at hst
    | some cells =>
     obtain ⟨plain,hp⟩:=UE _ _ _ _ hcells i s m hs hm hsc
     unfold JR at hp
     rw [if_neg hk0] at hp
     have hb:=JN pre s.sort s.g s.c s.p hp20
     exact ⟨(hparts.mid hstand).mid hin,⟨plain,hp⟩,Qb hring hhas,hmo2.1,by simp only;omega,(XQ hp).2⟩
  ·simp at hx
end
section
theorem Rn {js:List JobB} (h:QR js):∀ j ∈ js,∀ k ∈ js,j.pre=k.pre→j=k:=by
 intro j hj k hk he
 obtain ⟨a,ha,rfl⟩:=List.mem_iff_getElem.1 hj
 obtain ⟨b,hb,rfl⟩:=List.mem_iff_getElem.1 hk
 rcases Nat.lt_trichotomy a b with hlt|heq|hgt
 ·exact absurd he (h b hb _ (List.mem_take_iff_getElem.2 ⟨a,by omega,rfl⟩))
 ·subst heq;rfl
 ·exact absurd he.symm (h a ha _ (List.mem_take_iff_getElem.2 ⟨b,by omega,rfl⟩))
theorem Ux (x:FoundB) (c:ColB):Zn x c=true ↔ DU x c:=by
 unfold Zn DU
 simp only [Bool.and_eq_true,decide_eq_true_eq,Bool.or_eq_true,Bool.not_eq_true']
 constructor
 ·rintro ⟨⟨⟨h1,h2⟩,h3⟩,h4⟩
  refine ⟨⟨h1,h2,h3⟩,fun hp=>?_⟩
  rcases h4 with h4|h4
  ·rw [h4] at hp;cases hp
  ·exact h4
 ·rintro ⟨⟨h1,h2,h3⟩,h4⟩
  refine ⟨⟨⟨h1,h2⟩,h3⟩,?_⟩
  cases hp:xC x with
  | false=>exact .inl rfl
  | true=>exact .inr (h4 hp)
theorem Sc {pre:List UInt8} {r:List KeyB} {S:SheetF} {T:List ColB} (h:AQ (Xo pre r S) T):zQ (qh pre r S) S.cols.length T=true:=by
 obtain ⟨hl,hc⟩:=h
 have hl':S.cols.length=T.length:=by simpa [Xo] using hl
 unfold zQ
 rw [Bool.and_eq_true,decide_eq_true_eq]
 refine ⟨hl',isTab_iff.2 fun k hk=>(Ux _ _).2 ?_⟩
 have:=hc k (by omega)
 have hget:(Xo pre r S).getD k ⟨[],0,0,0,[]⟩=qh pre r S k:=by
  unfold Xo
  rw [List.getD_eq_getElem?_getD,List.getElem?_map,List.getElem?_range hk]
  rfl
 rw [hget] at this
 exact this
theorem Ev {js:List JobB} {r:List KeyB} {file pre:List UInt8} {S:SheetF} {f:FormF} (hg:∀ j ∈ js,GoodJ j r) (hd:QR js) (hr:xe file pre r false=(0,some S)) (hf:zd file=some f) (hw:¬ Jl (qh pre r S) S.cols.length pre js) :
  ∃ x,zq (Zf pre r f S) (qY js r)=some x∧SeenOk file x∧x ∉ qY js r∧x ∈ Zf pre r f S:=by
 cases hs:zq (Zf pre r f S) (qY js r) with
 | some x =>
  unfold zq at hs
  have h1:=List.mem_of_find?_eq_some hs
  have h2:=List.find?_some hs
  exact ⟨x,rfl,LT hr hf x h1,by simpa using h2,h1⟩
 | none =>
  exfalso
  unfold zq at hs
  rw [List.find?_eq_none] at hs
  have hall:∀ x ∈ Zf pre r f S,∃ j ∈ js,x ∈ Jf j r:=by
   intro x hx
   have:=hs x hx
   simp only [decide_not,Bool.not_eq_true',decide_eq_false_iff_not,Decidable.not_not] at this
   unfold qY at this
   exact List.mem_flatMap.1 this
  obtain ⟨j,hj,hp,ht⟩:=AG hg (Rn hd) hr hf hall
  obtain ⟨a,ha,rfl⟩:=List.mem_iff_getElem.1 hj
  exact hw ⟨a,ha,hp,fun k hk=>by rw [← hp];exact hd a ha k hk,Sc ht⟩
def zG (F:Nat→FoundB) (T:List ColB):Nat→Bool
 | 0=>false
 | k+1=>zG F T k || (decide (0 < (F k).key) && decide ((F k).state=0) && !decide ((F k).cells=(jg T k).cells))
def xU (F:Nat→FoundB) (n:Nat) (T:List ColB):Bool:=!Je F n T || zG F T n
theorem At {F:Nat→FoundB} {T:List ColB} {n k:Nat} (hk:k < n) (h:zG F T (k+1)=true):zG F T n=true:=by
 induction n with
 | zero=>omega
 | succ n ih =>
  by_cases e:k=n
  ·subst e;exact h
  ·simp only [zG,ih (by omega),Bool.true_or]
theorem wrongTo_iff {F:Nat→FoundB} {T:List ColB}:∀ {n:Nat},zG F T n=false ↔ ∀ k,k < n→¬ (0 < (F k).key∧(F k).state=0∧(F k).cells≠(jg T k).cells):=by
 intro n
 induction n with
 | zero=>exact ⟨fun _ k hk=>by omega,fun _=>rfl⟩
 | succ n ih =>
  simp only [zG,Bool.or_eq_false_iff]
  rw [ih]
  have key:(decide (0 < (F n).key) && decide ((F n).state=0) && !decide ((F n).cells=(jg T n).cells))=false ↔ ¬ (0 < (F n).key∧(F n).state=0∧(F n).cells≠(jg T n).cells):=by
   by_cases h1:0 < (F n).key<;>by_cases h2:(F n).state=0<;>by_cases h3:(F n).cells=(jg T n).cells<;>simp [h1,h2,h3]
  rw [key]
  refine ⟨fun ⟨h1,h2⟩ k hk=>?_,fun h=>⟨fun k hk=>h k (by omega),h n (by omega)⟩⟩
  by_cases e:k=n
  ·subst e;exact h2
  ·exact h1 k (by omega)
theorem Ag {F:Nat→FoundB} {n:Nat} {T:List ColB} (hk:∀ i,i < n→0≤(F i).key):xU F n T=!zQ F n T:=by
 have key:xU F n T=false ↔ zQ F n T=true:=by
  unfold xU zQ Je
  rw [Bool.or_eq_false_iff,Bool.not_eq_false',Bool.and_eq_true,Bool.and_eq_true,decide_eq_true_eq,NI,wrongTo_iff,isTab_iff]
  constructor
  ·rintro ⟨⟨h1,h2⟩,h3⟩
   refine ⟨h1,fun k hkn=>(Ux _ _).2 ⟨h2 k hkn,fun hp=>?_⟩⟩
   simp only [xC,Bool.and_eq_true,decide_eq_true_eq] at hp
   have:=h3 k hkn
   have h0:=hk k hkn
   by_cases he:(F k).cells=(jg T k).cells
   ·exact he
   ·exact absurd ⟨by omega,hp.2,he⟩ this
  ·rintro ⟨h1,h2⟩
   refine ⟨⟨h1,fun k hkn=>((Ux _ _).1 (h2 k hkn)).1⟩,fun k hkn ⟨a,b,c⟩=>?_⟩
   exact c (((Ux _ _).1 (h2 k hkn)).2 (by simp only [xC,Bool.and_eq_true,decide_eq_true_eq];exact ⟨by omega,b⟩))
 cases h1:zQ F n T with
 | true=>rw [key.2 h1];rfl
 | false =>
  cases h2:xU F n T with
  | true=>rfl
  | false=>rw [key.1 h2] at h1;cases h1
theorem MZ {file pre:List UInt8} {r:List KeyB} {S:SheetF} (h:xe file pre r false=(0,some S)):∀ i,i < S.cols.length→0≤(qh pre r S i).key:=by
 intro i hi
 obtain ⟨_,_,foot,parts,footer,hok⟩:=Ur h
 rw [YT]
 exact (Qj hok.heads hok.bare (jg S.cols i) (by rw [xy hi];exact List.getElem_mem _)).key.1
end
end Go.Proofs.YthhpbhpfagoapabGreat
