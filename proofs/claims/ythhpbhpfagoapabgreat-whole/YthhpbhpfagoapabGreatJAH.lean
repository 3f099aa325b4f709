import Derived.Test.YthhpbhpfagoapabGreatJAQ
import Derived.Test.YthhpbhpfagoapabGreatKHead
namespace Go.Proofs.YthhpbhpfagoapabGreat
set_option linter.unusedVariables false
set_option linter.unusedSimpArgs false
set_option maxRecDepth 100000
set_option maxHeartbeats 16000000
section
def StandsIn (s t:List UInt8):Prop:=∃ a b,s=a++t++b
theorem StandsIn.mid {s u t:List UInt8} (h:StandsIn s u) (h2:StandsIn u t):StandsIn s t:=by
 obtain ⟨a,b,rfl⟩:=h
 obtain ⟨c,d,rfl⟩:=h2
 exact ⟨a++c,d++b,by simp [List.append_assoc]⟩
theorem Mw {t:List ColB}:∀ (L:List SpotB) (M:List ModF) (i:Nat) (s:SpotB) (m:ModF),L[i]?=some s→M[i]?=some m→StandsIn (jn t L M) (qq (jf t s.c).key m):=by
 intro L
 induction L with
 | nil=>intro M i s m h;simp at h
 | cons s0 L ih =>
  intro M i s m h h2
  cases M with
  | nil=>simp at h2
  | cons m0 M =>
   cases i with
   | zero =>
    simp only [List.getElem?_cons_zero,Option.some.injEq] at h h2
    subst h
    subst h2
    exact ⟨[],jn t L M,by simp [jn]⟩
   | succ i =>
    simp only [List.getElem?_cons_succ] at h h2
    obtain ⟨a,b,e⟩:=ih M i s m h h2
    exact ⟨qq (jf t s0.c).key m0++a,b,by simp [jn,e,List.append_assoc]⟩
theorem Lw {t:List ColB} {L:List SpotB} {M:List ModF} (h:ModsOk t L M):∀ (i:Nat) (s:SpotB) (m:ModF),L[i]?=some s→M[i]?=some m→ze (jf t s.c).key m:=by
 induction h using ModsOk.ind with
 | nil=>intro i s m h;simp at h
 | cons h1 _ ih =>
  intro i s m h h2
  cases i with
  | zero =>
   simp only [List.getElem?_cons_zero,Option.some.injEq] at h h2
   subst h
   subst h2
   exact h1
  | succ i =>
   simp only [List.getElem?_cons_succ] at h h2
   exact ih i s m h h2
theorem Mv {pre:List UInt8} {r:List KeyB} {key:Int} {c:Nat}:∀ (L:List SpotB) (M:List ModF) (x:SealB),x ∈ xq pre r key c L M→∃ (i:Nat) (s:SpotB) (m:ModF),L[i]?=some s∧M[i]?=some m∧s.c=c∧x=⟨ji r key,m.nonce,jR pre s.sort s.g s.c s.p,m.body⟩:=by
 intro L
 induction L with
 | nil=>intro M x h;cases M<;>simp [xq] at h
 | cons s L ih =>
  intro M x h
  cases M with
  | nil=>simp [xq] at h
  | cons m M =>
   simp only [xq,List.mem_append] at h
   rcases h with h|h
   ·split at h
    ·rename_i hc
     simp only [List.mem_cons,List.not_mem_nil,or_false] at h
     exact ⟨0,s,m,rfl,rfl,hc,h⟩
    ·simp at h
   ·obtain ⟨i,s',m',h1,h2,h3,h4⟩:=ih M x h
    exact ⟨i+1,s',m',h1,h2,h3,h4⟩
structure SeenOk (file:List UInt8) (x:SealB):Prop where
 stands:StandsIn file (x.nonce++x.body)
 opens:∃ p,xr x.secret x.nonce x.extra x.body=some p
 secret:x.secret.length=8
 nonce:x.nonce.length=4
 extra:x.extra.length≤5000
 body:x.body.length≤5002
theorem Bt {file pre:List UInt8} {r:List KeyB} {S:SheetF} {f:FormF} (h:xg file pre r false=(0,some S)) (hf:zq file=some f):∀ x ∈ Zr pre r f S,SeenOk file x:=by
 obtain ⟨hp20,hring,f',footer,hf',hn,hS,h1,h2⟩:=Vg h
 rw [hf] at hf'
 cases hf'
 obtain ⟨hok,hfile⟩:=Kj hf
 have hsh:=Ze hS
 have hfl:=(Uk h hf).1
 have hparts:StandsIn file f.parts:=by
  rw [← hfile]
  exact ⟨_,_,by unfold xk;rw [← List.append_assoc]⟩
 intro x hx
 unfold Zr at hx
 rcases List.mem_cons.1 hx with rfl|hx
 ·have hst:StandsIn file ((zi pre r f).nonce++(zi pre r f).body):=by
   rw [← hfile]
   show StandsIn (xk f) (f.nonce++f.body)
   unfold xk qp
   refine ⟨([67,70]++[if f.told=true then 79 else 69]++[byB (f.foot:Int)])++f.parts++((if f.told=true then qz (f.footer.length:Int)++f.footer else [])++qz (f.body.length:Int)),(qz (((if f.told=true then qz (f.footer.length:Int)++f.footer else [])++(qz (f.body.length:Int)++(f.nonce++f.body))).length:Int)++[67,70]),?_⟩
   simp only [List.append_assoc]
  have hb1:=JO pre 83 0 0 0 hp20
  have hb2:=JO pre 70 0 0 0 hp20
  have hf42:f.told=true→f.footer.length≤4200:=by
   intro ht
   have e:=(h1 ht).1
   subst e
   exact Xb (fun x hx=>by
    have hle:=Xo _ _ _ _ x hx
    have h3:=(Zf f).2.2
    have h4:=(zO hok rfl).len
    have h5:=hok.short
    rw [← hsh.parts] at hle
    omega) hsh
  cases ht:f.told with
  | true =>
   have ho:=(h1 ht).2
   have:=hf42 ht
   refine ⟨hst,⟨[],?_⟩,Qk hring hn,hok.nonce,?_,(Zj ho).2⟩
   ·simp only [zi,ht,if_true];exact ho
   ·simp only [zi,ht,if_true,List.length_append];omega
  | false =>
   have ho:=h2 ht
   refine ⟨hst,⟨footer,?_⟩,Qk hring hn,hok.nonce,?_,(Zj ho).2⟩
   ·simp only [zi,ht,Bool.false_eq_true,if_false];exact ho
   ·simp only [zi,ht,Bool.false_eq_true,if_false];omega
 ·simp only [List.mem_flatMap,List.mem_range] at hx
  obtain ⟨c,hc,hx⟩:=hx
  split at hx
  ·rename_i hpv
   have hk0:=Yl hpv
   obtain ⟨i,s,m,hs,hm,hsc,rfl⟩:=Mv _ _ _ hx
   have hst:(qi pre r S c).state=0:=by
    simp only [xD,Bool.and_eq_true,decide_eq_true_eq] at hpv
    exact hpv.2
   have hmo:=Lw hsh.mods i s m hs hm
   rw [hsc] at hmo
   have hmo2:m.nonce.length=4∧m.body.length≤65535:=by
    rcases hmo with ⟨h0,_⟩|⟨_,_,h4,_,h6⟩
    ·exact absurd h0 hk0
    ·exact ⟨h4,h6⟩
   have hstand:=Mw (t:=S.cols) (qr S) S.mods i s m hs hm
   rw [← hsh.parts,hsc] at hstand
   have hin:StandsIn (qq (jf S.cols c).key m) (m.nonce++m.body):=⟨qz (m.body.length:Int),[],by unfold qq;rw [if_neg hk0];simp⟩
   unfold qi at hst
   by_cases hlock:0 < (jf S.cols c).key∧jw r (jf S.cols c).key=false
   ·rw [if_pos hlock] at hst;simp at hst
   ·rw [if_neg hlock] at hst
    have hkp:0 < (jf S.cols c).key:=by
     have hsm:=Qw hsh.heads hsh.bare (jf S.cols c) (by rw [xz hc];exact List.getElem_mem _)
     have:=hsm.key
     omega
    have hhas:jw r (jf S.cols c).key=true:=by
     cases hq:jw r (jf S.cols c).key with
     | true=>rfl
     | false=>exact absurd ⟨hkp,hq⟩ hlock
    cases hcells:jI pre r (jf S.cols c).kind (jf S.cols c).key c (some []) (qr S) S.mods with
    | none=>rw [hcells] at hst;simp at hst
    | some cells =>
     obtain ⟨plain,hp⟩:=Vc _ _ _ _ hcells i s m hs hm hsc
     unfold Jt at hp
     rw [if_neg hk0] at hp
     have hb:=JO pre s.sort s.g s.c s.p hp20
     exact ⟨(hparts.mid hstand).mid hin,⟨plain,hp⟩,Qk hring hhas,hmo2.1,by simp only;omega,(Zj hp).2⟩
  ·simp at hx
end
section
theorem RF {js:List JobB} (h:QV js):∀ j ∈ js,∀ k ∈ js,j.pre=k.pre→j=k:=by
 intro j hj k hk he
 obtain ⟨a,ha,rfl⟩:=List.mem_iff_getElem.1 hj
 obtain ⟨b,hb,rfl⟩:=List.mem_iff_getElem.1 hk
 rcases Nat.lt_trichotomy a b with hlt|heq|hgt
 ·exact absurd he (h b hb _ (List.mem_take_iff_getElem.2 ⟨a,by omega,rfl⟩))
 ·subst heq;rfl
 ·exact absurd he.symm (h a ha _ (List.mem_take_iff_getElem.2 ⟨b,by omega,rfl⟩))
theorem UK (x:FoundB) (c:ColB):Zo x c=true ↔ CA x c:=by
 unfold Zo CA
 simp only [Bool.and_eq_true,decide_eq_true_eq,Bool.or_eq_true,Bool.not_eq_true',deqC_iff]
 constructor
 ·rintro ⟨⟨⟨h1,h2⟩,h3⟩,h4⟩
  refine ⟨⟨h1,h2,h3⟩,fun hp=>?_⟩
  rcases h4 with h4|h4
  ·rw [h4] at hp;cases hp
  ·exact h4
 ·rintro ⟨⟨h1,h2,h3⟩,h4⟩
  refine ⟨⟨⟨h1,h2⟩,h3⟩,?_⟩
  cases hp:xD x with
  | false=>exact .inl rfl
  | true=>exact .inr (h4 hp)
theorem SM {pre:List UInt8} {r:List KeyB} {S:SheetF} {T:List ColB} (h:AR (Xr pre r S) T):zX (qi pre r S) S.cols.length T=true:=by
 obtain ⟨hl,hc⟩:=h
 have hl':S.cols.length=T.length:=by simpa [Xr] using hl
 unfold zX
 rw [Bool.and_eq_true,decide_eq_true_eq]
 refine ⟨hl',isTab_iff.2 fun k hk=>(UK _ _).2 ?_⟩
 have:=hc k (by omega)
 have hget:(Xr pre r S).getD k ⟨[],0,0,0,[]⟩=qi pre r S k:=by
  unfold Xr
  rw [List.getD_eq_getElem?_getD,List.getElem?_map,List.getElem?_range hk]
  rfl
 rw [hget] at this
 exact this
theorem IL {js:List JobB} {r:List KeyB} {file pre:List UInt8} {S:SheetF} {f:FormF} (hg:∀ j ∈ js,GoodJ j r) (hd:QV js) (hr:xg file pre r false=(0,some S)) (hf:zq file=some f) (hw:¬ Jo (qi pre r S) S.cols.length pre js) :
  ∃ x,zp (Zr pre r f S) (xf js r)=some x∧SeenOk file x∧x ∉ xf js r∧x ∈ Zr pre r f S:=by
 cases hs:zp (Zr pre r f S) (xf js r) with
 | some x =>
  unfold zp at hs
  have h1:=List.mem_of_find?_eq_some hs
  have h2:=List.find?_some hs
  exact ⟨x,rfl,Bt hr hf x h1,memS_no.1 (by simpa using h2),h1⟩
 | none =>
  exfalso
  unfold zp at hs
  rw [List.find?_eq_none] at hs
  have hall:∀ x ∈ Zr pre r f S,∃ j ∈ js,x ∈ Jg j r:=by
   intro x hx
   have:=hs x hx
   have:=memS_iff.1 (by simpa using this)
   unfold xf at this
   exact List.mem_flatMap.1 this
  obtain ⟨j,hj,hp,ht⟩:=Aa hg (RF hd) hr hf hall
  obtain ⟨a,ha,rfl⟩:=List.mem_iff_getElem.1 hj
  exact hw ⟨a,ha,hp,fun k hk=>by rw [← hp];exact hd a ha k hk,SM ht⟩
def zE (F:Nat→FoundB) (T:List ColB):Nat→Bool
 | 0=>false
 | k+1=>zE F T k || (decide (0 < (F k).key) && decide ((F k).state=0) && !XL (F k).cells (jf T k).cells)
def xW (F:Nat→FoundB) (n:Nat) (T:List ColB):Bool:=!Ji F n T || zE F T n
theorem Dx {F:Nat→FoundB} {T:List ColB} {n k:Nat} (hk:k < n) (h:zE F T (k+1)=true):zE F T n=true:=by
 induction n with
 | zero=>omega
 | succ n ih =>
  by_cases e:k=n
  ·subst e;exact h
  ·simp only [zE,ih (by omega),Bool.true_or]
theorem wrongTo_iff {F:Nat→FoundB} {T:List ColB}:∀ {n:Nat},zE F T n=false ↔ ∀ k,k < n→¬ (0 < (F k).key∧(F k).state=0∧(F k).cells≠(jf T k).cells):=by
 intro n
 induction n with
 | zero=>exact ⟨fun _ k hk=>by omega,fun _=>rfl⟩
 | succ n ih =>
  simp only [zE,Bool.or_eq_false_iff]
  rw [ih]
  have key:(decide (0 < (F n).key) && decide ((F n).state=0) && !XL (F n).cells (jf T n).cells)=false ↔ ¬ (0 < (F n).key∧(F n).state=0∧(F n).cells≠(jf T n).cells):=by
   cases h3:XL (F n).cells (jf T n).cells
   ·have h4:=deqC_no.1 h3
    by_cases h1:0 < (F n).key<;>by_cases h2:(F n).state=0<;>simp [h1,h2,h4]
   ·have h4:=deqC_iff.1 h3
    by_cases h1:0 < (F n).key<;>by_cases h2:(F n).state=0<;>simp [h1,h2,h4]
  rw [key]
  refine ⟨fun ⟨h1,h2⟩ k hk=>?_,fun h=>⟨fun k hk=>h k (by omega),h n (by omega)⟩⟩
  by_cases e:k=n
  ·subst e;exact h2
  ·exact h1 k (by omega)
theorem IX {F:Nat→FoundB} {n:Nat} {T:List ColB} (hk:∀ i,i < n→0≤(F i).key):xW F n T=!zX F n T:=by
 have key:xW F n T=false ↔ zX F n T=true:=by
  unfold xW zX Ji
  rw [Bool.or_eq_false_iff,Bool.not_eq_false',Bool.and_eq_true,Bool.and_eq_true,decide_eq_true_eq,NH,wrongTo_iff,isTab_iff]
  constructor
  ·rintro ⟨⟨h1,h2⟩,h3⟩
   refine ⟨h1,fun k hkn=>(UK _ _).2 ⟨h2 k hkn,fun hp=>?_⟩⟩
   simp only [xD,Bool.and_eq_true,decide_eq_true_eq] at hp
   have:=h3 k hkn
   have h0:=hk k hkn
   by_cases he:(F k).cells=(jf T k).cells
   ·exact he
   ·exact absurd ⟨by omega,hp.2,he⟩ this
  ·rintro ⟨h1,h2⟩
   refine ⟨⟨h1,fun k hkn=>((UK _ _).1 (h2 k hkn)).1⟩,fun k hkn ⟨a,b,c⟩=>?_⟩
   exact c (((UK _ _).1 (h2 k hkn)).2 (by simp only [xD,Bool.and_eq_true,decide_eq_true_eq];exact ⟨by omega,b⟩))
 cases h1:zX F n T with
 | true=>rw [key.2 h1];rfl
 | false =>
  cases h2:xW F n T with
  | true=>rfl
  | false=>rw [key.1 h2] at h1;cases h1
theorem MG {file pre:List UInt8} {r:List KeyB} {S:SheetF} (h:xg file pre r false=(0,some S)):∀ i,i < S.cols.length→0≤(qi pre r S i).key:=by
 intro i hi
 obtain ⟨_,_,foot,parts,footer,hok⟩:=Ux h
 rw [YE]
 exact (Qw hok.heads hok.bare (jf S.cols i) (by rw [xz hi];exact List.getElem_mem _)).key.1
end
end Go.Proofs.YthhpbhpfagoapabGreat
