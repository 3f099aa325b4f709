import Derived.Test.YthhpbhpfagoapabGreatRTk
import Derived.Test.YthhpbhpfagoapabGreatJAD
import Derived.Test.YthhpbhpfagoapabGreatJBI
import Derived.Test.YthhpbhpfagoapabGreatJAY
import Derived.Laws.IdiomCopy
import Derived.Test.YthhpbhpfagoapabGreatJBH
import Derived.Test.YthhpbhpfagoapabGreatJAZ
import Derived.Test.YthhpbhpfagoapabGreatJAV
namespace Go.Proofs.YthhpbhpfagoapabGreat
set_option linter.unusedVariables false
set_option linter.unusedSimpArgs false
set_option maxRecDepth 100000
set_option maxHeartbeats 16000000
open Go.RowKit
section
def Vi {α:Type} (dom:α→Prop) (enc:α→List UInt8) (val:α→Value) (p:Nat) (s rest:List UInt8) (w:World) (e:Ending) (w':World):Prop :=
 w.grownBy w' (some p)∧((e=gaveUp∧∀ a q,dom a→rest≠enc a++q)∨∃ a r,dom a∧e=.returned (val a)∧qy w' p s r∧rest=enc a++r)
theorem zP (p:Nat) (s rest:List UInt8) (most:Nat) (w:World) (hs:s.length≤maxLen) (hm:most≤1000000) (hp:qy w p s rest) :
  Calls Tryz.prog 139 #[.pointer (some ⟨p,0,none⟩),.int .i64 (most:Int)] w (Vi (fun n:Nat=>n≤most) uB (fun n=>.int .i64 (n:Int)) p s rest w):=by
 have Hs:=hid hs
 have Hp:=hid hp
 clear hs hp
 have hw1:IntKind.u64.wrap (most:Int)=(most:Int):=VN (by omega) (by omega)
 go_enter Tryz.func139,Tryz.ntmps139
 go_wp2_with fail
 refine (RY p s rest _ Hs.out Hp.out).mono ?_
 rintro e w1 ⟨hg,⟨rfl,hno⟩|⟨n,r,hn,hr,rfl,hrd⟩⟩
 ·go_wp2
  exact ⟨rfl,hg,.inl ⟨rfl,fun a q ha=>hno a q (by omega)⟩⟩
 ·have Hr:=hid hr
  have Hrd:=hid hrd
  clear hr hrd
  by_cases hle:n≤most
  ·have hi:(n:Int)≤(most:Int):=by omega
   have hw2:IntKind.i64.wrap (n:Int)=(n:Int):=UJ (by omega) (by omega)
   go_wp2_with fail
   refine (qh _).mono ?_
   rintro e w2 ⟨rfl,rfl⟩
   go_wp2
   go_ret
   exact ⟨hg,.inr ⟨n,r,hle,rfl,Hrd.out,Hr.out⟩⟩
  ·have hi:decide ((n:Int)≤(most:Int))=false:=by simp;omega
   go_wp2_with fail
   refine (qU _).mono ?_
   rintro e w2 ⟨rfl,rfl⟩
   go_wp2
   exact ⟨rfl,hg,.inl ⟨rfl,fun a q ha haq=>by
    have:=(Rb hn (by omega) (Hr.out.symm.trans haq)).1
    omega⟩⟩
theorem SO (a b:Nat) (ha:a < 256) (hb:b < 256):bits .or .i64 (a:Int) ((b:Int)*256)=((a+256*b:Nat):Int):=by
 have e:(b:Int)*256=((256*b:Nat):Int):=by omega
 rw [e]
 have hx:a ||| 256*b < 2 ^ 16:=Nat.or_lt_two_pow (by omega) (by omega)
 show IntKind.i64.wrap ((BitVec.ofInt 64 (a:Int) ||| BitVec.ofInt 64 ((256*b:Nat):Int)).toNat:Int)=_
 rw [BitVec.toNat_or,ofInt_u64 a (by omega),ofInt_u64 (256*b) (by omega),IntWalk.i64_in _ ⟨by omega,by omega⟩]
 have h:=Nat.two_pow_add_eq_or_of_lt (i:=8) (b:=a) (by omega) b
 rw [Nat.or_comm]
 have h2:256*b+a=256*b ||| a:=h
 omega
theorem VB (p:Nat) (s rest:List UInt8) (w:World) (hs:s.length≤maxLen) (hp:qy w p s rest) :
  Calls Tryz.prog 101 #[.pointer (some ⟨p,0,none⟩)] w fun e w'=>w.grownBy w' (some p) ∧
   ((rest.length < 2∧e=gaveUp)∨∃ a b r,rest=a :: b :: r∧e=.returned (.int .i64 ((a.toNat+256*b.toNat:Nat):Int))∧qy w' p s r):=by
 have Hs:=hid hs
 have Hp:=hid hp
 clear hs hp
 go_enter Tryz.func101,Tryz.ntmps101
 go_wp2_with fail
 refine (Zg p s rest w Hs.out Hp.out).mono ?_
 rintro e w1 ⟨hg1,⟨hr,rfl⟩|⟨a,r1,hr,rfl,hp1⟩⟩
 ·have Hr:=hid hr
  clear hr
  go_wp2
  exact ⟨rfl,hg1,.inl ⟨by rw [Hr.out];decide,rfl⟩⟩
 ·have Hr:=hid hr
  have Hp1:=hid hp1
  have HG1:=hid hg1
  clear hr hp1 hg1
  have la:=a.toNat_lt
  have hwa:IntKind.i64.wrap (a.toNat:Int)=(a.toNat:Int):=IntWalk.i64_in _ ⟨by omega,by omega⟩
  go_wp2_with fail
  refine (Zg p s r1 w1 Hs.out Hp1.out).mono ?_
  rintro e w2 ⟨hg2,⟨hr2,rfl⟩|⟨b,r,hr2,rfl,hp2⟩⟩
  ·have Hr2:=hid hr2
   have HG2:=hid (jg HG1.out hg2)
   clear hr2 hg2
   go_wp2
   exact ⟨rfl,HG2.out,.inl ⟨by rw [Hr.out,Hr2.out];exact Nat.lt_succ_self 1,rfl⟩⟩
  ·have Hr2:=hid hr2
   have Hp2:=hid hp2
   have HG2:=hid (jg HG1.out hg2)
   clear hr2 hg2 hp2
   have lb:=b.toNat_lt
   have hwb:IntKind.i64.wrap (b.toNat:Int)=(b.toNat:Int):=IntWalk.i64_in _ ⟨by omega,by omega⟩
   have hor:=SO a.toNat b.toNat la lb
   go_wp2
   go_ret
   exact ⟨HG2.out,.inr ⟨a,b,r,by rw [Hr.out,Hr2.out],xd (by omega),Hp2.out⟩⟩
theorem PR (p:Nat) (s rest:List UInt8) (most:Nat) (w:World) (hs:s.length≤maxLen) (hm:most≤1000) (hp:qy w p s rest) :
  Calls Tryz.prog 172 #[.pointer (some ⟨p,0,none⟩),.int .i64 (most:Int)] w (Vi (fun t:List UInt8=>t.length≤most) xB strB p s rest w):=by
 have Hs:=hid hs
 have Hp:=hid hp
 clear hs hp
 go_enter Tryz.func172,Tryz.ntmps172
 go_wp2_with fail
 refine (zP p s rest most w Hs.out (by omega) Hp.out).mono ?_
 rintro e w1 ⟨hg,⟨rfl,hno⟩|⟨n,r,hn,rfl,hrd,hr⟩⟩
 ·go_wp2
  exact ⟨rfl,hg,.inl ⟨rfl,fun a q ha h=>hno a.length (a++q) ha (by rw [h,xB,List.append_assoc])⟩⟩
 ·have HG:=hid hg
  have Hr:=hid hr
  have Hrd:=hid hrd
  clear hg hr hrd
  go_wp2_with fail
  refine (Js p s r n w1 Hs.out (by omega) Hrd.out).mono ?_
  rintro e w2 ⟨hg2,⟨hlt,rfl⟩|⟨hle,rfl,hrd2⟩⟩
  ·have HG2:=hid (jg HG.out hg2)
   have HN:Hid (∀ a q,a.length≤most→rest≠xB a++q):=by
    intro a q ha h
    rw [Hr.out,xB,List.append_assoc] at h
    obtain ⟨h1,h2⟩:=Rb (by omega) (by omega) h
    have:=congrArg List.length h2
    rw [List.length_append] at this
    omega
   clear hg2
   go_wp2
   exact ⟨rfl,HG2.out,.inl ⟨rfl,HN.out⟩⟩
  ·have HG2:=hid (jg HG.out hg2)
   have Hrd2:=hid hrd2
   have HE:Hid ((r.take n).length≤most∧rest=xB (r.take n)++r.drop n):=by
    have hl:(r.take n).length=n:=by rw [List.length_take];omega
    refine ⟨by omega,?_⟩
    rw [Hr.out,xB,hl,List.append_assoc,List.take_append_drop]
   clear hg2 hrd2
   generalize r.take n=T at *
   go_wp2
   go_ret
   exact ⟨HG2.out,.inr ⟨T,_,HE.out.1,rfl,Hrd2.out,HE.out.2⟩⟩
theorem Yb (p:Nat) (s rest:List UInt8) (w:World) (hs:s.length≤maxLen) (hp:qy w p s rest) :
  Calls Tryz.prog 105 #[.pointer (some ⟨p,0,none⟩)] w fun e w'=>Below w.heap.size w w'∧((rest≠[]∧e=gaveUp)∨(rest=[]∧e=.returned (.tuple #[]))):=by
 obtain ⟨at_,hrow,hat,rfl⟩:=hp
 obtain ⟨⟨c0,c1⟩,_⟩:=VY hrow
 unfold maxLen at hs
 clear hrow
 by_cases hz:at_=s.length
 ·have hb:((at_:Int) == (s.length:Int))=true:=by simp;omega
  have HR:Hid (s.drop at_=[]):=by show _=_;rw [List.drop_eq_nil_iff];omega
  clear hz
  go_enter Tryz.func105,Tryz.ntmps105
  go_wp2_with fail
  go_region_held3 (fun w'=>w'.cell? ⟨p,0,none⟩=some (strB s)∧w'.cell? ⟨p,1,none⟩=some (.int .i64 (at_:Int))) (exact ⟨c0,c1⟩)
   (first|(go_at_call 69;refine (qh _).mono ?_;rintro e w' ⟨rfl,rfl⟩))
  go_wp2
  go_end0
  exact ⟨jl (Below.refl _ _),.inr ⟨HR.out,rfl⟩⟩
 ·have hb:((at_:Int) == (s.length:Int))=false:=by simp;omega
  have HR:Hid (s.drop at_≠[]):=by show _≠_;rw [ne_eq,List.drop_eq_nil_iff];omega
  clear hz
  go_enter Tryz.func105,Tryz.ntmps105
  go_wp2_with fail
  refine wp_region_held_drew (S:=fun w'=>w'.cell? ⟨p,0,none⟩=some (strB s)∧w'.cell? ⟨p,1,none⟩=some (.int .i64 (at_:Int))) (by kernel_rfl) ?_ (fun hHeld=>?_)
  ·exact ⟨c0,c1⟩
  refine tk 0 (.pointer (some ⟨p,0,none⟩)) ?_
  refine tk 1 (.pointer (some ⟨p,0,none⟩)) ?_
  refine tk 2 (.pointer (some ⟨p,1,none⟩)) ?_
  refine tk 3 (.int .i64 (at_:Int)) ?_
  refine tk 4 (.pointer (some ⟨p,0,none⟩)) ?_
  refine tk 5 (.pointer (some ⟨p,0,none⟩)) ?_
  refine tk 6 (.pointer (some ⟨p,0,none⟩)) ?_
  refine tk 7 (strB s) ?_
  refine tk 8 (.int .i64 (s.length:Int)) ?_
  refine tk 9 (.bool false) ?_
  simp only [jA,jB,jC,Act.put,jD,jE,jF]
  refine rd 10 (fun K hK=>?_)
  simp only [jA,jB,jC]
  go_simp
  go_at_call 69
  refine (qU _).mono ?_
  rintro e w' ⟨rfl,rfl⟩
  exact ⟨rfl,jl (Below.refl _ _),.inl ⟨HR.out,rfl⟩⟩
theorem Bc (p:Nat) (s rest:List UInt8) (w:World) (hs:s.length≤maxLen) (hp:qy w p s rest) :
  Calls Tryz.prog 141 #[.pointer (some ⟨p,0,none⟩)] w fun e w'=>Below w.heap.size w w'∧e=.returned (.int .i64 ((s.length - rest.length:Nat):Int)):=by
 obtain ⟨at_,hrow,hat,rfl⟩:=hp
 obtain ⟨⟨c0,c1⟩,_⟩:=VY hrow
 unfold maxLen at hs
 have HE:Hid (s.length - (s.drop at_).length=at_):=by show _=_;rw [List.length_drop];omega
 clear hrow
 go_enter Tryz.func141,Tryz.ntmps141
 go_wp2
 go_ret
 exact ⟨Below.refl _ _,xd (by rw [HE.out])⟩
end
section
theorem ZF {w:World} {B:Nat} {t:TypeId}:∀ (vs a b:List Value),∀ (old:List Value),old.length=vs.length→w.heap[B]?=some (.cells (a++(old++b)).toArray t (0,0)) →
  (w.setCells B a.length vs).heap[B]?=some (.cells (a++(vs++b)).toArray t (0,0)):=by
 intro vs
 induction vs generalizing w with
 | nil=>intro a b old hl h;rw [List.eq_nil_of_length_eq_zero hl] at h;simpa [World.setCells] using h
 | cons v vs ih =>
  intro a b old hl h
  cases old with
  | nil=>simp at hl
  | cons o old =>
   rw [World.setCells]
   have h1:(w.setCell ⟨B,a.length,none⟩ v).heap[B]?=some (.cells ((a++[v])++(old++b)).toArray t (0,0)):=by
    rw [heap_setCell_same w B a.length _ t v h]
    simp
   have h2:=ih (a++[v]) b old (by simpa using hl) h1
   rw [List.length_append,List.length_singleton] at h2
   rw [h2]
   simp
theorem JP {w:World} {B:Nat} {C:Array Value} {t:TypeId} (vs:List Value) (hC:C.size=vs.length) (h:w.heap[B]?=some (.cells C t (0,0))):(w.setCells B 0 vs).heap[B]?=some (.cells vs.toArray t (0,0)):=by
 have:=ZF (w:=w) (t:=t) (B:=B) vs [] [] C.toList (by simpa using hC) (by simpa using h)
 simpa using this
theorem xP (B:Nat):∀ (vs:List Value) (w:World) (o:Nat),w.grownBy (w.setCells B o vs) (some B):=by
 intro vs
 induction vs with
 | nil=>intro w o;exact jU w _
 | cons v vs ih =>
  intro w o
  rw [World.setCells]
  refine jg ?_ (ih (w.setCell ⟨B,o,none⟩ v) (o+1))
  exact ⟨rfl,rfl,rfl,by simp,fun k _ hk=>heap_setCell_other w ⟨B,o,none⟩ k v (fun e=>hk (by simp [e]))⟩
theorem Xp (B:Nat):∀ (vs:List Value) (w:World) (o:Nat),(w.setCells B o vs).heap.size=w.heap.size:=by
 intro vs
 induction vs with
 | nil=>intro w o;rfl
 | cons v vs ih=>intro w o;rw [World.setCells,ih];simp
theorem JY (w:World) (C1:Array Value) (t1:TypeId) (C2:Array Value) (t2:TypeId):Below w.heap.size w ((w.alloc (.cells C1 t1)).alloc (.cells C2 t2))∧w.heap.size+1 < ((w.alloc (.cells C1 t1)).alloc (.cells C2 t2)).heap.size ∧
  ((w.alloc (.cells C1 t1)).alloc (.cells C2 t2)).heap[w.heap.size]?=some (.cells C1 t1 (0,0))∧((w.alloc (.cells C1 t1)).alloc (.cells C2 t2)).heap[w.heap.size+1]?=some (.cells C2 t2 (0,0)):=by
 have e:(w.alloc (.cells C1 t1)).heap.size=w.heap.size+1:=by simp
 refine ⟨((Below.refl _ _).alloc (Nat.le_refl _) _).alloc (by simp) _,by simp,(((Below.refl (w.alloc (.cells C1 t1)).heap.size _).alloc (Nat.le_refl _) (.cells C2 t2)).block w.heap.size (by simp)).trans (heap_alloc_new w _),?_⟩
 have:=heap_alloc_new (w.alloc (.cells C1 t1)) (.cells C2 t2)
 rw [e] at this
 exact this
theorem Zc (a b:UInt8):qz ((a.toNat+256*b.toNat:Nat):Int)=[a,b]:=by
 have ha:=a.toNat_lt
 have hb:=b.toNat_lt
 unfold qz
 simp only [List.cons.injEq,and_true]
 constructor
 ·apply UInt8.toNat_inj.1;simp only [UInt8.toNat_ofNat'];omega
 ·apply UInt8.toNat_inj.1;simp only [UInt8.toNat_ofNat'];omega
abbrev NB:=List UInt8 × List UInt8
def JG (x:NB):Prop:=x.1.length=4∧2≤x.2.length∧x.2.length≤65535
def xK (x:NB):List UInt8:=qz (x.2.length:Int)++(x.1++x.2)
abbrev moduleV (sort:List UInt8) (g c k:Nat):Value:=.agg #[strB sort,.int .i64 (g:Int),.int .i64 (c:Int),.int .i64 (k:Int)]
abbrev pieceV (sort:List UInt8) (g c k:Nat) (x:NB):Value:=.agg #[strB sort,.int .i64 (g:Int),.int .i64 (c:Int),.int .i64 (k:Int),strB x.1,strB x.2]
theorem EZ {a b:UInt8} {r q:List UInt8} {x:NB} (hx:JG x) (h:a :: b :: r=xK x++q):x.2.length=a.toNat+256*b.toNat∧r=x.1++(x.2++q):=by
 unfold xK at h
 rw [List.append_assoc,List.append_assoc] at h
 have h':[a,b]++r=qz (x.2.length:Int)++(x.1++(x.2++q)):=h
 obtain ⟨h1,h2⟩:=List.append_inj h' (by rw [jx];rfl)
 rw [← Zc a b] at h1
 have ha:=a.toNat_lt
 have hb:=b.toNat_lt
 exact ⟨(Jm (by omega) hx.2.2 h1).symm,h2⟩
theorem AA {a b:UInt8} {r:List UInt8} (h2:2≤a.toNat+256*b.toNat) (h4:4≤r.length) (hn:a.toNat+256*b.toNat≤(r.drop 4).length) :
  JG (r.take 4,(r.drop 4).take (a.toNat+256*b.toNat))∧a :: b :: r=xK (r.take 4,(r.drop 4).take (a.toNat+256*b.toNat))++(r.drop 4).drop (a.toNat+256*b.toNat):=by
 have ha:=a.toNat_lt
 have hb:=b.toNat_lt
 have hl:((r.drop 4).take (a.toNat+256*b.toNat)).length=a.toNat+256*b.toNat:=by rw [List.length_take];omega
 refine ⟨⟨by simp;omega,by simp only [hl];omega,by simp only [hl];omega⟩,?_⟩
 unfold xK
 simp only [hl]
 rw [Zc,List.append_assoc,List.append_assoc,List.take_append_drop,List.take_append_drop]
 rfl
theorem jk {w w':World} {p B:Nat} {o:Obj} (hg:w.grownBy w' (some p)) (h:w.heap[B]?=some o) (hne:B≠p):w'.heap[B]?=some o :=
 (hg.block B (Array.getElem?_eq_some_iff.1 h).1 (by simpa using hne)).trans h
theorem zF {w w':World} {p q:Nat} {s r:List UInt8} (h:qy w p s r) (hg:w.grownBy w' (some q)) (hne:p≠q):qy w' p s r:=by
 obtain ⟨at_,h1,h2,h3⟩:=h
 exact ⟨at_,jk hg h1 hne,h2,h3⟩
theorem Um {w:World} {p:Nat} {a b c d:Value} {t:TypeId} (h:w.heap[p]?=some (.cells #[a,b,c,d] t (0,0))):w.cell? ⟨p,0,none⟩=some a∧w.cell? ⟨p,1,none⟩=some b∧w.cell? ⟨p,2,none⟩=some c∧w.cell? ⟨p,3,none⟩=some d :=
 ⟨by rw [jb h];rfl,by rw [jb h];rfl,by rw [jb h];rfl,by rw [jb h];rfl⟩
theorem Zb {w:World} {p:Nat} {a b c d e f:Value} {t:TypeId} (h:w.heap[p]?=some (.cells #[a,b,c,d,e,f] t (0,0))):(w.cell? ⟨p,0,none⟩=some a∧w.cell? ⟨p,1,none⟩=some b∧w.cell? ⟨p,2,none⟩=some c∧w.cell? ⟨p,3,none⟩=some d∧w.cell? ⟨p,4,none⟩=some e∧w.cell? ⟨p,5,none⟩=some f) ∧
  (w.frozen? ⟨p,0,none⟩=false∧w.frozen? ⟨p,1,none⟩=false∧w.frozen? ⟨p,2,none⟩=false∧w.frozen? ⟨p,3,none⟩=false∧w.frozen? ⟨p,4,none⟩=false∧w.frozen? ⟨p,5,none⟩=false) :=
 ⟨⟨by rw [jb h];rfl,by rw [jb h];rfl,by rw [jb h];rfl,by rw [jb h];rfl,by rw [jb h];rfl,by rw [jb h];rfl⟩,
  frozen_of_row w p _ _ t h,frozen_of_row w p _ _ t h,frozen_of_row w p _ _ t h,frozen_of_row w p _ _ t h,frozen_of_row w p _ _ t h,frozen_of_row w p _ _ t h⟩
theorem Uv (p g c k:Nat) (sort s rest:List UInt8) (w:World) (hs:s.length≤maxLen) (hp:qy w p s rest) :
  Calls Tryz.prog 104 #[.pointer (some ⟨p,0,none⟩),moduleV sort g c k] w (Vi JG xK (pieceV sort g c k) p s rest w):=by
 have Hs:=hid hs
 have Hp:=hid hp
 have hplt:=xF hp
 clear hs hp
 go_enter Tryz.func104,Tryz.ntmps104
 go_wp2_with fail
 obtain ⟨hb0,hl0,hm0,ho0⟩:=JY w #[strB sort,.int .i64 (g:Int),.int .i64 (c:Int),.int .i64 (k:Int)] 73 #[Value.string { data:=#[] },.int .i64 0,.int .i64 0,.int .i64 0,Value.string { data:=#[] },Value.string { data:=#[] }] 75
 generalize (w.alloc _).alloc _=W0 at *
 have Hp0:=hid (qJ Hp.out hb0 hplt)
 have hG0:w.grownBy W0 (some p):=jG (jU w _) hb0
 have hne0:w.heap.size≠p:=by omega
 have hne1:w.heap.size+1≠p:=by omega
 clear hb0
 refine (VB p s rest W0 Hs.out Hp0.out).mono ?_
 rintro e w1 ⟨hg1,⟨hr,rfl⟩|⟨a,b,r,hr,rfl,hp1⟩⟩
 ·have HN:Hid (∀ (x:NB) q,JG x→rest≠xK x++q):=by
   rintro x q hx rfl
   unfold xK at hr
   simp only [List.length_append,jx] at hr
   omega
  have HG:=hid (jg hG0 hg1)
  clear hr hg1 hG0 hm0 ho0
  go_wp2
  exact ⟨rfl,HG.out,.inl ⟨rfl,HN.out⟩⟩
 ·have hm1:=jk hg1 hm0 hne0
  have ho1:=jk hg1 ho0 hne1
  have HG1:=hid (jg hG0 hg1)
  have Hp1:=hid hp1
  have Hr:=hid hr
  have hab:a.toNat+256*b.toNat≤65535:=by have:=a.toNat_lt;have:=b.toNat_lt;omega
  have HM:Hid (2≤a.toNat+256*b.toNat→4≤r.length→a.toNat+256*b.toNat≤(r.drop 4).length→JG (r.take 4,(r.drop 4).take (a.toNat+256*b.toNat))∧a :: b :: r=xK (r.take 4,(r.drop 4).take (a.toNat+256*b.toNat))++(r.drop 4).drop (a.toNat+256*b.toNat)):=AA
  have HX:Hid (∀ (x:NB) q,JG x→a :: b :: r=xK x++q→x.2.length=a.toNat+256*b.toNat∧r=x.1++(x.2++q)):=fun x q=>EZ
  clear hr hg1 hG0 hm0 ho0 hp1
  have hl1:=World.block_lt_of_cell? w1 ⟨w.heap.size+1,0,none⟩ (by rw [jb ho1];rfl)
  generalize a.toNat+256*b.toNat=n at *
  by_cases h2:2≤n
  ·have hi:(2:Int)≤(n:Int):=by omega
   go_wp2_with fail
   refine (qh _).mono ?_
   rintro e w2 ⟨rfl,rfl⟩
   go_wp2_with fail
   have HC:=hid (Um hm1)
   have Hm1:=hid hm1
   have Ho1:=hid ho1
   clear hm1 ho1
   refine wp_region_held_drew (S:=fun w'=>w'.cell? ⟨w.heap.size,0,none⟩=some (strB sort)∧w'.cell? ⟨w.heap.size,1,none⟩=some (.int .i64 (g:Int))∧w'.cell? ⟨w.heap.size,2,none⟩=some (.int .i64 (c:Int))∧w'.cell? ⟨w.heap.size,3,none⟩=some (.int .i64 (k:Int))) (by kernel_rfl) ?_ (fun hHeld=>?_)
   ·exact HC.out
   refine tk 0 (moduleV sort g c k) ?_
   refine tk 1 (.pointer (some ⟨p,0,none⟩)) ?_
   refine tk 3 (.pointer (some ⟨p,0,none⟩)) ?_
   refine tk 4 (.int .i64 (n:Int)) ?_
   simp only [jA,jB,jC,Act.put,jD,jE,jF]
   refine rd 2 (fun K hK=>?_)
   simp only [jA,jB,jC]
   go_simp
   go_at_call 102
   refine (Js p s r 4 _ Hs.out (by omega) (show qy w2.drew p s r from Hp1.out)).mono ?_
   rintro e w3 ⟨hg3,⟨hlt,rfl⟩|⟨hle,rfl,hp3⟩⟩
   ·refine ⟨rfl,jg HG1.out (jP hg3),.inl ⟨rfl,fun x q hx h=>?_⟩⟩
    obtain ⟨_,h4⟩:=HX.out x q hx (Hr.out.symm.trans h)
    have h5:=congrArg List.length h4
    have h6:=hx.1
    rw [List.length_append] at h5
    omega
   have hm3:=jk (jP hg3) Hm1.out hne0
   have ho3:=jk (jP hg3) Ho1.out hne1
   have HG3:=hid (jg HG1.out (jP hg3))
   have Hp3:=hid hp3
   have HC3:=hid (Um hm3)
   have Ho3:=hid ho3
   have Hm3:=hid hm3
   clear hg3 hp3 hm3 ho3
   try go_wp2_with fail
   refine hK.out _ _ HC3.out (fun hHeld=>?_)
   clear hK K
   try simp only [jA,jB,jC,Act.put,jD,jE,jF]
   refine rd 5 (fun K hK=>?_)
   simp only [jA,jB,jC]
   go_simp
   go_at_call 102
   refine (Js p s (r.drop 4) n w3 Hs.out (by omega) Hp3.out).mono ?_
   rintro e w4 ⟨hg4,⟨hlt,rfl⟩|⟨hle2,rfl,hp4⟩⟩
   ·refine ⟨rfl,jg HG3.out hg4,.inl ⟨rfl,fun x q hx h=>?_⟩⟩
    obtain ⟨h3,h4⟩:=HX.out x q hx (Hr.out.symm.trans h)
    have h5:=hx.1
    rw [h4,← h5,List.drop_left,List.length_append] at hlt
    omega
   have hm4:=jk hg4 Hm3.out hne0
   have ho4:=jk hg4 Ho3.out hne1
   have HG4:=hid (jg HG3.out hg4)
   have Hp4:=hid hp4
   have HC4:=hid (Um hm4)
   have Ho4:=hid ho4
   have Hm4:=hid hm4
   have HE:=hid (HM.out h2 hle hle2)
   clear hg4 hp4 hm4 ho4
   generalize r.take 4=T at *
   generalize (r.drop 4).take n=U at *
   generalize (r.drop 4).drop n=V at *
   try go_wp2_with fail
   refine hK.out _ _ HC4.out (fun hHeld=>?_)
   clear hK K
   try simp only [jA,jB,jC,Act.put,jD,jE,jF]
   refine rd 6 (fun K hK=>?_)
   simp only [jA,jB,jC]
   go_simp
   try go_wp2_with fail
   refine hK.out _ _ HC4.out (fun hHeld=>?_)
   clear hK K
   try simp only [jA,jB,jC,Act.put,jD,jE,jF]
   obtain ⟨⟨q0,q1,q2,q3,q4,q5⟩,z0,z1,z2,z3,z4,z5⟩:=Zb Ho4.out
   refine rd 7 (fun K hK=>?_)
   simp only [jA,jB,jC]
   try go_simp
   show K _ (w4.setCells (w.heap.size+1) 0 [strB sort,.int .i64 (g:Int),.int .i64 (c:Int),.int .i64 (k:Int),strB T,strB U])
   have ho5:=JP [strB sort,.int .i64 (g:Int),.int .i64 (c:Int),.int .i64 (k:Int),strB T,strB U] (by rfl) Ho4.out
   have hg5:=xP (w.heap.size+1) [strB sort,.int .i64 (g:Int),.int .i64 (c:Int),.int .i64 (k:Int),strB T,strB U] w4 0
   clear q0 q1 q2 q3 q4 q5 z0 z1 z2 z3 z4 z5
   generalize w4.setCells _ _ _=W5 at *
   have HC5:=hid (Um (jk hg5 Hm4.out (by omega)))
   have HG5:=hid (JQ HG4.out hg5 (by rintro k hk;cases hk;omega))
   have Hp5:=hid (zF Hp4.out hg5 (by omega))
   clear hg5
   refine hK.out _ _ HC5.out (fun hHeld=>?_)
   clear hK K
   refine wpAnyH_done (by kernel_rfl) ?_ _
   obtain ⟨⟨q0,q1,q2,q3,q4,q5⟩,_⟩:=Zb ho5
   go_wp2
   exact bodyPost_ret (v:=pieceV sort g c k (T,U)) (by simp [results,Tryz.results104,go_sem,q0,q1,q2,q3,q4,q5]) rfl ⟨HG5.out,.inr ⟨(T,U),V,HE.out.1,rfl,Hp5.out,Hr.out.trans HE.out.2⟩⟩
  ·have hi:decide ((2:Int)≤(n:Int))=false:=by simp;omega
   go_wp2_with fail
   refine (qU _).mono ?_
   rintro e w2 ⟨rfl,rfl⟩
   go_wp2
   exact ⟨rfl,HG1.out,.inl ⟨rfl,fun x q hx h=>by
    have:=(HX.out x q hx (Hr.out.symm.trans h)).1
    have:=hx.2.1
    omega⟩⟩
end
section
theorem jq {w w':World} {B p:Nat} (h:w.grownBy w' (some p)) (hp:B≤p) (hB:B≤w.heap.size):Below B w w' :=
 ⟨h.os,h.tape,h.output,h.size,fun k hk=>h.block k (by omega) (fun e=>by cases e;omega)⟩
theorem Zl (s:List UInt8) (w:World) :
  Calls Tryz.prog 71 #[strB s] w fun e w'=>e=.returned (.pointer (some ⟨w.heap.size,0,none⟩))∧qy w' w.heap.size s s∧Below w.heap.size w w':=by
 go_enter Tryz.func71,Tryz.ntmps71
 go_wp2
 go_ret
 exact ⟨rfl,⟨0,heap_alloc_new w _,Nat.zero_le _,rfl⟩,(Below.refl _ _).alloc (Nat.le_refl _) _⟩
theorem Nz {a b:List UInt8} (h:a≠b):(a == b)=false:=by simp [h]
theorem AC (p:Nat) (s rest:List UInt8) (w:World) (hs:s.length≤maxLen) (hp:qy w p s rest) :
  Calls Tryz.prog 70 #[.pointer (some ⟨p,0,none⟩)] w (Vi (fun n:Nat=>n≤65535) (fun n=>qz (n:Int)++[67,70]) (fun n=>.int .i64 (n:Int)) p s rest w):=by
 have Hs:=hid hs
 have Hp:=hid hp
 clear hs hp
 go_enter Tryz.func70,Tryz.ntmps70
 go_wp2_with fail
 refine (VB p s rest w Hs.out Hp.out).mono ?_
 rintro e w1 ⟨hg1,⟨hr,rfl⟩|⟨a,b,r,hr,rfl,hp1⟩⟩
 ·have HN:Hid (∀ (n:Nat) q,n≤65535→rest≠(qz (n:Int)++[67,70])++q):=by
   rintro n q hn rfl
   simp only [List.length_append,jx] at hr
   omega
  have HG:=hid hg1
  clear hr hg1
  go_wp2
  exact ⟨rfl,HG.out,.inl ⟨rfl,HN.out⟩⟩
 ·have HG1:=hid hg1
  have Hp1:=hid hp1
  have hab:a.toNat+256*b.toNat≤65535:=by have:=a.toNat_lt;have:=b.toNat_lt;omega
  have HX:Hid (∀ (n:Nat) q,n≤65535→rest=(qz (n:Int)++[67,70])++q→r.take 2=[67,70]):=by
   intro n q hn h
   rw [hr,List.append_assoc] at h
   have h':[a,b]++r=qz (n:Int)++([67,70]++q):=h
   obtain ⟨_,h2⟩:=List.append_inj h' (by rw [jx];rfl)
   rw [h2];rfl
  have HY:Hid (r.take 2=[67,70]→rest=(qz ((a.toNat+256*b.toNat:Nat):Int)++[67,70])++r.drop 2):=by
   intro h
   rw [Zc,hr,← h,List.append_assoc,List.take_append_drop]
   rfl
  clear hr hg1 hp1
  generalize a.toNat+256*b.toNat=n at *
  go_wp2_with fail
  refine (Js p s r 2 w1 Hs.out (by omega) Hp1.out).mono ?_
  rintro e w2 ⟨hg2,⟨hlt,rfl⟩|⟨hle,rfl,hp2⟩⟩
  ·have HG2:=hid (jg HG1.out hg2)
   have HN:Hid (∀ (n:Nat) q,n≤65535→rest≠(qz (n:Int)++[67,70])++q):=by
    intro n q hn h
    have:=congrArg List.length (HX.out n q hn h)
    rw [List.length_take] at this
    simp at this
    omega
   clear hg2
   go_wp2
   exact ⟨rfl,HG2.out,.inl ⟨rfl,HN.out⟩⟩
  ·have HG2:=hid (jg HG1.out hg2)
   have Hp2:=hid hp2
   clear hg2 hp2
   generalize r.take 2=T at *
   by_cases hT:T=[67,70]
   ·have HY2:=hid (HY.out hT)
    subst hT
    go_wp2_with fail
    refine (qh _).mono ?_
    rintro e w3 ⟨rfl,rfl⟩
    go_wp2
    go_ret
    exact ⟨HG2.out,.inr ⟨n,_,hab,rfl,Hp2.out,HY2.out⟩⟩
   ·have hne:=Nz hT
    go_wp2_with fail
    refine (qU _).mono ?_
    rintro e w3 ⟨rfl,rfl⟩
    have HN:Hid (∀ (n:Nat) q,n≤65535→rest≠(qz (n:Int)++[67,70])++q):=fun n q hn h=>hT (HX.out n q hn h)
    clear hne
    go_wp2
    exact ⟨rfl,HG2.out,.inl ⟨rfl,HN.out⟩⟩
def QG (told:Bool) (ft:Nat):List UInt8:=[67,70]++[if told=true then 79 else 69]++[byB (ft:Int)]
theorem BF {w:World} {q:Nat} {c0 c1 c2 c3 c4 c5 c6 c7 c8 c9 v:Value} {t:TypeId} (h:w.heap[q]?=some (.cells #[c0,c1,c2,c3,c4,c5,c6,c7,c8,c9] t (0,0))):(w.setCell ⟨q,0,none⟩ v).heap[q]?=some (.cells #[v,c1,c2,c3,c4,c5,c6,c7,c8,c9] t (0,0)):=by
 rw [heap_setCell_same w q 0 _ t v h];rfl
theorem BI {w:World} {q:Nat} {c0 c1 c2 c3 c4 c5 c6 c7 c8 c9 v:Value} {t:TypeId} (h:w.heap[q]?=some (.cells #[c0,c1,c2,c3,c4,c5,c6,c7,c8,c9] t (0,0))):(w.setCell ⟨q,1,none⟩ v).heap[q]?=some (.cells #[c0,v,c2,c3,c4,c5,c6,c7,c8,c9] t (0,0)):=by
 rw [heap_setCell_same w q 1 _ t v h];rfl
theorem Bd {w:World} {q:Nat} {c0 c1 c2 c3 c4 c5 c6 c7 c8 c9 v:Value} {t:TypeId} (h:w.heap[q]?=some (.cells #[c0,c1,c2,c3,c4,c5,c6,c7,c8,c9] t (0,0))):(w.setCell ⟨q,2,none⟩ v).heap[q]?=some (.cells #[c0,c1,v,c3,c4,c5,c6,c7,c8,c9] t (0,0)):=by
 rw [heap_setCell_same w q 2 _ t v h];rfl
theorem qv (w:World) (q i:Nat) (v:Value):w.grownBy (w.setCell ⟨q,i,none⟩ v) (some q) :=
 ⟨rfl,rfl,rfl,by simp,fun k _ hk=>heap_setCell_other w ⟨q,i,none⟩ k v (fun e=>hk (by simp [e]))⟩
theorem xE {w:World} {q:Nat} {c0 c1 c2 c3 c4 c5 c6 c7 c8 c9:Value} {t:TypeId} (h:w.heap[q]?=some (.cells #[c0,c1,c2,c3,c4,c5,c6,c7,c8,c9] t (0,0))) :
  (w.cell? ⟨q,0,none⟩=some c0∧w.cell? ⟨q,1,none⟩=some c1∧w.cell? ⟨q,2,none⟩=some c2∧w.cell? ⟨q,3,none⟩=some c3∧w.cell? ⟨q,4,none⟩=some c4∧w.cell? ⟨q,5,none⟩=some c5∧w.cell? ⟨q,6,none⟩=some c6∧w.cell? ⟨q,7,none⟩=some c7∧w.cell? ⟨q,8,none⟩=some c8∧w.cell? ⟨q,9,none⟩=some c9)∧(∀ j,w.frozen? ⟨q,j,none⟩=false) :=
 ⟨⟨by rw [jb h];rfl,by rw [jb h];rfl,by rw [jb h];rfl,by rw [jb h];rfl,by rw [jb h];rfl,by rw [jb h];rfl,by rw [jb h];rfl,by rw [jb h];rfl,by rw [jb h];rfl,by rw [jb h];rfl⟩,
  fun j=>frozen_of_row w q j _ t h⟩
theorem ED (p q B:Nat) (s rest:List UInt8) (c0 c1 c2 c3 c4 c5 c6 c7 c8 c9:Value) (w:World) (hs:s.length≤maxLen) (hp:qy w p s rest) (hq:w.heap[q]?=some (.cells #[c0,c1,c2,c3,c4,c5,c6,c7,c8,c9] 77 (0,0))) (hpq:p≠q) (hBp:B≤p) (hBq:B≤q) :
  Calls Tryz.prog 72 #[.pointer (some ⟨q,0,none⟩),.pointer (some ⟨p,0,none⟩)] w fun e w'=>Below B w w'∧((e=gaveUp∧∀ (told:Bool) (ft:Nat) (r:List UInt8),1≤ft→ft≤9→rest≠QG told ft++r) ∨
   ∃ (told:Bool) (ft:Nat) (r:List UInt8),1≤ft∧ft≤9∧e=.returned (.tuple #[])∧rest=QG told ft++r∧w'.heap[q]?=some (.cells #[.int .i64 (ft:Int),.bool told,c2,c3,c4,c5,c6,c7,c8,c9] 77 (0,0))):=by
 have Hs:=hid hs
 have Hp:=hid hp
 have Hq:=hid hq
 have hplt:=xF hp
 have hqlt:=(Array.getElem?_eq_some_iff.1 hq).1
 have HX:Hid (∀ (told:Bool) (ft:Nat) (r:List UInt8),1≤ft→ft≤9→rest=QG told ft++r→rest.take 2=[67,70]∧(rest.drop 2).take 1=[if told=true then 79 else 69]∧(rest.drop 2).drop 1=byB (ft:Int) :: r):=by
  rintro told ft r h1 h9 rfl
  exact ⟨rfl,rfl,rfl⟩
 clear hs hp hq
 go_enter Tryz.func72,Tryz.ntmps72
 go_wp2_with fail
 refine (Js p s rest 2 w Hs.out (by omega) Hp.out).mono ?_
 rintro e w1 ⟨hg1,⟨hlt,rfl⟩|⟨hle,rfl,hp1⟩⟩
 ·have HB:=hid (jq hg1 hBp (by omega))
  clear hg1
  go_wp2
  exact ⟨rfl,HB.out,.inl ⟨rfl,fun told ft r h1 h9 h=>by
   have:=congrArg List.length (HX.out told ft r h1 h9 h).1
   rw [List.length_take] at this
   simp at this
   omega⟩⟩
 have HB1:=hid (jq hg1 hBp (by omega))
 have Hq1:=hid (jk hg1 Hq.out (Ne.symm hpq))
 have Hp1:=hid hp1
 have hs1:=hg1.size
 clear hg1 hp1
 have HT0:Hid (rest.take 2=rest.take 2):=rfl
 generalize hT:rest.take 2=T at *
 have HT:=hid hT
 clear hT HT0
 by_cases hT2:T≠[67,70]
 ·have hne:=Nz hT2
  go_wp2_with fail
  refine (qU _).mono ?_
  rintro e w2 ⟨rfl,rfl⟩
  clear hne
  go_wp2
  exact ⟨rfl,HB1.out,.inl ⟨rfl,fun told ft r h1 h9 h=>hT2 (HX.out told ft r h1 h9 h).1⟩⟩
 have hT3:=Decidable.not_not.1 hT2
 clear hT2
 subst hT3
 go_wp2_with fail
 refine (qh _).mono ?_
 rintro e w2 ⟨rfl,rfl⟩
 go_wp2_with fail
 refine (Js p s (rest.drop 2) 1 w2 Hs.out (by omega) Hp1.out).mono ?_
 rintro e w3 ⟨hg3,⟨hlt,rfl⟩|⟨hle3,rfl,hp3⟩⟩
 ·have HB3:=hid (HB1.out.trans (jq hg3 hBp (by omega)))
  clear hg3
  go_wp2
  exact ⟨rfl,HB3.out,.inl ⟨rfl,fun told ft r h1 h9 h=>by
   have:=congrArg List.length (HX.out told ft r h1 h9 h).2.1
   rw [List.length_take] at this
   simp only [List.length_cons,List.length_nil] at this
   omega⟩⟩
 have HB3:=hid (HB1.out.trans (jq hg3 hBp (by omega)))
 have Hq3:=hid (jk hg3 Hq1.out (Ne.symm hpq))
 have Hp3:=hid hp3
 have hs3:=hg3.size
 clear hg3 hp3
 generalize hU:(rest.drop 2).take 1=U at *
 have HU:=hid hU
 clear hU
 have fin:∀ (told:Bool),U=[if told=true then 79 else 69]→U≠[]:=fun told h=>by rw [h];simp
 by_cases hO:¬ ∃ told:Bool,U=[if told=true then 79 else 69]
 ·have n1:=Nz (show U≠[79] from fun h=>hO ⟨true,h⟩)
  have n2:=Nz (show U≠[69] from fun h=>hO ⟨false,h⟩)
  go_wp2_with fail
  refine (qU _).mono ?_
  rintro e w4 ⟨rfl,rfl⟩
  clear n1 n2
  go_wp2
  exact ⟨rfl,HB3.out,.inl ⟨rfl,fun told ft r h1 h9 h=>hO ⟨told,(HX.out told ft r h1 h9 h).2.1⟩⟩⟩
 obtain ⟨told,hUt⟩:=Classical.not_not.1 hO
 have HUt:=hid hUt
 have hU1:(U == [79])=told:=by rw [hUt];cases told<;>decide
 have hU2:told=false→(U == [69])=true:=by rintro rfl;rw [hUt];decide
 clear fin hUt hO
 obtain ⟨⟨q0,q1,q2,q3,q4,q5,q6,q7,q8,q9⟩,cf⟩:=xE Hq3.out
 have f1:=cf 1
 clear cf
 have hs4:q < w3.heap.size:=(Array.getElem?_eq_some_iff.1 Hq3.out).1
 have step:∀ w4:World,w4=w3.setCell ⟨q,1,none⟩ (.bool told)→qy w4 p s ((rest.drop 2).drop 1)∧w4.heap[q]?=some (.cells #[c0,.bool told,c2,c3,c4,c5,c6,c7,c8,c9] 77 (0,0))∧Below B w w4∧w4.heap.size=w3.heap.size:=by
  rintro w4 rfl
  exact ⟨zF Hp3.out (qv w3 q 1 _) hpq,BI Hq3.out,HB3.out.trans (jq (qv w3 q 1 _) hBq (by omega)),by simp⟩
 have HST:=hid step
 clear step
 cases told
 all_goals
  (try have hU3:=hU2 rfl)
  go_wp2_with fail
  refine (qh _).mono ?_
  rintro e w4 ⟨rfl,rfl⟩
  go_wp2_with fail
  obtain ⟨hp5,hq5,hB5,hz5⟩:=HST.out _ rfl
  generalize w4.setCell _ _=w5 at *
  have Hq5:=hid hq5
  have HB5:=hid hB5
  clear q0 q1 q2 q3 q4 q5 q6 q7 q8 q9 f1 hq5 hB5 HST
  refine (Zg p s _ w5 Hs.out hp5).mono ?_
  rintro e w6 ⟨hg6,⟨hr,rfl⟩|⟨c,r,hr,rfl,hp6⟩⟩
  ·have HB6:=hid (HB5.out.trans (jq hg6 hBp (by omega)))
   have Hr:=hid hr
   clear hg6 hr
   go_wp2
   exact ⟨rfl,HB6.out,.inl ⟨rfl,fun told ft r h1 h9 h=>by
    have:=(HX.out told ft r h1 h9 h).2.2
    rw [Hr.out] at this
    cases this⟩⟩
  have Hr:=hid hr
  have Hq6:=hid (jk hg6 Hq5.out (Ne.symm hpq))
  have HB6:=hid (HB5.out.trans (jq hg6 hBp (by omega)))
  have lc:=c.toNat_lt
  have hwc:IntKind.i64.wrap (c.toNat:Int)=(c.toNat:Int):=IntWalk.i64_in _ ⟨by omega,by omega⟩
  have hs6:=hg6.size
  clear hg6 hp6 hr
  obtain ⟨⟨q0,q1,q2,q3,q4,q5,q6,q7,q8,q9⟩,cf⟩:=xE Hq6.out
  have f0:=cf 0
  clear cf
  go_wp2_with fail
  have Hq7:=hid (BF (v:=.int .i64 (c.toNat:Int)) Hq6.out)
  have HB7:=hid (HB6.out.trans (jq (qv w6 q 0 (.int .i64 (c.toNat:Int))) hBq (by omega)))
  refine (Kh _ _).mono ?_
  rintro e w7 ⟨rfl,rfl⟩
  clear q0 q1 q2 q3 q4 q5 q6 q7 q8 q9 f0
  generalize w6.setCell _ _=w7 at *
  by_cases hk:1≤c.toNat∧c.toNat≤9
  ·have hk2:(decide (1≤(c.toNat:Int)) && decide ((c.toNat:Int)≤9))=true:=by simp;omega
   rw [hk2]
   go_wp2_with fail
   refine (qh _).mono ?_
   rintro e w8 ⟨rfl,rfl⟩
   go_wp2
   go_end0
   refine ⟨HB7.out,.inr ⟨_,c.toNat,r,hk.1,hk.2,rfl,?_,Hq7.out⟩⟩
   have hby:byB (c.toNat:Int)=c:=UInt8.toNat_inj.1 (JR _ (by omega))
   rw [← List.take_append_drop 2 rest,HT.out,← List.take_append_drop 1 (rest.drop 2),HU.out,HUt.out,Hr.out]
   unfold QG
   rw [hby]
   simp
  ·have hk2:(decide (1≤(c.toNat:Int)) && decide ((c.toNat:Int)≤9))=false:=by
    rw [Bool.and_eq_false_iff]
    simp only [decide_eq_false_iff_not]
    omega
   rw [hk2]
   go_wp2_with fail
   refine (qU _).mono ?_
   rintro e w8 ⟨rfl,rfl⟩
   go_wp2
   refine ⟨rfl,HB7.out,.inl ⟨rfl,fun told ft r2 h1 h9 h=>?_⟩⟩
   have:=(HX.out told ft r2 h1 h9 h).2.2
   rw [Hr.out] at this
   simp only [List.cons.injEq] at this
   have h2:=congrArg UInt8.toNat this.1
   rw [JR _ (by omega)] at h2
   omega
theorem CH {x y:NB} {r q:List UInt8} (hx:JG x) (hy:JG y) (h:xK x++r=xK y++q):x=y∧r=q:=by
 unfold xK at h
 simp only [List.append_assoc] at h
 obtain ⟨h1,h2⟩:=List.append_inj h (by rw [jx,jx])
 have hl:=Jm hx.2.2 hy.2.2 h1
 obtain ⟨h3,h4⟩:=List.append_inj h2 (by rw [hx.1,hy.1])
 obtain ⟨h5,h6⟩:=List.append_inj h4 hl
 exact ⟨Prod.ext h3 h5,h6⟩
def xp (told:Bool) (footer:List UInt8) (x:NB):List UInt8:=(if told=true then qz (footer.length:Int)++footer else [])++xK x
theorem BP {w:World} {q:Nat} {c0 c1 c2 c3 c4 c5 c6 c7 c8 c9 v3 v4 v5 v6 v7 v8:Value} {t:TypeId} (h:w.heap[q]?=some (.cells #[c0,c1,c2,c3,c4,c5,c6,c7,c8,c9] t (0,0))):(w.setCells q 3 [v3,v4,v5,v6,v7,v8]).heap[q]?=some (.cells #[c0,c1,c2,v3,v4,v5,v6,v7,v8,c9] t (0,0)) :=
 ZF (w:=w) [v3,v4,v5,v6,v7,v8] [c0,c1,c2] [c9] [c3,c4,c5,c6,c7,c8] rfl h
def Wc (B q ft:Nat) (told:Bool) (rest:List UInt8) (c9:Value) (w:World) (e:Ending) (w':World):Prop :=
 Below B w w'∧((e=gaveUp∧∀ (footer:List UInt8) (x:NB),(told=false→footer=[])→footer.length≤65535→JG x→rest≠xp told footer x) ∨
   ∃ (footer:List UInt8) (x:NB),(told=false→footer=[])∧JG x∧e=.returned (.tuple #[])∧rest=xp told footer x∧w'.heap[q]?=some (.cells #[.int .i64 (ft:Int),.bool told,strB footer,strB [if told=true then 83 else 70],.int .i64 0,.int .i64 0,.int .i64 0,strB x.1,strB x.2,c9] 77 (0,0)))
theorem EE (p q B ft:Nat) (told:Bool) (s rest:List UInt8) (c3 c4 c5 c6 c7 c8 c9:Value) (w:World) (hs:s.length≤maxLen) (hp:qy w p s rest) (hq:w.heap[q]?=some (.cells #[.int .i64 (ft:Int),.bool told,strB [],c3,c4,c5,c6,c7,c8,c9] 77 (0,0))) (hpq:p≠q) (hBp:B≤p) (hBq:B≤q) :
  Calls Tryz.prog 73 #[.pointer (some ⟨q,0,none⟩),.pointer (some ⟨p,0,none⟩)] w (Wc B q ft told rest c9 w):=by
 have Hs:=hid hs
 have Hp:=hid hp
 have Hq:=hid hq
 have hplt:=xF hp
 have hqlt:=(Array.getElem?_eq_some_iff.1 hq).1
 clear hs hp hq
 obtain ⟨⟨q0,q1,q2,q3,q4,q5,q6,q7,q8,q9⟩,cf⟩:=xE Hq.out
 have f2:=cf 2
 clear cf
 go_enter Tryz.func73,Tryz.ntmps73
 cases told
 case' false =>
  have HBT:Hid (Below B w w):=Below.refl _ _
  have HXT:Hid (∀ (footer':List UInt8) (x:NB),(false=false→footer'=[])→footer'.length≤65535→JG x→rest=xp false footer' x→rest=xK x):=by
   intro f' x hf _ hx h
   simpa [xp] using h
  have HYT:Hid (∀ x:NB,rest=xK x→rest=xp false [] x):=by
   intro x h
   simpa [xp] using h
  have HpT:=Hp
  have HqT:=Hq
  have hFN:false=false→([]:List UInt8)=[]:=fun _=>rfl
  have hTlt:=hplt
  have hTqlt:=hqlt
  clear q0 q2 q3 q4 q5 q6 q7 q8 q9 f2
  go_wp2_with fail
  clear q1
 case' true =>
  clear q0 q3 q4 q5 q6 q7 q8 q9
  go_wp2_with fail
  clear q1
  refine (VB p s rest w Hs.out Hp.out).mono ?_
  rintro e w1 ⟨hg1,⟨hr,rfl⟩|⟨a,b,r,hr,rfl,hp1⟩⟩
  ·have HN:Hid (∀ (footer:List UInt8) (x:NB),(true=false→footer=[])→footer.length≤65535→JG x→rest≠xp true footer x):=by
    rintro f x _ _ _ rfl
    simp only [xp,if_true,List.length_append,jx] at hr
    omega
   have HB:=hid (jq hg1 hBp (by omega))
   clear hr hg1 q2 f2
   go_wp2
   exact ⟨rfl,HB.out,.inl ⟨rfl,HN.out⟩⟩
  have HB1:=hid (jq hg1 hBp (by omega))
  have Hq1:=hid (jk hg1 Hq.out (Ne.symm hpq))
  have Hp1:=hid hp1
  have hs1:=hg1.size
  have hab:a.toNat+256*b.toNat≤65535:=by have:=a.toNat_lt;have:=b.toNat_lt;omega
  have HX1:Hid (∀ (footer:List UInt8) (x:NB),footer.length≤65535→rest=xp true footer x→footer.length=a.toNat+256*b.toNat∧r=footer++xK x):=by
   intro f x hf h
   rw [hr] at h
   simp only [xp,if_true,List.append_assoc] at h
   have h':[a,b]++r=qz (f.length:Int)++(f++xK x):=h
   obtain ⟨h1,h2⟩:=List.append_inj h' (by rw [jx];rfl)
   rw [← Zc a b] at h1
   exact ⟨(Jm (by omega) hf h1).symm,h2⟩
  have HY1:Hid (∀ (x:NB),a.toNat+256*b.toNat≤r.length→r.drop (a.toNat+256*b.toNat)=xK x→rest=xp true (r.take (a.toNat+256*b.toNat)) x):=by
   intro x hl h
   have hl2:(r.take (a.toNat+256*b.toNat)).length=a.toNat+256*b.toNat:=by rw [List.length_take];omega
   simp only [xp,if_true]
   rw [hl2,Zc,← h,List.append_assoc,List.take_append_drop,hr]
   rfl
  clear hr hg1 hp1 q2 f2
  obtain ⟨⟨q0,q1,q2,q3,q4,q5,q6,q7,q8,q9⟩,cf⟩:=xE Hq1.out
  clear q0 q1 q2 q3 q4 q5 q6 q7 q8 q9 cf
  generalize a.toNat+256*b.toNat=n at *
  go_wp2_with fail
  refine (Js p s r n w1 Hs.out (by omega) Hp1.out).mono ?_
  rintro e w2 ⟨hg2,⟨hlt,rfl⟩|⟨hle,rfl,hp2⟩⟩
  ·have HN:Hid (∀ (footer:List UInt8) (x:NB),(true=false→footer=[])→footer.length≤65535→JG x→rest≠xp true footer x):=by
    intro f x _ hf _ h
    obtain ⟨h1,h2⟩:=HX1.out f x hf h
    rw [h2,List.length_append] at hlt
    omega
   have HB:=hid (HB1.out.trans (jq hg2 hBp (by omega)))
   clear hlt hg2
   go_wp2
   exact ⟨rfl,HB.out,.inl ⟨rfl,HN.out⟩⟩
  have HB2:=hid (HB1.out.trans (jq hg2 hBp (by omega)))
  have Hq2:=hid (jk hg2 Hq1.out (Ne.symm hpq))
  have Hp2:=hid hp2
  have hs2:=hg2.size
  clear hg2 hp2
  obtain ⟨⟨q0,q1,q2,q3,q4,q5,q6,q7,q8,q9⟩,cf⟩:=xE Hq2.out
  have f2:=cf 2
  clear q0 q1 q3 q4 q5 q6 q7 q8 q9 cf
  have HXT:Hid (∀ (footer':List UInt8) (x:NB),(true=false→footer'=[])→footer'.length≤65535→JG x→rest=xp true footer' x→r.drop n=xK x):=by
   intro f' x _ hf hx h
   obtain ⟨h1,h2⟩:=HX1.out f' x hf h
   rw [h2,← h1,List.drop_left]
  have HYT:Hid (∀ x:NB,r.drop n=xK x→rest=xp true (r.take n) x):=fun x h=>HY1.out x hle h
  have hFN:true=false→r.take n=[]:=fun h=>by cases h
  clear HX1 HY1
  generalize r.take n=F at *
  generalize r.drop n=r1 at *
  have HqT:=hid (Bd (v:=strB F) Hq2.out)
  have HBT:=hid (HB2.out.trans (jq (qv w2 q 2 (strB F)) hBq (by omega)))
  have HpT:=hid (zF Hp2.out (qv w2 q 2 (strB F)) hpq)
  go_wp2_with fail
  clear q2 f2
  generalize w2.setCell _ _=w3 at *
  have hTlt:=xF HpT.out
  have hTqlt:=(Array.getElem?_eq_some_iff.1 HqT.out).1
 all_goals
  refine (Uv p 0 0 0 _ s _ _ Hs.out HpT.out).mono ?_
  rintro e w6 ⟨hg6,⟨rfl,hno⟩|⟨x,r6,hx,rfl,hp6,hr6⟩⟩
  ·have HB6:=hid (HBT.out.trans (jq hg6 hBp (by omega)))
   have Hno:=hid hno
   clear hg6 hno
   go_wp2
   exact ⟨rfl,HB6.out,.inl ⟨rfl,fun f x hf hl hx h=>Hno.out x [] hx (by rw [List.append_nil];exact HXT.out f x (by first|exact hf|exact (fun _=>hf rfl)) hl hx h)⟩⟩
  have HB6:=hid (HBT.out.trans (jq hg6 hBp (by omega)))
  have Hq6:=hid (jk hg6 HqT.out (Ne.symm hpq))
  have Hp6:=hid hp6
  have Hr6:=hid hr6
  have hs6:=hg6.size
  clear hg6 hp6 hr6
  obtain ⟨⟨q0,q1,q2,q3,q4,q5,q6,q7,q8,q9⟩,cf⟩:=xE Hq6.out
  have f3:=cf 3
  have f4:=cf 4
  have f5:=cf 5
  have f6:=cf 6
  have f7:=cf 7
  have f8:=cf 8
  clear q0 q1 q2 q9 cf
  have Hq7:=hid (fun v3:Value=>BP (v3:=v3) (v4:=.int .i64 0) (v5:=.int .i64 0) (v6:=.int .i64 0) (v7:=strB x.1) (v8:=strB x.2) Hq6.out)
  have Hg7:=hid (fun v3:Value=>xP q [v3,.int .i64 0,.int .i64 0,.int .i64 0,strB x.1,strB x.2] w6 3)
  have HB7:=hid (fun v3:Value=>HB6.out.trans (jq (Hg7.out v3) hBq (by omega)))
  have Hp7:=hid (fun v3:Value=>zF Hp6.out (Hg7.out v3) hpq)
  clear Hg7
  go_wp2_with fail
  clear q3 q4 q5 q6 q7 q8 f3 f4 f5 f6 f7 f8
  refine (Yb p s r6 (w6.setCells q 3 [strB _,.int .i64 0,.int .i64 0,.int .i64 0,strB x.1,strB x.2]) Hs.out (Hp7.out _)).mono ?_
  rintro e w8 ⟨hb8,⟨hne,rfl⟩|⟨hnil,rfl⟩⟩
  ·have HB8:=hid ((HB7.out _).trans (hb8.mono (by rw [Xp];omega)))
   have HN:=hid hne
   clear hb8 hne
   go_wp2
   refine ⟨rfl,HB8.out,.inl ⟨rfl,fun f y hf hl hy h=>?_⟩⟩
   have h1:=HXT.out f y (by first|exact hf|exact (fun _=>hf rfl)) hl hy h
   rw [Hr6.out] at h1
   have h2:xK x++r6=xK y++[]:=by rw [List.append_nil];exact h1
   exact HN.out (CH hx hy h2).2
  ·have HB8:=hid ((HB7.out _).trans (hb8.mono (by rw [Xp];omega)))
   have Hq8:=hid ((hb8.block q (by rw [Xp];omega)).trans (Hq7.out _))
   have HE:=hid (HYT.out x (by rw [Hr6.out,hnil,List.append_nil]))
   clear hb8 hnil
   go_wp2
   go_end0
   first
   | exact ⟨HB8.out,.inr ⟨_,x,hFN,hx,rfl,HE.out,Hq8.out⟩⟩
   | exact ⟨HB8.out,.inr ⟨[],x,fun _=>rfl,hx,rfl,HE.out,Hq8.out⟩⟩
end
end Go.Proofs.YthhpbhpfagoapabGreat
