import Derived.Test.YthhpbhpfagoapabGreatRTk
import Derived.Test.YthhpbhpfagoapabGreatJAB
import Derived.Test.YthhpbhpfagoapabGreatJAL
import Derived.Test.YthhpbhpfagoapabGreatJAR
import Derived.Laws.IdiomCopy
namespace Go.Proofs.YthhpbhpfagoapabGreat
set_option linter.unusedVariables false
set_option linter.unusedSimpArgs false
set_option maxRecDepth 100000
set_option maxHeartbeats 16000000
open Go.RowKit
section
def UV {α:Type} (dom:α→Prop) (enc:α→List UInt8) (val:α→Value) (p:Nat) (s rest:List UInt8) (w:World) (e:Ending) (w':World):Prop :=
 w.grownBy w' (some p)∧((e=gaveUp∧∀ a q,dom a→rest≠enc a++q)∨∃ a r,dom a∧e=.returned (val a)∧qv w' p s r∧rest=enc a++r)
theorem zK (p:Nat) (s rest:List UInt8) (most:Nat) (w:World) (hs:s.length≤maxLen) (hm:most≤1000000) (hp:qv w p s rest) :
  Calls Tryz.prog 139 #[.pointer (some ⟨p,0,none⟩),.int .i64 (most:Int)] w (UV (fun n:Nat=>n≤most) uB (fun n=>.int .i64 (n:Int)) p s rest w):=by
 have Hs:=hid hs
 have Hp:=hid hp
 clear hs hp
 have hw1:IntKind.u64.wrap (most:Int)=(most:Int):=VF (by omega) (by omega)
 go_enter Tryz.func139,Tryz.ntmps139
 go_wp2_with fail
 refine (RF p s rest _ Hs.out Hp.out).mono ?_
 rintro e w1 ⟨hg,⟨rfl,hno⟩|⟨n,r,hn,hr,rfl,hrd⟩⟩
 ·go_wp2
  exact ⟨rfl,hg,.inl ⟨rfl,fun a q ha=>hno a q (by omega)⟩⟩
 ·have Hr:=hid hr
  have Hrd:=hid hrd
  clear hr hrd
  by_cases hle:n≤most
  ·have hi:(n:Int)≤(most:Int):=by omega
   have hw2:IntKind.i64.wrap (n:Int)=(n:Int):=Un (by omega) (by omega)
   go_wp2_with fail
   refine (qe _).mono ?_
   rintro e w2 ⟨rfl,rfl⟩
   go_wp2
   go_ret
   exact ⟨hg,.inr ⟨n,r,hle,rfl,Hrd.out,Hr.out⟩⟩
  ·have hi:decide ((n:Int)≤(most:Int))=false:=by simp;omega
   go_wp2_with fail
   refine (qS _).mono ?_
   rintro e w2 ⟨rfl,rfl⟩
   go_wp2
   exact ⟨rfl,hg,.inl ⟨rfl,fun a q ha haq=>by
    have:=(NA hn (by omega) (Hr.out.symm.trans haq)).1
    omega⟩⟩
theorem So (a b:Nat) (ha:a < 256) (hb:b < 256):bits .or .i64 (a:Int) ((b:Int)*256)=((a+256*b:Nat):Int):=by
 have e:(b:Int)*256=((256*b:Nat):Int):=by omega
 rw [e]
 have hx:a ||| 256*b < 2 ^ 16:=Nat.or_lt_two_pow (by omega) (by omega)
 show IntKind.i64.wrap ((BitVec.ofInt 64 (a:Int) ||| BitVec.ofInt 64 ((256*b:Nat):Int)).toNat:Int)=_
 rw [BitVec.toNat_or,ofInt_u64 a (by omega),ofInt_u64 (256*b) (by omega),IntWalk.i64_in _ ⟨by omega,by omega⟩]
 have h:=Nat.two_pow_add_eq_or_of_lt (i:=8) (b:=a) (by omega) b
 rw [Nat.or_comm]
 have h2:256*b+a=256*b ||| a:=h
 omega
theorem Vk (p:Nat) (s rest:List UInt8) (w:World) (hs:s.length≤maxLen) (hp:qv w p s rest) :
  Calls Tryz.prog 101 #[.pointer (some ⟨p,0,none⟩)] w fun e w'=>w.grownBy w' (some p) ∧
   ((rest.length < 2∧e=gaveUp)∨∃ a b r,rest=a :: b :: r∧e=.returned (.int .i64 ((a.toNat+256*b.toNat:Nat):Int))∧qv w' p s r):=by
 have Hs:=hid hs
 have Hp:=hid hp
 clear hs hp
 go_enter Tryz.func101,Tryz.ntmps101
 go_wp2_with fail
 refine (Zm p s rest w Hs.out Hp.out).mono ?_
 rintro e w1 ⟨hg1,⟨hr,rfl⟩|⟨a,r1,hr,rfl,hp1⟩⟩
 ·have Hr:=hid hr
  clear hr
  go_wp2
  exact ⟨rfl,hg1,.inl ⟨by rw [Hr.out];decide,rfl⟩⟩
 ·have Hr:=hid hr
  have Hp1:=hid hp1
  have HG1:=hid hg1
  clear hr hp1 hg1
  have la:=a.toNat_lt
  have hwa:IntKind.i64.wrap (a.toNat:Int)=(a.toNat:Int):=IntWalk.i64_in _ ⟨by omega,by omega⟩
  go_wp2_with fail
  refine (Zm p s r1 w1 Hs.out Hp1.out).mono ?_
  rintro e w2 ⟨hg2,⟨hr2,rfl⟩|⟨b,r,hr2,rfl,hp2⟩⟩
  ·have Hr2:=hid hr2
   have HG2:=hid (jf HG1.out hg2)
   clear hr2 hg2
   go_wp2
   exact ⟨rfl,HG2.out,.inl ⟨by rw [Hr.out,Hr2.out];exact Nat.lt_succ_self 1,rfl⟩⟩
  ·have Hr2:=hid hr2
   have Hp2:=hid hp2
   have HG2:=hid (jf HG1.out hg2)
   clear hr2 hg2 hp2
   have lb:=b.toNat_lt
   have hwb:IntKind.i64.wrap (b.toNat:Int)=(b.toNat:Int):=IntWalk.i64_in _ ⟨by omega,by omega⟩
   have hor:=So a.toNat b.toNat la lb
   go_wp2
   go_ret
   exact ⟨HG2.out,.inr ⟨a,b,r,by rw [Hr.out,Hr2.out],xb (by omega),Hp2.out⟩⟩
theorem Tf (p:Nat) (s rest:List UInt8) (most:Nat) (w:World) (hs:s.length≤maxLen) (hm:most≤1000) (hp:qv w p s rest) :
  Calls Tryz.prog 172 #[.pointer (some ⟨p,0,none⟩),.int .i64 (most:Int)] w (UV (fun t:List UInt8=>t.length≤most) xB strB p s rest w):=by
 have Hs:=hid hs
 have Hp:=hid hp
 clear hs hp
 go_enter Tryz.func172,Tryz.ntmps172
 go_wp2_with fail
 refine (zK p s rest most w Hs.out (by omega) Hp.out).mono ?_
 rintro e w1 ⟨hg,⟨rfl,hno⟩|⟨n,r,hn,rfl,hrd,hr⟩⟩
 ·go_wp2
  exact ⟨rfl,hg,.inl ⟨rfl,fun a q ha h=>hno a.length (a++q) ha (by rw [h,xB,List.append_assoc])⟩⟩
 ·have HG:=hid hg
  have Hr:=hid hr
  have Hrd:=hid hrd
  clear hg hr hrd
  go_wp2_with fail
  refine (Jn p s r n w1 Hs.out (by omega) Hrd.out).mono ?_
  rintro e w2 ⟨hg2,⟨hlt,rfl⟩|⟨hle,rfl,hrd2⟩⟩
  ·have HG2:=hid (jf HG.out hg2)
   have HN:Hid (∀ a q,a.length≤most→rest≠xB a++q):=by
    intro a q ha h
    rw [Hr.out,xB,List.append_assoc] at h
    obtain ⟨h1,h2⟩:=NA (by omega) (by omega) h
    have:=congrArg List.length h2
    rw [List.length_append] at this
    omega
   clear hg2
   go_wp2
   exact ⟨rfl,HG2.out,.inl ⟨rfl,HN.out⟩⟩
  ·have HG2:=hid (jf HG.out hg2)
   have Hrd2:=hid hrd2
   have HE:Hid ((r.take n).length≤most∧rest=xB (r.take n)++r.drop n):=by
    have hl:(r.take n).length=n:=by rw [List.length_take];omega
    refine ⟨by omega,?_⟩
    rw [Hr.out,xB,hl,List.append_assoc,List.take_append_drop]
   clear hg2 hrd2
   generalize r.take n=T at *
   go_wp2
   go_ret
   exact ⟨HG2.out,.inr ⟨T,_,HE.out.1,rfl,Hrd2.out,HE.out.2⟩⟩
theorem NX (p:Nat) (s rest:List UInt8) (w:World) (hs:s.length≤maxLen) (hp:qv w p s rest) :
  Calls Tryz.prog 105 #[.pointer (some ⟨p,0,none⟩)] w fun e w'=>Below w.heap.size w w'∧((rest≠[]∧e=gaveUp)∨(rest=[]∧e=.returned (.tuple #[]))):=by
 obtain ⟨at_,hrow,hat,rfl⟩:=hp
 obtain ⟨⟨c0,c1⟩,_⟩:=VQ hrow
 unfold maxLen at hs
 clear hrow
 by_cases hz:at_=s.length
 ·have hb:((at_:Int) == (s.length:Int))=true:=by simp;omega
  have HR:Hid (s.drop at_=[]):=by show _=_;rw [List.drop_eq_nil_iff];omega
  clear hz
  go_enter Tryz.func105,Tryz.ntmps105
  go_wp2_with fail
  go_region_held3 (fun w'=>w'.cell? ⟨p,0,none⟩=some (strB s)∧w'.cell? ⟨p,1,none⟩=some (.int .i64 (at_:Int))) (exact ⟨c0,c1⟩)
   (first|(go_at_call 69;refine (qe _).mono ?_;rintro e w' ⟨rfl,rfl⟩))
  go_wp2
  go_end0
  exact ⟨jl (Below.refl _ _),.inr ⟨HR.out,rfl⟩⟩
 ·have hb:((at_:Int) == (s.length:Int))=false:=by simp;omega
  have HR:Hid (s.drop at_≠[]):=by show _≠_;rw [ne_eq,List.drop_eq_nil_iff];omega
  clear hz
  go_enter Tryz.func105,Tryz.ntmps105
  go_wp2_with fail
  refine wp_region_held_drew (S:=fun w'=>w'.cell? ⟨p,0,none⟩=some (strB s)∧w'.cell? ⟨p,1,none⟩=some (.int .i64 (at_:Int))) (by kernel_rfl) ?_ (fun hHeld=>?_)
  ·exact ⟨c0,c1⟩
  refine tk 0 (.pointer (some ⟨p,0,none⟩)) ?_
  refine tk 1 (.pointer (some ⟨p,0,none⟩)) ?_
  refine tk 2 (.pointer (some ⟨p,1,none⟩)) ?_
  refine tk 3 (.int .i64 (at_:Int)) ?_
  refine tk 4 (.pointer (some ⟨p,0,none⟩)) ?_
  refine tk 5 (.pointer (some ⟨p,0,none⟩)) ?_
  refine tk 6 (.pointer (some ⟨p,0,none⟩)) ?_
  refine tk 7 (strB s) ?_
  refine tk 8 (.int .i64 (s.length:Int)) ?_
  refine tk 9 (.bool false) ?_
  simp only [jA,jB,jC,Act.put,jD,jE,jF]
  refine rd 10 (fun K hK=>?_)
  simp only [jA,jB,jC]
  go_simp
  go_at_call 69
  refine (qS _).mono ?_
  rintro e w' ⟨rfl,rfl⟩
  exact ⟨rfl,jl (Below.refl _ _),.inl ⟨HR.out,rfl⟩⟩
theorem Lo (p:Nat) (s rest:List UInt8) (w:World) (hs:s.length≤maxLen) (hp:qv w p s rest) :
  Calls Tryz.prog 141 #[.pointer (some ⟨p,0,none⟩)] w fun e w'=>Below w.heap.size w w'∧e=.returned (.int .i64 ((s.length - rest.length:Nat):Int)):=by
 obtain ⟨at_,hrow,hat,rfl⟩:=hp
 obtain ⟨⟨c0,c1⟩,_⟩:=VQ hrow
 unfold maxLen at hs
 have HE:Hid (s.length - (s.drop at_).length=at_):=by show _=_;rw [List.length_drop];omega
 clear hrow
 go_enter Tryz.func141,Tryz.ntmps141
 go_wp2
 go_ret
 exact ⟨Below.refl _ _,xb (by rw [HE.out])⟩
end
section
theorem Zw {w:World} {B:Nat} {t:TypeId}:∀ (vs a b:List Value),∀ (old:List Value),old.length=vs.length→w.heap[B]?=some (.cells (a++(old++b)).toArray t (0,0)) →
  (w.setCells B a.length vs).heap[B]?=some (.cells (a++(vs++b)).toArray t (0,0)):=by
 intro vs
 induction vs generalizing w with
 | nil=>intro a b old hl h;rw [List.eq_nil_of_length_eq_zero hl] at h;simpa [World.setCells] using h
 | cons v vs ih =>
  intro a b old hl h
  cases old with
  | nil=>simp at hl
  | cons o old =>
   rw [World.setCells]
   have h1:(w.setCell ⟨B,a.length,none⟩ v).heap[B]?=some (.cells ((a++[v])++(old++b)).toArray t (0,0)):=by
    rw [heap_setCell_same w B a.length _ t v h]
    simp
   have h2:=ih (a++[v]) b old (by simpa using hl) h1
   rw [List.length_append,List.length_singleton] at h2
   rw [h2]
   simp
theorem JO {w:World} {B:Nat} {C:Array Value} {t:TypeId} (vs:List Value) (hC:C.size=vs.length) (h:w.heap[B]?=some (.cells C t (0,0))):(w.setCells B 0 vs).heap[B]?=some (.cells vs.toArray t (0,0)):=by
 have:=Zw (w:=w) (t:=t) (B:=B) vs [] [] C.toList (by simpa using hC) (by simpa using h)
 simpa using this
theorem xS (B:Nat):∀ (vs:List Value) (w:World) (o:Nat),w.grownBy (w.setCells B o vs) (some B):=by
 intro vs
 induction vs with
 | nil=>intro w o;exact jU w _
 | cons v vs ih =>
  intro w o
  rw [World.setCells]
  refine jf ?_ (ih (w.setCell ⟨B,o,none⟩ v) (o+1))
  exact ⟨rfl,rfl,rfl,by simp,fun k _ hk=>heap_setCell_other w ⟨B,o,none⟩ k v (fun e=>hk (by simp [e]))⟩
theorem Xi (B:Nat):∀ (vs:List Value) (w:World) (o:Nat),(w.setCells B o vs).heap.size=w.heap.size:=by
 intro vs
 induction vs with
 | nil=>intro w o;rfl
 | cons v vs ih=>intro w o;rw [World.setCells,ih];simp
theorem JQ (w:World) (C1:Array Value) (t1:TypeId) (C2:Array Value) (t2:TypeId):Below w.heap.size w ((w.alloc (.cells C1 t1)).alloc (.cells C2 t2))∧w.heap.size+1 < ((w.alloc (.cells C1 t1)).alloc (.cells C2 t2)).heap.size ∧
  ((w.alloc (.cells C1 t1)).alloc (.cells C2 t2)).heap[w.heap.size]?=some (.cells C1 t1 (0,0))∧((w.alloc (.cells C1 t1)).alloc (.cells C2 t2)).heap[w.heap.size+1]?=some (.cells C2 t2 (0,0)):=by
 have e:(w.alloc (.cells C1 t1)).heap.size=w.heap.size+1:=by simp
 refine ⟨((Below.refl _ _).alloc (Nat.le_refl _) _).alloc (by simp) _,by simp,(((Below.refl (w.alloc (.cells C1 t1)).heap.size _).alloc (Nat.le_refl _) (.cells C2 t2)).block w.heap.size (by simp)).trans (heap_alloc_new w _),?_⟩
 have:=heap_alloc_new (w.alloc (.cells C1 t1)) (.cells C2 t2)
 rw [e] at this
 exact this
theorem XZ (a b:UInt8):qQ ((a.toNat+256*b.toNat:Nat):Int)=[a,b]:=by
 have ha:=a.toNat_lt
 have hb:=b.toNat_lt
 unfold qQ
 simp only [List.cons.injEq,and_true]
 constructor
 ·apply UInt8.toNat_inj.1;simp only [UInt8.toNat_ofNat'];omega
 ·apply UInt8.toNat_inj.1;simp only [UInt8.toNat_ofNat'];omega
abbrev NB:=List UInt8 × List UInt8
def Jz (x:NB):Prop:=x.1.length=4∧2≤x.2.length∧x.2.length≤65535
def xI (x:NB):List UInt8:=qQ (x.2.length:Int)++(x.1++x.2)
abbrev moduleV (sort:List UInt8) (g c k:Nat):Value:=.agg #[strB sort,.int .i64 (g:Int),.int .i64 (c:Int),.int .i64 (k:Int)]
abbrev pieceV (sort:List UInt8) (g c k:Nat) (x:NB):Value:=.agg #[strB sort,.int .i64 (g:Int),.int .i64 (c:Int),.int .i64 (k:Int),strB x.1,strB x.2]
theorem En {a b:UInt8} {r q:List UInt8} {x:NB} (hx:Jz x) (h:a :: b :: r=xI x++q):x.2.length=a.toNat+256*b.toNat∧r=x.1++(x.2++q):=by
 unfold xI at h
 rw [List.append_assoc,List.append_assoc] at h
 have h':[a,b]++r=qQ (x.2.length:Int)++(x.1++(x.2++q)):=h
 obtain ⟨h1,h2⟩:=List.append_inj h' (by rw [jy];rfl)
 rw [← XZ a b] at h1
 have ha:=a.toNat_lt
 have hb:=b.toNat_lt
 exact ⟨(Jm (by omega) hx.2.2 h1).symm,h2⟩
theorem AR {a b:UInt8} {r:List UInt8} (h2:2≤a.toNat+256*b.toNat) (h4:4≤r.length) (hn:a.toNat+256*b.toNat≤(r.drop 4).length) :
  Jz (r.take 4,(r.drop 4).take (a.toNat+256*b.toNat))∧a :: b :: r=xI (r.take 4,(r.drop 4).take (a.toNat+256*b.toNat))++(r.drop 4).drop (a.toNat+256*b.toNat):=by
 have ha:=a.toNat_lt
 have hb:=b.toNat_lt
 have hl:((r.drop 4).take (a.toNat+256*b.toNat)).length=a.toNat+256*b.toNat:=by rw [List.length_take];omega
 refine ⟨⟨by simp;omega,by simp only [hl];omega,by simp only [hl];omega⟩,?_⟩
 unfold xI
 simp only [hl]
 rw [XZ,List.append_assoc,List.append_assoc,List.take_append_drop,List.take_append_drop]
 rfl
theorem jk {w w':World} {p B:Nat} {o:Obj} (hg:w.grownBy w' (some p)) (h:w.heap[B]?=some o) (hne:B≠p):w'.heap[B]?=some o :=
 (hg.block B (Array.getElem?_eq_some_iff.1 h).1 (by simpa using hne)).trans h
theorem zH {w w':World} {p q:Nat} {s r:List UInt8} (h:qv w p s r) (hg:w.grownBy w' (some q)) (hne:p≠q):qv w' p s r:=by
 obtain ⟨at_,h1,h2,h3⟩:=h
 exact ⟨at_,jk hg h1 hne,h2,h3⟩
theorem KW {w:World} {p:Nat} {a b c d:Value} {t:TypeId} (h:w.heap[p]?=some (.cells #[a,b,c,d] t (0,0))):w.cell? ⟨p,0,none⟩=some a∧w.cell? ⟨p,1,none⟩=some b∧w.cell? ⟨p,2,none⟩=some c∧w.cell? ⟨p,3,none⟩=some d :=
 ⟨by rw [jb h];rfl,by rw [jb h];rfl,by rw [jb h];rfl,by rw [jb h];rfl⟩
theorem XW {w:World} {p:Nat} {a b c d e f:Value} {t:TypeId} (h:w.heap[p]?=some (.cells #[a,b,c,d,e,f] t (0,0))):(w.cell? ⟨p,0,none⟩=some a∧w.cell? ⟨p,1,none⟩=some b∧w.cell? ⟨p,2,none⟩=some c∧w.cell? ⟨p,3,none⟩=some d∧w.cell? ⟨p,4,none⟩=some e∧w.cell? ⟨p,5,none⟩=some f) ∧
  (w.frozen? ⟨p,0,none⟩=false∧w.frozen? ⟨p,1,none⟩=false∧w.frozen? ⟨p,2,none⟩=false∧w.frozen? ⟨p,3,none⟩=false∧w.frozen? ⟨p,4,none⟩=false∧w.frozen? ⟨p,5,none⟩=false) :=
 ⟨⟨by rw [jb h];rfl,by rw [jb h];rfl,by rw [jb h];rfl,by rw [jb h];rfl,by rw [jb h];rfl,by rw [jb h];rfl⟩,
  frozen_of_row w p _ _ t h,frozen_of_row w p _ _ t h,frozen_of_row w p _ _ t h,frozen_of_row w p _ _ t h,frozen_of_row w p _ _ t h,frozen_of_row w p _ _ t h⟩
theorem Ue (p g c k:Nat) (sort s rest:List UInt8) (w:World) (hs:s.length≤maxLen) (hp:qv w p s rest) :
  Calls Tryz.prog 104 #[.pointer (some ⟨p,0,none⟩),moduleV sort g c k] w (UV Jz xI (pieceV sort g c k) p s rest w):=by
 have Hs:=hid hs
 have Hp:=hid hp
 have hplt:=xD hp
 clear hs hp
 go_enter Tryz.func104,Tryz.ntmps104
 go_wp2_with fail
 obtain ⟨hb0,hl0,hm0,ho0⟩:=JQ w #[strB sort,.int .i64 (g:Int),.int .i64 (c:Int),.int .i64 (k:Int)] 73 #[Value.string { data:=#[] },.int .i64 0,.int .i64 0,.int .i64 0,Value.string { data:=#[] },Value.string { data:=#[] }] 75
 generalize (w.alloc _).alloc _=W0 at *
 have Hp0:=hid (qH Hp.out hb0 hplt)
 have hG0:w.grownBy W0 (some p):=jG (jU w _) hb0
 have hne0:w.heap.size≠p:=by omega
 have hne1:w.heap.size+1≠p:=by omega
 clear hb0
 refine (Vk p s rest W0 Hs.out Hp0.out).mono ?_
 rintro e w1 ⟨hg1,⟨hr,rfl⟩|⟨a,b,r,hr,rfl,hp1⟩⟩
 ·have HN:Hid (∀ (x:NB) q,Jz x→rest≠xI x++q):=by
   rintro x q hx rfl
   unfold xI at hr
   simp only [List.length_append,jy] at hr
   omega
  have HG:=hid (jf hG0 hg1)
  clear hr hg1 hG0 hm0 ho0
  go_wp2
  exact ⟨rfl,HG.out,.inl ⟨rfl,HN.out⟩⟩
 ·have hm1:=jk hg1 hm0 hne0
  have ho1:=jk hg1 ho0 hne1
  have HG1:=hid (jf hG0 hg1)
  have Hp1:=hid hp1
  have Hr:=hid hr
  have hab:a.toNat+256*b.toNat≤65535:=by have:=a.toNat_lt;have:=b.toNat_lt;omega
  have HM:Hid (2≤a.toNat+256*b.toNat→4≤r.length→a.toNat+256*b.toNat≤(r.drop 4).length→Jz (r.take 4,(r.drop 4).take (a.toNat+256*b.toNat))∧a :: b :: r=xI (r.take 4,(r.drop 4).take (a.toNat+256*b.toNat))++(r.drop 4).drop (a.toNat+256*b.toNat)):=AR
  have HX:Hid (∀ (x:NB) q,Jz x→a :: b :: r=xI x++q→x.2.length=a.toNat+256*b.toNat∧r=x.1++(x.2++q)):=fun x q=>En
  clear hr hg1 hG0 hm0 ho0 hp1
  have hl1:=World.block_lt_of_cell? w1 ⟨w.heap.size+1,0,none⟩ (by rw [jb ho1];rfl)
  generalize a.toNat+256*b.toNat=n at *
  by_cases h2:2≤n
  ·have hi:(2:Int)≤(n:Int):=by omega
   go_wp2_with fail
   refine (qe _).mono ?_
   rintro e w2 ⟨rfl,rfl⟩
   go_wp2_with fail
   have HC:=hid (KW hm1)
   have Hm1:=hid hm1
   have Ho1:=hid ho1
   clear hm1 ho1
   refine wp_region_held_drew (S:=fun w'=>w'.cell? ⟨w.heap.size,0,none⟩=some (strB sort)∧w'.cell? ⟨w.heap.size,1,none⟩=some (.int .i64 (g:Int))∧w'.cell? ⟨w.heap.size,2,none⟩=some (.int .i64 (c:Int))∧w'.cell? ⟨w.heap.size,3,none⟩=some (.int .i64 (k:Int))) (by kernel_rfl) ?_ (fun hHeld=>?_)
   ·exact HC.out
   refine tk 0 (moduleV sort g c k) ?_
   refine tk 1 (.pointer (some ⟨p,0,none⟩)) ?_
   refine tk 3 (.pointer (some ⟨p,0,none⟩)) ?_
   refine tk 4 (.int .i64 (n:Int)) ?_
   simp only [jA,jB,jC,Act.put,jD,jE,jF]
   refine rd 2 (fun K hK=>?_)
   simp only [jA,jB,jC]
   go_simp
   go_at_call 102
   refine (Jn p s r 4 _ Hs.out (by omega) (show qv w2.drew p s r from Hp1.out)).mono ?_
   rintro e w3 ⟨hg3,⟨hlt,rfl⟩|⟨hle,rfl,hp3⟩⟩
   ·refine ⟨rfl,jf HG1.out (jP hg3),.inl ⟨rfl,fun x q hx h=>?_⟩⟩
    obtain ⟨_,h4⟩:=HX.out x q hx (Hr.out.symm.trans h)
    have h5:=congrArg List.length h4
    have h6:=hx.1
    rw [List.length_append] at h5
    omega
   have hm3:=jk (jP hg3) Hm1.out hne0
   have ho3:=jk (jP hg3) Ho1.out hne1
   have HG3:=hid (jf HG1.out (jP hg3))
   have Hp3:=hid hp3
   have HC3:=hid (KW hm3)
   have Ho3:=hid ho3
   have Hm3:=hid hm3
   clear hg3 hp3 hm3 ho3
   try go_wp2_with fail
   refine hK.out _ _ HC3.out (fun hHeld=>?_)
   clear hK K
   try simp only [jA,jB,jC,Act.put,jD,jE,jF]
   refine rd 5 (fun K hK=>?_)
   simp only [jA,jB,jC]
   go_simp
   go_at_call 102
   refine (Jn p s (r.drop 4) n w3 Hs.out (by omega) Hp3.out).mono ?_
   rintro e w4 ⟨hg4,⟨hlt,rfl⟩|⟨hle2,rfl,hp4⟩⟩
   ·refine ⟨rfl,jf HG3.out hg4,.inl ⟨rfl,fun x q hx h=>?_⟩⟩
    obtain ⟨h3,h4⟩:=HX.out x q hx (Hr.out.symm.trans h)
    have h5:=hx.1
    rw [h4,← h5,List.drop_left,List.length_append] at hlt
    omega
   have hm4:=jk hg4 Hm3.out hne0
   have ho4:=jk hg4 Ho3.out hne1
   have HG4:=hid (jf HG3.out hg4)
   have Hp4:=hid hp4
   have HC4:=hid (KW hm4)
   have Ho4:=hid ho4
   have Hm4:=hid hm4
   have HE:=hid (HM.out h2 hle hle2)
   clear hg4 hp4 hm4 ho4
   generalize r.take 4=T at *
   generalize (r.drop 4).take n=U at *
   generalize (r.drop 4).drop n=V at *
   try go_wp2_with fail
   refine hK.out _ _ HC4.out (fun hHeld=>?_)
   clear hK K
   try simp only [jA,jB,jC,Act.put,jD,jE,jF]
   refine rd 6 (fun K hK=>?_)
   simp only [jA,jB,jC]
   go_simp
   try go_wp2_with fail
   refine hK.out _ _ HC4.out (fun hHeld=>?_)
   clear hK K
   try simp only [jA,jB,jC,Act.put,jD,jE,jF]
   obtain ⟨⟨q0,q1,q2,q3,q4,q5⟩,z0,z1,z2,z3,z4,z5⟩:=XW Ho4.out
   refine rd 7 (fun K hK=>?_)
   simp only [jA,jB,jC]
   try go_simp
   show K _ (w4.setCells (w.heap.size+1) 0 [strB sort,.int .i64 (g:Int),.int .i64 (c:Int),.int .i64 (k:Int),strB T,strB U])
   have ho5:=JO [strB sort,.int .i64 (g:Int),.int .i64 (c:Int),.int .i64 (k:Int),strB T,strB U] (by rfl) Ho4.out
   have hg5:=xS (w.heap.size+1) [strB sort,.int .i64 (g:Int),.int .i64 (c:Int),.int .i64 (k:Int),strB T,strB U] w4 0
   clear q0 q1 q2 q3 q4 q5 z0 z1 z2 z3 z4 z5
   generalize w4.setCells _ _ _=W5 at *
   have HC5:=hid (KW (jk hg5 Hm4.out (by omega)))
   have HG5:=hid (JM HG4.out hg5 (by rintro k hk;cases hk;omega))
   have Hp5:=hid (zH Hp4.out hg5 (by omega))
   clear hg5
   refine hK.out _ _ HC5.out (fun hHeld=>?_)
   clear hK K
   refine wpAnyH_done (by kernel_rfl) ?_ _
   obtain ⟨⟨q0,q1,q2,q3,q4,q5⟩,_⟩:=XW ho5
   go_wp2
   exact bodyPost_ret (v:=pieceV sort g c k (T,U)) (by simp [results,Tryz.results104,go_sem,q0,q1,q2,q3,q4,q5]) rfl ⟨HG5.out,.inr ⟨(T,U),V,HE.out.1,rfl,Hp5.out,Hr.out.trans HE.out.2⟩⟩
  ·have hi:decide ((2:Int)≤(n:Int))=false:=by simp;omega
   go_wp2_with fail
   refine (qS _).mono ?_
   rintro e w2 ⟨rfl,rfl⟩
   go_wp2
   exact ⟨rfl,HG1.out,.inl ⟨rfl,fun x q hx h=>by
    have:=(HX.out x q hx (Hr.out.symm.trans h)).1
    have:=hx.2.1
    omega⟩⟩
end
end Go.Proofs.YthhpbhpfagoapabGreat
