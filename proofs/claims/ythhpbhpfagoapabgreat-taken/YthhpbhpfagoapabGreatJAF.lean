import Derived.Test.YthhpbhpfagoapabGreatJAG
import Derived.Test.YthhpbhpfagoapabGreatJAU
import Derived.Test.YthhpbhpfagoapabGreatJAA
import Derived.Test.YthhpbhpfagoapabGreatKHead
import Derived.Deep.RegionHeld3
import Derived.Deep.RegionWith
namespace Go.Proofs.YthhpbhpfagoapabGreat
set_option linter.unusedVariables false
set_option linter.unusedSimpArgs false
set_option maxRecDepth 100000
set_option maxHeartbeats 16000000
open Go.RowKit
section
theorem Sh {x y:SealB} (h:sealV x=sealV y):x=y:=by
 obtain ⟨x1,x2,x3,x4⟩:=x
 obtain ⟨y1,y2,y3,y4⟩:=y
 simp only [Value.agg.injEq] at h
 simp at h
 obtain ⟨h1,h2,h3,h4⟩:=h
 subst h1 h2 h3 h4
 rfl
theorem Nu {x y:SealB} {a b:Int} (h:Ending.returned (.tuple #[sealV x,.int .i64 a])=.returned (.tuple #[sealV y,.int .i64 b])):x=y∧a=b:=by
 simp only [Ending.returned.injEq,Value.tuple.injEq] at h
 have h2:sealV x=sealV y∧a=b:=by simpa using h
 exact ⟨Sh h2.1,h2.2⟩
theorem Rj {js:List JobB} {r:List KeyB} {file pre:List UInt8} {J:JobB} {F:Nat→FoundB} {n:Nat} {er fe:Int} {x:SealB} (hg:∀ j ∈ js,GoodJ j r) (hd:QR js) (h8:js.length≤8) (hx:Ks js r file pre (.returned (.tuple #[sealV x,.int .i64 fe])))
  (hread:(er≠0∧xe file pre r false=(er,none))∨(er=0∧∃ S,xe file pre r false=(0,some S)∧n=S.cols.length∧F=qh pre r S)) (hw:∀ S,xe file pre r false=(0,some S)→(Jl (qh pre r S) S.cols.length pre js ↔ (J ∈ js∧J.pre=pre)∧zQ (qh pre r S) S.cols.length J.table=true)) :
  (er≠0→fe=11∧x=⟨[],[],[],[]⟩)∧(er=0→xU F n J.table=false→(J ∈ js∧J.pre=pre)→fe=11∧x=⟨[],[],[],[]⟩)∧(er=0→(xU F n J.table=true∨¬ (J ∈ js∧J.pre=pre))→fe=0∧SeenOk file x∧x ∉ qY js r∧file.length≤65000):=by
 have hok:XG js r:=⟨h8,hd,fun j hj=>Gq (hg j hj)⟩
 rcases hx with ⟨h1,_⟩|⟨_,hx⟩
 ·exact absurd hok h1
 rcases hread with ⟨hne,hs⟩|⟨h0,S,hs,rfl,rfl⟩
 ·refine ⟨fun _=>?_,fun h=>absurd h hne,fun h=>absurd h hne⟩
  rcases hx with ⟨_,he⟩|⟨S,f,hs',_⟩
  ·obtain ⟨a,b⟩:=Nu he;exact ⟨b,a⟩
  ·rw [hs] at hs';simp at hs'
 ·have hdt:=Ag (T:=J.table) (MZ hs)
  have hws:=hw S hs
  rcases hx with ⟨⟨err,hs',_⟩,_⟩|⟨S',f,hs',hf,hx⟩
  ·rw [hs] at hs';simp at hs'
  rw [hs] at hs'
  simp only [Prod.mk.injEq,Option.some.injEq,true_and] at hs'
  subst hs'
  refine ⟨fun h=>absurd h0 h,fun _ hdf hJ=>?_,fun _ hdf=>?_⟩
  ·have ht:zQ (qh pre r S) S.cols.length J.table=true:=by rw [hdt] at hdf;simpa using hdf
   rcases hx with ⟨_,he⟩|⟨hnw,_⟩
   ·obtain ⟨a,b⟩:=Nu he;exact ⟨b,a⟩
   ·exact absurd (hws.2 ⟨hJ,ht⟩) hnw
  ·have hnw:¬ Jl (qh pre r S) S.cols.length pre js:=by
    intro hwr
    obtain ⟨hJ,ht⟩:=hws.1 hwr
    rcases hdf with hdf|hdf
    ·rw [hdt,ht] at hdf;cases hdf
    ·exact hdf hJ
   obtain ⟨y,hy,hso,hnl,_⟩:=Ev hg hd hs hf hnw
   rcases hx with ⟨hwr,_⟩|⟨_,he⟩
   ·exact absurd hwr hnw
   ·rw [hy] at he
    obtain ⟨a,b⟩:=Nu he
    subst a
    have hok2:=ZY hf
    exact ⟨b,hso,hnl,by rw [← hok2.2];exact hok2.1.short⟩
theorem GE {js:List JobB} {pre:List UInt8} {J:JobB} {F:Nat→FoundB} {n:Nat} (hd:QR js) (hJ:J ∈ js) (hp:J.pre=pre):Jl F n pre js ↔ (J ∈ js∧J.pre=pre)∧zQ F n J.table=true:=by
 constructor
 ·rintro ⟨k,hk,h1,_,h3⟩
  have:js[k]=J:=Rn hd _ (List.getElem_mem hk) _ hJ (by rw [h1,hp])
  rw [← this]
  exact ⟨⟨List.getElem_mem hk,h1⟩,h3⟩
 ·rintro ⟨_,ht⟩
  obtain ⟨k,hk,rfl⟩:=List.mem_iff_getElem.1 hJ
  exact ⟨k,hk,hp,fun j hj=>by rw [← hp];exact hd k hk j hj,ht⟩
theorem IQ {pre:List UInt8} {J:JobB} {F:Nat→FoundB} {n:Nat}:Jl F n pre [] ↔ (J ∈ ([]:List JobB)∧J.pre=pre)∧zQ F n J.table=true:=by
 constructor
 ·rintro ⟨k,hk,_⟩;simp at hk
 ·rintro ⟨⟨h,_⟩,_⟩;simp at h
end
section
theorem DN (raw:List Int) (pre:List UInt8) (c without:Int) (hr:∀ x ∈ raw,Xl x) :
  Je (qh (qm raw pre).pre (jV c without) (Js (qm raw pre) (jV c 0))) (qm raw pre).table.length (qm raw pre).table=true:=by
 simp only [Je,decide_true,Bool.true_and]
 rw [NI]
 intro k hk
 rw [RD raw pre c without hr hk,xy hk]
 split<;>exact ⟨rfl,rfl,rfl⟩
end
end Go.Proofs.YthhpbhpfagoapabGreat
