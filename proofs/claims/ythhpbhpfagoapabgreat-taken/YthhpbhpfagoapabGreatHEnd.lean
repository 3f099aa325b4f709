import Derived.Test.YthhpbhpfagoapabGreatJAH
import Derived.Test.YthhpbhpfagoapabGreatJAA
namespace Go.Proofs.YthhpbhpfagoapabGreat
set_option linter.unusedVariables false
set_option linter.unusedSimpArgs false
set_option maxRecDepth 100000
set_option maxHeartbeats 16000000
open Go.RowKit
theorem SN {x y:SealB} (h:sealV x=sealV y):x=y:=by
 obtain ⟨x1,x2,x3,x4⟩:=x
 obtain ⟨y1,y2,y3,y4⟩:=y
 simp only [Value.agg.injEq] at h
 simp at h
 obtain ⟨h1,h2,h3,h4⟩:=h
 subst h1 h2 h3 h4
 rfl
theorem Rk {x y:SealB} {a b:Int} (h:Ending.returned (.tuple #[sealV x,.int .i64 a])=.returned (.tuple #[sealV y,.int .i64 b])):x=y∧a=b:=by
 simp only [Ending.returned.injEq,Value.tuple.injEq] at h
 have h2:sealV x=sealV y∧a=b:=by simpa using h
 exact ⟨SN h2.1,h2.2⟩
theorem RW {js:List JobB} {r:List KeyB} {file pre:List UInt8} {J:JobB} {F:Nat→FoundB} {n:Nat} {er fe:Int} {x:SealB} (hg:∀ j ∈ js,GoodJ j r) (hd:QV js) (h8:js.length≤8) (hx:ForgedX js r file pre (.returned (.tuple #[sealV x,.int .i64 fe])))
  (hread:(er≠0∧xg file pre r false=(er,none))∨(er=0∧∃ S,xg file pre r false=(0,some S)∧n=S.cols.length∧F=qi pre r S)) (hw:∀ S,xg file pre r false=(0,some S)→(Jo (qi pre r S) S.cols.length pre js ↔ (J ∈ js∧J.pre=pre)∧zX (qi pre r S) S.cols.length J.table=true)) :
  (er≠0→fe=11∧x=⟨[],[],[],[]⟩)∧(er=0→xW F n J.table=false→(J ∈ js∧J.pre=pre)→fe=11∧x=⟨[],[],[],[]⟩)∧(er=0→(xW F n J.table=true∨¬ (J ∈ js∧J.pre=pre))→fe=0∧SeenOk file x∧x ∉ xf js r∧file.length≤65000):=by
 have hok:XM js r:=⟨h8,hd,fun j hj=>GM (hg j hj)⟩
 rcases hx with ⟨h1,_⟩|⟨_,hx⟩
 ·exact absurd hok h1
 rcases hread with ⟨hne,hs⟩|⟨h0,S,hs,rfl,rfl⟩
 ·refine ⟨fun _=>?_,fun h=>absurd h hne,fun h=>absurd h hne⟩
  rcases hx with ⟨_,he⟩|⟨S,f,hs',_⟩
  ·obtain ⟨a,b⟩:=Rk he;exact ⟨b,a⟩
  ·rw [hs] at hs';simp at hs'
 ·have hdt:=IX (T:=J.table) (MG hs)
  have hws:=hw S hs
  rcases hx with ⟨⟨err,hs',_⟩,_⟩|⟨S',f,hs',hf,hx⟩
  ·rw [hs] at hs';simp at hs'
  rw [hs] at hs'
  simp only [Prod.mk.injEq,Option.some.injEq,true_and] at hs'
  subst hs'
  refine ⟨fun h=>absurd h0 h,fun _ hdf hJ=>?_,fun _ hdf=>?_⟩
  ·have ht:zX (qi pre r S) S.cols.length J.table=true:=by rw [hdt] at hdf;simpa using hdf
   rcases hx with ⟨_,he⟩|⟨hnw,_⟩
   ·obtain ⟨a,b⟩:=Rk he;exact ⟨b,a⟩
   ·exact absurd (hws.2 ⟨hJ,ht⟩) hnw
  ·have hnw:¬ Jo (qi pre r S) S.cols.length pre js:=by
    intro hwr
    obtain ⟨hJ,ht⟩:=hws.1 hwr
    rcases hdf with hdf|hdf
    ·rw [hdt,ht] at hdf;cases hdf
    ·exact hdf hJ
   obtain ⟨y,hy,hso,hnl,_⟩:=IL hg hd hs hf hnw
   rcases hx with ⟨hwr,_⟩|⟨_,he⟩
   ·exact absurd hwr hnw
   ·rw [hy] at he
    obtain ⟨a,b⟩:=Rk he
    subst a
    have hok2:=Kj hf
    exact ⟨b,hso,hnl,by rw [← hok2.2];exact hok2.1.short⟩
theorem GN {js:List JobB} {pre:List UInt8} {J:JobB} {F:Nat→FoundB} {n:Nat} (hd:QV js) (hJ:J ∈ js) (hp:J.pre=pre):Jo F n pre js ↔ (J ∈ js∧J.pre=pre)∧zX F n J.table=true:=by
 constructor
 ·rintro ⟨k,hk,h1,_,h3⟩
  have:js[k]=J:=RF hd _ (List.getElem_mem hk) _ hJ (by rw [h1,hp])
  rw [← this]
  exact ⟨⟨List.getElem_mem hk,h1⟩,h3⟩
 ·rintro ⟨_,ht⟩
  obtain ⟨k,hk,rfl⟩:=List.mem_iff_getElem.1 hJ
  exact ⟨k,hk,hp,fun j hj=>by rw [← hp];exact hd k hk j hj,ht⟩
theorem IV {pre:List UInt8} {J:JobB} {F:Nat→FoundB} {n:Nat}:Jo F n pre [] ↔ (J ∈ ([]:List JobB)∧J.pre=pre)∧zX F n J.table=true:=by
 constructor
 ·rintro ⟨k,hk,_⟩;simp at hk
 ·rintro ⟨⟨h,_⟩,_⟩;simp at h
end Go.Proofs.YthhpbhpfagoapabGreat
