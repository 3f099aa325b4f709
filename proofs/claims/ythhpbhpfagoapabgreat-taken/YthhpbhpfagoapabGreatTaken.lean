/-
  Proved: the law Taken,for every input: whatever two lists of raw numbers,ring and choice are handed over,the call returns true,and each argument reads behind the call as it read before. No conditions.
-/
import Derived.Test.YthhpbhpfagoapabGreatRows
import Derived.Test.YthhpbhpfagoapabGreatJAI
import Derived.Test.YthhpbhpfagoapabGreatJAK
import Derived.WalkKit
import Derived.ProofKit
import Derived.OpenShut
import Derived.ShutString
import Derived.Deep.Slices
namespace Go.Proofs.YthhpbhpfagoapabGreat
namespace taken
open Go.ChangeShapes Go.WideShapes Go.ChangeAt Go.RowKit Go.Deep
open Go.ChangeMaps (open_string shut_string)
set_option linter.unusedVariables false
set_option maxRecDepth 100000
theorem own:ownKnob Tryz.prog.godebug=none:=by kernel_rfl
theorem UC:laidOutB Tryz.prog=true:=by kernel_rfl
theorem Gm:Tryz.prog.cellsOf 3=1:=by kernel_rfl
theorem Rh:Tryz.prog.bytesOf 3=8:=by kernel_rfl
theorem XS {H:Type} {enc:TypeId × Value→H} {W:World} {fuel len cap:Nat} {a:Option Addr} {x:DataW H × List MemPlace}
  (h:DataW.trod enc Tryz.prog W 0 (fun _=>true) true fuel 22 [.slice a len cap]=some x) (hw:∀ n ∈ x.1.weights Tryz.prog 22,n≤reachBytes) :
  ∃ raw:List Int,raw.length=len∧LiesI W a raw:=by
 rcases open_ints Tryz.underlying22 Tryz.underlying3 Gm h with ⟨hcs,hx⟩|⟨a',len',cap',zs,hcs,_,hl,hm,hz,hx,hcell,hwz⟩
 ·simp at hcs
  obtain ⟨rfl,rfl,rfl⟩:=hcs
  exact ⟨[],rfl,by simp,by simp,fun h=>absurd rfl h⟩
 ·simp at hcs
  obtain ⟨rfl,rfl,rfl⟩:=hcs
  simp only [if_true] at hz
  have hsz:len≤140737488351232:=by
   have h1:∃ es sp,x.1=.slice es sp∧es.length+sp.length=cap:=⟨_,_,by rw [hx],by simp [ChangeShapes.lits];omega⟩
   obtain ⟨es,sp,hd,hc⟩:=h1
   have:=hw ((es.length+sp.length)*Tryz.prog.bytesOf 3) (by rw [hd];simp only [DataW.weights,Tryz.underlying22];exact List.mem_cons_self ..)
   rw [Rh,hc] at this
   simp only [reachBytes] at this
   omega
  refine ⟨zs.take len,by simp;omega,fun z hz2=>VT (hwz z (List.mem_of_mem_take hz2)),by simp;omega,fun hne=>?_⟩
  have hp:0 < len:=by
   rcases Nat.eq_zero_or_pos len with h0|h0
   ·subst h0;simp at hne
   ·exact h0
  obtain ⟨b,off,spot⟩:=a'
  have c0:=hcell 0 (by omega)
  have hspot:spot=none:=by simpa [Addr.add] using World.cell?_spot c0
  subst hspot
  refine ⟨b,off,rfl,?_,fun j hj=>?_⟩
  ·rw [add_plain] at c0
   exact Yh c0
  ·have hj':j < len:=by simp at hj;omega
   have cj:=hcell j (by omega)
   rw [add_plain] at cj
   rw [cj,List.getElem_take,List.getD,List.getElem?_eq_getElem (by omega)]
   rfl
set_option maxRecDepth 100000 in
theorem CE (os:Os) (started:os.Started) (H:Type) (enc:TypeId × Value→H) :
  ReturnsInHanded {} Tryz.checked os 5 .any (Rows.takenSpec.pre6 enc Tryz.prog Tryz.f5 Rows.takenRow.domain false) (Rows.takenSpec.post enc Tryz.prog Tryz.f5 false true false false):=by
 refine returnsInHanded_of_change_sized (C:=Tryz.checked) own started (by kernel_rfl) Tryz.func5
  (ChangeSpec.witness6 (enc:=enc) (C:=Tryz.checked) false ⟨#[],#[.slice none 0 0,.slice none 0 0,.int .i64 0,.bool false],[]⟩ 8 (by kernel_rfl) (by kernel_rfl) (by kernel_rfl) (by kernel_rfl)) ?_
 intro W base args ds gs before hval0 hW hcnd hsz0 _
 have hval:∀ (j:Nat) t v,Tryz.f5.params[j]?=some t→args[j]?=some v→Value.okWide Tryz.prog W .any base t v:=hval0
 have hsz:(DataW.weightsEach Tryz.prog (Tryz.f5.params.toList++Rows.takenSpec.plain.varTypes Tryz.prog) (ds++gs)).all (·≤reachBytes)=true:=hsz0
 have hW':=hW
 obtain ⟨p,q,hA0,hV,rfl,hfz,hnd⟩:=hW
 have hA:DataW.TrodAll enc Tryz.prog W 0 (fun _=>true) true Tryz.f5.params.toList args.toList ds p:=hA0
 rw [Tryz.params5] at hA hval hsz
 obtain ⟨v0,vs0,d0,ds0,p0,q0,hargs,rfl,rfl,h0,r0⟩:=trodAll_cons hA
 obtain ⟨v1,vs1,d1,ds1,p1,q1,rfl,rfl,rfl,h1,r1⟩:=trodAll_cons r0
 obtain ⟨v2,vs2,d2,ds2,p2,q2,rfl,rfl,rfl,h2,r2⟩:=trodAll_cons r1
 obtain ⟨v3,vs3,d3,ds3,p3,q3,rfl,rfl,rfl,h3,r3⟩:=trodAll_cons r2
 obtain ⟨rfl,rfl,rfl⟩:=trodAll_nil r3
 obtain rfl:args=#[v0,v1,v2,v3]:=by cases args;simp_all
 obtain ⟨rfl,rfl⟩:=trodVars_none hV
 obtain ⟨a0,len0,cap0,rfl⟩:=okWide_slice Tryz.underlying22 (hval 0 22 v0 rfl rfl)
 obtain ⟨a1,len1,cap1,rfl⟩:=okWide_slice Tryz.underlying22 (hval 1 22 v1 rfl rfl)
 obtain ⟨a2,rfl,rfl,rfl,w2⟩:=open_int Tryz.underlying3 (hval 2 3 v2 rfl rfl) h2
 obtain ⟨a3,rfl,rfl,rfl⟩:=open_bool Tryz.underlying4 (hval 3 4 v3 rfl rfl) h3
 have k0:=h0
 have lt0:∀ x ∈ p0,x.block < W.heap.size:=by obtain ⟨m,hm⟩:=k0;exact DataW.trod_lt m _ _ _ hm
 have k1:=h1
 have lt1:∀ x ∈ p1,x.block < W.heap.size:=by obtain ⟨m,hm⟩:=k1;exact DataW.trod_lt m _ _ _ hm
 have hszm:=List.all_eq_true.1 hsz
 obtain ⟨raw0,hlen0,hl0⟩:∃ raw:List Int,raw.length=len0∧LiesI W a0 raw:=by
  obtain ⟨fuel,hf⟩:=h0
  exact XS hf (fun n hn=>by simpa using hszm n (DataW.weights_mem_each (j:=0) (t:=22) (d:=d0) rfl rfl _ hn))
 obtain ⟨raw1,hlen1,hl1⟩:∃ raw:List Int,raw.length=len1∧LiesI W a1 raw:=by
  obtain ⟨fuel,hf⟩:=h1
  exact XS hf (fun n hn=>by simpa using hszm n (DataW.weights_mem_each (j:=1) (t:=22) (d:=d1) rfl rfl _ hn))
 clear hA0 hval0 hsz0
 subst hlen0
 subst hlen1
 obtain ⟨x2,y2⟩:=VT w2
 have hwalk:=Cv a0 cap0 raw0 a1 cap1 raw1 a2 a3 W hl0 hl1 x2 y2
 refine Calls.mono hwalk fun e W' ⟨he,bel⟩=>?_
 subst he
 exact ⟨_,rfl,_,_,_,[],_,[],hW',trodAll_mk1 (shut_bool Tryz.underlying4 _),(trodAll_cons_mk (Below.trod UC (by kernel_rfl) (of_decide_eq_true (by kernel_rfl)) k0 bel lt0) (trodAll_cons_mk (Below.trod UC (by kernel_rfl) (of_decide_eq_true (by kernel_rfl)) k1 bel lt1) (trodAll_cons_mk (shut_int Tryz.underlying3 w2) (trodAll_cons_mk (shut_bool Tryz.underlying4 _) trodAll_mk0)))),rfl,bel.frame _,fun h=>by cases h⟩
theorem over:Rows.takenRow.holds Tryz.pinned (OpenSpec.ofChange Rows.takenSpec) :=
 OpenClaim.holds_of_wide 5 Tryz.f5 rfl rfl rfl rfl rfl rfl rfl ⟨rfl,rfl,rfl,rfl,rfl⟩ rfl rfl rfl rfl rfl (by kernel_rfl) Tryz.func5 (by kernel_rfl)
  (of_decide_eq_true (by kernel_rfl)) (by unfold Func.isWrapper;first|(rw [if_pos (by decide +kernel)];kernel_rfl)|(rw [if_neg (by decide +kernel)];exact ⟨rfl,rfl⟩))
  (fun os started H enc _=>CE os started H enc)
end taken
theorem taken_holds:Rows.TakenSaid:=taken.over
#print axioms taken_holds
end Go.Proofs.YthhpbhpfagoapabGreat
