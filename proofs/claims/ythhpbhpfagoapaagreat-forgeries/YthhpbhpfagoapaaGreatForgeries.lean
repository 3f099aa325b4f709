/-
  Proved: the law Forgeries, for every input: whatever jobs, ring, bytes and prefix are handed over, the call returns true, and each argument reads behind the call as it read before. No conditions.
-/
import Derived.Test.YthhpbhpfagoapaaGreatRows
import Derived.Test.YthhpbhpfagoapaaGreatGBQ
namespace Go.Proofs.YthhpbhpfagoapaaGreat
namespace forgeries
open Go.ChangeShapes Go.WideShapes Go.ChangeAt Go.RowKit
open Go.ChangeMaps (open_string shut_string)
set_option linter.unusedVariables false
set_option maxRecDepth 100000
theorem own:ownKnob Tryz.prog.godebug=none:=by kernel_rfl
theorem Bk:laidOutB Tryz.prog=true:=by kernel_rfl
set_option maxRecDepth 100000 in
theorem jeg(os:Os)(ce:os.Started)(U:Type)(e:TypeId×Value->U) :
  ReturnsInHanded {} Tryz.checked os 5 .any (Rows.forgeriesSpec.pre6 e Tryz.prog Tryz.f5 Rows.forgeriesRow.domain false) (Rows.forgeriesSpec.post e Tryz.prog Tryz.f5 false true false false):=by
 refine returnsInHanded_of_change_sized (C:=Tryz.checked) own ce (by kernel_rfl) Tryz.func5
  (ChangeSpec.witness6 (enc:=e) (C:=Tryz.checked) false ⟨#[],#[.slice none 0 0,.slice none 0 0,.string ByteArray.empty,.string ByteArray.empty],[]⟩ 8 (by kernel_rfl) (by kernel_rfl) (by kernel_rfl) (by kernel_rfl)) ?_
 intro b ci r ds gs co D x dW z _;have c:=D;have y:=z;have ac:=x;obtain⟨p,q,w,hV,rfl,d4,d6⟩:=x;have v:=w;rw[Tryz.params5]at v c y;obtain⟨K,d7,V,cs,p0,q0,dv,rfl,rfl,s,r0⟩:=fW v;obtain⟨L,d8,X,da,p1,q1,rfl,rfl,rfl,u,r1⟩:=fW r0;obtain⟨M,ea,d2,dd,p2,q2,rfl,rfl,rfl,h2,r2⟩:=fW r1;obtain⟨O,ec,d3,dl,p3,q3,rfl,rfl,rfl,h3,r3⟩:=fW r2;obtain⟨rfl,rfl,rfl⟩:=trodAll_nil r3;obtain rfl:r=#[K,L,M,O]:=by cases r;simp_all
 obtain⟨rfl,rfl⟩:=trodVars_none hV;obtain⟨a0,G,g,rfl⟩:=okWide_slice Tryz.underlying36 (c 0 36 K rfl rfl);obtain⟨a1,H,h,rfl⟩:=okWide_slice Tryz.underlying27 (c 1 27 L rfl rfl);obtain⟨⟨⟨a2⟩⟩,rfl,rfl,rfl,P⟩:=open_string Tryz.underlying9 (c 2 9 M rfl rfl) h2;obtain⟨⟨⟨a3⟩⟩,rfl,rfl,rfl,T⟩:=open_string Tryz.underlying9 (c 3 9 O rfl rfl) h3;have E:=s;have F:=u;have bX:∀o∈p0,o.block<b.heap.size:=by obtain⟨m,k⟩:=E;exact DataW.trod_lt m _ _ _ k
 have b4:∀o∈p1,o.block<b.heap.size:=by obtain⟨m,k⟩:=F;exact DataW.trod_lt m _ _ _ k
 have B:=cY.1 y;obtain⟨js,be,_,_,hj,am,ap⟩:∃a:List V6,a.length=G/\G<=g/\g<=maxLen/\P0 b a0 a/\a.length*80<=140737488351232/\∀j∈a,j.table.length*56<=140737488351232:=by
  obtain⟨Y,i⟩:=s;exact FE i (fun n l=>by simpa using B n (DataW.weights_mem_each (j:=0) (t:=36) (d:=V) rfl rfl _ l))
 obtain⟨cd,bi,d5,dT,hr,bv⟩:∃a:List W9,a.length=H/\H<=h/\h<=maxLen/\U2 b a1 a/\a.length*24<=140737488351232:=by
  obtain⟨Y,i⟩:=u;exact Bw i (fun n l=>by simpa using B n (DataW.weights_mem_each (j:=1) (t:=27) (d:=X) rfl rfl _ l))
 clear w D z;subst be bi;refine(Eu a0 g js a1 h cd a2 a3 b am ap hj hr bv (by omega) (by simpa[ByteArray.size]using P) (by simpa[ByteArray.size]using T)).mono fun dr W' ⟨he,f⟩=>?_;subst he;exact⟨_,rfl,_,_,_,[],_,[],ac,trodAll_mk1 (shut_bool Tryz.underlying4 _),(trodAll_cons_mk (Below.trod Bk (by kernel_rfl) (eZ (by kernel_rfl)) E f bX) (trodAll_cons_mk (Below.trod Bk (by kernel_rfl) (eZ (by kernel_rfl)) F f b4) (trodAll_cons_mk (shut_string Tryz.underlying9 P) (trodAll_cons_mk (shut_string Tryz.underlying9 T) trodAll_mk0)))),rfl,f.frame _,fun Z=>by cases Z⟩
theorem zar:Rows.forgeriesRow.holds Tryz.pinned (OpenSpec.ofChange Rows.forgeriesSpec) :=
 OpenClaim.holds_of_wide 5 Tryz.f5 rfl rfl rfl rfl rfl rfl rfl ⟨rfl,rfl,rfl,rfl,rfl⟩ rfl rfl rfl rfl rfl (by kernel_rfl) Tryz.func5 (by kernel_rfl)
  (eZ (by kernel_rfl)) (by unfold Func.isWrapper;first|(rw[aQ (by decide +kernel)];kernel_rfl)|(rw[aL (by decide +kernel)];exact⟨rfl,rfl⟩))
  (fun os c a b _=>jeg os c a b)
end forgeries
theorem forgeries_holds:Rows.ForgeriesSaid:=forgeries.zar
#print axioms forgeries_holds
end Go.Proofs.YthhpbhpfagoapaaGreat
