import Derived.Test.YthhpbhpfagoapaaGreatGAC
namespace Go.Proofs.YthhpbhpfagoapaaGreat
set_option linter.all false
set_option maxRecDepth 100000
set_option maxHeartbeats 16000000
open Go.RowKit
theorem tk{P:Program}{i:Region.Mode}{a:Array Oper}{e:Exit->Act->W->Prop}{f:W->Prop}(g:Nat)(v:Value){j:Oper}{l:Nat}{h:Array Bool}{d:Act}{b:W}
  (k:wpAnyH P i a e f l (h.setIfInBounds g true) (d.put j.dst v) b)(q:a[g]?=some j:=by rfl)(s:Region.noSelect a=true:=by kernel_rfl)(p:Region.free i a h g=true:=by kernel_rfl)(r:(Region.ready i a h).contains g=true:=by kernel_rfl)
  (m:∀c d b,e (.panic c) (d.put j.dst v) b->e (.panic c) d b:=by exact fun _ _ _ k=>k)(t:YieldsIf P a f j v d:=by exact fA ⟨by kernel_rfl,fun b o=>by(try dsimp only at o);go_simp⟩)(n:f b:=by assumption):wpAnyH P i a e f (l+1) h d b :=
 kO q s p r m t n k
theorem tu{P:Program}{i:Region.Mode}{a:Array Oper}{e:Exit->Act->W->Prop}{f:W->Prop}(g:Nat){j:Oper}{l:Nat}{h:Array Bool}{b:Act}{d:W}
  (k:wpAnyH P i a e f l (h.setIfInBounds g true) (b.put j.dst undef) d)(p:a[g]?=some j:=by rfl)(r:Region.noSelect a=true:=by kernel_rfl)(o:Region.free i a h g=true:=by kernel_rfl)(q:(Region.ready i a h).contains g=true:=by kernel_rfl)
  (m:∀c b d,e (.panic c) (b.put j.dst undef) d->e (.panic c) b d:=by exact fun _ _ _ k=>k)(s:YieldsIf P a f j undef b:=by exact Or.inr ⟨by kernel_rfl,rfl⟩)(n:f d:=by assumption):wpAnyH P i a e f (l+1) h b d :=
 kO p r o q m s n k
theorem rd{P:Program}{i:Region.Mode}{c:Array Oper}{f:Exit->Act->W->Prop}{d:W->Prop}(g:Nat){o:Oper}{j:Nat}{h:Array Bool}{b:Act}{a:W}
  (k:∀e:Act->W->Prop,Shut (∀b a,d a->(d a->wpAnyH P i c f d j (h.setIfInBounds g true) b a)->e b a)->if Region.wanted o (yielded c b.tmps)=true then Oper.wp P o b a e f else e (b.put o.dst undef) a)
  (l:c[g]?=some o:=by rfl)(m:Region.ready i c h=[g]:=by kernel_rfl):wpAnyH P i c f d (j+1) h b a :=
 kB m (by simp) (km l k kz)
abbrev jA:=@cK
abbrev jB:=@bL
abbrev jC:=@dM
abbrev jD:=@List.setIfInBounds_toArray
abbrev jE:=@List.set_cons_zero
abbrev jF:=@fH
end Go.Proofs.YthhpbhpfagoapaaGreat
