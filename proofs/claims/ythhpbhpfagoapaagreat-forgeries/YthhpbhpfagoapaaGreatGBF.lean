import Derived.Test.YthhpbhpfagoapaaGreatGBE
namespace Go.Proofs.YthhpbhpfagoapaaGreat
set_option linter.all false
set_option maxRecDepth 100000
set_option maxHeartbeats 16000000
open Go.RowKit
def QO(b:Nat->U1)(c:List W8):Nat->Bool
 | 0=>true
 | a+1=>QO b c a&&(decide ((b a).name=(ji c a).name)&&decide ((b a).kind=(ji c a).kind)&&decide ((b a).key=(ji c a).key))
def YU(b:Nat->U1)(n:Nat)(a:List W8):Bool:=decide (n=a.length)&&QO b a n
variable{m n:Nat}
def Bu{F:Nat->U1}{T:List W8}(e:m<n)(c:QO F T (m+1)=false):QO F T n=false:=by
 induction n with
 | zero=>omega
 | succ n d=>
  by_cases b:m=n
  ·subst b;exact c
  ·simp only[QO,d (by omega),eY]
def PW{b:Nat->U1}{c:List W8}:∀{n:Nat},QO b c n=true↔∀a,a<n->(b a).name=(ji c a).name/\(b a).kind=(ji c a).kind/\(b a).key=(ji c a).key:=by
 intro n
 induction n with
 | zero=>exact⟨fun _ a e=>by omega,fun _=>rfl⟩
 | succ n k=>
  simp only[QO,aK,aN];rw[k];refine⟨fun⟨g,⟨h,i⟩,j⟩ a e=>?_,fun d=>⟨fun a e=>d a (by omega),⟨(d n (by omega)).1,(d n (by omega)).2.1⟩,(d n (by omega)).2.2⟩⟩;by_cases f:a=n
  ·subst f;exact⟨h,i,j⟩
  ·exact g a (by omega)
end Go.Proofs.YthhpbhpfagoapaaGreat
