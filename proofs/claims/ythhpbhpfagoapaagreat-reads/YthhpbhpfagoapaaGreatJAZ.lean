import Derived.Test.YthhpbhpfagoapaaGreatJAA
import Derived.Test.YthhpbhpfagoapaaGreatJAW
import Derived.Deep.RegionWith
namespace Go.Proofs.YthhpbhpfagoapaaGreat
set_option linter.unusedVariables false
set_option linter.unusedSimpArgs false
set_option maxRecDepth 100000
set_option maxHeartbeats 16000000
open Go.RowKit
section
abbrev planV (p:PlanB):Value:=.agg #[.int .i64 p.group,.int .i64 p.page,.int .i64 p.foot,.bool p.told]
theorem Ag (p:PlanB) (w:World) :
  Calls Tryz.prog 79 #[planV p] w fun e w'=>e=.returned (.bool (qS p))∧Below w.heap.size w w':=by
 have HP:Hid (qS p=(decide (1≤p.group) && decide (p.group≤60) && decide (1≤p.page) && decide (p.page≤60) && decide (1≤p.foot) && decide (p.foot≤9))):=by
  simp only [Hid,qS,Bool.and_assoc]
 obtain ⟨a,b,c,d⟩:=p
 simp only at HP
 go_enter Tryz.func79,Tryz.ntmps79
 go_wp2
 all_goals
  go_ret
  exact ⟨jP (by rw [HP.out];simp;omega),(Below.refl _ _).alloc (ae _) _⟩
/- Rings. -/
theorem VO {r:List KeyB} {n:Nat} (h:Xt r n=true) (hn:n≤r.length):∀ k (hk:k < n),Xs (r[k]'(by omega))=true∧jy (r.take k) (r[k]'(by omega)).number=false:=by
 induction n with
 | zero=>intro k hk;omega
 | succ n ih =>
  intro k hk
  simp only [Xt,au] at h
  rcases cR k n with hkn|hkn
  ·exact ih h.1 (by omega) k hkn
  ·have:k=n:=by omega
   subst this
   have h2:=h.2
   rw [ay (by omega)] at h2
   simpa using h2
theorem Yc {r:List KeyB} {k:Nat} (hk:k < r.length) (h:(Xs r[k] && !jy (r.take k) (r[k]).number)=false):xY r=false:=by
 cases hh:xY r with
 | false=>rfl
 | true =>
  obtain ⟨h1,h2⟩:=VO hh (ae _) k hk
  rw [h1,h2] at h
  cases h
theorem GC {r:List KeyB} {k:Nat} (hk:k < r.length) (h:Xt r k=true):Xt r (k+1)=(Xs r[k] && !jy (r.take k) (r[k]).number):=by
 simp only [Xt,h,Bool.true_and]
 rw [ay hk]
theorem Zs {r:List KeyB} {k m:Nat} (hm:m < r.length) (hk:m < k) (n:Int):jy ((r.take k).take (m+1)) n=(jy ((r.take k).take m) n || decide ((r[m]).number=n)):=by
 have hl:m < (r.take k).length:=by rw [aq];omega
 rw [ax hl]
 simp [jy]
theorem PO {c:KeyB} (h:Xs c=false):c.number < 1∨(¬ c.number < 1∧(9 < c.number∨(¬ 9 < c.number∧c.secret.length≠8))):=by
 simp only [Xs,cW,cC] at h
 omega
theorem Gi {c:KeyB} (h:Xs c=true):1≤c.number∧c.number≤9∧c.secret.length=8:=by
 simp only [Xs,au,az] at h
 exact ⟨h.1.1,h.1.2,h.2⟩
theorem EW (a:Option Addr) (cap:Nat) (r:List KeyB) (w:World) (hm:r.length≤maxLen) (hl:LiesK w a r) :
  Calls Tryz.prog 80 #[.slice a r.length cap] w fun e w'=>e=.returned (.bool (xY r))∧Below w.heap.size w w':=by
 have Hl:=hid hl
 clear hl
 unfold maxLen at hm
 go_enter Tryz.func80,Tryz.ntmps80
 go_wp2
 go_loopw [3] (fun i wr=>∃ k:Nat,k≤r.length∧i=.int .i64 k∧Xt r k=true∧Below w.heap.size w wr) (fun i _=>r.length - (intOf i).toNat)
 case atStart=>exact ⟨0,ah _,rfl,rfl,Below.refl _ _⟩
 case round =>
  obtain ⟨k,hkl,rfl,hall,hB⟩:=hrel
  have Hall:=hid hall
  clear hall
  by_cases hlt:k < r.length
  ·obtain ⟨b,off,rfl,hbw,hcell⟩:=(Hl.out.later hB).at_ (ai (by omega))
   obtain ⟨g1,g2⟩:=hcell k hlt
   clear hcell
   obtain ⟨ok1,ok2⟩:=Hl.out.ok r[k] (al hlt)
   unfold maxLen at ok1
   have HT:=hid (GC hlt Hall.out)
   have HN:=hid (Yc (r:=r) hlt)
   have HF:=hid (PO (c:=r[k]))
   have hki:(k:Int) < (r.length:Int):=by omega
   cases hh:Xs r[k] with
   | false =>
    have Hh:=hid hh
    have hf:=HF.out hh
    clear hh
    rcases hf with h1|⟨h1,h2|⟨h2,h3⟩⟩
    ·go_wp2
     go_ret
     exact ⟨jP (HN.out (by rw [Hh.out];rfl)).symm,hB⟩
    ·go_wp2
     go_ret
     exact ⟨jP (HN.out (by rw [Hh.out];rfl)).symm,hB⟩
    ·have h3i:(((r[k]).secret.length:Int) != 8)=true:=by simp;omega
     clear h3
     go_wp2
     go_ret
     exact ⟨jP (HN.out (by rw [Hh.out];rfl)).symm,hB⟩
   | true =>
    have Hh:=hid hh
    obtain ⟨hp1,hp2,hp3⟩:=Gi hh
    have q1:¬ (r[k]).number < 1:=by omega
    have q2:¬ 9 < (r[k]).number:=by omega
    have q3:(((r[k]).secret.length:Int) != 8)=false:=by simp;omega
    clear hh hp1 hp2 hp3 HF
    go_wp2
    go_loopw [4] (fun i wr=>∃ m:Nat,m≤k∧i=.int .i64 m∧jy ((r.take k).take m) (r[k]).number=false∧Below w.heap.size w wr) (fun i _=>k - (intOf i).toNat)
    case atStart=>exact ⟨0,ah _,rfl,rfl,hB⟩
    case round =>
     clear hB g1 g2 q1 q2 q3
     obtain ⟨m,hmk,rfl,hno,hB⟩:=hrel
     have Hno:=hid hno
     clear hno
     by_cases hlm:m < k
     ·have hmi:(m:Int) < (k:Int):=by omega
      obtain ⟨b,off,hab,hbw,hcell⟩:=(Hl.out.later hB).at_ (ai (by omega))
      simp only [aP,cy,cG] at hab
      obtain ⟨rfl,rfl⟩:=hab
      obtain ⟨g1,_⟩:=hcell k hlt
      obtain ⟨f1,_⟩:=hcell m (by omega)
      have hmt:(m:Int) < (r.length:Int):=by omega
      have HS:=hid (Zs (r:=r) (k:=k) (m:=m) (by omega) hlm (r[k]).number)
      clear hcell
      by_cases he:(r[m]'(by omega)).number=(r[k]).number
      ·have He:=hid he
       clear he
       rw [He.out] at f1
       have HH:Hid (jy (r.take k) (r[k]).number=true):=by
        simp only [Hid,jy,cO]
        exact ⟨(r[m]'(by omega)),by rw [List.mem_take_iff_getElem];exact ⟨m,by omega,rfl⟩,by simp [He.out]⟩
       go_wp2_with fail
       go_quiet (fail)
       go_wp2
       go_ret
       exact ⟨jP (HN.out (by rw [HH.out];simp)).symm,below_drewN hB nq⟩
      ·have hne:((r[m]'(by omega)).number == (r[k]).number)=false:=by simpa using he
       have He:=hid he
       clear he
       go_wp2_with fail
       go_quiet (fail)
       go_wp2_with fail
       go_roundw
       case rel=>exact ⟨m+1,by omega,by go_num,by rw [HS.out,Hno.out];simp [He.out],below_drewN hB nq⟩
       case measure=>simp [intOf];omega
     ·have hmk2:m=k:=by omega
      subst hmk2
      have HX:Hid (Xt r (m+1)=true):=by
       show Xt r (m+1)=true
       rw [HT.out,Hh.out]
       have:=Hno.out
       rw [List.take_take,Nat.min_self] at this
       rw [this];rfl
      go_wp2
      go_roundw
      case rel=>exact ⟨m+1,by omega,by go_num,HX.out,hB⟩
      case measure=>simp [intOf];omega
  ·have hke:k=r.length:=by omega
   subst hke
   go_wp2
   go_ret
   exact ⟨jP Hall.out.symm,hB⟩
theorem Mp {r:List KeyB} {k:Nat} {n:Int} (hk:k < r.length) (hno:jy (r.take k) n=false) (he:(r[k]).number=n):Gm r n=some (r[k]).secret:=by
 have e:r=r.take k++r[k] :: r.drop (k+1):=by rw [← aN hk,aD]
 have h0:(r.take k).find? (fun x=>decide (x.number=n))=none:=by
  rw [List.find?_eq_none]
  intro x hx
  simp only [jy,List.any_eq_false] at hno
  exact hno x hx
 have h1:r.find? (fun x=>decide (x.number=n))=some r[k]:=by
  have h2:(r.take k++r[k] :: r.drop (k+1)).find? (fun x=>decide (x.number=n))=some r[k]:=by
   rw [List.find?_append,h0,List.find?_cons_of_pos (by simp [he])]
   rfl
  rwa [← e] at h2
 rw [Gm,h1]
 rfl
theorem Gb {r:List KeyB} {n:Int} (hno:jy r n=false):Gm r n=none:=by
 have h0:r.find? (fun x=>decide (x.number=n))=none:=by
  rw [List.find?_eq_none]
  intro x hx
  simp only [jy,List.any_eq_false] at hno
  exact hno x hx
 simp [Gm,h0]
theorem ZD (a:Option Addr) (cap:Nat) (r:List KeyB) (n:Int) (w:World) (hm:r.length≤maxLen) (hl:LiesK w a r) :
  Calls Tryz.prog 81 #[.slice a r.length cap,.int .i64 n] w fun e w'=>e=.returned (strB (jl r n))∧Below w.heap.size w w':=by
 have Hl:=hid hl
 clear hl
 unfold maxLen at hm
 go_enter Tryz.func81,Tryz.ntmps81
 go_wp2
 go_loopw [5] (fun i wr=>∃ k:Nat,k≤r.length∧i=.int .i64 k∧jy (r.take k) n=false∧Below w.heap.size w wr) (fun i _=>r.length - (intOf i).toNat)
 case atStart=>exact ⟨0,ah _,rfl,rfl,Below.refl _ _⟩
 case round =>
  obtain ⟨k,hkl,rfl,hno,hB⟩:=hrel
  have Hno:=hid hno
  clear hno
  by_cases hlt:k < r.length
  ·obtain ⟨b,off,rfl,hbw,hcell⟩:=(Hl.out.later hB).at_ (ai (by omega))
   obtain ⟨g1,g2⟩:=hcell k hlt
   clear hcell
   have hki:(k:Int) < (r.length:Int):=by omega
   by_cases he:(r[k]).number=n
   ·have HF:=hid (Mp hlt Hno.out he)
    rw [he] at g1
    clear he
    go_wp2
    go_ret
    exact ⟨qC (by rw [jl,HF.out];rfl),hB⟩
   ·have hne:((r[k]).number == n)=false:=by simpa using he
    have He:=hid he
    have HS:=hid (Zs (r:=r) (k:=r.length) (m:=k) hlt hlt n)
    rw [aF] at HS
    clear he
    go_wp2
    go_roundw
    case rel=>exact ⟨k+1,by omega,by go_num,by rw [HS.out,Hno.out];simp [He.out],hB⟩
    case measure=>simp [intOf];omega
  ·have HF:Hid (Gm r n=none):=Gb (by have:=Hno.out;rw [aC (by omega)] at this;exact this)
   go_wp2
   go_ret
   exact ⟨qC (by rw [jl,HF.out];rfl),hB⟩
end
section
structure LiesJ (w:World) (a:Option Addr) (cap:Nat) (j:JobB):Prop where
 table:LiesT w a j.table
 len:j.table.length≤maxLen
 cap_:j.table.length≤cap
 pre:j.pre.length≤maxLen
 draw:-9223372036854775808≤j.draw∧j.draw≤9223372036854775807
 group:-9223372036854775808≤j.plan.group∧j.plan.group≤9223372036854775807
 page:-9223372036854775808≤j.plan.page∧j.plan.page≤9223372036854775807
 foot:-9223372036854775808≤j.plan.foot∧j.plan.foot≤9223372036854775807
theorem LiesJ.later {w w':World} {a:Option Addr} {cap:Nat} {j:JobB} (h:LiesJ w a cap j) (hb:Below w.heap.size w w'):LiesJ w' a cap j :=
 ⟨h.table.later hb,h.len,h.cap_,h.pre,h.draw,h.group,h.page,h.foot⟩
theorem Xn {r:List KeyB} {n:Int} (hr:xY r=true):(jl r n=[]) ↔ jy r n=false:=by
 constructor
 ·intro h
  cases hh:jy r n with
  | false=>rfl
  | true =>
   simp only [jy,cO] at hh
   cases hf:r.find? (fun k=>decide (k.number=n)) with
   | none =>
    rw [List.find?_eq_none] at hf
    obtain ⟨x,hx,hx2⟩:=hh
    exact absurd hx2 (hf x hx)
   | some x =>
    have hm:=List.mem_of_find?_eq_some hf
    obtain ⟨k,hk,rfl⟩:=cz.1 hm
    have:=(Gi (VO hr (ae _) k hk).1).2.2
    simp only [jl,Gm,hf,Option.map_some,Option.getD_some] at h
    rw [h] at this
    simp at this
 ·intro h
  rw [jl,Gb h];rfl
theorem Qq {r:List KeyB} {n:Int} (hr:xY r=true) (hn:jy r n=true):(jl r n).length=8:=by
 simp only [jy,cO] at hn
 cases hf:r.find? (fun k=>decide (k.number=n)) with
 | none =>
  rw [List.find?_eq_none] at hf
  obtain ⟨x,hx,hx2⟩:=hn
  exact absurd hx2 (hf x hx)
 | some x =>
  have hm:=List.mem_of_find?_eq_some hf
  obtain ⟨k,hk,rfl⟩:=cz.1 hm
  have:=(Gi (VO hr (ae _) k hk).1).2.2
  simp only [jl,Gm,hf,Option.map_some,Option.getD_some]
  exact this
def BoxJ (w:World) (p:Nat) (v:Value) (j:JobB):Prop :=
 w.cell? ⟨p,0,none⟩=some v∧w.cell? ⟨p,1,none⟩=some (.int .i64 j.plan.group)∧w.cell? ⟨p,2,none⟩=some (.int .i64 j.plan.page)∧w.cell? ⟨p,3,none⟩=some (.int .i64 j.plan.foot)∧w.cell? ⟨p,4,none⟩=some (.bool j.plan.told)∧w.cell? ⟨p,5,none⟩=some (strB j.pre)∧w.cell? ⟨p,6,none⟩=some (.int .i64 j.draw)
theorem BoxJ.later {w w':World} {p:Nat} {v:Value} {j:JobB} (h:BoxJ w p v j) (hp:p < w.heap.size) (hb:Below w.heap.size w w'):BoxJ w' p v j:=by
 obtain ⟨h0,h1,h2,h3,h4,h5,h6⟩:=h
 exact ⟨(hb.cell (p:=⟨p,_,none⟩) hp).trans h0,(hb.cell (p:=⟨p,_,none⟩) hp).trans h1,(hb.cell (p:=⟨p,_,none⟩) hp).trans h2,(hb.cell (p:=⟨p,_,none⟩) hp).trans h3,(hb.cell (p:=⟨p,_,none⟩) hp).trans h4,(hb.cell (p:=⟨p,_,none⟩) hp).trans h5,(hb.cell (p:=⟨p,_,none⟩) hp).trans h6⟩
theorem Lu {a b:Bool} (h:(a=true) ↔ (b=true)):a=b:=by cases a<;>cases b<;>simp_all
end
end Go.Proofs.YthhpbhpfagoapaaGreat
