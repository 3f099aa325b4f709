import Derived.Test.YthhpbhpfagoapaaGreatJAH
import Derived.Test.YthhpbhpfagoapaaGreatJAL
import Derived.Test.YthhpbhpfagoapaaGreatJAK
import Derived.Test.YthhpbhpfagoapaaGreatJAO
import Derived.OwnWalk
namespace Go.Proofs.YthhpbhpfagoapaaGreat
set_option linter.unusedVariables false
set_option linter.unusedSimpArgs false
set_option maxRecDepth 100000
set_option maxHeartbeats 16000000
section
open Go.RowKit
theorem As (s t:List UInt8) (w:World) (h1:s.length≤12) (h2:t.length≤12) :
  Calls Tryz.prog 248 #[strB s,strB t] w fun e w'=>e=.returned (.int .i64 (jF s t:Int))∧Below w.heap.size w w':=by
 have hs:=jK s
 have ht:=jK t
 have hle:=zY s t
 have HSL:=hid (Uj s t)
 have HSE:=hid (Gi s t)
 obtain ⟨hle1,hle2⟩:=hle
 generalize jF s t=sh at *
 go_enter Tryz.func248,Tryz.ntmps248
 go_wp2
 go_loopw [5] (fun i wr=>∃ k:Nat,k≤sh∧i=.int .i64 (k:Int)∧Below w.heap.size w wr) (fun i _=>sh - (intOf i).toNat)
 case atStart=>exact ⟨0,Nat.zero_le _,rfl,Below.refl _ _⟩
 case round =>
  obtain ⟨m,hm,rfl,hB⟩:=hrel
  by_cases hmr:m < sh
  ·have l1:m < s.length:=by omega
   have l2:m < t.length:=by omega
   have m1:m < (⟨s.toArray⟩:ByteArray).size:=by rw [jK];exact l1
   have m2:m < (⟨t.toArray⟩:ByteArray).size:=by rw [jK];exact l2
   have he:(((((⟨s.toArray⟩:ByteArray)[m]'m1).toNat:Int)) == ((((⟨t.toArray⟩:ByteArray)[m]'m2).toNat:Int)))=true:=by
    rw [Xn s m l1,Xn t m l2,HSL.out m hmr l1 l2];simp
   have i1:(m:Int) < (s.length:Int):=by omega
   have i2:(m:Int) < (t.length:Int):=by omega
   go_wp2_with fail
   go_quiet (fail)
   go_wp2
   go_roundw
   case rel=>exact ⟨m+1,by omega,by go_num,below_drewN hB nq⟩
   case measure=>simp [intOf];omega
  ·have hme:m=sh:=by omega
   subst hme
   by_cases l1:m < s.length
   ·have i1:(m:Int) < (s.length:Int):=by omega
    by_cases l2:m < t.length
    ·have i2:(m:Int) < (t.length:Int):=by omega
     have hne:=HSE.out l1 l2
     have m1:m < (⟨s.toArray⟩:ByteArray).size:=by rw [jK];exact l1
     have m2:m < (⟨t.toArray⟩:ByteArray).size:=by rw [jK];exact l2
     have hne2:(((((⟨s.toArray⟩:ByteArray)[m]'m1).toNat:Int)) == ((((⟨t.toArray⟩:ByteArray)[m]'m2).toNat:Int)))=false:=by
      rw [Xn s m l1,Xn t m l2]
      have:¬ (s[m]'l1).toNat=(t[m]'l2).toNat:=fun h=>hne (UInt8.toNat_inj.1 h)
      simp;omega
     clear hne
     go_wp2_with fail
     go_quiet (fail)
     go_wp2
     go_ret
     exact ⟨rfl,below_drewN hB nq⟩
    ·have i2:decide ((m:Int) < (t.length:Int))=false:=by simp;omega
     go_wp2_with fail
     go_quiet (fail)
     go_wp2
     go_ret
     exact ⟨rfl,below_drewN hB nq⟩
   ·have i1:decide ((m:Int) < (s.length:Int))=false:=by simp;omega
    go_wp2_with fail
    go_quiet (fail)
    go_wp2
    go_ret
    exact ⟨rfl,below_drewN hB nq⟩
theorem Pm (kind:Int) (w:World) :
  Calls Tryz.prog 65 #[.int .i64 kind] w fun e w'=>e=.returned (.bool (decide (kind=0) || decide (kind=1)))∧w'=w:=by
 by_cases h0:kind=0
 ·subst h0
  go_enter Tryz.func65,Tryz.ntmps65
  go_wp2
  go_ret
  exact ⟨rfl,rfl⟩
 ·have k0:(kind == 0)=false:=by simp [h0]
  by_cases h1:kind=1
  ·subst h1
   go_enter Tryz.func65,Tryz.ntmps65
   go_wp2
   go_ret
   exact ⟨rfl,rfl⟩
  ·have k1:(kind == 1)=false:=by simp [h1]
   have HK:Hid ((decide (kind=0) || decide (kind=1))=false):=by simp [Hid,h0,h1]
   clear h0 h1
   go_enter Tryz.func65,Tryz.ntmps65
   go_wp2
   go_ret
   exact ⟨jI HK.out.symm,rfl⟩
end
section
open Go.RowKit
theorem Iy (a b:ByteArray):(a++b).data.toList=a.data.toList++b.data.toList:=by simp
theorem Ly (sec non:ByteArray) (i:Nat):Jm 1 ((⟨#[75]⟩++sec++non++⟨(qv (i:Int)).toArray⟩:ByteArray).data.toList)=KP sec.data.toList non.data.toList i:=by
 simp only [Iy,KP]
 simp
theorem Dk {w wr w5 w2:World} {v v':Value} {k:Nat} {sec non text:List UInt8} (b:UInt8) (x:Value) (o:Obj) (hbt:text.getD k 0=b) (hx:x=.int .u8 (bits .xor .u8 (b.toNat:Int) (KP sec non k % 256)))
  (hB:Below w.heap.size w wr) (hown:wr.ownsRow w.heap.size 5 1 v k (qD (Jd sec non text k))) (hb5:Below wr.heap.size wr w5)
  (hown2:w2.ownsRow w.heap.size 5 1 v' (k+1) (qD (Jd sec non text k)++[x])) (hgr:(w5.alloc o).grownBy w2 v.ownBlock) :
  w2.ownsRow w.heap.size 5 1 v' (k+1) (qD (Jd sec non text (k+1)))∧Below w.heap.size w w2:=by
 subst hbt
 rw [Ir] at hx
 subst hx
 have hz:=hb5.size
 have hz0:=hB.size
 refine ⟨?_,?_⟩
 ·rw [VZ]
  simpa [qD,Uf] using hown2
 ·exact ((hB.trans (hb5.mono hz0)).alloc (by omega) _).grown hgr (by simp;omega) (fun k hk=>(hown.lt k hk).1)
theorem VT (sec non text:ByteArray) (w:World) (h1:sec.size≤1000) (h2:non.size≤1000) (h3:text.size≤5000) :
  Calls Tryz.prog 122 #[.string sec,.string non,.string text] w fun e w' =>
   e=.returned (strB (zl sec.data.toList non.data.toList text.data.toList))∧Below w.heap.size w w':=by
 obtain ⟨i0,hi,hz0,hz1,hz2⟩:=info_parts Tryz.infoU8
 go_enter Tryz.func122,Tryz.ntmps122
 go_wp2
 go_loopw [7,8] (fun v i wr=>∃ k:Nat,k≤text.size∧i=.int .i64 k∧wr.ownsRow w.heap.size 5 1 v k (qD (Jd sec.data.toList non.data.toList text.data.toList k))∧Below w.heap.size w wr)
  (fun _ i _=>text.size - (intOf i).toNat)
 case atStart=>exact ⟨0,Nat.zero_le _,rfl,World.ownsRow_nil _ _ _ _,Below.refl _ _⟩
 case round =>
  obtain ⟨k,hk,rfl,hown,hB⟩:=hrel
  by_cases hlt:k < text.size
  ·obtain ⟨hkr1,hkr2⟩:=NK sec.data.toList non.data.toList k
   have Hgd:=hid (RK text k hlt)
   have HK:=hid (Ly sec non k)
   have ht2:(qv (k:Int)).length≤2:=Nat.le_of_eq (jB _)
   go_wp2_with fail
   refine (QG _ _ (by omega) (by omega)).mono ?_
   rintro e w4 ⟨rfl,hb4⟩
   go_wp2_with fail
   refine (Nr _ w4 ?_).mono ?_
   ·simp only [ByteArray.size_append',jK];unfold maxLen;simp;omega
   rintro e w5 ⟨rfl,rfl⟩
   rw [HK.out]
   have hk4:=hown.kept (Yv hb4) (Classical.em _)
   go_wp2_with (at_builtin;refine wpList_append_own _ rfl (.tmp 24) (.tmp 32) 149 rfl w.heap.size 5 i0 (.int .u8 0) 1 1 Tryz.underlying149 hi hz0 hz1 hz2 rfl (by decide) _ _ _ rfl (hk4.alloc _) ⟨w5.heap.size,0,none⟩ 1 1 [.int .u8 (bits .xor .u8 ((text[k]'hlt).toNat:Int) (KP sec.data.toList non.data.toList k % 256))] rfl rfl ?c1 ?c2 ?c3 ?c4 ?c5 ?_)
   case c1=>intro j u hj;exact cell_one_new _ _ _ j u hj
   case c2=>intro u hu;simp at hu;subst hu;rfl
   case c3=>unfold maxLen;omega
   case c4=>omega
   case c5=>have:=hB.size;have:=hb4.size;simp;omega
   intro v2 w2 hown2 hgr2 _
   have HR:=hid (Dk (text[k]'hlt) _ _ Hgd.out rfl hB hown hb4 hown2 hgr2)
   clear hown hown2 hgr2 hB hb4 hk4
   go_wp2
   go_roundw
   case rel=>exact ⟨k+1,by omega,by go_num,HR.out.1,HR.out.2⟩
   case measure=>simp [intOf];omega
  ·have hke:k=text.size:=by omega
   subst hke
   have hcv:=Uz hown
   go_wp2
   go_ret
   exact ⟨by simp [zl],hB⟩
end
section
theorem Im {R G P g c:Nat}:∀ s ∈ jh R G P g c,s.c=c∧s.many≤G:=by
 intro s hs
 rcases List.mem_append.1 hs with hs|hs
 ·simp only [jo,List.mem_map,List.mem_range] at hs
  obtain ⟨k,_,rfl⟩:=hs
  exact ⟨rfl,Nat.le_trans (JT _ _ _).2 (JT _ _ _).1⟩
 ·simp only [List.mem_cons,List.not_mem_nil,or_false] at hs
  subst hs
  exact ⟨rfl,(JT _ _ _).1⟩
theorem Ia {R G P g C:Nat}:∀ s ∈ ju R G P g C,s.c < C∧s.many≤G:=by
 intro s hs
 simp only [ju,List.mem_flatMap,List.mem_range] at hs
 obtain ⟨c,hc,hs⟩:=hs
 obtain ⟨h1,h2⟩:=Im s hs
 exact ⟨by omega,h2⟩
theorem TT {R C G P n:Nat}:∀ s ∈ jQ R C G P n,s.c < C∧s.many≤G:=by
 intro s hs
 simp only [jQ,List.mem_flatMap,List.mem_range] at hs
 obtain ⟨g,_,hs⟩:=hs
 exact Ia s hs
end
section
open Go.RowKit
def Pj (c:ColB):Prop:=c.name.length≤maxLen∧(-9223372036854775808≤c.kind∧c.kind≤9223372036854775807)∧(-9223372036854775808≤c.key∧c.key≤9223372036854775807)
def DB (c:KeyB):Prop:=c.secret.length≤maxLen∧(-9223372036854775808≤c.number∧c.number≤9223372036854775807)
def HasCells (w:World) (v:Value) (l:List CellB):Prop:=∃ ca cap,v=.slice ca l.length cap∧l.length≤cap∧Lies w ca l∧l.length*32≤140737488351232
abbrev colV (c:ColB) (v:Value):Value:=.agg #[strB c.name,.int .i64 c.kind,.int .i64 c.key,v]
abbrev keyV (c:KeyB):Value:=.agg #[.int .i64 c.number,strB c.secret]
structure LiesT (w:World) (a:Option Addr) (t:List ColB):Prop where
 ok:∀ c ∈ t,Pj c
 at_:t≠[]→∃ b off,a=some ⟨b,off,none⟩∧b < w.heap.size∧∀ j (h:j < t.length),
  w.cell? ⟨b,off+j*4,none⟩=some (strB (t[j]).name)∧w.cell? ⟨b,off+j*4+1,none⟩=some (.int .i64 (t[j]).kind)∧w.cell? ⟨b,off+j*4+2,none⟩=some (.int .i64 (t[j]).key) ∧
   ∃ v,w.cell? ⟨b,off+j*4+3,none⟩=some v∧HasCells w v (t[j]).cells
structure LiesK (w:World) (a:Option Addr) (r:List KeyB):Prop where
 ok:∀ c ∈ r,DB c
 at_:r≠[]→∃ b off,a=some ⟨b,off,none⟩∧b < w.heap.size∧∀ j (h:j < r.length),
  w.cell? ⟨b,off+j*2,none⟩=some (.int .i64 (r[j]).number)∧w.cell? ⟨b,off+j*2+1,none⟩=some (strB (r[j]).secret)
theorem HasCells.later {w w':World} {v:Value} {l:List CellB} (h:HasCells w v l) (hb:Below w.heap.size w w'):HasCells w' v l:=by
 obtain ⟨ca,cap,hv,hc,hl,hm⟩:=h
 exact ⟨ca,cap,hv,hc,hl.later hb,hm⟩
theorem LiesT.later {w w':World} {a:Option Addr} {t:List ColB} (h:LiesT w a t) (hb:Below w.heap.size w w'):LiesT w' a t:=by
 refine ⟨h.ok,fun hne=>?_⟩
 obtain ⟨b,off,ha,hlt,hc⟩:=h.at_ hne
 refine ⟨b,off,ha,Nat.lt_of_lt_of_le hlt hb.size,fun j hj=>?_⟩
 obtain ⟨h1,h2,h3,v,h4,h5⟩:=hc j hj
 exact ⟨(hb.cell (p:=⟨b,_,none⟩) hlt).trans h1,(hb.cell (p:=⟨b,_,none⟩) hlt).trans h2,(hb.cell (p:=⟨b,_,none⟩) hlt).trans h3,v,(hb.cell (p:=⟨b,_,none⟩) hlt).trans h4,h5.later hb⟩
theorem LiesK.later {w w':World} {a:Option Addr} {r:List KeyB} (h:LiesK w a r) (hb:Below w.heap.size w w'):LiesK w' a r:=by
 refine ⟨h.ok,fun hne=>?_⟩
 obtain ⟨b,off,ha,hlt,hc⟩:=h.at_ hne
 refine ⟨b,off,ha,Nat.lt_of_lt_of_le hlt hb.size,fun j hj=>?_⟩
 obtain ⟨h1,h2⟩:=hc j hj
 exact ⟨(hb.cell (p:=⟨b,_,none⟩) hlt).trans h1,(hb.cell (p:=⟨b,_,none⟩) hlt).trans h2⟩
end
section
open Go.RowKit
def GP (n size i:Nat):List Value:=[.int .i64 ((i*size:Nat):Int),.int .i64 ((min (i*size+size) n:Nat):Int)]
def QD (n size k:Nat):List Value:=(List.range k).flatMap (GP n size)
theorem RR (n size k:Nat):QD n size (k+1)=QD n size k++GP n size k:=by
 unfold QD
 rw [List.range_succ,List.flatMap_append]
 simp
theorem Tryz.infoSpan:(Tryz.prog.info? 290).map (fun i=>(i.zero,i.size,i.bytes))=some (some (.agg #[.int .i64 0,.int .i64 0]),2,16):=by kernel_rfl
theorem GF (n size:Nat) (w:World) (hn:n≤1000) (h1:1≤size) (hs:size≤1000) :
  Calls Tryz.prog 215 #[.int .i64 (n:Int),.int .i64 (size:Int)] w fun e w'=>∃ v,e=.returned v∧w'.ownsRow w.heap.size 290 2 v (jW n size) (QD n size (jW n size))∧Below w.heap.size w w':=by
 obtain ⟨i0,hi,hz0,hz1,hz2⟩:=info_parts Tryz.infoSpan
 go_enter Tryz.func215,Tryz.ntmps215
 go_wp2
 go_loopw [5,6] (fun v i wr=>∃ k:Nat,k≤jW n size∧i=.int .i64 ((k*size:Nat):Int)∧wr.ownsRow w.heap.size 290 2 v k (QD n size k)∧Below w.heap.size w wr) (fun _ i _=>n+size - (intOf i).toNat)
 case atStart=>exact ⟨0,Nat.zero_le _,by simp,World.ownsRow_nil _ _ _ _,Below.refl _ _⟩
 case round =>
  obtain ⟨k,hkl,rfl,hown,hB⟩:=hrel
  have hcl:=Xg (n:=n) h1
  have hlt2:=Qn (n:=n) (i:=k) h1
  have hlt3:=Nat.mul_le_mul_right size hkl
  have HKS:Hid ((k+1)*size=k*size+size):=Nat.succ_mul _ _
  have HL:=hid hlt2
  have HSA:Hid (GP n size k=[.int .i64 ((k*size:Nat):Int),.int .i64 ((min (k*size+size) n:Nat):Int)]):=rfl
  clear hlt2
  generalize k*size=m at *
  by_cases hlt:m < n
  ·have hmi:(m:Int) < (n:Int):=by omega
   have hkc:=HL.out.2 hlt
   by_cases hmn:m+size≤n
   ·have hq:¬ (n:Int) < (m:Int)+(size:Int):=by omega
    have hE:min (m+size) n=m+size:=by omega
    rw [hE] at HSA
    simp only [Int.natCast_add] at HSA
    clear hE
    have hown1:=hown.alloc (Obj.cells #[.int .i64 ((m:Nat):Int),.int .i64 ((m:Int)+(size:Int))] 290)
    go_wp2_with (at_builtin;refine wpList_append_own _ rfl (.tmp 13) (.tmp 21) 287 rfl w.heap.size 290 i0 (.agg #[.int .i64 0,.int .i64 0]) 2 16 Tryz.underlying287 hi hz0 hz1 hz2 rfl (by decide) _ _ _ rfl hown1 ⟨_,0,none⟩ 1 1 [.int .i64 ((m:Nat):Int),.int .i64 ((m:Int)+(size:Int))] rfl rfl (qj wr #[.int .i64 ((m:Nat):Int),.int .i64 ((m:Int)+(size:Int))] 290) (by intro u hu;simp at hu;rcases hu with rfl|rfl<;>rfl) (by unfold maxLen;omega) (by omega) (by have:=hB.size;simp;omega) ?_)
    intro v3 w3 hown3 hgr3 _
    have HO3:Hid (w3.ownsRow w.heap.size 290 2 v3 (k+1) (QD n size (k+1))):=by
     rw [RR,HSA.out]
     exact hown3
    have HB3:=hid ((hB.alloc hB.size _).grown hgr3 (by have:=hB.size;simp;omega) (fun k hk=>(hown.lt k hk).1))
    clear hown hown1 hown3 hgr3 hB
    go_wp2
    go_roundw
    case rel=>exact ⟨k+1,by omega,by rw [HKS.out];go_num,HO3.out,HB3.out⟩
    case measure=>simp [intOf];omega
   ·have hq:(n:Int) < (m:Int)+(size:Int):=by omega
    have hE:min (m+size) n=n:=by omega
    rw [hE] at HSA
    clear hE
    have hown1:=hown.alloc (Obj.cells #[.int .i64 ((m:Nat):Int),.int .i64 ((n:Nat):Int)] 290)
    go_wp2_with (at_builtin;refine wpList_append_own _ rfl (.tmp 13) (.tmp 21) 287 rfl w.heap.size 290 i0 (.agg #[.int .i64 0,.int .i64 0]) 2 16 Tryz.underlying287 hi hz0 hz1 hz2 rfl (by decide) _ _ _ rfl hown1 ⟨_,0,none⟩ 1 1 [.int .i64 ((m:Nat):Int),.int .i64 ((n:Nat):Int)] rfl rfl (qj wr #[.int .i64 ((m:Nat):Int),.int .i64 ((n:Nat):Int)] 290) (by intro u hu;simp at hu;rcases hu with rfl|rfl<;>rfl) (by unfold maxLen;omega) (by omega) (by have:=hB.size;simp;omega) ?_)
    intro v3 w3 hown3 hgr3 _
    have HO3:Hid (w3.ownsRow w.heap.size 290 2 v3 (k+1) (QD n size (k+1))):=by
     rw [RR,HSA.out]
     exact hown3
    have HB3:=hid ((hB.alloc hB.size _).grown hgr3 (by have:=hB.size;simp;omega) (fun k hk=>(hown.lt k hk).1))
    clear hown hown1 hown3 hgr3 hB
    go_wp2
    go_roundw
    case rel=>exact ⟨k+1,by omega,by rw [HKS.out];go_num,HO3.out,HB3.out⟩
    case measure=>simp [intOf];omega
  ·have hke:k=jW n size:=by
    have:=HL.out
    omega
   subst hke
   go_wp2
   go_ret
   exact ⟨_,rfl,hown,hB⟩
end
section
theorem zO {t:List ColB}:∀ (L:List SpotB) (M:List ModF) (L2:List SpotB) (M2:List ModF),M.length=L.length→jl t (L++L2) (M++M2)=jl t L M++jl t L2 M2:=by
 intro L
 induction L with
 | nil=>intro M L2 M2 h;rw [List.eq_nil_of_length_eq_zero h];simp [jl]
 | cons s L ih =>
  intro M L2 M2 h
  cases M with
  | nil=>simp at h
  | cons m M =>
   simp only [List.cons_append,jl,List.append_assoc]
   rw [ih M L2 M2 (by simpa using h)]
theorem ModsOk.append {t:List ColB} {L:List SpotB} {M:List ModF} {L2:List SpotB} {M2:List ModF} (h:ModsOk t L M) (h2:ModsOk t L2 M2):ModsOk t (L++L2) (M++M2):=by
 induction h with
 | nil=>exact h2
 | cons hm _ ih=>exact .cons hm ih
theorem Nf {t:List ColB} {L:List SpotB}:∀ {L2:List SpotB} {M:List ModF},ModsOk t (L++L2) M→∃ M1 M2,M=M1++M2∧ModsOk t L M1∧ModsOk t L2 M2:=by
 induction L with
 | nil=>intro L2 M h;exact ⟨[],M,rfl,.nil,h⟩
 | cons s L ih =>
  intro L2 M h
  cases h with
  | cons hm h2 =>
   obtain ⟨M1,M2,h3,h4,h5⟩:=ih h2
   exact ⟨_ :: M1,M2,by rw [h3];rfl,.cons hm h4,h5⟩
theorem Jr {t:List ColB}:∀ (L:List SpotB) (M:List ModF) (L2:List SpotB) (M2:List ModF) (n:Nat) (b:Bool),M.length=L.length→jp t n b (L++L2) (M++M2)=jp t n b L M++jp t (n+(jl t L M).length) (qE b L) L2 M2:=by
 intro L
 induction L with
 | nil=>intro M L2 M2 n b h;rw [List.eq_nil_of_length_eq_zero h];simp [jp,jl,qE]
 | cons s L ih =>
  intro M L2 M2 n b h
  cases M with
  | nil=>simp at h
  | cons m M =>
   simp only [List.cons_append,jl,jp,List.append_assoc,qE,List.length_append]
   rw [ih M L2 M2 _ _ (by simpa using h),Nat.add_assoc]
def xD (Q:Nat→Nat→List ModF) (g C:Nat):List ModF:=(List.range C).flatMap fun c=>Q g c
def qV (Q:Nat→Nat→List ModF) (C n:Nat):List ModF:=(List.range n).flatMap fun g=>xD Q g C
theorem Jy (Q:Nat→Nat→List ModF) (g C:Nat):xD Q g (C+1)=xD Q g C++Q g C:=by simp [xD,List.range_succ]
theorem QU (Q:Nat→Nat→List ModF) (C n:Nat):qV Q C (n+1)=qV Q C n++xD Q n C:=by simp [qV,List.range_succ]
theorem ZU {t:List ColB} {Q:Nat→Nat→List ModF} {R G P g:Nat}:∀ {C:Nat},(∀ c,c < C→ModsOk t (jh R G P g c) (Q g c))→ModsOk t (ju R G P g C) (xD Q g C):=by
 intro C
 induction C with
 | zero=>intro _;exact .nil
 | succ C ih=>intro h;rw [Jy,Qb];exact (ih (fun c hc=>h c (by omega))).append (h C (by omega))
theorem RB {t:List ColB} {Q:Nat→Nat→List ModF} {R C G P:Nat}:∀ {n:Nat},(∀ g,g < n→∀ c,c < C→ModsOk t (jh R G P g c) (Q g c))→ModsOk t (jQ R C G P n) (qV Q C n):=by
 intro n
 induction n with
 | zero=>intro _;exact .nil
 | succ n ih=>intro h;rw [QU,Qa];exact (ih (fun g hg=>h g (by omega))).append (ZU (h n (by omega)))
theorem Vu {t:List ColB}:∀ (L:List SpotB) (M:List ModF) (n:Nat),(∀ s ∈ L,s.sort=80)→jp t n false L M=[]:=by
 intro L
 induction L with
 | nil=>intro M n _;cases M<;>rfl
 | cons s L ih =>
  intro M n h
  cases M with
  | nil=>rfl
  | cons m M =>
   have hs:=h s (by simp)
   simp only [jp,hs]
   rw [show decide ((80:UInt8)=77)=false from by decide,ih M _ (fun x hx=>h x (List.mem_cons_of_mem _ hx))]
   rfl
theorem Vq {t:List ColB} {R G P g c n:Nat} {M:List ModF} (h:M.length=(jh R G P g c).length):jp t n true (jh R G P g c) M=[n]:=by
 cases hp:jo P g c (g*G) (jv R G g) (jW (jv R G g) P) with
 | nil =>
  unfold jh at h ⊢
  rw [hp] at h ⊢
  obtain ⟨m,rfl⟩:=List.length_eq_one_iff.1 h
  rfl
 | cons s L =>
  have hsort:=XC P g c (g*G) (jv R G g) (jW (jv R G g) P)
  rw [hp] at hsort
  unfold jh at h ⊢
  rw [hp] at h ⊢
  obtain ⟨M0,m,rfl⟩:∃ M0 m,M=M0++[m]:=by
   have hne:M≠[]:=by intro e;rw [e] at h;simp at h
   exact ⟨M.dropLast,M.getLast hne,(List.dropLast_concat_getLast hne).symm⟩
  have hl:M0.length=(s :: L).length:=by simp at h ⊢;omega
  rw [Jr _ _ _ _ _ _ hl]
  cases M0 with
  | nil=>simp at hl
  | cons m0 M0 =>
   have hm:qE true (s :: L)=false:=Kq _ hsort (by simp) true
   simp only [jp]
   rw [hm,show decide (s.sort=77)=false from by rw [hsort s (by simp)];decide,Vu L M0 _ (fun x hx=>hsort x (List.mem_cons_of_mem _ hx))]
   rfl
theorem xm (pre:List UInt8) (r:List KeyB) (kind key:Int) (c:Nat) (L:List SpotB) (M:List ModF):jD pre r kind key c none L M=none:=by cases L<;>cases M<;>rfl
theorem zF (pre:List UInt8) (r:List KeyB) (kind key:Int) (c:Nat):∀ (L:List SpotB) (M:List ModF) (L2:List SpotB) (M2:List ModF) (x:Option (List CellB)),M.length=L.length →
  jD pre r kind key c x (L++L2) (M++M2)=jD pre r kind key c (jD pre r kind key c x L M) L2 M2:=by
 intro L
 induction L with
 | nil=>intro M L2 M2 x h;rw [List.eq_nil_of_length_eq_zero h];cases x<;>simp [jD,xm]
 | cons s L ih =>
  intro M L2 M2 x h
  cases M with
  | nil=>simp at h
  | cons m M =>
   cases x with
   | none=>simp [xm]
   | some cells =>
    simp only [List.cons_append,jD]
    exact ih M L2 M2 _ (by simpa using h)
theorem VN (pre:List UInt8) (r:List KeyB) (kind key:Int) (c:Nat):∀ (L:List SpotB) (M:List ModF) (x:Option (List CellB)),(∀ s ∈ L,s.c≠c)→jD pre r kind key c x L M=x:=by
 intro L
 induction L with
 | nil=>intro M x _;cases x<;>cases M<;>rfl
 | cons s L ih =>
  intro M x h
  cases x with
  | none=>exact xm ..
  | some cells =>
   cases M with
   | nil=>rfl
   | cons m M =>
    simp only [jD]
    rw [if_neg (h s (by simp))]
    exact ih M _ (fun y hy=>h y (List.mem_cons_of_mem _ hy))
theorem KM {R G P g c:Nat}:∀ s ∈ jh R G P g c,s.c=c:=by
 intro s hs
 simp only [jh,jo,List.mem_append,List.mem_map,List.mem_range,List.mem_singleton] at hs
 rcases hs with ⟨p,_,rfl⟩|rfl<;>rfl
theorem YQ {t:List ColB} {Q:Nat→Nat→List ModF} {R G P g:Nat} (pre:List UInt8) (r:List KeyB) (kind key:Int) (c:Nat) (x:Option (List CellB)):∀ {C:Nat},(∀ i,i < C→ModsOk t (jh R G P g i) (Q g i)) →
  jD pre r kind key c x (ju R G P g C) (xD Q g C)=if c < C then jD pre r kind key c x (jh R G P g c) (Q g c) else x:=by
 intro C
 induction C with
 | zero=>intro _;simp [ju,xD];cases x<;>rfl
 | succ C ih =>
  intro h
  rw [Jy,Qb,zF _ _ _ _ _ _ _ _ _ _ (qR (ZU (fun i hi=>h i (by omega)))),ih (fun i hi=>h i (by omega))]
  by_cases hc:c < C
  ·rw [if_pos hc,if_pos (by omega),VN]
   intro s hs
   rw [KM s hs];omega
  ·rw [if_neg hc]
   by_cases he:c=C
   ·subst he;rw [if_pos (by omega)]
   ·rw [if_neg (by omega),VN]
    intro s hs
    rw [KM s hs];omega
theorem Vg {t:List ColB} {Q:Nat→Nat→List ModF} {R C G P:Nat} (pre:List UInt8) (r:List KeyB) (kind key:Int) {c:Nat} (hc:c < C) (x:Option (List CellB)) {n:Nat} (h:∀ g,g < n+1→∀ i,i < C→ModsOk t (jh R G P g i) (Q g i)) :
  jD pre r kind key c x (jQ R C G P (n+1)) (qV Q C (n+1))=jD pre r kind key c (jD pre r kind key c x (jQ R C G P n) (qV Q C n)) (jh R G P n c) (Q n c):=by
 rw [QU,Qa,zF _ _ _ _ _ _ _ _ _ _ (qR (RB (fun g hg=>h g (by omega)))),YQ pre r kind key c _ (h n (by omega)),if_pos hc]
theorem Ub (pre:List UInt8) (r:List KeyB) (kind key:Int) (s:SpotB) (m:ModF) (cells:List CellB):jD pre r kind key s.c (some cells) [s] [m]=Qw pre r kind key cells s m:=by
 simp only [jD,if_true]
 cases Qw pre r kind key cells s m<;>rfl
theorem YT (pre:List UInt8) (r:List KeyB) (kind key:Int) (c:Nat) (cells:List CellB):∀ (L:List SpotB) (M:List ModF) (x:List CellB),(∀ s ∈ L,s.sort=80)→jD pre r kind key c (some (cells++x)) L M=(jD pre r kind key c (some x) L M).map (cells++·):=by
 intro L
 induction L with
 | nil=>intro M x _;cases M<;>rfl
 | cons s L ih =>
  intro M x h
  cases M with
  | nil=>rfl
  | cons m M =>
   simp only [jD]
   by_cases hc:s.c=c
   ·rw [if_pos hc,if_pos hc]
    have hs:¬ s.sort=77:=by rw [h s (by simp)];decide
    unfold Qw
    simp only [if_neg hs]
    cases Ja pre r key s m with
    | none=>simp [xm]
    | some plain =>
     dsimp only
     cases hu:qX kind plain with
     | none=>simp [xm]
     | some l =>
      dsimp only
      by_cases hm:l.length=s.many
      ·rw [if_pos hm,if_pos hm,List.append_assoc];exact ih M _ (fun y hy=>h y (List.mem_cons_of_mem _ hy))
      ·rw [if_neg hm,if_neg hm];simp [xm]
   ·rw [if_neg hc,if_neg hc]
    exact ih M _ (fun y hy=>h y (List.mem_cons_of_mem _ hy))
def qx (R G P g c:Nat):List SpotB:=jo P g c (g*G) (jv R G g) (jW (jv R G g) P)
def QK (R G g c:Nat):SpotB:=⟨77,g,c,0,g*G,jv R G g⟩
theorem KV (R G P g c:Nat):jh R G P g c=qx R G P g c++[QK R G g c]:=rfl
theorem UP (pre:List UInt8) (r:List KeyB) (kind key:Int) {R G P g c:Nat} (cells:List CellB) (hl:cells.length=g*G) (mp:List ModF) (mm:ModF) (hm:mp.length=(qx R G P g c).length) :
  jD pre r kind key c (some cells) (jh R G P g c) (mp++[mm])=(jD pre r kind key c (some []) (qx R G P g c) mp).bind fun part=>if Ja pre r key (QK R G g c) mm=some (JR kind part) then some (cells++part) else none:=by
 rw [KV,zF _ _ _ _ _ _ _ _ _ _ hm]
 have h1:=YT pre r kind key c cells (qx R G P g c) mp [] (XC _ _ _ _ _ _)
 rw [List.append_nil] at h1
 rw [h1]
 cases jD pre r kind key c (some []) (qx R G P g c) mp with
 | none=>simp [xm]
 | some part =>
  simp only [Option.map_some,Option.bind_some]
  have:=Ub pre r kind key (QK R G g c) mm (cells++part)
  rw [show (QK R G g c).c=c from rfl] at this
  rw [this]
  unfold Qw
  have hd:(cells++part).drop (QK R G g c).start=part:=by
   show (cells++part).drop (g*G)=part
   rw [← hl,List.drop_left]
  rw [hd]
  cases Ja pre r key (QK R G g c) mm with
  | none=>simp
  | some plain=>simp only [Option.some.injEq,if_pos (show (QK R G g c).sort=77 from rfl)]
theorem Vo (pre:List UInt8) (r:List KeyB) (kind key:Int) {P g c start n:Nat}:∀ (k:Nat) (mp:List ModF) (part:List CellB),mp.length=k→k*P≤n+P→jD pre r kind key c (some []) (jo P g c start n k) mp=some part→part.length=min (k*P) n:=by
 intro k
 induction k with
 | zero=>intro mp part hl _ h;rw [List.eq_nil_of_length_eq_zero hl] at h;simp [jo,jD] at h;subst h;simp
 | succ k ih =>
  intro mp part hl hk h
  obtain ⟨M0,m,rfl⟩:∃ M0 m,mp=M0++[m]:=by
   have hne:mp≠[]:=by intro e;rw [e] at hl;simp at hl
   exact ⟨mp.dropLast,mp.getLast hne,(List.dropLast_concat_getLast hne).symm⟩
  have hl0:M0.length=k:=by simp at hl;omega
  rw [QO,zF _ _ _ _ _ _ _ _ _ _ (by rw [hl0];simp [jo])] at h
  rw [Nat.succ_mul] at hk ⊢
  cases hc:jD pre r kind key c (some []) (jo P g c start n k) M0 with
  | none=>rw [hc,xm] at h;cases h
  | some x =>
   rw [hc] at h
   have hx:=ih M0 x hl0 (by omega) hc
   have:=Ub pre r kind key ⟨80,g,c,k,start+k*P,jv n P k⟩ m x
   simp only at this
   rw [this] at h
   unfold Qw at h
   simp only [show ¬ ((80:UInt8)=77) from by decide,if_false] at h
   split at h
   ·cases h
   ·split at h
    ·cases h
    ·split at h
     ·rename_i hmany
      cases h
      rw [List.length_append,hx,hmany]
      unfold jv
      omega
     ·cases h
theorem Yw {n size:Nat} (hs:1≤size):n≤jW n size*size∧jW n size*size≤n+size:=by
 have h1:=(Qn (n:=n) (i:=jW n size) hs)
 have h2:¬ jW n size*size < n:=fun h=>by have:=h1.2 h;omega
 refine ⟨by omega,?_⟩
 rcases Nat.eq_zero_or_pos (jW n size) with h0|h0
 ·rw [h0];omega
 ·have h3:=(Qn (n:=n) (i:=jW n size - 1) hs).1 (by omega)
  have h4:(jW n size - 1)*size+size=jW n size*size:=by rw [← Nat.succ_mul];congr 1;omega
  omega
theorem ZV (pre:List UInt8) (r:List KeyB) (kind key:Int) {R G P g c:Nat} (hP:1≤P) {mp:List ModF} {part:List CellB} (hm:mp.length=(qx R G P g c).length) (h:jD pre r kind key c (some []) (qx R G P g c) mp=some part):part.length=jv R G g:=by
 have hk:mp.length=jW (jv R G g) P:=by rw [hm];simp [qx,jo]
 have h1:=Yw (n:=jv R G g) hP
 have:=Vo pre r kind key _ mp part hk h1.2 h
 omega
theorem Ro {t:List ColB} {Q:Nat→Nat→List ModF} {R C G P:Nat} (pre:List UInt8) (r:List KeyB) (kind key:Int) {c:Nat} (hc:c < C) (hP:1≤P):∀ {n:Nat} {cells:List CellB},(∀ g,g < n→∀ i,i < C→ModsOk t (jh R G P g i) (Q g i))→n*G≤R+G →
  jD pre r kind key c (some []) (jQ R C G P n) (qV Q C n)=some cells→cells.length=min (n*G) R:=by
 intro n
 induction n with
 | zero=>intro cells _ _ h;simp [jQ,jD] at h;subst h;simp
 | succ n ih =>
  intro cells h hn e
  rw [Vg pre r kind key hc _ h] at e
  rw [Nat.succ_mul] at hn ⊢
  cases hx:jD pre r kind key c (some []) (jQ R C G P n) (qV Q C n) with
  | none=>rw [hx,xm] at e;cases e
  | some x =>
   rw [hx] at e
   have hl:=ih (fun g hg=>h g (by omega)) (by omega) hx
   have hq:=qR (h n (by omega) c hc)
   obtain ⟨mp,mm,hmm⟩:∃ mp mm,Q n c=mp++[mm]:=by
    have hne:Q n c≠[]:=by intro e;rw [e] at hq;simp [jh] at hq
    exact ⟨(Q n c).dropLast,(Q n c).getLast hne,(List.dropLast_concat_getLast hne).symm⟩
   have hmp:mp.length=(qx R G P n c).length:=by rw [hmm,KV] at hq;simpa using hq
   rw [hmm,UP pre r kind key x (by omega) mp mm hmp] at e
   cases hp:jD pre r kind key c (some []) (qx R G P n c) mp with
   | none=>rw [hp] at e;simp at e
   | some part =>
    rw [hp] at e
    have hpl:=ZV pre r kind key hP hmp hp
    simp only [Option.bind_some] at e
    split at e
    ·cases e
     rw [List.length_append,hl,hpl]
     unfold jv
     omega
    ·cases e
end
section
theorem Ns {sec non ext b p:List UInt8} (h:qo sec non ext b=some p):b=Xi sec non ext p∧b.length≤5002:=by
 unfold qo at h
 split at h
 ·rename_i hc
  cases h
  exact ⟨hc.2.2.symm,hc.1⟩
 ·cases h
end
section
theorem SK (j:JobB) (r:List KeyB):∀ (L:List SpotB) (st:StB) (x:SealB),x ∈ (DV j r st L).log→x ∈ st.log∨∃ s ∈ L,(jk j.table s.c).key≠0∧∃ n,x=⟨jm r (jk j.table s.c).key,Uu j.draw n,qu j.pre s.sort s.g s.c s.p,Xi (jm r (jk j.table s.c).key) (Uu j.draw n) (qu j.pre s.sort s.g s.c s.p) (TB j.table s)⟩:=by
 intro L
 induction L with
 | nil=>intro st x h;exact .inl h
 | cons s L ih =>
  intro st x h
  rcases ih (NJ j r st s) x h with h|⟨s',hs,h⟩
  ·unfold NJ SG at h
   by_cases hk:(jk j.table s.c).key=0
   ·rw [if_pos hk] at h;exact .inl h
   ·rw [if_neg hk] at h
    simp only [TU,List.mem_append,List.mem_singleton] at h
    rcases h with h|h
    ·exact .inl h
    ·exact .inr ⟨s,by simp,hk,_,h⟩
  ·exact .inr ⟨s',List.mem_cons_of_mem _ hs,h⟩
theorem ZD {R C G P:Nat}:∀ s ∈ jC R C G P,s.sort=80∨s.sort=77:=by
 intro s hs
 simp only [jC,jQ,ju,List.mem_flatMap,List.mem_range,jh,List.mem_append,jo,List.mem_map,List.mem_singleton] at hs
 obtain ⟨g,_,c,_,⟨p,_,rfl⟩|rfl⟩:=hs
 ·exact .inl rfl
 ·exact .inr rfl
theorem Ug {foot:Nat} {parts footer:List UInt8} {S:SheetF} (h:xp foot parts footer=some S):SheetOk foot parts footer S:=by
 unfold xp at h
 split at h
 ·rename_i hex
  cases h
  exact Classical.choose_spec hex
 ·cases h
theorem RS {file:List UInt8} {f:FormF} (h:zi file=some f):FormOk f∧xi f=file:=by
 unfold zi at h
 split at h
 ·rename_i hex
  cases h
  exact Classical.choose_spec hex
 ·cases h
end
end Go.Proofs.YthhpbhpfagoapaaGreat
