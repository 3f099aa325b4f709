import Derived.Test.YthhpbhpfagoapabGreatJBB
import Derived.BigQuiet
import Derived.Test.YthhpbhpfagoapabGreatJBD
namespace Go.Proofs.YthhpbhpfagoapabGreat
set_option linter.unusedVariables false
set_option linter.unusedSimpArgs false
set_option maxRecDepth 100000
set_option maxHeartbeats 16000000
section
open Go.RowKit
theorem YG (a b:List UInt8):xH [⟨a.toArray⟩,⟨b.toArray⟩]=a++b:=by simp [xH]
theorem Dt (sec non ext cip:List UInt8):(Rd sec non ext cip).length=2:=rfl
theorem PY (parts:List ByteArray) (C:Array Value) (n:Nat) (w:World) (hC:C=(parts.map Value.string).toArray) (hl:parts.length=n) (hn:n≤1000) (hs:(xH parts).length≤1000000) :
  Calls Tryz.prog 93 #[.slice (some ⟨w.heap.size,0,none⟩) n n] (w.alloc (.cells C 9)) fun e w'=>e=.returned (strB (xH parts))∧Below (w.heap.size+1) (w.alloc (.cells C 9)) w':=by
 subst hl
 refine (DI parts w.heap.size parts.length _ hn hs (by simp) (Uh w parts C hC _)).mono ?_
 rintro e w' ⟨h1,h2⟩
 exact ⟨h1,by simpa using h2⟩
theorem LX (sec non ext plain:ByteArray) (w:World) (h1:sec.size≤1000) (h2:non.size≤1000) (h3:ext.size≤5000) (h4:plain.size≤5000) :
  Calls Tryz.prog 124 #[.string sec,.string non,.string ext,.string plain] w fun e w' =>
   e=.returned (strB (za sec.data.toList non.data.toList ext.data.toList plain.data.toList))∧Below w.heap.size w w':=by
 have hm:(1000:Nat)≤maxLen:=by decide
 have hm5:(5000:Nat)≤maxLen:=by decide
 go_enter Tryz.func124,Tryz.ntmps124
 go_wp2_with fail
 refine (Dl sec non plain w (Nat.le_trans h1 hm) (Nat.le_trans h2 hm) h4).mono ?_
 rintro e w1 ⟨rfl,hb1⟩
 have hl:=JN sec.data.toList non.data.toList plain.data.toList
 have hl2:(zC sec.data.toList non.data.toList plain.data.toList).length≤5000:=by rw [hl];simpa using h4
 clear hl
 have HF:Hid (∀ c,c=zC sec.data.toList non.data.toList plain.data.toList→c++Rd sec.data.toList non.data.toList ext.data.toList c=za sec.data.toList non.data.toList ext.data.toList plain.data.toList):=by
  intro c hc;subst hc;rfl
 have HF2:=hid (HF.out _ rfl)
 clear HF
 generalize zC sec.data.toList non.data.toList plain.data.toList=cip at *
 go_wp2_with fail
 refine (Ie sec non ext ⟨cip.toArray⟩ _ (Nat.le_trans h1 hm) (Nat.le_trans h2 hm) h3 (by rw [jM];omega)).mono ?_
 rintro e w2 ⟨rfl,hb2⟩
 go_wp2_with fail
 refine (PY [⟨cip.toArray⟩,⟨(Rd sec.data.toList non.data.toList ext.data.toList cip).toArray⟩] _ 2 w2 rfl rfl (by decide) (by rw [YG,List.length_append,Dt];omega)).mono ?_
 rintro e w3 ⟨rfl,hb3⟩
 rw [YG,HF2.out]
 go_wp2
 go_ret
 refine ⟨rfl,?_⟩
 have z1:=hb1.size
 have z2:=hb2.size
 exact ((hb1.trans (hb2.mono z1)).alloc (by omega) _).trans (hb3.mono (by omega))
end
section
theorem Pj (l:List CellB):∀ (b:Bool) (n:Nat),n+l.length≤127→(XG b n l).length≤l.length+1:=by
 induction l with
 | nil=>intro b n h;simp only [XG];rw [zt (by simpa using h)];simp
 | cons c l ih =>
  intro b n h
  simp only [List.length_cons] at h
  simp only [XG]
  split
  ·have:=ih b (n+1) (by omega);simp only [List.length_cons];omega
  ·have:=ih (!b) 1 (by omega)
   rw [List.length_append,zt (by omega)]
   simp only [List.length_cons,List.length_nil];omega
theorem Px (l:List CellB) (h:l.length≤60):(zZ l).length≤l.length+2:=by
 unfold zZ qZ
 rw [List.length_append,zt (by omega)]
 split
 ·simp
 ·have:=Pj l false 0 (by omega)
  simp;omega
theorem Lb (kind:Int) (l:List CellB) (h:∀ c ∈ l,qF c) (hn:l.length≤6):(xN kind l).length≤250:=by
 have h1:=Px l (by omega)
 have hv:(jm l).length≤6:=Nat.le_trans (List.length_filter_le ..) hn
 have hs:∀ c ∈ jm l,qF c:=fun c hc=>h c (List.mem_filter.1 hc).1
 have h2:(jQ kind (jm l) 3).length≤_:=VJ kind (jm l) 2
 have h3:(Xz (ZW kind 0) (jm l)).length≤241:=by
  have h4:=zD (ZW kind 0) (jm l) hs (by omega) (jm l).length
  have h5:ZW kind 0≠3:=by unfold ZW;split<;>simp
  simp only [Xz,qL,if_neg h5,List.length_cons,List.nil_append]
  omega
 unfold xN
 split
 ·omega
 ·rw [List.length_append];omega
theorem TJ {t:List ColB} (h:GoodT t) {s:SpotB} (hs:s.c < t.length) (hm:s.many≤60) (h6:s.sort≠77→s.many≤6):(qS t s).length≤250:=by
 obtain ⟨_,_,h3⟩:=h.cells s.c hs
 have hsm:∀ x ∈ ((jf t s.c).cells.drop s.start).take s.many,qF x:=by
  rw [xz hs]
  exact fun x hx=>h3 x (List.mem_of_mem_drop (List.mem_of_mem_take hx))
 have hl:(((jf t s.c).cells.drop s.start).take s.many).length≤s.many:=by rw [List.length_take];omega
 unfold qS
 split
 ·have:=Dj (jf t s.c).kind _ hsm (by omega);omega
 ·rename_i hne
  have:=h6 hne
  exact Lb _ _ hsm (by omega)
theorem Ax {j:JobB} {r:List KeyB} (B:Nat) (l:List SpotB):∀ st:StB,(∀ s ∈ l,(qS j.table s).length≤B)→(qA j r st l).out.length≤st.out.length+(B+8)*l.length:=by
 induction l with
 | nil=>intro st _;simp [qA]
 | cons s l ih =>
  intro st hl
  have h1:=hl s (List.mem_cons_self ..)
  have h2:=EY j r (jf j.table s.c).key s.sort s.g s.c s.p (qS j.table s) st
  have h3:=ih (zM j r st s) (fun x hx=>hl x (List.mem_cons_of_mem _ hx))
  have e:qA j r st (s :: l)=qA j r (zM j r st s) l:=rfl
  rw [e]
  have e2:zM j r st s=QA j r (jf j.table s.c).key s.sort s.g s.c s.p (qS j.table s) st:=rfl
  rw [← e2] at h2
  have e3:(B+8)*(s :: l).length=(B+8)*l.length+(B+8):=by rw [List.length_cons,Nat.mul_add,Nat.mul_one]
  rw [e3]
  omega
theorem Sh (R G P g c:Nat) (hP:1≤P):(jh R G P g c).length≤jp R G g+1:=by
 have h1:=Ql (n:=jp R G g) hP
 unfold jh jt
 simp
 omega
theorem TR (R G P g C:Nat) (hP:1≤P):(jr R G P g C).length≤(jp R G g+1)*C:=by
 induction C with
 | zero=>simp [jr]
 | succ C ih =>
  have h:jr R G P g (C+1)=jr R G P g C++jh R G P g C:=by simp [jr,List.range_succ]
  have h2:=Sh R G P g C hP
  rw [h,List.length_append,Nat.mul_add,Nat.mul_one]
  omega
theorem Fa (R C G P:Nat) (hP:1≤P) (hG:1≤G):∀ n,n≤jY R G→(jH R C G P n).length≤2*min (n*G) R*C:=by
 intro n
 induction n with
 | zero=>intro _;simp [jH]
 | succ n ih =>
  intro hn
  have hnG:n*G < R:=(Ju hG).1 (by omega)
  have h1:=ih (by omega)
  have h2:=TR R G P n C hP
  have h3:0 < jp R G n:=(Up hG).2 hnG
  have h4:=XB R G n hnG
  have h5:min ((n+1)*G) R=min (n*G) R+jp R G n:=by rw [Nat.succ_mul];omega
  rw [zK,List.length_append,h5]
  have h6:(jp R G n+1)*C≤2*jp R G n*C:=Nat.mul_le_mul_right _ (by omega)
  have h7:2*(min (n*G) R+jp R G n)*C=2*min (n*G) R*C+2*jp R G n*C:=by rw [Nat.mul_add,Nat.add_mul]
  omega
theorem LK {j:JobB} {r:List KeyB} (h:GoodJ j r) (hC:j.table.length≤4) (hR:qb j.table≤20) (hP:j.plan.page.toNat≤6):(zr j r).length≤65000:=by
 obtain ⟨⟨a,b⟩,⟨c,d⟩,_⟩:=h.sizes
 have hpl:∀ s ∈ qG j,(qS j.table s).length≤250:=fun s hs=>by
  have hin:=h.spotIn s hs
  refine TJ h.table hin.col hin.few.2.2.2.2 (fun hne=>?_)
  simp only [qG,qm,jH,jr,List.mem_flatMap,List.mem_range] at hs
  obtain ⟨g,_,k,_,hs⟩:=hs
  rcases List.mem_append.1 hs with hs|hs
  ·simp only [jt,List.mem_map,List.mem_range] at hs
   obtain ⟨p,_,rfl⟩:=hs
   have:=(Jy (jp (qb j.table) j.plan.group.toNat g) j.plan.page.toNat p).1
   simp only
   omega
  ·simp only [List.mem_cons,List.not_mem_nil,or_false] at hs
   subst hs
   exact absurd rfl hne
 have h1:=Ax (r:=r) 250 (qG j) ⟨zw j.plan,[]⟩ hpl
 have h2:(qG j).length≤2*min (jY (qb j.table) j.plan.group.toNat*j.plan.group.toNat) (qb j.table)*j.table.length:=Fa _ _ _ _ c a _ (Nat.le_refl _)
 have h3:2*min (jY (qb j.table) j.plan.group.toNat*j.plan.group.toNat) (qb j.table)*j.table.length≤40*4:=Nat.mul_le_mul (by omega) hC
 have h4:(xC j r).out.length≤4+258*(qG j).length:=h1
 have h5:=h.foot.2.2
 have h6:(Jb j r (xZ j r) (xC j r)).out.length≤(xC j r).out.length+4000:=by
  unfold Jb
  split
  ·have e1:=(QD j.draw (ji r j.plan.foot) (jR j.pre 83 0 0 0++xZ j r) [] (zU (xZ j r) (xC j r))).1
   have e2:=VR (xZ j r) (xC j r)
   rw [e1,e2]
   simp
   omega
  ·have e1:=(QD j.draw (ji r j.plan.foot) (jR j.pre 70 0 0 0) (xZ j r) (xC j r)).1
   rw [e1]
   omega
 unfold zr
 simp only [List.length_append,jx,List.length_cons,List.length_nil]
 omega
end
section
open Go.RowKit
def qj (c n:Int):Int:=(if c < 0 then -(c+1) else c) % n
theorem qD (c n:Int) (hn:0 < n):0≤qj c n∧qj c n < n:=⟨Int.emod_nonneg _ (by omega),Int.emod_lt_of_pos _ hn⟩
theorem Jn (c n:Int) (w:World) (h0:-9223372036854775808≤c) (h1:c≤9223372036854775807) (hn:0 < n) (hn1:n≤9223372036854775807) :
  Calls Tryz.prog 8 #[.int .i64 c,.int .i64 n] w fun e w'=>e=.returned (.int .i64 (qj c n))∧w'=w:=by
 have hd:(n == 0)=false:=by simp;omega
 by_cases hc:c < 0
 ·have HE:Hid (qj c n=(-(c+1)) % n):=by simp [Hid,qj,hc]
  go_enter Tryz.func8,Tryz.ntmps8
  go_wp2
  go_ret
  exact ⟨xd (by rw [HE.out,← Int.neg_tmod,Int.tmod_eq_emod_of_nonneg (by omega)]),rfl⟩
 ·have HE:Hid (qj c n=c % n):=by simp [Hid,qj,hc]
  go_enter Tryz.func8,Tryz.ntmps8
  go_wp2
  go_ret
  exact ⟨xd HE.out.symm,rfl⟩
def shB (v:Int):Nat→Int
 | 0=>v
 | k+1=>shB v k / 31
theorem PI (v:Int) (h0:0≤v) (h1:v≤2000000000000) (k:Nat):0≤shB v k∧shB v k≤2000000000000:=by
 induction k with
 | zero=>exact ⟨h0,h1⟩
 | succ k ih=>obtain ⟨a,b⟩:=ih;simp only [shB];omega
def Qc (v:Int):Nat→List UInt8
 | 0=>[]
 | k+1=>Qc v k++[UInt8.ofNat (shB v k % 256).toNat]
theorem NZ (v:Int) (k:Nat):(Qc v k).length=k:=by
 induction k with
 | zero=>rfl
 | succ k ih=>simp [Qc,ih]
theorem Yn (v:Int) (k:Nat):qw (Qc v (k+1))=qw (Qc v k)++[.int .u8 (shB v k % 256)]:=by
 simp only [Qc,qw,List.map_append,List.map_cons,List.map_nil]
 have h:(((UInt8.ofNat (shB v k % 256).toNat).toNat:Nat):Int)=shB v k % 256:=by
  simp only [UInt8.toNat_ofNat'];omega
 rw [h]
def xw (c:Int) (n:Nat):List UInt8:=Qc (qj c 1099511627776+(n:Int)*1000003) 8
theorem Zn (c:Int) (n:Nat):(xw c n).length=8:=NZ _ _
def qK (without:Int) (n:Nat):Bool:=bits .and .i64 without (wrap64 (2 ^ n)) != 0
def JK (c without:Int):Nat→List (Nat × List UInt8)
 | 0=>[]
 | k+1=>JK c without k++(if qK without (k+1)=true then [] else [(k+1,xw c (k+1))])
theorem Iv (c without:Int) (k:Nat):(JK c without k).length≤k:=by
 induction k with
 | zero=>exact Nat.le_refl _
 | succ k ih=>simp only [JK,List.length_append];split<;>simp<;>omega
def Kr (l:List (Nat × List UInt8)):List Value:=l.flatMap fun x=>[.int .i64 (x.1:Int),strB x.2]
theorem If (a b:List (Nat × List UInt8)):Kr (a++b)=Kr a++Kr b:=by simp [Kr]
theorem Tryz.infoKey:(Tryz.prog.info? 68).map (fun i=>(i.zero,i.size,i.bytes))=some (some (.agg #[.int .i64 0,.string ⟨#[]⟩]),2,24):=by kernel_rfl
theorem Vk {W:World} {b b' e e' s s' n n':Nat} {v v':Value} {xs xs':List Value} (h:W.ownsRow b e s v n xs) (h':W.ownsRow b' e' s' v' n' xs') (he:e≠e') :
  v.ownBlock=none∨v.ownBlock≠v'.ownBlock:=by
 rcases h.2 with ⟨rfl,_⟩|⟨g,cap,cur,rfl,_,hg,_⟩
 ·exact .inl rfl
 ·right
  rcases h'.2 with ⟨rfl,_⟩|⟨g',cap',cur',rfl,_,hg',_⟩
  ·simp [Value.ownBlock]
  ·simp only [Value.ownBlock,ne_eq,Option.some.injEq]
   intro hgg
   subst hgg
   rw [hg] at hg'
   simp at hg'
   exact he hg'.2
theorem Ag (w:World) (C:Array Value) (t:TypeId):∀ (j:Nat) (u:Value),C.toList[j]?=some u→(w.alloc (.cells C t)).cell? ((⟨w.heap.size,0,none⟩:Addr).add j)=some u:=by
 intro j u h
 have:(⟨w.heap.size,0,none⟩:Addr).add j=⟨w.heap.size,j,none⟩:=by unfold Addr.add;split<;>simp_all
 rw [this,World.cell?_alloc_mark]
 simpa using h
theorem Bf {w wr w2:World} {b b' v:Value} {n j:Nat} {V:Int} {xs:List Value} {o:Obj} (hB:Below w.heap.size w wr)
  (hb:wr.ownsRow w.heap.size 5 1 b j (qw (Qc V j))) (hl:wr.ownsRow w.heap.size 68 2 v n xs)
  (hb2:w2.ownsRow w.heap.size 5 1 b' (j+1) (qw (Qc V j)++[.int .u8 (shB V j % 256)])) (hg:(wr.alloc o).grownBy w2 b.ownBlock) :
  w2.ownsRow w.heap.size 5 1 b' (j+1) (qw (Qc V (j+1)))∧w2.ownsRow w.heap.size 68 2 v n xs∧Below w.heap.size w w2:=by
 have hz:=hB.size
 refine ⟨by rw [Yn];exact hb2,(hl.alloc o).kept hg (Vk hl hb (by decide)),?_⟩
 exact (hB.alloc hz o).grown hg (by simp;omega) (fun k hk=>(hb.lt k hk).1)
theorem LE {w wr w2:World} {v v':Value} {n k:Nat} {c without:Int} {o:Obj} (hB:Below w.heap.size w wr) (hn:n=(JK c without k).length) (hob:qK without (k+1)=false)
  (hl:wr.ownsRow w.heap.size 68 2 v n (Kr (JK c without k)))
  (hl2:w2.ownsRow w.heap.size 68 2 v' (n+1) (Kr (JK c without k)++[.int .i64 ((k:Int)+1),strB (xw c (k+1))])) (hg:(wr.alloc o).grownBy w2 v.ownBlock) :
  w2.ownsRow w.heap.size 68 2 v' (JK c without (k+1)).length (Kr (JK c without (k+1)))∧Below w.heap.size w w2:=by
 have hz:=hB.size
 refine ⟨?_,(hB.alloc hz o).grown hg (by simp;omega) (fun k hk=>(hl.lt k hk).1)⟩
 subst hn
 simp only [JK,hob,Bool.false_eq_true,if_false,If,List.length_append,List.length_cons,List.length_nil]
 exact hl2
theorem AD (c without:Int) (w:World) (h0:-9223372036854775808≤c) (h1:c≤9223372036854775807) :
  Calls Tryz.prog 11 #[.int .i64 c,.int .i64 without] w fun e w'=>∃ v,e=.returned v∧w'.ownsRow w.heap.size 68 2 v (JK c without 5).length (Kr (JK c without 5))∧Below w.heap.size w w':=by
 obtain ⟨i0,hi,hz0,hz1,hz2⟩:=info_parts Tryz.infoU8
 obtain ⟨i1,hi1,hy0,hy1,hy2⟩:=info_parts Tryz.infoKey
 go_enter Tryz.func11,Tryz.ntmps11
 go_wp2
 go_loopw [5,6] (fun v i wr=>∃ k:Nat,k≤5∧i=.int .i64 ((k:Int)+1)∧wr.ownsRow w.heap.size 68 2 v (JK c without k).length (Kr (JK c without k))∧Below w.heap.size w wr)
  (fun _ i _=>7 - (intOf i).toNat)
 case atStart=>exact ⟨0,Nat.zero_le _,rfl,World.ownsRow_nil _ _ _ _,Below.refl _ _⟩
 case round =>
  obtain ⟨k,hk,rfl,hown,hB⟩:=hrel
  by_cases hlt:k < 5
  ·cases hob:qK without (k+1) with
   | true =>
    have hob2:(bits BinOp.and IntKind.i64 without (wrap64 (2 ^ (k+1))) != 0)=true:=hob
    have HR:Hid (JK c without (k+1)=JK c without k):=by simp [Hid,JK,hob]
    clear hob
    go_wp2
    go_roundw
    case rel=>exact ⟨k+1,by omega,by go_num,by rw [HR.out];exact hown,hB⟩
    case measure=>simp [intOf];omega
   | false =>
    have hob2:(bits BinOp.and IntKind.i64 without (wrap64 (2 ^ (k+1))) != 0)=false:=hob
    have Hob:=hid hob
    clear hob
    have hrl:=Iv c without k
    obtain ⟨hp0,hp1⟩:=qD c 1099511627776 (by decide)
    go_wp2_with fail
    refine (Jn c _ _ h0 h1 (by decide) (by decide)).mono ?_
    rintro e wx ⟨rfl,rfl⟩
    have HV:Hid (xw c (k+1)=Qc (qj c 1099511627776+((k:Int)+1)*1000003) 8):=rfl
    have hV0:0≤qj c 1099511627776+((k:Int)+1)*1000003:=by omega
    have hV1:qj c 1099511627776+((k:Int)+1)*1000003≤2000000000000:=by omega
    go_wp2_with fail
    generalize qj c 1099511627776+((k:Int)+1)*1000003=V at *
    go_loopw [7,8,9] (fun t b i wr=>∃ j:Nat,j≤8∧i=.int .i64 (j:Int)∧t=.int .i64 (shB V j)∧wr.ownsRow w.heap.size 5 1 b j (qw (Qc V j))∧wr.ownsRow w.heap.size 68 2 u5 (JK c without k).length (Kr (JK c without k))∧Below w.heap.size w wr)
     (fun _ _ i _=>8 - (intOf i).toNat)
    case atStart=>exact ⟨0,Nat.zero_le _,rfl,rfl,World.ownsRow_nil _ _ _ _,hown,hB⟩
    case round =>
     clear hown hB
     obtain ⟨j,hj,rfl,rfl,hb,hown,hB⟩:=hrel
     obtain ⟨hs0,hs1⟩:=PI V hV0 hV1 j
     by_cases hj8:j < 8
     ·have HS:Hid (shB V (j+1)=shB V j / 31):=rfl
      go_wp2_with (at_builtin;refine wpList_append_own _ rfl (.tmp 28) (.tmp 31) 64 rfl w.heap.size 5 i0 (.int .u8 0) 1 1 Tryz.underlying64 hi hz0 hz1 hz2 rfl (by decide) _ _ _ rfl (hb.alloc _) ⟨_,0,none⟩ 1 1 [.int .u8 (shB V j % 256)] rfl rfl ?c1 ?c2 ?c3 ?c4 ?c5 ?_)
      case c1=>exact Ag wr #[.int .u8 (shB V j % 256)] 5
      case c2=>intro u hu;simp at hu;subst hu;rfl
      case c3=>unfold maxLen;omega
      case c4=>omega
      case c5=>have:=hB.size;simp;omega
      intro b2 w2 hb2 hg2 _
      have HR:=hid (Bf hB hb hown hb2 hg2)
      clear hb2 hg2 hB hb hown
      go_wp2
      go_roundw
      case rel=>exact ⟨j+1,by omega,by go_num,by rw [HS.out],HR.out.1,HR.out.2.1,HR.out.2.2⟩
      case measure=>simp [intOf];omega
     ·have hj8':j=8:=by omega
      subst hj8'
      rw [← HV.out] at hb
      have hcv:=Km hb
      have hsl:=Zn c (k+1)
      have Hsl:=hid hsl
      clear hsl hj8
      generalize hsec:xw c (k+1)=sec at *
      have Hsec:=hid hsec
      clear hsec
      go_wp2_with (at_builtin;refine wpList_append_own _ rfl (.tmp 35) (.tmp 40) 40 rfl w.heap.size 68 i1 (.agg #[.int .i64 0,.string ⟨#[]⟩]) 2 24 Tryz.underlying40 hi1 hy0 hy1 hy2 rfl (by decide) _ _ _ rfl (hown.alloc _) ⟨_,0,none⟩ 1 1 [.int .i64 ((k:Int)+1),strB sec] rfl rfl ?c1 ?c2 ?c3 ?c4 ?c5 ?_)
      case c1=>exact Ag wr #[.int .i64 ((k:Int)+1),strB sec] 68
      case c2=>intro u hu;simp at hu;rcases hu with rfl|rfl<;>rfl
      case c3=>unfold maxLen;omega
      case c4=>omega
      case c5=>have:=hB.size;simp;omega
      intro v2 w2 hl2 hg2 _
      have HR:=hid (LE hB rfl Hob.out hown (by rw [Hsec.out];exact hl2) hg2)
      clear hl2 hg2 hB hown hcv hb
      go_wp2
      go_roundw
      case rel=>exact ⟨k+1,by omega,by go_num,HR.out.1,HR.out.2⟩
      case measure=>simp [intOf];omega
  ·have hk5:k=5:=by omega
   subst hk5
   go_wp2
   go_ret
   exact ⟨_,rfl,hown,hB⟩
end
section
def atB (raw:List Int) (i:Nat):Int:=raw.getD (i % raw.length) 0
def Xy (x:Int):Prop:=-9223372036854775808≤x∧x≤9223372036854775807
theorem YZ (raw:List Int) (i:Nat) (h:∀ x ∈ raw,Xy x):Xy (atB raw i):=by
 unfold atB
 rw [List.getD_eq_getElem?_getD]
 cases hq:raw[i % raw.length]? with
 | none=>simp [Xy]
 | some x=>exact h x (List.mem_of_getElem? hq)
def Kf (v:Int):Nat→Int
 | 0=>v
 | k+1=>Kf v k / 3
theorem IT (v:Int) (h0:0≤v) (h1:v≤1099511627776) (k:Nat):0≤Kf v k∧Kf v k≤1099511627776:=by
 induction k with
 | zero=>exact ⟨h0,h1⟩
 | succ k ih=>obtain ⟨a,b⟩:=ih;simp only [Kf];omega
def ZT (v:Int):Nat→List UInt8
 | 0=>[]
 | k+1=>ZT v k++[byB (97+Kf v k % 3)]
theorem Yt (v:Int) (k:Nat):(ZT v k).length=k:=by
 induction k with
 | zero=>rfl
 | succ k ih=>simp [ZT,ih]
def ZE (c:Int):List UInt8:=ZT (qj c 1099511627776 / 13) (qj c 1099511627776 % 13).toNat
theorem Az (c:Int):(ZE c).length≤12:=by
 unfold ZE;rw [Yt];omega
def zA (kind c:Int):CellB :=
 if qj c 1099511627776 % 5=0 then ⟨true,0,[]⟩
 else if kind=1 then ⟨false,0,ZE (qj c 1099511627776 / 5)⟩
 else if qj c 1099511627776 % 5=1 then ⟨false,c,[]⟩ else ⟨false,qj c 1099511627776 / 5 % 40,[]⟩
theorem IP (kind c:Int) (hk:kind=0∨kind=1) (hc:Xy c):xh kind (zA kind c)=true∧Xy (zA kind c).int:=by
 have ht:=Az (qj c 1099511627776 / 5)
 unfold zA
 split
 ·exact ⟨by simp [xh],by simp [Xy]⟩
 ·split
  ·rename_i h;subst h;exact ⟨by simp [xh,ht],by simp [Xy]⟩
  ·rename_i h
   have h0:kind=0:=by omega
   subst h0
   split
   ·exact ⟨by simp [xh],hc⟩
   ·exact ⟨by simp [xh],by simp only [Xy];omega⟩
def Xq (i:Nat):List UInt8:=[99,UInt8.ofNat (97+i)]
def qB (raw:List Int):Nat:=(qj (atB raw 1) 20).toNat
def Jj (raw:List Int):Nat:=(1+qj (atB raw 0) 4).toNat
def Xm (raw:List Int) (i:Nat):Int:=qj (atB raw (6+i)) 2
def Zv (raw:List Int) (i n:Nat):ColB :=
 ⟨Xq i,Xm raw i,qj (atB raw (10+i)) 5,(List.range n).map fun k=>zA (Xm raw i) (atB raw (14+i*qB raw+k))⟩
def Qb (raw:List Int) (k:Nat):List ColB:=(List.range k).map fun i=>Zv raw i (qB raw)
def Uz (raw:List Int):PlanB:=⟨1+qj (atB raw 3) 12,1+qj (atB raw 4) 6,5,decide (qj (atB raw 5) 2=1)⟩
def qo (raw:List Int) (pre:List UInt8):JobB:=⟨Qb raw (Jj raw),Uz raw,pre.take 20,qj (atB raw 2) 65536⟩
theorem Ka (raw:List Int):1≤Jj raw∧Jj raw≤4:=by
 have:=qD (atB raw 0) 4 (by decide)
 unfold Jj;omega
theorem Kc (raw:List Int):qB raw≤19:=by
 have:=qD (atB raw 1) 20 (by decide)
 unfold qB;omega
theorem Ke (raw:List Int) (i:Nat):Xm raw i=0∨Xm raw i=1:=by
 have:=qD (atB raw (6+i)) 2 (by decide)
 unfold Xm;omega
theorem XE (raw:List Int) (k:Nat):(Qb raw k).length=k:=by simp [Qb]
theorem ZM (raw:List Int) (k i:Nat) (h:i < (Qb raw k).length):(Qb raw k)[i]=Zv raw i (qB raw):=by simp [Qb]
theorem Cw {i:Nat} (h:i < 4):zG (Xq i)=true:=by
 have:i=0∨i=1∨i=2∨i=3:=by omega
 rcases this with rfl|rfl|rfl|rfl<;>decide
theorem AZ {i k:Nat} (hi:i < 4) (hk:k < 4) (h:Xq i=Xq k):i=k:=by
 have:i=0∨i=1∨i=2∨i=3:=by omega
 have:k=0∨k=1∨k=2∨k=3:=by omega
 rcases ‹i=0∨_› with rfl|rfl|rfl|rfl<;>rcases ‹k=0∨_› with rfl|rfl|rfl|rfl<;>first|rfl|(exfalso;revert h;decide)
theorem Av (t:List ColB) (n:Nat) (hn:n≤t.length) (h4:t.length≤4) (ht:∀ k (hk:k < t.length),(t[k]).name=Xq k∧((t[k]).kind=0∨(t[k]).kind=1)∧0≤(t[k]).key∧(t[k]).key≤9):Jl t n=true:=by
 induction n with
 | zero=>rfl
 | succ n ih =>
  have hlt:n < t.length:=by omega
  obtain ⟨h1,h2,h3,h4'⟩:=ht n hlt
  simp only [Jl,ih (by omega),Bool.true_and]
  rw [List.getElem?_eq_getElem hlt]
  simp only [QL,h1,Cw (show n < 4 by omega),Bool.true_and,Bool.and_eq_true,decide_eq_true_eq,Bool.not_eq_true']
  refine ⟨⟨⟨by omega,by omega⟩,h3,h4'⟩,?_⟩
  unfold zf
  rw [List.any_eq_false]
  intro c hc
  obtain ⟨k,hk,rfl⟩:=List.mem_iff_getElem.1 hc
  rw [List.length_take] at hk
  rw [List.getElem_take,(ht k (by omega)).1]
  simp only [beq_iff_eq]
  intro e
  have:=AZ (by omega) (by omega) e
  omega
theorem Lv (t:List ColB) (n:Nat) (h1:1≤t.length) (h4:t.length≤4) (hn:n≤60) (ht:∀ k (hk:k < t.length),(t[k]).name=Xq k∧((t[k]).kind=0∨(t[k]).kind=1)∧0≤(t[k]).key∧(t[k]).key≤9)
  (hc:∀ c ∈ t,c.cells.length=n∧∀ x ∈ c.cells,xh c.kind x=true∧Xy x.int):GoodT t:=by
 have hr:qb t=n:=by
  cases t with
  | nil=>simp at h1
  | cons c l=>exact (hc c (List.mem_cons_self ..)).1
 refine ⟨?_,fun c hc' x hx=>((hc c hc').2 x hx).2⟩
 simp only [xy,jX,Bool.and_eq_true,decide_eq_true_eq,List.all_eq_true]
 refine ⟨⟨Av t _ (Nat.le_refl _) h4 ht,h1,by omega⟩,fun c hc'=>?_⟩
 obtain ⟨k,hk,rfl⟩:=List.mem_iff_getElem.1 hc'
 obtain ⟨a,b⟩:=hc _ hc'
 have h2:=(ht k hk).2.1
 simp only [qC,Bool.and_eq_true,Bool.or_eq_true,decide_eq_true_eq,List.all_eq_true]
 exact ⟨⟨⟨h2,by omega⟩,fun x hx=>(b x hx).1⟩,by rw [hr];exact a⟩
theorem Tx {p:PlanB} (h:(1≤p.group∧p.group≤60)∧((1≤p.page∧p.page≤60)∧(1≤p.foot∧p.foot≤9))):qM p=true:=by
 simp only [qM,Bool.and_eq_true,decide_eq_true_eq]
 exact h
theorem Mp (raw:List Int):qM (Uz raw)=true:=by
 have h1:=qD (atB raw 3) 12 (by decide)
 have h2:=qD (atB raw 4) 6 (by decide)
 refine Tx ⟨⟨?_,?_⟩,⟨?_,?_⟩,?_,?_⟩<;>simp only [Uz]<;>omega
def jV (c without:Int):List KeyB:=(JK c without 5).map fun x=>⟨(x.1:Int),x.2⟩
end
end Go.Proofs.YthhpbhpfagoapabGreat
