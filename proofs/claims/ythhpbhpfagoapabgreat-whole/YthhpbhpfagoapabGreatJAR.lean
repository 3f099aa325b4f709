import Derived.Test.YthhpbhpfagoapabGreatJoin
import Derived.Test.YthhpbhpfagoapabGreatJAK
import Derived.Test.YthhpbhpfagoapabGreatJAJ
import Derived.Test.YthhpbhpfagoapabGreatJAO
import Derived.ProofKit
import Derived.OpenShut
import Derived.Deep.Slices
import Derived.Deep.Strs
import Derived.SizedLaws
import Derived.Test.YthhpbhpfagoapabGreatJAM
import Derived.OwnWalk
namespace Go.Proofs.YthhpbhpfagoapabGreat
set_option linter.unusedVariables false
set_option linter.unusedSimpArgs false
set_option maxRecDepth 100000
set_option maxHeartbeats 16000000
section
open Go.RowKit
def qi (c n:Int):Int:=(if c < 0 then -(c+1) else c) % n
theorem qB (c n:Int) (hn:0 < n):0≤qi c n∧qi c n < n:=⟨Int.emod_nonneg _ (by omega),Int.emod_lt_of_pos _ hn⟩
theorem Jk (c n:Int) (w:World) (h0:-9223372036854775808≤c) (h1:c≤9223372036854775807) (hn:0 < n) (hn1:n≤9223372036854775807) :
  Calls Tryz.prog 8 #[.int .i64 c,.int .i64 n] w fun e w'=>e=.returned (.int .i64 (qi c n))∧w'=w:=by
 have hd:(n == 0)=false:=by simp;omega
 by_cases hc:c < 0
 ·have HE:Hid (qi c n=(-(c+1)) % n):=by simp [Hid,qi,hc]
  go_enter Tryz.func8,Tryz.ntmps8
  go_wp2
  go_ret
  exact ⟨xb (by rw [HE.out,← Int.neg_tmod,Int.tmod_eq_emod_of_nonneg (by omega)]),rfl⟩
 ·have HE:Hid (qi c n=c % n):=by simp [Hid,qi,hc]
  go_enter Tryz.func8,Tryz.ntmps8
  go_wp2
  go_ret
  exact ⟨xb HE.out.symm,rfl⟩
def shB (v:Int):Nat→Int
 | 0=>v
 | k+1=>shB v k / 31
theorem Pk (v:Int) (h0:0≤v) (h1:v≤2000000000000) (k:Nat):0≤shB v k∧shB v k≤2000000000000:=by
 induction k with
 | zero=>exact ⟨h0,h1⟩
 | succ k ih=>obtain ⟨a,b⟩:=ih;simp only [shB];omega
def JX (v:Int):Nat→List UInt8
 | 0=>[]
 | k+1=>JX v k++[UInt8.ofNat (shB v k % 256).toNat]
theorem Ri (v:Int) (k:Nat):(JX v k).length=k:=by
 induction k with
 | zero=>rfl
 | succ k ih=>simp [JX,ih]
theorem Yc (v:Int) (k:Nat):qu (JX v (k+1))=qu (JX v k)++[.int .u8 (shB v k % 256)]:=by
 simp only [JX,qu,List.map_append,List.map_cons,List.map_nil]
 have h:(((UInt8.ofNat (shB v k % 256).toNat).toNat:Nat):Int)=shB v k % 256:=by
  simp only [UInt8.toNat_ofNat'];omega
 rw [h]
def xq (c:Int) (n:Nat):List UInt8:=JX (qi c 1099511627776+(n:Int)*1000003) 8
theorem XS (c:Int) (n:Nat):(xq c n).length=8:=Ri _ _
def qI (without:Int) (n:Nat):Bool:=bits .and .i64 without (wrap64 (2 ^ n)) != 0
def JG (c without:Int):Nat→List (Nat × List UInt8)
 | 0=>[]
 | k+1=>JG c without k++(if qI without (k+1)=true then [] else [(k+1,xq c (k+1))])
theorem Ib (c without:Int) (k:Nat):(JG c without k).length≤k:=by
 induction k with
 | zero=>exact Nat.le_refl _
 | succ k ih=>simp only [JG,List.length_append];split<;>simp<;>omega
def Kh (l:List (Nat × List UInt8)):List Value:=l.flatMap fun x=>[.int .i64 (x.1:Int),strB x.2]
theorem EJ (a b:List (Nat × List UInt8)):Kh (a++b)=Kh a++Kh b:=by simp [Kh]
theorem Tryz.infoKey:(Tryz.prog.info? 68).map (fun i=>(i.zero,i.size,i.bytes))=some (some (.agg #[.int .i64 0,.string ⟨#[]⟩]),2,24):=by kernel_rfl
theorem UU {W:World} {b b' e e' s s' n n':Nat} {v v':Value} {xs xs':List Value} (h:W.ownsRow b e s v n xs) (h':W.ownsRow b' e' s' v' n' xs') (he:e≠e') :
  v.ownBlock=none∨v.ownBlock≠v'.ownBlock:=by
 rcases h.2 with ⟨rfl,_⟩|⟨g,cap,cur,rfl,_,hg,_⟩
 ·exact .inl rfl
 ·right
  rcases h'.2 with ⟨rfl,_⟩|⟨g',cap',cur',rfl,_,hg',_⟩
  ·simp [Value.ownBlock]
  ·simp only [Value.ownBlock,ne_eq,Option.some.injEq]
   intro hgg
   subst hgg
   rw [hg] at hg'
   simp at hg'
   exact he hg'.2
theorem Al (w:World) (C:Array Value) (t:TypeId):∀ (j:Nat) (u:Value),C.toList[j]?=some u→(w.alloc (.cells C t)).cell? ((⟨w.heap.size,0,none⟩:Addr).add j)=some u:=by
 intro j u h
 have:(⟨w.heap.size,0,none⟩:Addr).add j=⟨w.heap.size,j,none⟩:=by unfold Addr.add;split<;>simp_all
 rw [this,World.cell?_alloc_mark]
 simpa using h
theorem LB {w wr w2:World} {b b' v:Value} {n j:Nat} {V:Int} {xs:List Value} {o:Obj} (hB:Below w.heap.size w wr)
  (hb:wr.ownsRow w.heap.size 5 1 b j (qu (JX V j))) (hl:wr.ownsRow w.heap.size 68 2 v n xs)
  (hb2:w2.ownsRow w.heap.size 5 1 b' (j+1) (qu (JX V j)++[.int .u8 (shB V j % 256)])) (hg:(wr.alloc o).grownBy w2 b.ownBlock) :
  w2.ownsRow w.heap.size 5 1 b' (j+1) (qu (JX V (j+1)))∧w2.ownsRow w.heap.size 68 2 v n xs∧Below w.heap.size w w2:=by
 have hz:=hB.size
 refine ⟨by rw [Yc];exact hb2,(hl.alloc o).kept hg (UU hl hb (by decide)),?_⟩
 exact (hB.alloc hz o).grown hg (by simp;omega) (fun k hk=>(hb.lt k hk).1)
theorem SO {w wr w2:World} {v v':Value} {n k:Nat} {c without:Int} {o:Obj} (hB:Below w.heap.size w wr) (hn:n=(JG c without k).length) (hob:qI without (k+1)=false)
  (hl:wr.ownsRow w.heap.size 68 2 v n (Kh (JG c without k)))
  (hl2:w2.ownsRow w.heap.size 68 2 v' (n+1) (Kh (JG c without k)++[.int .i64 ((k:Int)+1),strB (xq c (k+1))])) (hg:(wr.alloc o).grownBy w2 v.ownBlock) :
  w2.ownsRow w.heap.size 68 2 v' (JG c without (k+1)).length (Kh (JG c without (k+1)))∧Below w.heap.size w w2:=by
 have hz:=hB.size
 refine ⟨?_,(hB.alloc hz o).grown hg (by simp;omega) (fun k hk=>(hl.lt k hk).1)⟩
 subst hn
 simp only [JG,hob,Bool.false_eq_true,if_false,EJ,List.length_append,List.length_cons,List.length_nil]
 exact hl2
theorem IT (c without:Int) (w:World) (h0:-9223372036854775808≤c) (h1:c≤9223372036854775807) :
  Calls Tryz.prog 11 #[.int .i64 c,.int .i64 without] w fun e w'=>∃ v,e=.returned v∧w'.ownsRow w.heap.size 68 2 v (JG c without 5).length (Kh (JG c without 5))∧Below w.heap.size w w':=by
 obtain ⟨i0,hi,hz0,hz1,hz2⟩:=info_parts Tryz.infoU8
 obtain ⟨i1,hi1,hy0,hy1,hy2⟩:=info_parts Tryz.infoKey
 go_enter Tryz.func11,Tryz.ntmps11
 go_wp2
 go_loopw [5,6] (fun v i wr=>∃ k:Nat,k≤5∧i=.int .i64 ((k:Int)+1)∧wr.ownsRow w.heap.size 68 2 v (JG c without k).length (Kh (JG c without k))∧Below w.heap.size w wr)
  (fun _ i _=>7 - (intOf i).toNat)
 case atStart=>exact ⟨0,Nat.zero_le _,rfl,World.ownsRow_nil _ _ _ _,Below.refl _ _⟩
 case round =>
  obtain ⟨k,hk,rfl,hown,hB⟩:=hrel
  by_cases hlt:k < 5
  ·cases hob:qI without (k+1) with
   | true =>
    have hob2:(bits BinOp.and IntKind.i64 without (wrap64 (2 ^ (k+1))) != 0)=true:=hob
    have HR:Hid (JG c without (k+1)=JG c without k):=by simp [Hid,JG,hob]
    clear hob
    go_wp2
    go_roundw
    case rel=>exact ⟨k+1,by omega,by go_num,by rw [HR.out];exact hown,hB⟩
    case measure=>simp [intOf];omega
   | false =>
    have hob2:(bits BinOp.and IntKind.i64 without (wrap64 (2 ^ (k+1))) != 0)=false:=hob
    have Hob:=hid hob
    clear hob
    have hrl:=Ib c without k
    obtain ⟨hp0,hp1⟩:=qB c 1099511627776 (by decide)
    go_wp2_with fail
    refine (Jk c _ _ h0 h1 (by decide) (by decide)).mono ?_
    rintro e wx ⟨rfl,rfl⟩
    have HV:Hid (xq c (k+1)=JX (qi c 1099511627776+((k:Int)+1)*1000003) 8):=rfl
    have hV0:0≤qi c 1099511627776+((k:Int)+1)*1000003:=by omega
    have hV1:qi c 1099511627776+((k:Int)+1)*1000003≤2000000000000:=by omega
    go_wp2_with fail
    generalize qi c 1099511627776+((k:Int)+1)*1000003=V at *
    go_loopw [7,8,9] (fun t b i wr=>∃ j:Nat,j≤8∧i=.int .i64 (j:Int)∧t=.int .i64 (shB V j)∧wr.ownsRow w.heap.size 5 1 b j (qu (JX V j))∧wr.ownsRow w.heap.size 68 2 u5 (JG c without k).length (Kh (JG c without k))∧Below w.heap.size w wr)
     (fun _ _ i _=>8 - (intOf i).toNat)
    case atStart=>exact ⟨0,Nat.zero_le _,rfl,rfl,World.ownsRow_nil _ _ _ _,hown,hB⟩
    case round =>
     clear hown hB
     obtain ⟨j,hj,rfl,rfl,hb,hown,hB⟩:=hrel
     obtain ⟨hs0,hs1⟩:=Pk V hV0 hV1 j
     by_cases hj8:j < 8
     ·have HS:Hid (shB V (j+1)=shB V j / 31):=rfl
      go_wp2_with (at_builtin;refine wpList_append_own _ rfl (.tmp 28) (.tmp 31) 64 rfl w.heap.size 5 i0 (.int .u8 0) 1 1 Tryz.underlying64 hi hz0 hz1 hz2 rfl (by decide) _ _ _ rfl (hb.alloc _) ⟨_,0,none⟩ 1 1 [.int .u8 (shB V j % 256)] rfl rfl ?c1 ?c2 ?c3 ?c4 ?c5 ?_)
      case c1=>exact Al wr #[.int .u8 (shB V j % 256)] 5
      case c2=>intro u hu;simp at hu;subst hu;rfl
      case c3=>unfold maxLen;omega
      case c4=>omega
      case c5=>have:=hB.size;simp;omega
      intro b2 w2 hb2 hg2 _
      have HR:=hid (LB hB hb hown hb2 hg2)
      clear hb2 hg2 hB hb hown
      go_wp2
      go_roundw
      case rel=>exact ⟨j+1,by omega,by go_num,by rw [HS.out],HR.out.1,HR.out.2.1,HR.out.2.2⟩
      case measure=>simp [intOf];omega
     ·have hj8':j=8:=by omega
      subst hj8'
      rw [← HV.out] at hb
      have hcv:=Ke hb
      have hsl:=XS c (k+1)
      have Hsl:=hid hsl
      clear hsl hj8
      generalize hsec:xq c (k+1)=sec at *
      have Hsec:=hid hsec
      clear hsec
      go_wp2_with (at_builtin;refine wpList_append_own _ rfl (.tmp 35) (.tmp 40) 40 rfl w.heap.size 68 i1 (.agg #[.int .i64 0,.string ⟨#[]⟩]) 2 24 Tryz.underlying40 hi1 hy0 hy1 hy2 rfl (by decide) _ _ _ rfl (hown.alloc _) ⟨_,0,none⟩ 1 1 [.int .i64 ((k:Int)+1),strB sec] rfl rfl ?c1 ?c2 ?c3 ?c4 ?c5 ?_)
      case c1=>exact Al wr #[.int .i64 ((k:Int)+1),strB sec] 68
      case c2=>intro u hu;simp at hu;rcases hu with rfl|rfl<;>rfl
      case c3=>unfold maxLen;omega
      case c4=>omega
      case c5=>have:=hB.size;simp;omega
      intro v2 w2 hl2 hg2 _
      have HR:=hid (SO hB rfl Hob.out hown (by rw [Hsec.out];exact hl2) hg2)
      clear hl2 hg2 hB hown hcv hb
      go_wp2
      go_roundw
      case rel=>exact ⟨k+1,by omega,by go_num,HR.out.1,HR.out.2⟩
      case measure=>simp [intOf];omega
  ·have hk5:k=5:=by omega
   subst hk5
   go_wp2
   go_ret
   exact ⟨_,rfl,hown,hB⟩
end
section
structure ColB where
 name:List UInt8
 kind:Int
 key:Int
 cells:List CellB
structure KeyB where
 number:Int
 secret:List UInt8
structure PlanB where
 group:Int
 page:Int
 foot:Int
 told:Bool
structure JobB where
 table:List ColB
 plan:PlanB
 pre:List UInt8
 draw:Int
structure SealB where
 secret:List UInt8
 nonce:List UInt8
 extra:List UInt8
 body:List UInt8
def zz (s:List UInt8):Bool:=s.all (fun b=>decide (97≤b.toNat) && decide (b.toNat≤122)) && (decide (1≤s.length) && decide (s.length≤8))
def QA (c:ColB):Bool:=zz c.name && ((decide (0≤c.kind) && decide (c.kind≤1)) && (decide (0≤c.key) && decide (c.key≤9)))
def zb (t:List ColB) (s:List UInt8):Bool:=t.any fun c=>c.name == s
def Jd (t:List ColB):Nat→Bool
 | 0=>true
 | k+1=>Jd t k && (match t[k]? with|some c=>QA c && !zb (t.take k) c.name|none=>true)
def qc (t:List ColB):Bool:=Jd t t.length && (decide (1≤t.length) && decide (t.length≤6))
def qa:List ColB→Nat
 | []=>0
 | c :: _=>c.cells.length
def xz (t:List ColB):Bool:=qc t && t.all fun c=>qA c.kind c.cells && decide (c.cells.length=qa t)
def qP (p:PlanB):Bool:=(decide (1≤p.group) && decide (p.group≤60)) && ((decide (1≤p.page) && decide (p.page≤60)) && (decide (1≤p.foot) && decide (p.foot≤9)))
def jw (r:List KeyB) (n:Int):Bool:=r.any fun k=>decide (k.number=n)
def QM (k:KeyB):Bool:=(decide (1≤k.number) && decide (k.number≤9)) && decide (k.secret.length=8)
def XT (r:List KeyB):Nat→Bool
 | 0=>true
 | k+1=>XT r k && (match r[k]? with|some c=>QM c && !jw (r.take k) c.number|none=>true)
def xH (r:List KeyB):Bool:=XT r r.length
def KM (r:List KeyB) (n:Int):Option (List UInt8):=(r.find? fun k=>decide (k.number=n)).map (·.secret)
def ji (r:List KeyB) (n:Int):List UInt8:=(KM r n).getD []
def Kp (j:JobB) (r:List KeyB):Bool:=!jw r j.plan.foot || j.table.any fun c=>decide (0 < c.key) && !jw r c.key
def zD (j:JobB) (r:List KeyB):Int :=
 if xz j.table=false then 5
 else if (qP j.plan && (decide (j.pre.length≤20) && (decide (0≤j.draw) && decide (j.draw≤65535))))=false then 7
 else if xH r=false then 1
 else if Kp j r=true then 8 else 0
def jR (pre:List UInt8) (sort:UInt8) (g c p:Nat):List UInt8:=xB pre++[sort]++qQ (g:Int)++qQ (c:Int)++qQ (p:Int)
def jp (n size i:Nat):Nat:=min size (n - i*size)
def jX (n size:Nat):Nat:=(n+size - 1) / size
structure SpotB where
 sort:UInt8
 g:Nat
 c:Nat
 p:Nat
 start:Nat
 many:Nat
def jt (P g c start n:Nat) (k:Nat):List SpotB:=(List.range k).map fun p=>⟨80,g,c,p,start+p*P,jp n P p⟩
def jh (R G P g c:Nat):List SpotB:=jt P g c (g*G) (jp R G g) (jX (jp R G g) P)++[⟨77,g,c,0,g*G,jp R G g⟩]
def jr (R G P g C:Nat):List SpotB:=(List.range C).flatMap fun c=>jh R G P g c
def jH (R C G P n:Nat):List SpotB:=(List.range n).flatMap fun g=>jr R G P g C
def qk (R C G P:Nat):List SpotB:=jH R C G P (jX R G)
def QB (l:List CellB):Int→Int:=fun x=>l.foldl (fun m c=>if c.int < m then c.int else m) x
def ZG (l:List CellB):Int→Int:=fun x=>l.foldl (fun m c=>if m < c.int then c.int else m) x
def qR:List CellB→Int
 | []=>0
 | c :: _=>c.int
def Qf (kind:Int) (l:List CellB):List UInt8 :=
 uB (l.length - (jm l).length)++if kind=0∧jm l≠[] then [1]++zB (QB (jm l) (qR (jm l)))++zB (ZG (jm l) (qR (jm l))) else [0]
def jg (t:List ColB) (c:Nat):ColB:=t.getD c ⟨[],0,0,[]⟩
def xf (t:List ColB) (s:SpotB):List UInt8 :=
 if s.sort=77 then Qf (jg t s.c).kind (((jg t s.c).cells.drop s.start).take s.many) else xK (jg t s.c).kind (((jg t s.c).cells.drop s.start).take s.many)
structure StB where
 out:List UInt8
 log:List SealB
def zW (plain:List UInt8) (st:StB):StB:=⟨st.out++(qQ (plain.length:Int)++plain),st.log⟩
def xo (draw:Int) (n:Nat):List UInt8:=qQ draw++qQ (n:Int)
def zw (draw:Int) (secret extra plain:List UInt8) (st:StB):StB :=
 ⟨st.out++(qQ ((xX secret (xo draw st.log.length) extra plain).length:Int)++(xo draw st.log.length++xX secret (xo draw st.log.length) extra plain)),
  st.log++[⟨secret,xo draw st.log.length,extra,xX secret (xo draw st.log.length) extra plain⟩]⟩
def Qs (j:JobB) (r:List KeyB) (key:Int) (sort:UInt8) (g c p:Nat) (plain:List UInt8) (st:StB):StB :=
 if key=0 then zW plain st else zw j.draw (ji r key) (jR j.pre sort g c p) plain st
def zL (j:JobB) (r:List KeyB) (st:StB) (s:SpotB):StB:=Qs j r (jg j.table s.c).key s.sort s.g s.c s.p (xf j.table s) st
def qx (j:JobB) (r:List KeyB) (st:StB) (l:List SpotB):StB:=l.foldl (zL j r) st
def xP (b:Bool):List SpotB→Bool
 | []=>b
 | s :: l=>xP (decide (s.sort=77)) l
def qM (j:JobB) (r:List KeyB):StB→Bool→List SpotB→List Nat
 | st,b,[]=>[]
 | st,b,s :: l=>(if b=true then [st.out.length] else [])++qM j r (zL j r st s) (decide (s.sort=77)) l
def qn (c:ColB):List UInt8:=xB c.name++uB c.kind.toNat++uB c.key.toNat
def qo (rows:Nat) (p:PlanB) (t:List ColB) (places:List Nat):List UInt8 :=
 uB rows++uB p.group.toNat++uB p.page.toNat++uB p.foot.toNat++uB t.length++t.flatMap qn++places.flatMap uB
def zt (p:PlanB):List UInt8:=[67,70]++[if p.told=true then 79 else 69]++[byB p.foot]
def qE (j:JobB):List SpotB:=qk (qa j.table) j.table.length j.plan.group.toNat j.plan.page.toNat
def xw (j:JobB) (r:List KeyB):StB:=qx j r ⟨zt j.plan,[]⟩ (qE j)
def zE (j:JobB) (r:List KeyB):List Nat:=qM j r ⟨zt j.plan,[]⟩ true (qE j)
def xY (j:JobB) (r:List KeyB):List UInt8:=qo (qa j.table) j.plan j.table (zE j r)
def zY (j:JobB) (r:List KeyB) (f:List UInt8) (st:StB):StB :=
 if j.plan.told=true then zw j.draw (ji r j.plan.foot) (jR j.pre 83 0 0 0++f) [] (zW f st)
 else zw j.draw (ji r j.plan.foot) (jR j.pre 70 0 0 0) f st
def zu (j:JobB) (r:List KeyB):List UInt8 :=
 (zY j r (xY j r) (xw j r)).out++(qQ (((zY j r (xY j r) (xw j r)).out.length - (xw j r).out.length:Nat):Int)++[67,70])
def Jf (j:JobB) (r:List KeyB):List SealB:=(zY j r (xY j r) (xw j r)).log
/- The laws of these. -/
theorem Jj (l m:List SpotB):∀ b,xP b (l++m)=xP (xP b l) m:=by
 induction l with
 | nil=>intro b;rfl
 | cons s l ih=>intro b;simp only [List.cons_append,xP];exact ih _
theorem XR (j:JobB) (r:List KeyB) (st:StB) (l m:List SpotB):qx j r st (l++m)=qx j r (qx j r st l) m:=by
 unfold qx;rw [List.foldl_append]
theorem zS (j:JobB) (r:List KeyB) (l m:List SpotB):∀ st b,qM j r st b (l++m)=qM j r st b l++qM j r (qx j r st l) (xP b l) m:=by
 induction l with
 | nil=>intro st b;rfl
 | cons s l ih =>
  intro st b
  simp only [List.cons_append,qM,xP,List.append_assoc]
  rw [ih]
  rfl
theorem Ef (j:JobB) (r:List KeyB) (l:List SpotB) (h:∀ s ∈ l,s.sort=80):∀ st,qM j r st false l=[]:=by
 induction l with
 | nil=>intro st;rfl
 | cons s l ih =>
  intro st
  have h1:=h s (List.mem_cons_self ..)
  simp only [qM,h1]
  exact ih (fun x hx=>h x (List.mem_cons_of_mem _ hx)) _
theorem Ud (l:List SpotB) (h:∀ s ∈ l,s.sort=80):l≠[]→∀ b,xP b l=false:=by
 induction l with
 | nil=>intro h0;exact absurd rfl h0
 | cons s l ih =>
  intro _ b
  have h1:=h s (List.mem_cons_self ..)
  simp only [xP,h1]
  by_cases hl:l=[]
  ·subst hl;rfl
  ·exact ih (fun x hx=>h x (List.mem_cons_of_mem _ hx)) hl _
theorem Zj (P g c start n k:Nat):∀ s ∈ jt P g c start n k,s.sort=80:=by
 intro s hs
 simp only [jt,List.mem_map] at hs
 obtain ⟨p,_,rfl⟩:=hs
 rfl
theorem Vr (j:JobB) (r:List KeyB) (st:StB) (R G P g c:Nat):qM j r st true (jh R G P g c)=[st.out.length]:=by
 unfold jh
 have hs:=Zj P g c (g*G) (jp R G g) (jX (jp R G g) P)
 generalize jt P g c (g*G) (jp R G g) (jX (jp R G g) P)=L at *
 cases L with
 | nil=>simp [qM]
 | cons s l =>
  have h1:=hs s (List.mem_cons_self ..)
  have hl:∀ x ∈ l,x.sort=80:=fun x hx=>hs x (List.mem_cons_of_mem _ hx)
  simp only [List.cons_append,qM,h1,if_true]
  rw [zS]
  have e1:(decide ((80:UInt8)=77))=false:=by decide
  rw [e1,Ef j r l hl]
  have e2:xP false l=false:=by
   by_cases h0:l=[]
   ·subst h0;rfl
   ·exact Ud l hl h0 _
  rw [e2]
  simp [qM]
theorem NF (b:Bool) (R G P g c:Nat):xP b (jh R G P g c)=true:=by
 unfold jh
 rw [Jj]
 rfl
theorem Qz (R G P g C:Nat):xP true (jr R G P g C)=true:=by
 unfold jr
 induction C with
 | zero=>rfl
 | succ C ih=>rw [List.range_succ,List.flatMap_append,Jj,ih];simp only [List.flatMap_cons,List.flatMap_nil,List.append_nil];exact NF _ _ _ _ _ _
theorem Zp (R C G P n:Nat):xP true (jH R C G P n)=true:=by
 unfold jH
 induction n with
 | zero=>rfl
 | succ n ih=>rw [List.range_succ,List.flatMap_append,Jj,ih];simp only [List.flatMap_cons,List.flatMap_nil,List.append_nil];exact Qz _ _ _ _ _
theorem zM (R G P g C:Nat):jr R G P g (C+1)=jr R G P g C++jh R G P g C:=by
 unfold jr;rw [List.range_succ,List.flatMap_append];simp
theorem zJ (R C G P n:Nat):jH R C G P (n+1)=jH R C G P n++jr R G P n C:=by
 unfold jH;rw [List.range_succ,List.flatMap_append];simp
theorem Qi (P g c start n k:Nat):jt P g c start n (k+1)=jt P g c start n k++[⟨80,g,c,k,start+k*P,jp n P k⟩]:=by
 unfold jt;rw [List.range_succ,List.map_append];rfl
theorem Jr {n size i:Nat} (hs:1≤size):i < jX n size ↔ i*size < n:=by
 unfold jX
 rw [Nat.lt_div_iff_mul_lt (by omega)]
 constructor<;>intro h<;>omega
theorem JZ {n size:Nat} (hs:1≤size):jX n size≤n:=by
 rcases Nat.lt_or_ge n (jX n size) with h|h
 ·have h2:=(Jr (n:=n) (i:=n) hs).1 h
  have:n*1≤n*size:=Nat.mul_le_mul (Nat.le_refl _) hs
  omega
 ·exact h
theorem Ju (n size i:Nat):jp n size i≤size∧jp n size i≤n:=by unfold jp;omega
theorem Xv (n size i:Nat) (h:i*size < n):i*size+jp n size i=min (i*size+size) n:=by unfold jp;omega
theorem KR {n size i:Nat} (hs:1≤size):0 < jp n size i ↔ i*size < n:=by unfold jp;omega
theorem Pq (R G P g c:Nat) (hP:1≤P) (hG:G≤60):(jh R G P g c).length≤61:=by
 unfold jh jt
 have h1:=JZ (n:=jp R G g) hP
 have h2:=(Ju R G g).1
 simp;omega
theorem YD (R G P g C:Nat) (hP:1≤P) (hG:G≤60):(jr R G P g C).length≤61*C:=by
 induction C with
 | zero=>simp [jr]
 | succ C ih=>have:=Pq R G P g C hP hG;rw [zM,List.length_append];omega
theorem YA (R C G P n:Nat) (hP:1≤P) (hG:G≤60) (hC:C≤6):(jH R C G P n).length≤366*n:=by
 induction n with
 | zero=>simp [jH]
 | succ n ih=>have:=YD R G P n C hP hG;rw [zJ,List.length_append];omega
theorem VG (kind:Int) (v:List CellB) (k:Nat):(jQ kind v (k+1)).length≤(Xr (ZO kind 0) v).length:=by
 induction k with
 | zero=>simp [jQ]
 | succ k ih =>
  rw [jQ]
  split
  ·rename_i h
   rcases h with h|h
   ·omega
   ·omega
  ·exact ih
theorem St (kind:Int) (l:List CellB) (h:∀ c ∈ l,qG c) (hn:l.length≤60):(xK kind l).length≤3500:=by
 have h1:=Uz l hn
 have hv:(jm l).length≤60:=Nat.le_trans (List.length_filter_le ..) hn
 have hs:∀ c ∈ jm l,qG c:=fun c hc=>h c (List.mem_filter.1 hc).1
 have h2:(jQ kind (jm l) 3).length≤_:=VG kind (jm l) 2
 have h3:(Xr (ZO kind 0) (jm l)).length≤2401:=by
  have h4:=zC (ZO kind 0) (jm l) hs hv (jm l).length
  have h5:ZO kind 0≠3:=by unfold ZO;split<;>simp
  simp only [Xr,qJ,if_neg h5,List.length_cons,List.nil_append]
  omega
 unfold xK
 split
 ·omega
 ·rw [List.length_append];omega
theorem Ub (l:List CellB) (h:∀ c ∈ l,qG c):∀ x:Int,(-9223372036854775808≤x∧x≤9223372036854775807)→-9223372036854775808≤QB l x∧QB l x≤9223372036854775807:=by
 induction l with
 | nil=>intro x hx;exact hx
 | cons c l ih =>
  intro x hx
  obtain ⟨c0,c1,_⟩:=h c (List.mem_cons_self ..)
  refine ih (fun y hy=>h y (List.mem_cons_of_mem _ hy)) _ ?_
  dsimp only
  split<;>omega
theorem UO (l:List CellB) (h:∀ c ∈ l,qG c):∀ x:Int,(-9223372036854775808≤x∧x≤9223372036854775807)→-9223372036854775808≤ZG l x∧ZG l x≤9223372036854775807:=by
 induction l with
 | nil=>intro x hx;exact hx
 | cons c l ih =>
  intro x hx
  obtain ⟨c0,c1,_⟩:=h c (List.mem_cons_self ..)
  refine ih (fun y hy=>h y (List.mem_cons_of_mem _ hy)) _ ?_
  dsimp only
  split<;>omega
theorem Qv (l:List CellB) (h:∀ c ∈ l,qG c):-9223372036854775808≤qR l∧qR l≤9223372036854775807:=by
 cases l with
 | nil=>simp [qR]
 | cons c l=>obtain ⟨c0,c1,_⟩:=h c (List.mem_cons_self ..);exact ⟨c0,c1⟩
theorem IE (kind:Int) (l:List CellB) (h:∀ c ∈ l,qG c) (hn:l.length≤60):(Qf kind l).length≤40:=by
 have hs:∀ c ∈ jm l,qG c:=fun c hc=>h c (List.mem_filter.1 hc).1
 have h1:=jY (l.length - (jm l).length) (by omega)
 have hf:=Qv _ hs
 obtain ⟨a0,a1⟩:=Ub _ hs _ hf
 obtain ⟨b0,b1⟩:=UO _ hs _ hf
 have h2:=VL _ a0 a1
 have h3:=VL _ b0 b1
 unfold Qf
 rw [List.length_append]
 split
 ·simp only [List.length_append,List.length_cons,List.length_nil];omega
 ·simp only [List.length_cons,List.length_nil];omega
theorem JN (pre:List UInt8) (sort:UInt8) (g c p:Nat) (h:pre.length≤20):(jR pre sort g c p).length≤40:=by
 have:=jY pre.length (by omega)
 simp only [jR,xB,List.length_append,jy,List.length_cons,List.length_nil];omega
structure SpotIn (t:List ColB) (s:SpotB):Prop where
 sort:s.sort=80∨s.sort=77
 col:s.c < t.length
 rows:s.start+s.many≤qa t
 few:s.g < 60∧s.c < 60∧s.p < 60∧s.start < 60∧s.many≤60
theorem Co {t:List ColB} {R G P g c k:Nat} (hR:R=qa t) (hr:R≤60) (hG:1≤G) (hP:1≤P) (hG6:G≤60) (hc:c < t.length) (hC:t.length≤6) (hg:g*G < R) (hk:k*P < jp R G g) :
  SpotIn t ⟨80,g,c,k,g*G+k*P,jp (jp R G g) P k⟩:=by
 have h1:g*1≤g*G:=Nat.mul_le_mul (Nat.le_refl _) hG
 have h2:k*1≤k*P:=Nat.mul_le_mul (Nat.le_refl _) hP
 have h3:=Xv R G g hg
 have h4:=Xv (jp R G g) P k hk
 have h5:=Ju R G g
 refine ⟨.inl rfl,hc,?_,?_,?_,?_,?_,?_⟩<;>simp only<;>omega
theorem Li {t:List ColB} {R G g c:Nat} (hR:R=qa t) (hr:R≤60) (hG:1≤G) (hG6:G≤60) (hc:c < t.length) (hC:t.length≤6) (hg:g*G < R) :
  SpotIn t ⟨77,g,c,0,g*G,jp R G g⟩:=by
 have h1:g*1≤g*G:=Nat.mul_le_mul (Nat.le_refl _) hG
 have h3:=Xv R G g hg
 have h5:=Ju R G g
 refine ⟨.inr rfl,hc,?_,?_,?_,?_,?_,?_⟩<;>simp only<;>omega
theorem PD {t:List ColB} {R G P g c:Nat} (hR:R=qa t) (hr:R≤60) (hG:1≤G) (hP:1≤P) (hG6:G≤60) (hc:c < t.length) (hC:t.length≤6) (hg:g*G < R) :
  ∀ s ∈ jh R G P g c,SpotIn t s:=by
 intro s hs
 rcases List.mem_append.1 hs with hs|hs
 ·simp only [jt,List.mem_map,List.mem_range] at hs
  obtain ⟨k,hk,rfl⟩:=hs
  exact Co hR hr hG hP hG6 hc hC hg ((Jr hP).1 hk)
 ·simp only [List.mem_cons,List.not_mem_nil,or_false] at hs
  subst hs
  exact Li hR hr hG hG6 hc hC hg
theorem Sf {t:List ColB} {R G P:Nat} (hR:R=qa t) (hr:R≤60) (hG:1≤G) (hP:1≤P) (hG6:G≤60) (hC:t.length≤6) :
  ∀ s ∈ qk R t.length G P,SpotIn t s:=by
 intro s hs
 simp only [qk,jH,jr,List.mem_flatMap,List.mem_range] at hs
 obtain ⟨g,hg,c,hc,hs⟩:=hs
 exact PD hR hr hG hP hG6 hc hC ((Jr hG).1 hg) s hs
theorem Gc {t:List ColB} (h:xz t=true):(1≤t.length∧t.length≤6)∧∀ c ∈ t,qA c.kind c.cells=true∧c.cells.length=qa t:=by
 simp only [xz,qc,Bool.and_eq_true,decide_eq_true_eq,List.all_eq_true] at h
 exact ⟨h.1.2,h.2⟩
theorem Qd {t:List ColB} {n:Nat} (h:Jd t n=true) (hn:n≤t.length):∀ k (hk:k < n),QA (t[k]'(by omega))=true∧zb (t.take k) (t[k]'(by omega)).name=false:=by
 induction n with
 | zero=>intro k hk;omega
 | succ n ih =>
  intro k hk
  simp only [Jd,Bool.and_eq_true] at h
  rcases Nat.lt_or_ge k n with hkn|hkn
  ·exact ih h.1 (by omega) k hkn
  ·have:k=n:=by omega
   subst this
   have h2:=h.2
   rw [List.getElem?_eq_getElem (by omega)] at h2
   simpa using h2
theorem QP {c:ColB} (h:QA c=true):zz c.name=true∧(c.kind=0∨c.kind=1)∧0≤c.key∧c.key≤9:=by
 simp only [QA,Bool.and_eq_true,decide_eq_true_eq] at h
 exact ⟨h.1,by omega,h.2.2.1,h.2.2.2⟩
theorem KS {s:List UInt8} (h:zz s=true):1≤s.length∧s.length≤8:=by
 simp only [zz,Bool.and_eq_true,decide_eq_true_eq] at h
 exact h.2
structure GoodT (t:List ColB):Prop where
 ok:xz t=true
 fits:∀ c ∈ t,∀ x ∈ c.cells,-9223372036854775808≤x.int∧x.int≤9223372036854775807
theorem GoodT.few {t:List ColB} (h:GoodT t):1≤t.length∧t.length≤6:=(Gc h.ok).1
theorem GoodT.head {t:List ColB} (h:GoodT t) (c:Nat) (hc:c < t.length):zz (t[c]).name=true∧((t[c]).kind=0∨(t[c]).kind=1)∧0≤(t[c]).key∧(t[c]).key≤9:=by
 have h1:=h.ok
 simp only [xz,qc,Bool.and_eq_true] at h1
 exact QP (Qd h1.1.1 (Nat.le_refl _) c hc).1
theorem GoodT.cells {t:List ColB} (h:GoodT t) (c:Nat) (hc:c < t.length):(t[c]).cells.length=qa t∧(t[c]).cells.length≤60∧∀ x ∈ (t[c]).cells,qG x:=by
 obtain ⟨h1,h2⟩:=(Gc h.ok).2 t[c] (List.getElem_mem hc)
 have hf:=h.fits t[c] (List.getElem_mem hc)
 simp only [qA,Bool.and_eq_true,Bool.or_eq_true,decide_eq_true_eq,List.all_eq_true] at h1
 refine ⟨h2,h1.1.2,fun x hx=>⟨(hf x hx).1,(hf x hx).2,?_⟩⟩
 have:=h1.2 x hx
 unfold xg at this
 split at this
 ·simp at this;rw [this.2];simp
 ·split at this
  ·simp at this;rw [this];simp
  ·simp at this;exact this.2
theorem GoodT.rows {t:List ColB} (h:GoodT t):qa t≤60:=by
 obtain ⟨h1,_⟩:=h.few
 have h2:=h.cells 0 (by omega)
 omega
theorem xy {t:List ColB} {c:Nat} (h:c < t.length):jg t c=t[c]:=by simp [jg,h]
theorem Uo {t:List ColB} (h:GoodT t) {s:SpotB} (hs:s.c < t.length) (hm:s.many≤60):(xf t s).length≤3500:=by
 obtain ⟨_,_,h3⟩:=h.cells s.c hs
 have hsm:∀ x ∈ ((jg t s.c).cells.drop s.start).take s.many,qG x:=by
  rw [xy hs]
  exact fun x hx=>h3 x (List.mem_of_mem_drop (List.mem_of_mem_take hx))
 have hl:(((jg t s.c).cells.drop s.start).take s.many).length≤60:=by rw [List.length_take];omega
 unfold xf
 split
 ·have:=IE (jg t s.c).kind _ hsm hl;omega
 ·exact St _ _ hsm hl
theorem Vw (plain:List UInt8) (st:StB):(zW plain st).out.length=st.out.length+plain.length+2:=by
 simp only [zW,List.length_append,jy];omega
theorem Gi (d:Int) (n:Nat):(xo d n).length=4:=rfl
theorem Qx (d:Int) (s e p:List UInt8) (st:StB):(zw d s e p st).out.length=st.out.length+p.length+8∧(zw d s e p st).log.length=st.log.length+1:=by
 refine ⟨?_,by simp [zw]⟩
 simp only [zw,List.length_append,jy,Gi,za]
 omega
theorem Em (j:JobB) (r:List KeyB) (key:Int) (sort:UInt8) (g c p:Nat) (plain:List UInt8) (st:StB) :
  (Qs j r key sort g c p plain st).out.length≤st.out.length+plain.length+8∧(Qs j r key sort g c p plain st).log.length≤st.log.length+1:=by
 unfold Qs
 split
 ·rw [Vw];simp only [zW];omega
 ·have:=Qx j.draw (ji r key) (jR j.pre sort g c p) plain st;omega
theorem Uj {j:JobB} {r:List KeyB} (h:GoodT j.table) (l:List SpotB):∀ st:StB,(∀ s ∈ l,s.c < j.table.length∧s.many≤60) →
  (qx j r st l).out.length≤st.out.length+3508*l.length∧(qx j r st l).log.length≤st.log.length+l.length:=by
 induction l with
 | nil=>intro st _;simp [qx]
 | cons s l ih =>
  intro st hl
  obtain ⟨a0,a1⟩:=hl s (List.mem_cons_self ..)
  have h1:=Uo h a0 a1
  have h2:=Em j r (jg j.table s.c).key s.sort s.g s.c s.p (xf j.table s) st
  have h3:=ih (zL j r st s) (fun x hx=>hl x (List.mem_cons_of_mem _ hx))
  have e:qx j r st (s :: l)=qx j r (zL j r st s) l:=rfl
  rw [e]
  simp only [List.length_cons]
  have e2:zL j r st s=Qs j r (jg j.table s.c).key s.sort s.g s.c s.p (xf j.table s) st:=rfl
  rw [← e2] at h2
  omega
theorem QW (j:JobB) (r:List KeyB) (st:StB) (R G P g C:Nat):(qM j r st true (jr R G P g C)).length=C:=by
 induction C with
 | zero=>rfl
 | succ C ih=>rw [zM,zS,List.length_append,ih,Qz,Vr];rfl
theorem JT (j:JobB) (r:List KeyB) (st:StB) (R C G P n:Nat):(qM j r st true (jH R C G P n)).length=n*C:=by
 induction n with
 | zero=>simp [jH,qM]
 | succ n ih=>rw [zJ,zS,List.length_append,ih,Zp,QW,Nat.succ_mul]
theorem Pn {j:JobB} {r:List KeyB} (h:GoodT j.table) (l:List SpotB):∀ (st:StB) (b:Bool),(∀ s ∈ l,s.c < j.table.length∧s.many≤60) →
  ∀ p ∈ qM j r st b l,p≤st.out.length+3508*l.length:=by
 induction l with
 | nil=>intro st b _ p hp;simp [qM] at hp
 | cons s l ih =>
  intro st b hl p hp
  simp only [qM,List.mem_append] at hp
  rcases hp with hp|hp
  ·split at hp
   ·simp only [List.mem_cons,List.not_mem_nil,or_false] at hp;simp only [List.length_cons];omega
   ·simp at hp
  ·obtain ⟨a0,a1⟩:=hl s (List.mem_cons_self ..)
   have h1:=Uo h a0 a1
   have h2:=Em j r (jg j.table s.c).key s.sort s.g s.c s.p (xf j.table s) st
   have e2:zL j r st s=Qs j r (jg j.table s.c).key s.sort s.g s.c s.p (xf j.table s) st:=rfl
   rw [← e2] at h2
   have:=ih _ _ (fun x hx=>hl x (List.mem_cons_of_mem _ hx)) p hp
   simp only [List.length_cons]
   omega
theorem KV {α:Type} (f:α→List UInt8) (m:Nat) (l:List α) (h:∀ x ∈ l,(f x).length≤m):(l.flatMap f).length≤m*l.length:=by
 induction l with
 | nil=>simp
 | cons a l ih =>
  have h1:=h a (List.mem_cons_self ..)
  have h2:=ih (fun x hx=>h x (List.mem_cons_of_mem _ hx))
  rw [List.flatMap_cons,List.length_append,List.length_cons,Nat.mul_succ]
  omega
theorem GL {c:ColB} (h:c.name.length≤8) (h1:c.kind=0∨c.kind=1) (h2:0≤c.key∧c.key≤9):(qn c).length≤38:=by
 have a:=jY c.name.length (by omega)
 have b:=jY c.kind.toNat (by omega)
 have d:=jY c.key.toNat (by omega)
 simp only [qn,xB,List.length_append];omega
theorem DR {t:List ColB} (h:GoodT t) {p:PlanB} (hp:qP p=true) (places:List Nat) (hl:places.length≤360) (hb:∀ x ∈ places,x < 18446744073709551616):(qo (qa t) p t places).length≤3900:=by
 have h0:=h.rows
 obtain ⟨_,h6⟩:=h.few
 have hc:∀ c ∈ t,(qn c).length≤38:=by
  intro c hc
  obtain ⟨k,hk,rfl⟩:=List.mem_iff_getElem.1 hc
  obtain ⟨a,b,d⟩:=h.head k hk
  exact GL (KS a).2 b d
 have h1:=KV qn 38 t hc
 have h2:=KV uB 10 places (fun x hx=>jY x (hb x hx))
 simp only [qP,Bool.and_eq_true,decide_eq_true_eq] at hp
 have a:=jY (qa t) (by omega)
 have b:=jY p.group.toNat (by omega)
 have d:=jY p.page.toNat (by omega)
 have e:=jY p.foot.toNat (by omega)
 have f:=jY t.length (by omega)
 simp only [qo,List.length_append]
 omega
structure GoodJ (j:JobB) (r:List KeyB):Prop where
 table:GoodT j.table
 plan:qP j.plan=true
 pre:j.pre.length≤20
 draw:0≤j.draw∧j.draw≤65535
 ring:xH r=true
 has:Kp j r=false
theorem GoodJ.sizes {j:JobB} {r:List KeyB} (h:GoodJ j r):(1≤j.plan.group.toNat∧j.plan.group.toNat≤60)∧(1≤j.plan.page.toNat∧j.plan.page.toNat≤60)∧1≤j.plan.foot∧j.plan.foot≤9:=by
 have hp:=h.plan
 simp only [qP,Bool.and_eq_true,decide_eq_true_eq] at hp
 exact ⟨⟨by omega,by omega⟩,⟨by omega,by omega⟩,by omega,by omega⟩
theorem GoodJ.spotIn {j:JobB} {r:List KeyB} (h:GoodJ j r):∀ s ∈ qE j,SpotIn j.table s:=by
 obtain ⟨⟨a,b⟩,⟨c,d⟩,_⟩:=h.sizes
 exact Sf rfl h.table.rows a c b h.table.few.2
theorem GoodJ.spotLen {j:JobB} {r:List KeyB} (h:GoodJ j r):(qE j).length≤21960:=by
 obtain ⟨⟨a,b⟩,⟨c,d⟩,_⟩:=h.sizes
 have h1:=YA (qa j.table) j.table.length j.plan.group.toNat j.plan.page.toNat (jX (qa j.table) j.plan.group.toNat) c b h.table.few.2
 have h2:=JZ (n:=qa j.table) a
 have h3:=h.table.rows
 unfold qE qk
 omega
theorem GoodJ.foot {j:JobB} {r:List KeyB} (h:GoodJ j r):(zE j r).length≤360∧(∀ x ∈ zE j r,x≤80000000)∧(xY j r).length≤3900:=by
 obtain ⟨⟨a,b⟩,⟨c,d⟩,_⟩:=h.sizes
 have h1:=JT j r ⟨zt j.plan,[]⟩ (qa j.table) j.table.length j.plan.group.toNat j.plan.page.toNat (jX (qa j.table) j.plan.group.toNat)
 have h2:=JZ (n:=qa j.table) a
 have h3:=h.table.rows
 have h4:=h.table.few.2
 have h5:jX (qa j.table) j.plan.group.toNat*j.table.length≤60*6:=Nat.mul_le_mul (by omega) h4
 have hl:(zE j r).length≤360:=by
  unfold zE qE qk
  omega
 have h6:=Pn (r:=r) h.table (qE j) ⟨zt j.plan,[]⟩ true (fun s hs=>⟨(h.spotIn s hs).col,(h.spotIn s hs).few.2.2.2.2⟩)
 have h7:=h.spotLen
 have h8:(zt j.plan).length=4:=rfl
 have hb:∀ x ∈ zE j r,x≤80000000:=by
  intro x hx
  have:=h6 x hx
  simp only [h8] at this
  omega
 exact ⟨hl,hb,DR h.table h.plan _ hl (fun x hx=>by have:=hb x hx;omega)⟩
theorem GoodJ.body {j:JobB} {r:List KeyB} (h:GoodJ j r) (n:Nat):(qx j r ⟨zt j.plan,[]⟩ ((qE j).take n)).out.length≤80000000∧(qx j r ⟨zt j.plan,[]⟩ ((qE j).take n)).log.length≤21960:=by
 have h6:=Uj (r:=r) h.table ((qE j).take n) ⟨zt j.plan,[]⟩ (fun s hs=>⟨(h.spotIn s (List.mem_of_mem_take hs)).col,(h.spotIn s (List.mem_of_mem_take hs)).few.2.2.2.2⟩)
 have h7:=h.spotLen
 have h8:(zt j.plan).length=4:=rfl
 have h9:((qE j).take n).length≤(qE j).length:=by rw [List.length_take];omega
 simp only [h8,List.length_nil] at h6
 omega
end
section
def atB (raw:List Int) (i:Nat):Int:=raw.getD (i % raw.length) 0
def Xl (x:Int):Prop:=-9223372036854775808≤x∧x≤9223372036854775807
theorem Yx (raw:List Int) (i:Nat) (h:∀ x ∈ raw,Xl x):Xl (atB raw i):=by
 unfold atB
 rw [List.getD_eq_getElem?_getD]
 cases hq:raw[i % raw.length]? with
 | none=>simp [Xl]
 | some x=>exact h x (List.mem_of_getElem? hq)
def ZL (v:Int):Nat→Int
 | 0=>v
 | k+1=>ZL v k / 3
theorem Ia (v:Int) (h0:0≤v) (h1:v≤1099511627776) (k:Nat):0≤ZL v k∧ZL v k≤1099511627776:=by
 induction k with
 | zero=>exact ⟨h0,h1⟩
 | succ k ih=>obtain ⟨a,b⟩:=ih;simp only [ZL];omega
def ZM (v:Int):Nat→List UInt8
 | 0=>[]
 | k+1=>ZM v k++[byB (97+ZL v k % 3)]
theorem RT (v:Int) (k:Nat):(ZM v k).length=k:=by
 induction k with
 | zero=>rfl
 | succ k ih=>simp [ZM,ih]
def ZD (c:Int):List UInt8:=ZM (qi c 1099511627776 / 13) (qi c 1099511627776 % 13).toNat
theorem AD (c:Int):(ZD c).length≤12:=by
 unfold ZD;rw [RT];omega
def zI (kind c:Int):CellB :=
 if qi c 1099511627776 % 5=0 then ⟨true,0,[]⟩
 else if kind=1 then ⟨false,0,ZD (qi c 1099511627776 / 5)⟩
 else if qi c 1099511627776 % 5=1 then ⟨false,c,[]⟩ else ⟨false,qi c 1099511627776 / 5 % 40,[]⟩
theorem Il (kind c:Int) (hk:kind=0∨kind=1) (hc:Xl c):xg kind (zI kind c)=true∧Xl (zI kind c).int:=by
 have ht:=AD (qi c 1099511627776 / 5)
 unfold zI
 split
 ·exact ⟨by simp [xg],by simp [Xl]⟩
 ·split
  ·rename_i h;subst h;exact ⟨by simp [xg,ht],by simp [Xl]⟩
  ·rename_i h
   have h0:kind=0:=by omega
   subst h0
   split
   ·exact ⟨by simp [xg],hc⟩
   ·exact ⟨by simp [xg],by simp only [Xl];omega⟩
def Xg (i:Nat):List UInt8:=[99,UInt8.ofNat (97+i)]
def qy (raw:List Int):Nat:=(qi (atB raw 1) 20).toNat
def Jg (raw:List Int):Nat:=(1+qi (atB raw 0) 4).toNat
def Xh (raw:List Int) (i:Nat):Int:=qi (atB raw (6+i)) 2
def Zg (raw:List Int) (i n:Nat):ColB :=
 ⟨Xg i,Xh raw i,qi (atB raw (10+i)) 5,(List.range n).map fun k=>zI (Xh raw i) (atB raw (14+i*qy raw+k))⟩
def JU (raw:List Int) (k:Nat):List ColB:=(List.range k).map fun i=>Zg raw i (qy raw)
def Us (raw:List Int):PlanB:=⟨1+qi (atB raw 3) 12,1+qi (atB raw 4) 6,5,decide (qi (atB raw 5) 2=1)⟩
def qm (raw:List Int) (pre:List UInt8):JobB:=⟨JU raw (Jg raw),Us raw,pre.take 20,qi (atB raw 2) 65536⟩
theorem ZW (raw:List Int):1≤Jg raw∧Jg raw≤4:=by
 have:=qB (atB raw 0) 4 (by decide)
 unfold Jg;omega
theorem ZP (raw:List Int):qy raw≤19:=by
 have:=qB (atB raw 1) 20 (by decide)
 unfold qy;omega
theorem ZQ (raw:List Int) (i:Nat):Xh raw i=0∨Xh raw i=1:=by
 have:=qB (atB raw (6+i)) 2 (by decide)
 unfold Xh;omega
theorem Xw (raw:List Int) (k:Nat):(JU raw k).length=k:=by simp [JU]
theorem ZF (raw:List Int) (k i:Nat) (h:i < (JU raw k).length):(JU raw k)[i]=Zg raw i (qy raw):=by simp [JU]
theorem Du {i:Nat} (h:i < 4):zz (Xg i)=true:=by
 have:i=0∨i=1∨i=2∨i=3:=by omega
 rcases this with rfl|rfl|rfl|rfl<;>decide
theorem Ar {i k:Nat} (hi:i < 4) (hk:k < 4) (h:Xg i=Xg k):i=k:=by
 have:i=0∨i=1∨i=2∨i=3:=by omega
 have:k=0∨k=1∨k=2∨k=3:=by omega
 rcases ‹i=0∨_› with rfl|rfl|rfl|rfl<;>rcases ‹k=0∨_› with rfl|rfl|rfl|rfl<;>first|rfl|(exfalso;revert h;decide)
theorem Dd (t:List ColB) (n:Nat) (hn:n≤t.length) (h4:t.length≤4) (ht:∀ k (hk:k < t.length),(t[k]).name=Xg k∧((t[k]).kind=0∨(t[k]).kind=1)∧0≤(t[k]).key∧(t[k]).key≤9):Jd t n=true:=by
 induction n with
 | zero=>rfl
 | succ n ih =>
  have hlt:n < t.length:=by omega
  obtain ⟨h1,h2,h3,h4'⟩:=ht n hlt
  simp only [Jd,ih (by omega),Bool.true_and]
  rw [List.getElem?_eq_getElem hlt]
  simp only [QA,h1,Du (show n < 4 by omega),Bool.true_and,Bool.and_eq_true,decide_eq_true_eq,Bool.not_eq_true']
  refine ⟨⟨⟨by omega,by omega⟩,h3,h4'⟩,?_⟩
  unfold zb
  rw [List.any_eq_false]
  intro c hc
  obtain ⟨k,hk,rfl⟩:=List.mem_iff_getElem.1 hc
  rw [List.length_take] at hk
  rw [List.getElem_take,(ht k (by omega)).1]
  simp only [beq_iff_eq]
  intro e
  have:=Ar (by omega) (by omega) e
  omega
theorem SP (t:List ColB) (n:Nat) (h1:1≤t.length) (h4:t.length≤4) (hn:n≤60) (ht:∀ k (hk:k < t.length),(t[k]).name=Xg k∧((t[k]).kind=0∨(t[k]).kind=1)∧0≤(t[k]).key∧(t[k]).key≤9)
  (hc:∀ c ∈ t,c.cells.length=n∧∀ x ∈ c.cells,xg c.kind x=true∧Xl x.int):GoodT t:=by
 have hr:qa t=n:=by
  cases t with
  | nil=>simp at h1
  | cons c l=>exact (hc c (List.mem_cons_self ..)).1
 refine ⟨?_,fun c hc' x hx=>((hc c hc').2 x hx).2⟩
 simp only [xz,qc,Bool.and_eq_true,decide_eq_true_eq,List.all_eq_true]
 refine ⟨⟨Dd t _ (Nat.le_refl _) h4 ht,h1,by omega⟩,fun c hc'=>?_⟩
 obtain ⟨k,hk,rfl⟩:=List.mem_iff_getElem.1 hc'
 obtain ⟨a,b⟩:=hc _ hc'
 have h2:=(ht k hk).2.1
 simp only [qA,Bool.and_eq_true,Bool.or_eq_true,decide_eq_true_eq,List.all_eq_true]
 exact ⟨⟨⟨h2,by omega⟩,fun x hx=>(b x hx).1⟩,by rw [hr];exact a⟩
theorem TW {p:PlanB} (h:(1≤p.group∧p.group≤60)∧((1≤p.page∧p.page≤60)∧(1≤p.foot∧p.foot≤9))):qP p=true:=by
 simp only [qP,Bool.and_eq_true,decide_eq_true_eq]
 exact h
theorem DX (raw:List Int):qP (Us raw)=true:=by
 have h1:=qB (atB raw 3) 12 (by decide)
 have h2:=qB (atB raw 4) 6 (by decide)
 refine TW ⟨⟨?_,?_⟩,⟨?_,?_⟩,?_,?_⟩<;>simp only [Us]<;>omega
def jV (c without:Int):List KeyB:=(JG c without 5).map fun x=>⟨(x.1:Int),x.2⟩
end
section
open Go.ChangeShapes Go.WideShapes Go.ChangeAt Go.RowKit Go.Deep
theorem Nr {w:World} {b o:Nat} {v:Value} (h:w.cell? ⟨b,o,none⟩=some v):b < w.heap.size:=by
 rcases Nat.lt_or_ge b w.heap.size with h1|h1
 ·exact h1
 ·simp [World.cell?,Array.getElem?_eq_none h1] at h
theorem Vj {x:Int} (h:(Lit.int .i64 x).wf=true):-9223372036854775808≤x∧x≤9223372036854775807:=by
 simp [Lit.wf,IntKind.min,IntKind.max,IntKind.signed,IntKind.bits] at h
 exact ⟨by omega,by omega⟩
end
section
open Go.RowKit
theorem NC (c:UInt8) (r:List UInt8):KQ 1 (some (c :: r))=([c],some r):=by
 rw [Gl (by omega) (by simp;omega)];rfl
theorem YC (s r:List UInt8):KQ (s.length:Int) (some (s++r))=(s,some r):=by
 rw [Gl (by omega) (by simp;omega)]
 simp
theorem Qw (n:Nat) (h:n≤255):(byB (n:Int)).toNat=n:=by
 have:=xV (n:Int) (by omega) (by omega)
 omega
theorem Eb (k acc sc:Nat) (c:UInt8) (r:List UInt8):uP (k+1) acc sc (some (c :: r)) =
  if c.toNat < 128 then ((acc+sc*(c.toNat % 128)) % 18446744073709551616,some r) else uP k ((acc+sc*(c.toNat % 128)) % 18446744073709551616) (sc*128 % 18446744073709551616) (some r):=by
 simp only [uP,NC]
theorem Fa (r:List UInt8):∀ (k n acc sc:Nat),n < 128 ^ (k+1)→acc+sc*n < 18446744073709551616→uP (k+1) acc sc (some (uB n++r))=(acc+sc*n,some r):=by
 intro k
 induction k with
 | zero =>
  intro n acc sc hn hs
  have hn':n≤127:=by omega
  rw [zr hn']
  show uP (0+1) acc sc (some (byB (n:Int) :: r))=_
  rw [Eb,Qw n (by omega),if_pos (by omega),Nat.mod_eq_of_lt (show n < 128 by omega),Nat.mod_eq_of_lt hs]
 | succ k ih =>
  intro n acc sc hn hs
  by_cases hsm:n≤127
  ·rw [zr hsm]
   show uP (k+1+1) acc sc (some (byB (n:Int) :: r))=_
   rw [Eb,Qw n (by omega),if_pos (by omega),Nat.mod_eq_of_lt (show n < 128 by omega),Nat.mod_eq_of_lt hs]
  ·rw [ZR (by omega)]
   have hc:(byB ((n:Int) % 128+128)).toNat=n % 128+128:=by
    have:=Qw (n % 128+128) (by omega)
    have e:(((n % 128+128:Nat)):Int)=(n:Int) % 128+128:=by omega
    rw [e] at this
    exact this
   show uP (k+1+1) acc sc (some (byB ((n:Int) % 128+128) :: (uB (n / 128)++r)))=_
   rw [Eb,hc,if_neg (by omega)]
   have e1:(n % 128+128) % 128=n % 128:=by omega
   have e2:sc*n=sc*(n % 128)+sc*128*(n / 128):=by
    have h:=Nat.mod_add_div n 128
    have h3:sc*(n % 128+128*(n / 128))=sc*(n % 128)+sc*128*(n / 128):=by rw [Nat.mul_add,Nat.mul_assoc]
    rw [h] at h3
    exact h3
   have h1:1≤n / 128:=by omega
   have h2:sc*128≤sc*128*(n / 128):=Nat.le_mul_of_pos_right _ (by omega)
   rw [e1,Nat.mod_eq_of_lt (show acc+sc*(n % 128) < 18446744073709551616 by omega),Nat.mod_eq_of_lt (show sc*128 < 18446744073709551616 by omega)]
   rw [ih (n / 128) (acc+sc*(n % 128)) (sc*128) (by rw [Nat.div_lt_iff_lt_mul (by decide)];rw [Nat.pow_succ] at hn;exact hn) (by omega)]
   rw [e2,Nat.add_assoc]
theorem Cj (n:Nat) (r:List UInt8) (h:n < 18446744073709551616):uR (some (uB n++r))=(n,some r):=by
 unfold uR
 rw [Fa r 9 n 0 1 (by omega) (by omega)]
 simp
theorem Kz (max n:Nat) (r:List UInt8) (h:n≤max) (hm:max < 18446744073709551616):zj max (some (uB n++r))=(n,some r):=by
 unfold zj
 rw [Cj n r (by omega),if_neg (by omega)]
theorem PL (max:Nat) (s r:List UInt8) (h:s.length≤max) (hm:max < 18446744073709551616):xR max (some (xB s++r))=(s,some r):=by
 unfold xR xB
 rw [List.append_assoc,Kz max s.length (s++r) h hm]
 exact YC s r
theorem MB (x:Int):zOf (zN x)=x:=by
 unfold zN
 split
 ·unfold zOf;rw [if_pos (by omega)];omega
 ·unfold zOf;rw [if_neg (by omega)];omega
theorem LV (x:Int) (r:List UInt8) (h0:-9223372036854775808≤x) (h1:x≤9223372036854775807):uR (some (zB x++r))=(zN x,some r):=Cj _ r (Cs x h0 h1)
theorem Sw (v:Nat) (h:v < 18446744073709551616):MC (UR v 8)=v:=by
 have hb:∀ k,(byB ((GS v k:Int) % 256)).toNat=GS v k % 256:=by
  intro k
  have:=Qw (GS v k % 256) (by omega)
  have e:((GS v k % 256:Nat):Int)=(GS v k:Int) % 256:=by omega
  rw [e] at this
  exact this
 simp only [UR,List.nil_append,List.cons_append,MC,hb]
 simp only [GS]
 omega
theorem Be (x:Int) (r:List UInt8) (h0:-9223372036854775808≤x) (h1:x≤9223372036854775807):bR (some (bB x++r))=(x,some r):=by
 unfold bR
 have hl:=Kc x
 have e:KQ 8 (some (bB x++r))=(bB x,some r):=by
  have:=YC (bB x) r
  rw [hl] at this
  exact this
 rw [e]
 unfold bB
 rw [Sw _ (by omega)]
 simp only [Prod.mk.injEq,and_true]
 unfold wrap64
 omega
end
section
open Go.RowKit
def ZC (kind:Int) (e:Nat) (words:List (List UInt8)) (n len:Nat) (last:CellB) (st:Option (List UInt8)):CellB × Nat × Option (List UInt8) :=
 if kind=0∧e=0 then (⟨false,(bR st).1,[]⟩,1,(bR st).2)
 else if kind=0∧e=1 then (⟨false,wrap64 (last.int+zOf (uR st).1),[]⟩,1,(uR st).2)
 else if kind=0∧e=2 then (⟨false,zOf (uR (zj (n - len) st).2).1,[]⟩,(zj (n - len) st).1,if (zj (n - len) st).1=0 then none else (uR (zj (n - len) st).2).2)
 else if kind=1∧e=0 then (⟨false,0,(xR 12 st).1⟩,1,(xR 12 st).2)
 else if kind=1∧e=3∧words≠[] then (⟨false,0,words.getD (zj (words.length - 1) st).1 []⟩,1,(zj (words.length - 1) st).2)
 else if kind=1∧e=4 then (⟨false,0,last.text.take (zj last.text.length st).1++(xR 12 (zj last.text.length st).2).1⟩,1,(xR 12 (zj last.text.length st).2).2)
 else (⟨false,0,[]⟩,1,none)
def Jq (kind:Int) (e:Nat) (words:List (List UInt8)) (n:Nat):Nat→List CellB→CellB→Option (List UInt8)→List CellB × Option (List UInt8)
 | 0,l,_,st=>(l,st)
 | f+1,l,last,st =>
  if l.length < n∧st.isSome=true then
   Jq kind e words n f (l++List.replicate (ZC kind e words n l.length last st).2.1 (ZC kind e words n l.length last st).1) (ZC kind e words n l.length last st).1 (ZC kind e words n l.length last st).2.2
  else (l,st)
def zP (w:Nat) (v:List CellB):Nat→Nat→List UInt8
 | _,0=>[]
 | i,k+1=>xL w v i++zP w v (i+1) k
theorem Mi (w:Nat) (v:List CellB):∀ (k i:Nat),jW w v (i+k)=jW w v i++zP w v i k:=by
 intro k
 induction k with
 | zero=>intro i;simp [zP]
 | succ k ih =>
  intro i
  rw [show i+(k+1)=(i+1)+k by omega,ih (i+1)]
  simp [jW,zP]
theorem UD (w:Nat) (v:List CellB):jW w v v.length=zP w v 0 v.length:=by
 have:=Mi w v v.length 0
 simpa [jW] using this
theorem ZX (kind:Int) (e w:Nat) (words:List (List UInt8)) (v:List CellB) (r:List UInt8)
  (hstep:∀ i (h:i < v.length) (rest:List UInt8),ZC kind e words v.length i (qN v i) (some (xL w v i++rest))=(v[i],1,some rest)) :
  ∀ (k i:Nat),i+k=v.length→Jq kind e words v.length (k+1) (v.take i) (qN v i) (some (zP w v i k++r))=(v,some r):=by
 intro k
 induction k with
 | zero =>
  intro i hi
  have hl:(v.take i).length=v.length:=by rw [List.length_take];omega
  simp only [Jq,zP,List.nil_append]
  rw [if_neg (by rw [hl];omega)]
  rw [List.take_of_length_le (by omega)]
 | succ k ih =>
  intro i hi
  have hlt:i < v.length:=by omega
  have hl:(v.take i).length=i:=by rw [List.length_take];omega
  rw [Jq,if_pos (by rw [hl];exact ⟨hlt,rfl⟩),hl]
  simp only [zP,List.append_assoc]
  rw [hstep i hlt (zP w v (i+1) k++r)]
  have e1:v.take i++List.replicate 1 v[i]=v.take (i+1):=by rw [List.take_succ_eq_append_getElem hlt];rfl
  have e2:v[i]=qN v (i+1):=by
   unfold qN
   rw [if_neg (by omega),Nat.add_sub_cancel,qK v i hlt]
  simp only [e1]
  rw [e2]
  exact ih (i+1) (by omega)
def Tw (c:CellB):Prop:=c.null=false∧c.text=[]∧-9223372036854775808≤c.int∧c.int≤9223372036854775807
def YY (c:CellB):Prop:=c.null=false∧c.int=0∧c.text.length≤12
theorem VC {c:CellB} (h:Tw c):c=⟨false,c.int,[]⟩:=by
 obtain ⟨n,i,t⟩:=c
 obtain ⟨h1,h2,_⟩:=h
 simp at h1 h2
 subst h1 h2
 rfl
theorem Rs {c:CellB} (h:YY c):c=⟨false,0,c.text⟩:=by
 obtain ⟨n,i,t⟩:=c
 obtain ⟨h1,h2,_⟩:=h
 simp at h1 h2
 subst h1 h2
 rfl
theorem BA (v:List CellB) (r:List UInt8) (hv:∀ c ∈ v,Tw c):Jq 0 0 [] v.length (v.length+1) [] xx (some (zP 0 v 0 v.length++r))=(v,some r):=by
 have:=ZX 0 0 0 [] v r (fun i h rest=>by
  have hc:=hv v[i] (List.getElem_mem h)
  have hs:xL 0 v i=bB (v[i]).int:=by show bB (zp v i).int=_;rw [qK v i h]
  unfold ZC
  rw [if_pos ⟨rfl,rfl⟩,hs,Be _ rest hc.2.2.1 hc.2.2.2]
  exact Prod.ext (VC hc).symm rfl) v.length 0 (by omega)
 simpa [qN] using this
theorem To (a b:Int) (h0:-9223372036854775808≤b) (h1:b≤9223372036854775807):wrap64 (a+wrap64 (b - a))=b:=by
 unfold wrap64;omega
theorem Bw (v:List CellB) (r:List UInt8) (hv:∀ c ∈ v,Tw c):Jq 0 1 [] v.length (v.length+1) [] xx (some (zP 1 v 0 v.length++r))=(v,some r):=by
 have:=ZX 0 1 1 [] v r (fun i h rest=>by
  have hc:=hv v[i] (List.getElem_mem h)
  have hs:xL 1 v i=zB (wrap64 ((v[i]).int - (qN v i).int)):=by show zB (wrap64 ((zp v i).int - (qN v i).int))=_;rw [qK v i h]
  have hr:=JK ((v[i]).int - (qN v i).int)
  unfold ZC
  rw [if_neg (by omega),if_pos ⟨rfl,rfl⟩,hs,LV _ rest hr.1 hr.2,MB,To _ _ hc.2.2.1 hc.2.2.2]
  exact Prod.ext (VC hc).symm rfl) v.length 0 (by omega)
 simpa [qN] using this
theorem Bo (v:List CellB) (r:List UInt8) (hv:∀ c ∈ v,YY c):Jq 1 0 [] v.length (v.length+1) [] xx (some (zP 5 v 0 v.length++r))=(v,some r):=by
 have:=ZX 1 0 5 [] v r (fun i h rest=>by
  have hc:=hv v[i] (List.getElem_mem h)
  have hs:xL 5 v i=xB (v[i]).text:=by show xB (zp v i).text=_;rw [qK v i h]
  unfold ZC
  rw [if_neg (by omega),if_neg (by omega),if_neg (by omega),if_pos ⟨rfl,rfl⟩,hs,PL 12 _ rest hc.2.2 (by omega)]
  exact Prod.ext (Rs hc).symm rfl) v.length 0 (by omega)
 simpa [qN] using this
theorem Df (s t:List UInt8):t.take (jT s t)++s.drop (jT s t)=s:=by
 have h:=Jx s t
 have e:t.take (jT s t)=s.take (jT s t):=by
  apply List.ext_getElem
  ·rw [List.length_take,List.length_take];omega
  ·intro i h1 h2
   rw [List.length_take] at h1
   simp only [List.getElem_take]
   exact (Rm s t i (by omega) (by omega) (by omega)).symm
 rw [e,List.take_append_drop]
theorem BG (v:List CellB) (r:List UInt8) (hv:∀ c ∈ v,YY c):Jq 1 4 [] v.length (v.length+1) [] xx (some (zP 4 v 0 v.length++r))=(v,some r):=by
 have:=ZX 1 4 4 [] v r (fun i h rest=>by
  have hc:=hv v[i] (List.getElem_mem h)
  have hp:(qN v i).text.length≤12:=by
   unfold qN;split
   ·decide
   ·rw [qK v (i - 1) (by omega)];exact (hv _ (List.getElem_mem _)).2.2
  have hs:xL 4 v i=uB (jT (v[i]).text (qN v i).text)++xB ((v[i]).text.drop (jT (v[i]).text (qN v i).text)):=by simp only [xL,qK v i h]
  have hle:=Jx (v[i]).text (qN v i).text
  unfold ZC
  rw [if_neg (by omega),if_neg (by omega),if_neg (by omega),if_neg (by omega),if_neg (by omega),if_pos ⟨rfl,rfl⟩,hs,List.append_assoc,
   Kz _ _ _ hle.2 (by omega),PL 12 _ rest (by rw [List.length_drop];have:=hc.2.2;omega) (by omega),Df]
  exact Prod.ext (Rs hc).symm rfl) v.length 0 (by omega)
 simpa [qN] using this
end
section
open Go.RowKit
def PV (T:List TypeId) (o:Obj):Prop:=∃ cur t,o=.cells cur t (0,0)∧t ∈ T
structure KeptT (T:List TypeId) (B:Nat) (w w':World):Prop where
 os:w'.os=w.os
 tape:w'.tape=w.tape
 output:w'.output=w.output
 size:w.heap.size≤w'.heap.size
 block:∀ k,k < B→w'.heap[k]?=w.heap[k]?
 other:∀ (k:Nat) (o:Obj),w.heap[k]?=some o→¬ PV T o→w'.heap[k]?=some o
variable {T:List TypeId} {B:Nat}
theorem KeptT.refl (T:List TypeId) (B:Nat) (w:World):KeptT T B w w:=⟨rfl,rfl,rfl,Nat.le_refl _,fun _ _=>rfl,fun _ _ h _=>h⟩
theorem KeptT.trans {a b c:World} (h:KeptT T B a b) (k:KeptT T B b c):KeptT T B a c :=
 ⟨k.os.trans h.os,k.tape.trans h.tape,k.output.trans h.output,Nat.le_trans h.size k.size,fun i hi=>(k.block i hi).trans (h.block i hi),fun i o hi ho=>k.other i o (h.other i o hi ho) ho⟩
theorem KeptT.below {a b:World} (h:KeptT T B a b):Below B a b:=⟨h.os,h.tape,h.output,h.size,h.block⟩
theorem Below.keptT {a b:World} (h:Below a.heap.size a b) (hB:B≤a.heap.size):KeptT T B a b :=
 ⟨h.os,h.tape,h.output,h.size,fun k hk=>h.block k (by omega),fun k o hk _=>(h.block k (Array.getElem?_eq_some_iff.1 hk).1).trans hk⟩
theorem KeptT.undrew {a b:World} (h:KeptT T B a.drew b):KeptT T B a b:=⟨h.os,h.tape,h.output,h.size,h.block,h.other⟩
theorem KeptT.alloc {a b:World} (h:KeptT T B a b) (hB:B≤b.heap.size) (o:Obj):KeptT T B a (b.alloc o) :=
 h.trans (Below.keptT ((Below.refl _ _).alloc (Nat.le_refl _) _) hB)
theorem KeptT.grown {a b c:World} {row:Option Nat} (h:KeptT T B a b) (hg:b.grownBy c row) (hB:B≤b.heap.size)
  (hr:∀ k,row=some k→B≤k∧∃ o,b.heap[k]?=some o∧PV T o):KeptT T B a c:=by
 refine h.trans ⟨hg.os,hg.tape,hg.output,hg.size,fun k hk=>hg.block k (by omega) (fun e=>by have:=(hr k e.symm).1;omega),fun k o hk ho=>?_⟩
 rw [hg.block k (Array.getElem?_eq_some_iff.1 hk).1 ?_]
 ·exact hk
 ·intro e
  obtain ⟨_,o',h1,h2⟩:=hr k e.symm
  rw [hk] at h1
  cases h1
  exact ho h2
theorem YU {w:World} {base:Nat} {e:TypeId} {size:Nat} {v:Value} {n:Nat} {xs:List Value} (h:w.ownsRow base e size v n xs) (he:e ∈ T) :
  ∀ k,v.ownBlock=some k→base≤k∧∃ o,w.heap[k]?=some o∧PV T o:=by
 intro k hk
 rcases h.2 with ⟨rfl,_⟩|⟨g,cap,cur,rfl,hb,hg,_⟩
 ·simp [Value.ownBlock] at hk
 ·simp [Value.ownBlock] at hk
  subst hk
  exact ⟨hb,_,hg,cur,e,rfl,he⟩
theorem KeptT.owns {w w':World} {base:Nat} {e:TypeId} {size:Nat} {v:Value} {n:Nat} {xs:List Value} (hk:KeptT T B w w') (h:w.ownsRow base e size v n xs) (he:¬ e ∈ T):w'.ownsRow base e size v n xs:=by
 refine ⟨h.1,?_⟩
 rcases h.2 with hn|⟨g,cap,cur,rfl,hb,hg,rest⟩
 ·exact .inl hn
 ·refine .inr ⟨g,cap,cur,rfl,hb,hk.other g _ hg ?_,rest⟩
  rintro ⟨cur',t,e1,ht⟩
  cases e1
  exact he ht
theorem KeptT.row {w w':World} {g:Nat} {cur:Array Value} {e:TypeId} (hk:KeptT T B w w') (h:w.heap[g]?=some (.cells cur e (0,0))) (he:¬ e ∈ T):w'.heap[g]?=some (.cells cur e (0,0)):=by
 refine hk.other g _ h ?_
 rintro ⟨cur',t,e1,ht⟩
 cases e1
 exact he ht
theorem jb {w:World} {g j:Nat} {cur:Array Value} {e:TypeId} (h:w.heap[g]?=some (.cells cur e (0,0))):w.cell? ⟨g,j,none⟩=cur[j]?:=cell_of_row w g j cur e (0,0) h
theorem KeptT.set {a w:World} {g j:Nat} {cur:Array Value} {e:TypeId} (h:KeptT T B a w) (hg:w.heap[g]?=some (.cells cur e (0,0))) (hB:B≤g) (he:e ∈ T) (v:Value):KeptT T B a (w.setCell ⟨g,j,none⟩ v):=by
 refine h.trans ⟨rfl,rfl,rfl,by simp,fun k hk=>heap_setCell_other w ⟨g,j,none⟩ k v (by simp;omega),fun k o hk ho=>?_⟩
 rw [heap_setCell_other w ⟨g,j,none⟩ k v ?_]
 ·exact hk
 ·intro e1
  simp only at e1
  subst e1
  rw [hg] at hk
  cases hk
  exact ho ⟨cur,e,rfl,he⟩
theorem Jt {α:Type} (f:α→List Value) (m:Nat) (hf:∀ x,(f x).length=m) (l:List α):∀ (j i:Nat) (hj:j < l.length) (hi:i < m),(l.flatMap f)[j*m+i]?=(f l[j])[i]?:=by
 induction l with
 | nil=>intro j i hj;simp at hj
 | cons x l ih =>
  intro j i hj hi
  rw [List.flatMap_cons]
  cases j with
  | zero=>rw [List.getElem?_append_left (by rw [hf];omega)];simp
  | succ j =>
   have hj':j < l.length:=by simpa using hj
   rw [List.getElem?_append_right (by rw [hf,Nat.succ_mul];omega),hf]
   rw [show (j+1)*m+i - m=j*m+i by rw [Nat.succ_mul];omega]
   exact ih j i hj' hi
theorem Uk {α:Type} (f:α→List Value) (m:Nat) (hf:∀ x,(f x).length=m) (l:List α):(l.flatMap f).length=l.length*m:=by
 induction l with
 | nil=>simp
 | cons x l ih=>rw [List.flatMap_cons,List.length_append,hf,ih,List.length_cons,Nat.succ_mul];omega
theorem jJ (w:World) (C:Array Value) (t:TypeId):Below w.heap.size w (w.alloc (.cells C t))∧w.heap.size < (w.alloc (.cells C t)).heap.size∧(∀ j,(w.alloc (.cells C t)).cell? ⟨w.heap.size,j,none⟩=C[j]?)∧(w.alloc (.cells C t)).heap[w.heap.size]?=some (.cells C t (0,0)) :=
 ⟨(Below.refl _ _).alloc (Nat.le_refl _) _,by simp,fun j=>World.cell?_alloc_mark ..,heap_alloc_new w _⟩
theorem QV (w:World):Below w.heap.size w w.drew:=jl (Below.refl _ _)
end
section
open Go.RowKit
def Cg (c:ColB):Prop:=c.name.length≤maxLen∧(-9223372036854775808≤c.kind∧c.kind≤9223372036854775807)∧(-9223372036854775808≤c.key∧c.key≤9223372036854775807)
def Cv (c:KeyB):Prop:=c.secret.length≤maxLen∧(-9223372036854775808≤c.number∧c.number≤9223372036854775807)
def HasCells (w:World) (v:Value) (l:List CellB):Prop:=∃ ca cap,v=.slice ca l.length cap∧l.length≤cap∧Lies w ca l∧l.length*32≤140737488351232
abbrev colV (c:ColB) (v:Value):Value:=.agg #[strB c.name,.int .i64 c.kind,.int .i64 c.key,v]
structure LiesT (w:World) (a:Option Addr) (t:List ColB):Prop where
 ok:∀ c ∈ t,Cg c
 at_:t≠[]→∃ b off,a=some ⟨b,off,none⟩∧b < w.heap.size∧∀ j (h:j < t.length),
  w.cell? ⟨b,off+j*4,none⟩=some (strB (t[j]).name)∧w.cell? ⟨b,off+j*4+1,none⟩=some (.int .i64 (t[j]).kind)∧w.cell? ⟨b,off+j*4+2,none⟩=some (.int .i64 (t[j]).key) ∧
   ∃ v,w.cell? ⟨b,off+j*4+3,none⟩=some v∧HasCells w v (t[j]).cells
structure LiesK (w:World) (a:Option Addr) (r:List KeyB):Prop where
 ok:∀ c ∈ r,Cv c
 at_:r≠[]→∃ b off,a=some ⟨b,off,none⟩∧b < w.heap.size∧∀ j (h:j < r.length),
  w.cell? ⟨b,off+j*2,none⟩=some (.int .i64 (r[j]).number)∧w.cell? ⟨b,off+j*2+1,none⟩=some (strB (r[j]).secret)
theorem HasCells.later {w w':World} {v:Value} {l:List CellB} (h:HasCells w v l) (hb:Below w.heap.size w w'):HasCells w' v l:=by
 obtain ⟨ca,cap,hv,hc,hl,hm⟩:=h
 exact ⟨ca,cap,hv,hc,hl.later hb,hm⟩
theorem LiesT.later {w w':World} {a:Option Addr} {t:List ColB} (h:LiesT w a t) (hb:Below w.heap.size w w'):LiesT w' a t:=by
 refine ⟨h.ok,fun hne=>?_⟩
 obtain ⟨b,off,ha,hlt,hc⟩:=h.at_ hne
 refine ⟨b,off,ha,Nat.lt_of_lt_of_le hlt hb.size,fun j hj=>?_⟩
 obtain ⟨h1,h2,h3,v,h4,h5⟩:=hc j hj
 exact ⟨(hb.cell (p:=⟨b,_,none⟩) hlt).trans h1,(hb.cell (p:=⟨b,_,none⟩) hlt).trans h2,(hb.cell (p:=⟨b,_,none⟩) hlt).trans h3,v,(hb.cell (p:=⟨b,_,none⟩) hlt).trans h4,h5.later hb⟩
theorem LiesK.later {w w':World} {a:Option Addr} {r:List KeyB} (h:LiesK w a r) (hb:Below w.heap.size w w'):LiesK w' a r:=by
 refine ⟨h.ok,fun hne=>?_⟩
 obtain ⟨b,off,ha,hlt,hc⟩:=h.at_ hne
 refine ⟨b,off,ha,Nat.lt_of_lt_of_le hlt hb.size,fun j hj=>?_⟩
 obtain ⟨h1,h2⟩:=hc j hj
 exact ⟨(hb.cell (p:=⟨b,_,none⟩) hlt).trans h1,(hb.cell (p:=⟨b,_,none⟩) hlt).trans h2⟩
def qF (l:List SealB):List Value:=l.flatMap fun s=>[strB s.secret,strB s.nonce,strB s.extra,strB s.body]
theorem Xa (l:List SealB):(qF l).length=l.length*4:=Uk _ 4 (fun _=>rfl) l
theorem AK (l:List SealB) (s:SealB):qF (l++[s])=qF l++[strB s.secret,strB s.nonce,strB s.extra,strB s.body]:=by simp [qF]
theorem TN (l:List SealB) (j:Nat) (h:j < l.length):(qF l)[j*4]?=some (strB (l[j]).secret)∧(qF l)[j*4+1]?=some (strB (l[j]).nonce)∧(qF l)[j*4+2]?=some (strB (l[j]).extra)∧(qF l)[j*4+3]?=some (strB (l[j]).body) :=
 ⟨Jt _ 4 (fun _=>rfl) l j 0 h (by decide),Jt _ 4 (fun _=>rfl) l j 1 h (by decide),Jt _ 4 (fun _=>rfl) l j 2 h (by decide),Jt _ 4 (fun _=>rfl) l j 3 h (by decide)⟩
theorem Va (l:List SealB):∀ v ∈ qF l,v.oneCell'=true:=by
 intro v hv
 simp only [qF,List.mem_flatMap] at hv
 obtain ⟨c,_,hc⟩:=hv
 simp at hc
 rcases hc with rfl|rfl|rfl|rfl<;>rfl
end
section
open Go.RowKit
structure LiesS (w:World) (a:Option Addr) (l:List SealB):Prop where
 at_:l≠[]→∃ b,a=some ⟨b,0,none⟩∧b < w.heap.size∧∀ j (h:j < l.length),
  w.cell? ⟨b,j*4,none⟩=some (strB (l[j]).secret)∧w.cell? ⟨b,j*4+1,none⟩=some (strB (l[j]).nonce)∧w.cell? ⟨b,j*4+2,none⟩=some (strB (l[j]).extra)∧w.cell? ⟨b,j*4+3,none⟩=some (strB (l[j]).body)
theorem LiesS.later {w w':World} {a:Option Addr} {r:List SealB} (h:LiesS w a r) (hb:Below w.heap.size w w'):LiesS w' a r:=by
 refine ⟨fun hne=>?_⟩
 obtain ⟨b,ha,hlt,hc⟩:=h.at_ hne
 refine ⟨b,ha,Nat.lt_of_lt_of_le hlt hb.size,fun j hj=>?_⟩
 obtain ⟨h1,h2,h3,h4⟩:=hc j hj
 exact ⟨(hb.cell (p:=⟨b,_,none⟩) hlt).trans h1,(hb.cell (p:=⟨b,_,none⟩) hlt).trans h2,(hb.cell (p:=⟨b,_,none⟩) hlt).trans h3,(hb.cell (p:=⟨b,_,none⟩) hlt).trans h4⟩
theorem ZZ {w:World} {base n:Nat} {v:Value} {l:List SealB} (h:w.ownsRow base 54 4 v n (qF l)) :
  ∃ a cap,v=.slice a l.length cap∧LiesS w a l:=by
 have hn:n=l.length:=by have:=h.1;rw [Xa] at this;omega
 subst hn
 rcases h.2 with ⟨rfl,h0⟩|⟨g,cap,cur,rfl,_,hg,_⟩
 ·have:l=[]:=List.eq_nil_of_length_eq_zero h0
  subst this
  exact ⟨none,0,rfl,⟨fun hne=>absurd rfl hne⟩⟩
 ·refine ⟨_,_,rfl,⟨fun _=>⟨g,rfl,(h.lt g rfl).2,fun j hj=>?_⟩⟩⟩
  obtain ⟨h1,h2,h3,h4⟩:=TN l j hj
  exact ⟨by rw [h.cellAt (j*4) (by omega)];exact h1,by rw [h.cellAt (j*4+1) (by omega)];exact h2,by rw [h.cellAt (j*4+2) (by omega)];exact h3,by rw [h.cellAt (j*4+3) (by omega)];exact h4⟩
theorem GoodJ.logLen {j:JobB} {r:List KeyB} (h:GoodJ j r):(Jf j r).length≤100000:=by
 have:=(h.body (qE j).length).2
 rw [List.take_length] at this
 unfold Jf zY
 have e:xw j r=qx j r ⟨zt j.plan,[]⟩ (qE j):=rfl
 rw [← e] at this
 split
 ·rw [(Qx _ _ _ _ _).2];simp only [zW];omega
 ·rw [(Qx _ _ _ _ _).2];omega
theorem Da (j:JobB) (r:List KeyB):0 < (Jf j r).length:=by
 unfold Jf zY
 split
 ·rw [(Qx _ _ _ _ _).2];omega
 ·rw [(Qx _ _ _ _ _).2];omega
end
section
open Go.RowKit
def Ry (n size i:Nat):List Value:=[.int .i64 ((i*size:Nat):Int),.int .i64 ((min (i*size+size) n:Nat):Int)]
def Jy (n size k:Nat):List Value:=(List.range k).flatMap (Ry n size)
theorem Yn (n size k:Nat):Jy n size (k+1)=Jy n size k++Ry n size k:=by
 unfold Jy
 rw [List.range_succ,List.flatMap_append]
 simp
theorem Tryz.infoSpan:(Tryz.prog.info? 169).map (fun i=>(i.zero,i.size,i.bytes))=some (some (.agg #[.int .i64 0,.int .i64 0]),2,16):=by kernel_rfl
theorem Ut (n size:Nat) (w:World) (hn:n≤1000) (h1:1≤size) (hs:size≤1000) :
  Calls Tryz.prog 95 #[.int .i64 (n:Int),.int .i64 (size:Int)] w fun e w'=>∃ v,e=.returned v∧w'.ownsRow w.heap.size 169 2 v (jX n size) (Jy n size (jX n size))∧Below w.heap.size w w':=by
 obtain ⟨i0,hi,hz0,hz1,hz2⟩:=info_parts Tryz.infoSpan
 go_enter Tryz.func95,Tryz.ntmps95
 go_wp2
 go_loopw [5,6] (fun v i wr=>∃ k:Nat,k≤jX n size∧i=.int .i64 ((k*size:Nat):Int)∧wr.ownsRow w.heap.size 169 2 v k (Jy n size k)∧Below w.heap.size w wr) (fun _ i _=>n+size - (intOf i).toNat)
 case atStart=>exact ⟨0,Nat.zero_le _,by simp,World.ownsRow_nil _ _ _ _,Below.refl _ _⟩
 case round =>
  obtain ⟨k,hkl,rfl,hown,hB⟩:=hrel
  have hcl:=JZ (n:=n) h1
  have hlt2:=Jr (n:=n) (i:=k) h1
  have hlt3:=Nat.mul_le_mul_right size hkl
  have HKS:Hid ((k+1)*size=k*size+size):=Nat.succ_mul _ _
  have HL:=hid hlt2
  have HSA:Hid (Ry n size k=[.int .i64 ((k*size:Nat):Int),.int .i64 ((min (k*size+size) n:Nat):Int)]):=rfl
  clear hlt2
  generalize k*size=m at *
  by_cases hlt:m < n
  ·have hmi:(m:Int) < (n:Int):=by omega
   have hkc:=HL.out.2 hlt
   by_cases hmn:m+size≤n
   ·have hq:¬ (n:Int) < (m:Int)+(size:Int):=by omega
    have hE:min (m+size) n=m+size:=by omega
    rw [hE] at HSA
    simp only [Int.natCast_add] at HSA
    clear hE
    have hown1:=hown.alloc (Obj.cells #[.int .i64 ((m:Nat):Int),.int .i64 ((m:Int)+(size:Int))] 169)
    go_wp2_with (at_builtin;refine wpList_append_own _ rfl (.tmp 13) (.tmp 21) 166 rfl w.heap.size 169 i0 (.agg #[.int .i64 0,.int .i64 0]) 2 16 Tryz.underlying166 hi hz0 hz1 hz2 rfl (by decide) _ _ _ rfl hown1 ⟨_,0,none⟩ 1 1 [.int .i64 ((m:Nat):Int),.int .i64 ((m:Int)+(size:Int))] rfl rfl (qC wr #[.int .i64 ((m:Nat):Int),.int .i64 ((m:Int)+(size:Int))] 169) (by intro u hu;simp at hu;rcases hu with rfl|rfl<;>rfl) (by unfold maxLen;omega) (by omega) (by have:=hB.size;simp;omega) ?_)
    intro v3 w3 hown3 hgr3 _
    have HO3:Hid (w3.ownsRow w.heap.size 169 2 v3 (k+1) (Jy n size (k+1))):=by
     rw [Yn,HSA.out]
     exact hown3
    have HB3:=hid ((hB.alloc hB.size _).grown hgr3 (by have:=hB.size;simp;omega) (fun k hk=>(hown.lt k hk).1))
    clear hown hown1 hown3 hgr3 hB
    go_wp2
    go_roundw
    case rel=>exact ⟨k+1,by omega,by rw [HKS.out];go_num,HO3.out,HB3.out⟩
    case measure=>simp [intOf];omega
   ·have hq:(n:Int) < (m:Int)+(size:Int):=by omega
    have hE:min (m+size) n=n:=by omega
    rw [hE] at HSA
    clear hE
    have hown1:=hown.alloc (Obj.cells #[.int .i64 ((m:Nat):Int),.int .i64 ((n:Nat):Int)] 169)
    go_wp2_with (at_builtin;refine wpList_append_own _ rfl (.tmp 13) (.tmp 21) 166 rfl w.heap.size 169 i0 (.agg #[.int .i64 0,.int .i64 0]) 2 16 Tryz.underlying166 hi hz0 hz1 hz2 rfl (by decide) _ _ _ rfl hown1 ⟨_,0,none⟩ 1 1 [.int .i64 ((m:Nat):Int),.int .i64 ((n:Nat):Int)] rfl rfl (qC wr #[.int .i64 ((m:Nat):Int),.int .i64 ((n:Nat):Int)] 169) (by intro u hu;simp at hu;rcases hu with rfl|rfl<;>rfl) (by unfold maxLen;omega) (by omega) (by have:=hB.size;simp;omega) ?_)
    intro v3 w3 hown3 hgr3 _
    have HO3:Hid (w3.ownsRow w.heap.size 169 2 v3 (k+1) (Jy n size (k+1))):=by
     rw [Yn,HSA.out]
     exact hown3
    have HB3:=hid ((hB.alloc hB.size _).grown hgr3 (by have:=hB.size;simp;omega) (fun k hk=>(hown.lt k hk).1))
    clear hown hown1 hown3 hgr3 hB
    go_wp2
    go_roundw
    case rel=>exact ⟨k+1,by omega,by rw [HKS.out];go_num,HO3.out,HB3.out⟩
    case measure=>simp [intOf];omega
  ·have hke:k=jX n size:=by
    have:=HL.out
    omega
   subst hke
   go_wp2
   go_ret
   exact ⟨_,rfl,hown,hB⟩
end
end Go.Proofs.YthhpbhpfagoapabGreat
