import Derived.Test.YthhpbhpfagoapaaGreatJAS
import Derived.Test.YthhpbhpfagoapaaGreatJAG
import Derived.Test.YthhpbhpfagoapaaGreatJAO
import Derived.Test.YthhpbhpfagoapaaGreatJAN
namespace Go.Proofs.YthhpbhpfagoapaaGreat
set_option linter.unusedVariables false
set_option linter.unusedSimpArgs false
set_option maxRecDepth 100000
set_option maxHeartbeats 16000000
section
theorem sheet_kept {j:JobB} {r r2:List KeyB} {trust:Bool} (h:GoodJ j r) (hs:(fileB j r).length≤65000) (hr2:ringOkB r2=true) (hsec:hasNumB r2 j.plan.foot=true→secretB r2 j.plan.foot=secretB r j.plan.foot) :
  sheetF (fileB j r) j.pre r2 trust=if hasNumB r2 j.plan.foot=false∧¬ (j.plan.told=true∧trust=true) then (8,none) else (0,some (sheetJ j r)):=by
 have hpre:=h.pre
 obtain ⟨_,_,hf1,hf2⟩:=h.sizes
 have hfoot:((j.plan.foot.toNat:Nat):Int)=j.plan.foot:=by omega
 have hsh:=sheetAt_some (sheetJ_ok h)
 have hfl:=h.foot.2.2
 unfold sheetF
 rw [if_neg (by omega),if_neg (by rw [hr2];decide),formAt_file h hs]
 show (if j.plan.told=true then _ else _)=_
 cases ht:j.plan.told with
 | true =>
  have e1:(formJ j r).footer=footJ j r:=by show (if j.plan.told=true then footJ j r else [])=_;rw [if_pos ht]
  rw [if_pos rfl,e1]
  rw [show sheetAt (formJ j r).foot (formJ j r).parts (footJ j r)=some (sheetJ j r) from hsh]
  simp only [true_and]
  cases trust with
  | true=>simp
  | false =>
   rw [if_neg (by decide)]
   show (if hasNumB r2 ((j.plan.foot.toNat:Nat):Int)=false then ((8:Int),(none:Option SheetF)) else _)=_
   rw [hfoot]
   cases hn:hasNumB r2 j.plan.foot with
   | false=>simp
   | true =>
    rw [if_neg (by decide)]
    have e2:openF (secretB r2 ((formJ j r).foot:Int)) (formJ j r).nonce (boundB j.pre 83 0 0 0++footJ j r) (formJ j r).body=some []:=by
     show openF (secretB r2 ((j.plan.foot.toNat:Nat):Int)) (nonceB j.draw (bodySt j r).log.length) _ (bodyB (secretB r j.plan.foot) (nonceB j.draw (bodySt j r).log.length) (if j.plan.told=true then boundB j.pre 83 0 0 0++footJ j r else boundB j.pre 70 0 0 0) (if j.plan.told=true then [] else footJ j r))=_
     rw [hfoot,hsec hn,if_pos ht,if_pos ht]
     exact openF_body _ _ _ _ (by simp)
    rw [if_pos e2]
    simp
 | false =>
  rw [if_neg (by decide)]
  show (if hasNumB r2 ((j.plan.foot.toNat:Nat):Int)=false then ((8:Int),(none:Option SheetF)) else _)=_
  rw [hfoot]
  cases hn:hasNumB r2 j.plan.foot with
  | false=>simp
  | true =>
   rw [if_neg (by decide),if_neg (by simp)]
   have e2:openF (secretB r2 ((formJ j r).foot:Int)) (formJ j r).nonce (boundB j.pre 70 0 0 0) (formJ j r).body=some (footJ j r):=by
    show openF (secretB r2 ((j.plan.foot.toNat:Nat):Int)) (nonceB j.draw (bodySt j r).log.length) _ (bodyB (secretB r j.plan.foot) (nonceB j.draw (bodySt j r).log.length) (if j.plan.told=true then boundB j.pre 83 0 0 0++footJ j r else boundB j.pre 70 0 0 0) (if j.plan.told=true then [] else footJ j r))=_
    rw [hfoot,hsec hn,if_neg (by rw [ht];decide),if_neg (by rw [ht];decide)]
    exact openF_body _ _ _ _ (by omega)
   rw [e2]
   show (match sheetAt j.plan.foot.toNat (partsJ j r) (footJ j r) with|none=>((9:Int),(none:Option SheetF))|some S=>(0,some S))=_
   rw [hsh]
theorem found_kept {j:JobB} {r r2:List KeyB} {i:Nat} (h:GoodJ j r) (hi:i < j.table.length) (hk:(j.table[i]).key=0∨(hasNumB r2 (j.table[i]).key=true→secretB r2 (j.table[i]).key=secretB r (j.table[i]).key)) :
  foundF j.pre r2 (sheetJ j r) i=if 0 < (j.table[i]).key∧hasNumB r2 (j.table[i]).key=false then ⟨(j.table[i]).name,(j.table[i]).kind,(j.table[i]).key,1,[]⟩ else ⟨(j.table[i]).name,(j.table[i]).kind,(j.table[i]).key,0,(j.table[i]).cells⟩:=by
 have hca:colAt (sheetJ j r).cols i=bareC (j.table[i]):=by
  show colAt (bareT j.table) i=_
  rw [bare_at,colAt_eq hi]
 have hk9:=(h.table.head i hi).2.2
 unfold foundF
 rw [hca]
 show (if 0 < (j.table[i]).key∧hasNumB r2 (j.table[i]).key=false then _ else _)=_
 by_cases hl:0 < (j.table[i]).key∧hasNumB r2 (j.table[i]).key=false
 ·rw [if_pos hl,if_pos hl]
  rfl
 ·rw [if_neg hl,if_neg hl]
  have hk2:(j.table[i]).key=0∨secretB r2 (j.table[i]).key=secretB r (j.table[i]).key:=by
   rcases hk with hk|hk
   ·exact .inl hk
   ·by_cases h0:(j.table[i]).key=0
    ·exact .inl h0
    ·refine .inr (hk ?_)
     cases hn:hasNumB r2 (j.table[i]).key with
     | true=>rfl
     | false=>exact absurd ⟨by omega,hn⟩ hl
  have hc:=cells_file h hi hk2
  show (match cellsF j.pre r2 (j.table[i]).kind (j.table[i]).key i (some []) (spotsF (sheetJ j r)) (sheetJ j r).mods with|none=>_|some cells=>_)=_
  rw [hc]
  rfl
end
section
open Go.RowKit
def pickB (c n:Int):Int:=(if c < 0 then -(c+1) else c) % n
theorem pickB_range (c n:Int) (hn:0 < n):0≤pickB c n∧pickB c n < n:=⟨Int.emod_nonneg _ (by omega),Int.emod_lt_of_pos _ hn⟩
theorem pick_any (c n:Int) (w:World) (h0:-9223372036854775808≤c) (h1:c≤9223372036854775807) (hn:0 < n) (hn1:n≤9223372036854775807) :
  Calls Tryz.prog 22 #[.int .i64 c,.int .i64 n] w fun e w'=>e=.returned (.int .i64 (pickB c n))∧w'=w:=by
 have hd:(n == 0)=false:=by simp;omega
 by_cases hc:c < 0
 ·have HE:Hid (pickB c n=(-(c+1)) % n):=by simp [Hid,pickB,hc]
  go_enter Tryz.func22,Tryz.ntmps22
  go_wp2
  go_ret
  exact ⟨ret_int (by rw [HE.out,← Int.neg_tmod,Int.tmod_eq_emod_of_nonneg (by omega)]),rfl⟩
 ·have HE:Hid (pickB c n=c % n):=by simp [Hid,pickB,hc]
  go_enter Tryz.func22,Tryz.ntmps22
  go_wp2
  go_ret
  exact ⟨ret_int HE.out.symm,rfl⟩
def shB (v:Int):Nat→Int
 | 0=>v
 | k+1=>shB v k / 31
theorem shB_range (v:Int) (h0:0≤v) (h1:v≤2000000000000) (k:Nat):0≤shB v k∧shB v k≤2000000000000:=by
 induction k with
 | zero=>exact ⟨h0,h1⟩
 | succ k ih=>obtain ⟨a,b⟩:=ih;simp only [shB];omega
def digitsB (v:Int):Nat→List UInt8
 | 0=>[]
 | k+1=>digitsB v k++[UInt8.ofNat (shB v k % 256).toNat]
theorem digitsB_length (v:Int) (k:Nat):(digitsB v k).length=k:=by
 induction k with
 | zero=>rfl
 | succ k ih=>simp [digitsB,ih]
theorem cellsB_digits (v:Int) (k:Nat):cellsB (digitsB v (k+1))=cellsB (digitsB v k)++[.int .u8 (shB v k % 256)]:=by
 simp only [digitsB,cellsB,List.map_append,List.map_cons,List.map_nil]
 have h:(((UInt8.ofNat (shB v k % 256).toNat).toNat:Nat):Int)=shB v k % 256:=by
  simp only [UInt8.toNat_ofNat'];omega
 rw [h]
def rawSecB (c:Int) (n:Nat):List UInt8:=digitsB (pickB c 1099511627776+(n:Int)*1000003) 8
theorem rawSecB_length (c:Int) (n:Nat):(rawSecB c n).length=8:=digitsB_length _ _
def outB (without:Int) (n:Nat):Bool:=bits .and .i64 without (wrap64 (2 ^ n)) != 0
def ringB (c without:Int):Nat→List (Nat × List UInt8)
 | 0=>[]
 | k+1=>ringB c without k++(if outB without (k+1)=true then [] else [(k+1,rawSecB c (k+1))])
theorem ringB_length (c without:Int) (k:Nat):(ringB c without k).length≤k:=by
 induction k with
 | zero=>exact Nat.le_refl _
 | succ k ih=>simp only [ringB,List.length_append];split<;>simp<;>omega
def keysC (l:List (Nat × List UInt8)):List Value:=l.flatMap fun x=>[.int .i64 (x.1:Int),strB x.2]
theorem keysC_append (a b:List (Nat × List UInt8)):keysC (a++b)=keysC a++keysC b:=by simp [keysC]
theorem Tryz.infoKey:(Tryz.prog.info? 63).map (fun i=>(i.zero,i.size,i.bytes))=some (some (.agg #[.int .i64 0,.string ⟨#[]⟩]),2,24):=by kernel_rfl
theorem rows_apart {W:World} {b b' e e' s s' n n':Nat} {v v':Value} {xs xs':List Value} (h:W.ownsRow b e s v n xs) (h':W.ownsRow b' e' s' v' n' xs') (he:e≠e') :
  v.ownBlock=none∨v.ownBlock≠v'.ownBlock:=by
 rcases h.2 with ⟨rfl,_⟩|⟨g,cap,cur,rfl,_,hg,_⟩
 ·exact .inl rfl
 ·right
  rcases h'.2 with ⟨rfl,_⟩|⟨g',cap',cur',rfl,_,hg',_⟩
  ·simp [Value.ownBlock]
  ·simp only [Value.ownBlock,ne_eq,Option.some.injEq]
   intro hgg
   subst hgg
   rw [hg] at hg'
   simp at hg'
   exact he hg'.2
theorem cell_lit (w:World) (C:Array Value) (t:TypeId):∀ (j:Nat) (u:Value),C.toList[j]?=some u→(w.alloc (.cells C t)).cell? ((⟨w.heap.size,0,none⟩:Addr).add j)=some u:=by
 intro j u h
 have:(⟨w.heap.size,0,none⟩:Addr).add j=⟨w.heap.size,j,none⟩:=by unfold Addr.add;split<;>simp_all
 rw [this,World.cell?_alloc_mark]
 simpa using h
theorem ring_in {w wr w2:World} {b b' v:Value} {n j:Nat} {V:Int} {xs:List Value} {o:Obj} (hB:Below w.heap.size w wr)
  (hb:wr.ownsRow w.heap.size 5 1 b j (cellsB (digitsB V j))) (hl:wr.ownsRow w.heap.size 63 2 v n xs)
  (hb2:w2.ownsRow w.heap.size 5 1 b' (j+1) (cellsB (digitsB V j)++[.int .u8 (shB V j % 256)])) (hg:(wr.alloc o).grownBy w2 b.ownBlock) :
  w2.ownsRow w.heap.size 5 1 b' (j+1) (cellsB (digitsB V (j+1)))∧w2.ownsRow w.heap.size 63 2 v n xs∧Below w.heap.size w w2:=by
 have hz:=hB.size
 refine ⟨by rw [cellsB_digits];exact hb2,(hl.alloc o).kept hg (rows_apart hl hb (by decide)),?_⟩
 exact (hB.alloc hz o).grown hg (by simp;omega) (fun k hk=>(hb.lt k hk).1)
theorem ring_out {w wr w2:World} {v v':Value} {n k:Nat} {c without:Int} {o:Obj} (hB:Below w.heap.size w wr) (hn:n=(ringB c without k).length) (hob:outB without (k+1)=false)
  (hl:wr.ownsRow w.heap.size 63 2 v n (keysC (ringB c without k)))
  (hl2:w2.ownsRow w.heap.size 63 2 v' (n+1) (keysC (ringB c without k)++[.int .i64 ((k:Int)+1),strB (rawSecB c (k+1))])) (hg:(wr.alloc o).grownBy w2 v.ownBlock) :
  w2.ownsRow w.heap.size 63 2 v' (ringB c without (k+1)).length (keysC (ringB c without (k+1)))∧Below w.heap.size w w2:=by
 have hz:=hB.size
 refine ⟨?_,(hB.alloc hz o).grown hg (by simp;omega) (fun k hk=>(hl.lt k hk).1)⟩
 subst hn
 simp only [ringB,hob,Bool.false_eq_true,if_false,keysC_append,List.length_append,List.length_cons,List.length_nil]
 exact hl2
theorem ring_any (c without:Int) (w:World) (h0:-9223372036854775808≤c) (h1:c≤9223372036854775807) :
  Calls Tryz.prog 29 #[.int .i64 c,.int .i64 without] w fun e w'=>∃ v,e=.returned v∧w'.ownsRow w.heap.size 63 2 v (ringB c without 5).length (keysC (ringB c without 5))∧Below w.heap.size w w':=by
 obtain ⟨i0,hi,hz0,hz1,hz2⟩:=info_parts Tryz.infoU8
 obtain ⟨i1,hi1,hy0,hy1,hy2⟩:=info_parts Tryz.infoKey
 go_enter Tryz.func29,Tryz.ntmps29
 go_wp2
 go_loopw [5,6] (fun v i wr=>∃ k:Nat,k≤5∧i=.int .i64 ((k:Int)+1)∧wr.ownsRow w.heap.size 63 2 v (ringB c without k).length (keysC (ringB c without k))∧Below w.heap.size w wr)
  (fun _ i _=>7 - (intOf i).toNat)
 case atStart=>exact ⟨0,Nat.zero_le _,rfl,World.ownsRow_nil _ _ _ _,Below.refl _ _⟩
 case round =>
  obtain ⟨k,hk,rfl,hown,hB⟩:=hrel
  by_cases hlt:k < 5
  ·cases hob:outB without (k+1) with
   | true =>
    have hob2:(bits BinOp.and IntKind.i64 without (wrap64 (2 ^ (k+1))) != 0)=true:=hob
    have HR:Hid (ringB c without (k+1)=ringB c without k):=by simp [Hid,ringB,hob]
    clear hob
    go_wp2
    go_roundw
    case rel=>exact ⟨k+1,by omega,by go_num,by rw [HR.out];exact hown,hB⟩
    case measure=>simp [intOf];omega
   | false =>
    have hob2:(bits BinOp.and IntKind.i64 without (wrap64 (2 ^ (k+1))) != 0)=false:=hob
    have Hob:=hid hob
    clear hob
    have hrl:=ringB_length c without k
    obtain ⟨hp0,hp1⟩:=pickB_range c 1099511627776 (by decide)
    go_wp2_with fail
    refine (pick_any c _ _ h0 h1 (by decide) (by decide)).mono ?_
    rintro e wx ⟨rfl,rfl⟩
    have HV:Hid (rawSecB c (k+1)=digitsB (pickB c 1099511627776+((k:Int)+1)*1000003) 8):=rfl
    have hV0:0≤pickB c 1099511627776+((k:Int)+1)*1000003:=by omega
    have hV1:pickB c 1099511627776+((k:Int)+1)*1000003≤2000000000000:=by omega
    go_wp2_with fail
    generalize pickB c 1099511627776+((k:Int)+1)*1000003=V at *
    go_loopw [7,8,9] (fun t b i wr=>∃ j:Nat,j≤8∧i=.int .i64 (j:Int)∧t=.int .i64 (shB V j)∧wr.ownsRow w.heap.size 5 1 b j (cellsB (digitsB V j))∧wr.ownsRow w.heap.size 63 2 u5 (ringB c without k).length (keysC (ringB c without k))∧Below w.heap.size w wr)
     (fun _ _ i _=>8 - (intOf i).toNat)
    case atStart=>exact ⟨0,Nat.zero_le _,rfl,rfl,World.ownsRow_nil _ _ _ _,hown,hB⟩
    case round =>
     clear hown hB
     obtain ⟨j,hj,rfl,rfl,hb,hown,hB⟩:=hrel
     obtain ⟨hs0,hs1⟩:=shB_range V hV0 hV1 j
     by_cases hj8:j < 8
     ·have HS:Hid (shB V (j+1)=shB V j / 31):=rfl
      go_wp2_with (at_builtin;refine wpList_append_own _ rfl (.tmp 28) (.tmp 31) 149 rfl w.heap.size 5 i0 (.int .u8 0) 1 1 Tryz.underlying149 hi hz0 hz1 hz2 rfl (by decide) _ _ _ rfl (hb.alloc _) ⟨_,0,none⟩ 1 1 [.int .u8 (shB V j % 256)] rfl rfl ?c1 ?c2 ?c3 ?c4 ?c5 ?_)
      case c1=>exact cell_lit wr #[.int .u8 (shB V j % 256)] 5
      case c2=>intro u hu;simp at hu;subst hu;rfl
      case c3=>unfold maxLen;omega
      case c4=>omega
      case c5=>have:=hB.size;simp;omega
      intro b2 w2 hb2 hg2 _
      have HR:=hid (ring_in hB hb hown hb2 hg2)
      clear hb2 hg2 hB hb hown
      go_wp2
      go_roundw
      case rel=>exact ⟨j+1,by omega,by go_num,by rw [HS.out],HR.out.1,HR.out.2.1,HR.out.2.2⟩
      case measure=>simp [intOf];omega
     ·have hj8':j=8:=by omega
      subst hj8'
      rw [← HV.out] at hb
      have hcv:=conv_any hb
      have hsl:=rawSecB_length c (k+1)
      have Hsl:=hid hsl
      clear hsl hj8
      generalize hsec:rawSecB c (k+1)=sec at *
      have Hsec:=hid hsec
      clear hsec
      go_wp2_with (at_builtin;refine wpList_append_own _ rfl (.tmp 35) (.tmp 40) 27 rfl w.heap.size 63 i1 (.agg #[.int .i64 0,.string ⟨#[]⟩]) 2 24 Tryz.underlying27 hi1 hy0 hy1 hy2 rfl (by decide) _ _ _ rfl (hown.alloc _) ⟨_,0,none⟩ 1 1 [.int .i64 ((k:Int)+1),strB sec] rfl rfl ?c1 ?c2 ?c3 ?c4 ?c5 ?_)
      case c1=>exact cell_lit wr #[.int .i64 ((k:Int)+1),strB sec] 63
      case c2=>intro u hu;simp at hu;rcases hu with rfl|rfl<;>rfl
      case c3=>unfold maxLen;omega
      case c4=>omega
      case c5=>have:=hB.size;simp;omega
      intro v2 w2 hl2 hg2 _
      have HR:=hid (ring_out hB rfl Hob.out hown (by rw [Hsec.out];exact hl2) hg2)
      clear hl2 hg2 hB hown hcv hb
      go_wp2
      go_roundw
      case rel=>exact ⟨k+1,by omega,by go_num,HR.out.1,HR.out.2⟩
      case measure=>simp [intOf];omega
  ·have hk5:k=5:=by omega
   subst hk5
   go_wp2
   go_ret
   exact ⟨_,rfl,hown,hB⟩
end
section
open Go.RowKit
theorem ok_small {kind:Int} {l:List CellB} (h:cellsOkB kind l=true) (hok:∀ c ∈ l,okC c):(∀ c ∈ l,smallC c)∧l.length≤60:=by
 unfold cellsOkB at h
 simp only [Bool.and_eq_true,Bool.or_eq_true,decide_eq_true_eq,List.all_eq_true] at h
 obtain ⟨⟨hk,hl⟩,hf⟩:=h
 refine ⟨fun c hc=>?_,hl⟩
 obtain ⟨h0,h1,_⟩:=hok c hc
 refine ⟨h0,h1,?_⟩
 have:=hf c hc
 unfold fitsB at this
 split at this
 ·simp at this;rw [this.2];simp
 ·split at this
  ·simp at this;rw [this];simp
  ·simp at this;exact this.2
def packS (kind:Int) (l:List CellB):List UInt8:=if cellsOkB kind l=true then pageB kind l else []
def packE (kind:Int) (l:List CellB):Int:=if cellsOkB kind l=true then 0 else 5
end
section
open Go.RowKit
def okCol (c:ColB):Prop:=c.name.length≤maxLen∧(-9223372036854775808≤c.kind∧c.kind≤9223372036854775807)∧(-9223372036854775808≤c.key∧c.key≤9223372036854775807)
def okKey (c:KeyB):Prop:=c.secret.length≤maxLen∧(-9223372036854775808≤c.number∧c.number≤9223372036854775807)
def HasCells (w:World) (v:Value) (l:List CellB):Prop:=∃ ca cap,v=.slice ca l.length cap∧l.length≤cap∧Lies w ca l∧l.length*32≤140737488351232
abbrev colV (c:ColB) (v:Value):Value:=.agg #[strB c.name,.int .i64 c.kind,.int .i64 c.key,v]
structure LiesT (w:World) (a:Option Addr) (t:List ColB):Prop where
 ok:∀ c ∈ t,okCol c
 at_:t≠[]→∃ b off,a=some ⟨b,off,none⟩∧b < w.heap.size∧∀ j (h:j < t.length),
  w.cell? ⟨b,off+j*4,none⟩=some (strB (t[j]).name)∧w.cell? ⟨b,off+j*4+1,none⟩=some (.int .i64 (t[j]).kind)∧w.cell? ⟨b,off+j*4+2,none⟩=some (.int .i64 (t[j]).key) ∧
   ∃ v,w.cell? ⟨b,off+j*4+3,none⟩=some v∧HasCells w v (t[j]).cells
structure LiesK (w:World) (a:Option Addr) (r:List KeyB):Prop where
 ok:∀ c ∈ r,okKey c
 at_:r≠[]→∃ b off,a=some ⟨b,off,none⟩∧b < w.heap.size∧∀ j (h:j < r.length),
  w.cell? ⟨b,off+j*2,none⟩=some (.int .i64 (r[j]).number)∧w.cell? ⟨b,off+j*2+1,none⟩=some (strB (r[j]).secret)
theorem HasCells.later {w w':World} {v:Value} {l:List CellB} (h:HasCells w v l) (hb:Below w.heap.size w w'):HasCells w' v l:=by
 obtain ⟨ca,cap,hv,hc,hl,hm⟩:=h
 exact ⟨ca,cap,hv,hc,hl.later hb,hm⟩
theorem LiesT.later {w w':World} {a:Option Addr} {t:List ColB} (h:LiesT w a t) (hb:Below w.heap.size w w'):LiesT w' a t:=by
 refine ⟨h.ok,fun hne=>?_⟩
 obtain ⟨b,off,ha,hlt,hc⟩:=h.at_ hne
 refine ⟨b,off,ha,Nat.lt_of_lt_of_le hlt hb.size,fun j hj=>?_⟩
 obtain ⟨h1,h2,h3,v,h4,h5⟩:=hc j hj
 exact ⟨(hb.cell (p:=⟨b,_,none⟩) hlt).trans h1,(hb.cell (p:=⟨b,_,none⟩) hlt).trans h2,(hb.cell (p:=⟨b,_,none⟩) hlt).trans h3,v,(hb.cell (p:=⟨b,_,none⟩) hlt).trans h4,h5.later hb⟩
theorem LiesK.later {w w':World} {a:Option Addr} {r:List KeyB} (h:LiesK w a r) (hb:Below w.heap.size w w'):LiesK w' a r:=by
 refine ⟨h.ok,fun hne=>?_⟩
 obtain ⟨b,off,ha,hlt,hc⟩:=h.at_ hne
 refine ⟨b,off,ha,Nat.lt_of_lt_of_le hlt hb.size,fun j hj=>?_⟩
 obtain ⟨h1,h2⟩:=hc j hj
 exact ⟨(hb.cell (p:=⟨b,_,none⟩) hlt).trans h1,(hb.cell (p:=⟨b,_,none⟩) hlt).trans h2⟩
def sealsC (l:List SealB):List Value:=l.flatMap fun s=>[strB s.secret,strB s.nonce,strB s.extra,strB s.body]
theorem sealsC_snoc (l:List SealB) (s:SealB):sealsC (l++[s])=sealsC l++[strB s.secret,strB s.nonce,strB s.extra,strB s.body]:=by simp [sealsC]
end
end Go.Proofs.YthhpbhpfagoapaaGreat
