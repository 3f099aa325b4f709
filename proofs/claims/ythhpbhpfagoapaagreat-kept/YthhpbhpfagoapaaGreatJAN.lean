import Derived.Test.YthhpbhpfagoapaaGreatJBB
import Derived.Test.YthhpbhpfagoapaaGreatJAT
import Derived.Test.YthhpbhpfagoapaaGreatJAR
import Derived.Deep.QuietTactic
import Derived.BigQuiet
import Derived.WalkSmall
import Derived.Lib.Strings
namespace Go.Proofs.YthhpbhpfagoapaaGreat
set_option linter.unusedVariables false
set_option linter.unusedSimpArgs false
set_option maxRecDepth 100000
set_option maxHeartbeats 16000000
open Go.RowKit
section
def qe (c n:Int):Int:=(if c < 0 then -(c+1) else c) % n
theorem qG (c n:Int) (hn:0 < n):0≤qe c n∧qe c n < n:=⟨Int.emod_nonneg _ (by omega),Int.emod_lt_of_pos _ hn⟩
theorem QU (c n:Int) (w:World) (h0:-9223372036854775808≤c) (h1:c≤9223372036854775807) (hn:0 < n) (hn1:n≤9223372036854775807) :
  Calls Tryz.prog 22 #[.int .i64 c,.int .i64 n] w fun e w'=>e=.returned (.int .i64 (qe c n))∧w'=w:=by
 have hd:(n == 0)=false:=by simp;omega
 by_cases hc:c < 0
 ·have HE:Hid (qe c n=(-(c+1)) % n):=by simp [Hid,qe,hc]
  go_enter Tryz.func22,Tryz.ntmps22
  go_wp2
  go_ret
  exact ⟨qY (by rw [HE.out,← Int.neg_tmod,Int.tmod_eq_emod_of_nonneg (by omega)]),rfl⟩
 ·have HE:Hid (qe c n=c % n):=by simp [Hid,qe,hc]
  go_enter Tryz.func22,Tryz.ntmps22
  go_wp2
  go_ret
  exact ⟨qY HE.out.symm,rfl⟩
def shB (v:Int):Nat→Int
 | 0=>v
 | k+1=>shB v k / 31
theorem CM (v:Int) (h0:0≤v) (h1:v≤2000000000000) (k:Nat):0≤shB v k∧shB v k≤2000000000000:=by
 induction k with
 | zero=>exact ⟨h0,h1⟩
 | succ k ih=>obtain ⟨a,b⟩:=ih;simp only [shB];omega
def Jz (v:Int):Nat→List UInt8
 | 0=>[]
 | k+1=>Jz v k++[UInt8.ofNat (shB v k % 256).toNat]
theorem GJ (v:Int) (k:Nat):(Jz v k).length=k:=by
 induction k with
 | zero=>rfl
 | succ k ih=>simp [Jz,ih]
theorem Rf (v:Int) (k:Nat):qo (Jz v (k+1))=qo (Jz v k)++[.int .u8 (shB v k % 256)]:=by
 simp only [Jz,qo,List.map_append,List.map_cons,List.map_nil]
 have h:(((UInt8.ofNat (shB v k % 256).toNat).toNat:Nat):Int)=shB v k % 256:=by
  simp only [UInt8.toNat_ofNat'];omega
 rw [h]
def qZ (c:Int) (n:Nat):List UInt8:=Jz (qe c 1099511627776+(n:Int)*1000003) 8
theorem XB (c:Int) (n:Nat):(qZ c n).length=8:=GJ _ _
def qn (without:Int) (n:Nat):Bool:=bits .and .i64 without (wrap64 (2 ^ n)) != 0
def Jj (c without:Int):Nat→List (Nat × List UInt8)
 | 0=>[]
 | k+1=>Jj c without k++(if qn without (k+1)=true then [] else [(k+1,qZ c (k+1))])
theorem YJ (c without:Int) (k:Nat):(Jj c without k).length≤k:=by
 induction k with
 | zero=>exact Nat.le_refl _
 | succ k ih=>simp only [Jj,List.length_append];split<;>simp<;>omega
def Zz (l:List (Nat × List UInt8)):List Value:=l.flatMap fun x=>[.int .i64 (x.1:Int),strB x.2]
theorem Yr (a b:List (Nat × List UInt8)):Zz (a++b)=Zz a++Zz b:=by simp [Zz]
theorem Tryz.infoKey:(Tryz.prog.info? 63).map (fun i=>(i.zero,i.size,i.bytes))=some (some (.agg #[.int .i64 0,.string ⟨#[]⟩]),2,24):=by kernel_rfl
theorem Up {W:World} {b b' e e' s s' n n':Nat} {v v':Value} {xs xs':List Value} (h:W.ownsRow b e s v n xs) (h':W.ownsRow b' e' s' v' n' xs') (he:e≠e') :
  v.ownBlock=none∨v.ownBlock≠v'.ownBlock:=by
 rcases h.2 with ⟨rfl,_⟩|⟨g,cap,cur,rfl,_,hg,_⟩
 ·exact .inl rfl
 ·right
  rcases h'.2 with ⟨rfl,_⟩|⟨g',cap',cur',rfl,_,hg',_⟩
  ·simp [Value.ownBlock]
  ·simp only [Value.ownBlock,ne_eq,Option.some.injEq]
   intro hgg
   subst hgg
   rw [hg] at hg'
   simp at hg'
   exact he hg'.2
theorem Im (w:World) (C:Array Value) (t:TypeId):∀ (j:Nat) (u:Value),C.toList[j]?=some u→(w.alloc (.cells C t)).cell? ((⟨w.heap.size,0,none⟩:Addr).add j)=some u:=by
 intro j u h
 have:(⟨w.heap.size,0,none⟩:Addr).add j=⟨w.heap.size,j,none⟩:=by unfold Addr.add;split<;>simp_all
 rw [this,World.cell?_alloc_mark]
 simpa using h
theorem Sy {w wr w2:World} {b b' v:Value} {n j:Nat} {V:Int} {xs:List Value} {o:Obj} (hB:Below w.heap.size w wr)
  (hb:wr.ownsRow w.heap.size 5 1 b j (qo (Jz V j))) (hl:wr.ownsRow w.heap.size 63 2 v n xs)
  (hb2:w2.ownsRow w.heap.size 5 1 b' (j+1) (qo (Jz V j)++[.int .u8 (shB V j % 256)])) (hg:(wr.alloc o).grownBy w2 b.ownBlock) :
  w2.ownsRow w.heap.size 5 1 b' (j+1) (qo (Jz V (j+1)))∧w2.ownsRow w.heap.size 63 2 v n xs∧Below w.heap.size w w2:=by
 have hz:=hB.size
 refine ⟨by rw [Rf];exact hb2,(hl.alloc o).kept hg (Up hl hb (by decide)),?_⟩
 exact (hB.alloc hz o).grown hg (by simp;omega) (fun k hk=>(hb.lt k hk).1)
theorem Tm {w wr w2:World} {v v':Value} {n k:Nat} {c without:Int} {o:Obj} (hB:Below w.heap.size w wr) (hn:n=(Jj c without k).length) (hob:qn without (k+1)=false)
  (hl:wr.ownsRow w.heap.size 63 2 v n (Zz (Jj c without k)))
  (hl2:w2.ownsRow w.heap.size 63 2 v' (n+1) (Zz (Jj c without k)++[.int .i64 ((k:Int)+1),strB (qZ c (k+1))])) (hg:(wr.alloc o).grownBy w2 v.ownBlock) :
  w2.ownsRow w.heap.size 63 2 v' (Jj c without (k+1)).length (Zz (Jj c without (k+1)))∧Below w.heap.size w w2:=by
 have hz:=hB.size
 refine ⟨?_,(hB.alloc hz o).grown hg (by simp;omega) (fun k hk=>(hl.lt k hk).1)⟩
 subst hn
 simp only [Jj,hob,Bool.false_eq_true,if_false,Yr,List.length_append,List.length_cons,List.length_nil]
 exact hl2
theorem Ex (c without:Int) (w:World) (h0:-9223372036854775808≤c) (h1:c≤9223372036854775807) :
  Calls Tryz.prog 29 #[.int .i64 c,.int .i64 without] w fun e w'=>∃ v,e=.returned v∧w'.ownsRow w.heap.size 63 2 v (Jj c without 5).length (Zz (Jj c without 5))∧Below w.heap.size w w':=by
 obtain ⟨i0,hi,hz0,hz1,hz2⟩:=info_parts Tryz.infoU8
 obtain ⟨i1,hi1,hy0,hy1,hy2⟩:=info_parts Tryz.infoKey
 go_enter Tryz.func29,Tryz.ntmps29
 go_wp2
 go_loopw [5,6] (fun v i wr=>∃ k:Nat,k≤5∧i=.int .i64 ((k:Int)+1)∧wr.ownsRow w.heap.size 63 2 v (Jj c without k).length (Zz (Jj c without k))∧Below w.heap.size w wr)
  (fun _ i _=>7 - (intOf i).toNat)
 case atStart=>exact ⟨0,Nat.zero_le _,rfl,World.ownsRow_nil _ _ _ _,Below.refl _ _⟩
 case round =>
  obtain ⟨k,hk,rfl,hown,hB⟩:=hrel
  by_cases hlt:k < 5
  ·cases hob:qn without (k+1) with
   | true =>
    have hob2:(bits BinOp.and IntKind.i64 without (wrap64 (2 ^ (k+1))) != 0)=true:=hob
    have HR:Hid (Jj c without (k+1)=Jj c without k):=by simp [Hid,Jj,hob]
    clear hob
    go_wp2
    go_roundw
    case rel=>exact ⟨k+1,by omega,by go_num,by rw [HR.out];exact hown,hB⟩
    case measure=>simp [intOf];omega
   | false =>
    have hob2:(bits BinOp.and IntKind.i64 without (wrap64 (2 ^ (k+1))) != 0)=false:=hob
    have Hob:=hid hob
    clear hob
    have hrl:=YJ c without k
    obtain ⟨hp0,hp1⟩:=qG c 1099511627776 (by decide)
    go_wp2_with fail
    refine (QU c _ _ h0 h1 (by decide) (by decide)).mono ?_
    rintro e wx ⟨rfl,rfl⟩
    have HV:Hid (qZ c (k+1)=Jz (qe c 1099511627776+((k:Int)+1)*1000003) 8):=rfl
    have hV0:0≤qe c 1099511627776+((k:Int)+1)*1000003:=by omega
    have hV1:qe c 1099511627776+((k:Int)+1)*1000003≤2000000000000:=by omega
    go_wp2_with fail
    generalize qe c 1099511627776+((k:Int)+1)*1000003=V at *
    go_loopw [7,8,9] (fun t b i wr=>∃ j:Nat,j≤8∧i=.int .i64 (j:Int)∧t=.int .i64 (shB V j)∧wr.ownsRow w.heap.size 5 1 b j (qo (Jz V j))∧wr.ownsRow w.heap.size 63 2 u5 (Jj c without k).length (Zz (Jj c without k))∧Below w.heap.size w wr)
     (fun _ _ i _=>8 - (intOf i).toNat)
    case atStart=>exact ⟨0,Nat.zero_le _,rfl,rfl,World.ownsRow_nil _ _ _ _,hown,hB⟩
    case round =>
     clear hown hB
     obtain ⟨j,hj,rfl,rfl,hb,hown,hB⟩:=hrel
     obtain ⟨hs0,hs1⟩:=CM V hV0 hV1 j
     by_cases hj8:j < 8
     ·have HS:Hid (shB V (j+1)=shB V j / 31):=rfl
      go_wp2_with (at_builtin;refine wpList_append_own _ rfl (.tmp 28) (.tmp 31) 149 rfl w.heap.size 5 i0 (.int .u8 0) 1 1 Tryz.underlying149 hi hz0 hz1 hz2 rfl (by decide) _ _ _ rfl (hb.alloc _) ⟨_,0,none⟩ 1 1 [.int .u8 (shB V j % 256)] rfl rfl ?c1 ?c2 ?c3 ?c4 ?c5 ?_)
      case c1=>exact Im wr #[.int .u8 (shB V j % 256)] 5
      case c2=>intro u hu;simp at hu;subst hu;rfl
      case c3=>unfold maxLen;omega
      case c4=>omega
      case c5=>have:=hB.size;simp;omega
      intro b2 w2 hb2 hg2 _
      have HR:=hid (Sy hB hb hown hb2 hg2)
      clear hb2 hg2 hB hb hown
      go_wp2
      go_roundw
      case rel=>exact ⟨j+1,by omega,by go_num,by rw [HS.out],HR.out.1,HR.out.2.1,HR.out.2.2⟩
      case measure=>simp [intOf];omega
     ·have hj8':j=8:=by omega
      subst hj8'
      rw [← HV.out] at hb
      have hcv:=ZE hb
      have hsl:=XB c (k+1)
      have Hsl:=hid hsl
      clear hsl hj8
      generalize hsec:qZ c (k+1)=sec at *
      have Hsec:=hid hsec
      clear hsec
      go_wp2_with (at_builtin;refine wpList_append_own _ rfl (.tmp 35) (.tmp 40) 27 rfl w.heap.size 63 i1 (.agg #[.int .i64 0,.string ⟨#[]⟩]) 2 24 Tryz.underlying27 hi1 hy0 hy1 hy2 rfl (by decide) _ _ _ rfl (hown.alloc _) ⟨_,0,none⟩ 1 1 [.int .i64 ((k:Int)+1),strB sec] rfl rfl ?c1 ?c2 ?c3 ?c4 ?c5 ?_)
      case c1=>exact Im wr #[.int .i64 ((k:Int)+1),strB sec] 63
      case c2=>intro u hu;simp at hu;rcases hu with rfl|rfl<;>rfl
      case c3=>unfold maxLen;omega
      case c4=>omega
      case c5=>have:=hB.size;simp;omega
      intro v2 w2 hl2 hg2 _
      have HR:=hid (Tm hB rfl Hob.out hown (by rw [Hsec.out];exact hl2) hg2)
      clear hl2 hg2 hB hown hcv hb
      go_wp2
      go_roundw
      case rel=>exact ⟨k+1,by omega,by go_num,HR.out.1,HR.out.2⟩
      case measure=>simp [intOf];omega
  ·have hk5:k=5:=by omega
   subst hk5
   go_wp2
   go_ret
   exact ⟨_,rfl,hown,hB⟩
end
section
theorem jd {a b c:World} {p:Option Nat} (h:a.grownBy b p) (k:b.grownBy c p):a.grownBy c p :=
 ⟨k.os.trans h.os,k.tape.trans h.tape,k.output.trans h.output,Nat.le_trans h.size k.size,fun i hi hne=>(k.block i (Nat.lt_of_lt_of_le hi h.size) hne).trans (h.block i hi hne)⟩
end
section
theorem KT {n:Int} (h0:0≤n) (h1:n≤9223372036854775807):IntKind.i64.wrap n=n:=IntWalk.i64_in n ⟨by omega,by omega⟩
end
end Go.Proofs.YthhpbhpfagoapaaGreat
