import Derived.Test.YthhpbhpfagoapaaGreatJAI
import Derived.Lib.AppendStr
import Derived.Test.YthhpbhpfagoapaaGreatJAJ
import Derived.Laws.CopyOwn
import Derived.OwnWalk
import Derived.Deep.QuietTactic
import Derived.BigQuiet
import Derived.WalkSmall
import Derived.Deep.RegionWith
import Derived.RowKit
namespace Go.Proofs.YthhpbhpfagoapaaGreat
set_option linter.unusedVariables false
set_option linter.unusedSimpArgs false
set_option maxRecDepth 100000
set_option maxHeartbeats 16000000
section
open Go.RowKit
theorem Uz {W:World} {base n:Nat} {v:Value} {l:List UInt8} (h:W.ownsRow base 5 1 v n (qD l)) :
  Sem.run Tryz.prog (convert 149 9 v) W=.ok (strB l) W:=by
 have hn:l.length=n:=by simpa [qD] using h.1
 rcases h.2 with ⟨rfl,rfl⟩|⟨g,cap,cur,rfl,_⟩
 ·have:l=[]:=List.eq_nil_of_length_eq_zero hn
  subst this
  exact run_convert_bytes_nil (P:=Tryz.prog) W 149 5 Tryz.underlying149 Tryz.underlying5 0 0 9 Tryz.underlying9
 ·exact IT h hn
theorem Kj (parts:List ByteArray) (k:Nat) (h:k < parts.length):(xK (parts.take (k+1))).length=(xK (parts.take k)).length+parts[k].size:=by
 rw [KY parts k h,List.length_append]
 simp
theorem Qs (parts:List ByteArray) (k:Nat):(xK (parts.take k)).length≤(xK parts).length:=by
 have:xK parts=xK (parts.take k)++xK (parts.drop k):=by
  unfold xK
  rw [← List.flatMap_append,List.take_append_drop]
 rw [this,List.length_append]
 omega
theorem EL (s:ByteArray):Lib.strCells s=qD s.data.toList:=rfl
theorem Zk (a b:List UInt8):qD (a++b)=qD a++qD b:=by simp [qD]
theorem Dd {w wr w2:World} {v v':Value} {n:Nat} {l:List UInt8} {s:ByteArray} (hB:Below w.heap.size w wr) (hown:wr.ownsRow w.heap.size 5 1 v n (qD l))
  (hown2:w2.ownsRow w.heap.size 5 1 v' (n+s.size) (qD l++Lib.strCells s)) (hgr:wr.grownBy w2 v.ownBlock) :
  w2.ownsRow w.heap.size 5 1 v' (n+s.size) (qD (l++s.data.toList))∧Below w.heap.size w w2:=by
 rw [Zk,← EL]
 exact ⟨hown2,hB.grown hgr hB.size (fun k hk=>(hown.lt k hk).1)⟩
theorem Tq (parts:List ByteArray) (b cap:Nat) (w:World) (hn:parts.length≤1000) (hs:(xK parts).length≤1000000) (hb:b < w.heap.size)
  (hc:∀ j (h:j < parts.length),w.cell? ⟨b,j,none⟩=some (.string parts[j])) :
  Calls Tryz.prog 194 #[.slice (some ⟨b,0,none⟩) parts.length cap] w fun e w'=>e=.returned (strB (xK parts))∧Below w.heap.size w w':=by
 obtain ⟨i0,hi,hz0,hz1,hz2⟩:=info_parts Tryz.infoU8
 have Hc:=hid hc
 clear hc
 go_enter Tryz.func194,Tryz.ntmps194
 go_wp2
 go_loop [3,11] (fun t i=>∃ k:Nat,k≤parts.length∧i=.int .i64 k∧t=.int .i64 ((xK (parts.take k)).length:Int)) (fun _ i=>parts.length - (intOf i).toNat)
 case atStart=>exact ⟨0,Nat.zero_le _,rfl,rfl⟩
 case round =>
  obtain ⟨k,hk,rfl,rfl⟩:=hrel
  by_cases hlt:k < parts.length
  ·have hck:=Hc.out k hlt
   have hm1:=Qs parts k
   have hm2:=Qs parts (k+1)
   have hm3:=Kj parts k hlt
   have HS:=hid hm3
   have hm4:(parts[k]'hlt).size≤1000000:=by omega
   clear hm2 hm3
   generalize (xK (parts.take k)).length=m0 at *
   generalize (parts[k]'hlt)=part at *
   go_wp2
   go_round
   case rel=>exact ⟨k+1,by omega,by go_num,by rw [HS.out];go_num⟩
   case measure=>simp [intOf];omega
  ·have hke:k=parts.length:=by omega
   subst hke
   rw [List.take_length]
   generalize hL:(xK parts).length=L at *
   have HL:=hid hL
   clear hL
   go_wp2_with (at_make;refine wpList_make_own _ rfl (.const (.int .i64 0)) (.tmp 20) 149 rfl w.heap.size 5 i0 (.int .u8 0) 1 Tryz.underlying149 hi hz0 hz1 .i64 .i64 _ L rfl rfl rfl (by rw [hz2];omega) (by unfold maxLen;omega) (Nat.le_refl _) ?_;intro w3 hown hgr)
   have hB3:Below w.heap.size w w3:=(Below.refl _ _).grown hgr (Nat.le_refl _) (fun _ h=>by cases h)
   clear hgr
   go_loopw [6,24] (fun v i wr=>∃ k:Nat,k≤parts.length∧i=.int .i64 k∧wr.ownsRow w.heap.size 5 1 v (xK (parts.take k)).length (qD (xK (parts.take k)))∧Below w.heap.size w wr)
    (fun _ i _=>parts.length - (intOf i).toNat)
   case atStart=>exact ⟨0,Nat.zero_le _,rfl,hown,hB3⟩
   case round =>
    clear hown hB3
    obtain ⟨k,hk,rfl,hown,hB⟩:=hrel
    by_cases hlt:k < parts.length
    ·have hck:wr.cell? ⟨b,k,none⟩=some (.string (parts[k]'hlt)):=(hB.cell (p:=⟨b,k,none⟩) hb).trans (Hc.out k hlt)
     have hm1:=Qs parts k
     have hm2:=Qs parts (k+1)
     have hm3:=Kj parts k hlt
     have HS:=hid hm3
     have HF:=hid (KY parts k hlt)
     have hLe:=HL.out
     have hm4:(xK (parts.take k)).length+(parts[k]'hlt).size≤1000000:=by omega
     clear hm2 hm3 hLe
     generalize xK (parts.take k)=l0 at *
     generalize (parts[k]'hlt)=part at *
     go_wp2_with (at_builtin;refine Lib.wpList_append_own_string _ rfl (.tmp 28) (.tmp 29) 149 9 rfl w.heap.size 5 i0 Tryz.underlying149 Tryz.underlying9 hi hz0 hz1 hz2 _ _ _ rfl hown part rfl (by unfold maxLen;omega) (by omega) hB.size ?_;intro v2 w2 hown2 hgr2 _)
     have HR:=hid (Dd hB hown hown2 hgr2)
     clear hown hown2 hgr2 hB hck
     go_wp2
     go_roundw
     case rel=>exact ⟨k+1,by omega,by go_num,by rw [HS.out,HF.out];exact HR.out.1,HR.out.2⟩
     case measure=>simp [intOf];omega
    ·have hke:k=parts.length:=by omega
     subst hke
     rw [List.take_length] at hown
     have hcv:=Uz hown
     go_wp2
     go_ret
     exact ⟨rfl,hB⟩
end
section
open Go.RowKit
def jG (l:List CellB):List Value:=l.flatMap fun c=>[.bool c.null,.int .i64 c.int,strB c.text]
theorem Jg (l:List CellB):(jG l).length=l.length*3:=by
 induction l with
 | nil=>rfl
 | cons c l ih=>simp only [jG,List.flatMap_cons,List.length_append,List.length_cons,List.length_nil] at ih ⊢;omega
theorem Jl (a b:List CellB):jG (a++b)=jG a++jG b:=by simp [jG]
theorem KN (l:List CellB):∀ (j:Nat) (h:j < l.length),(jG l)[j*3]?=some (.bool (l[j]).null)∧(jG l)[j*3+1]?=some (.int .i64 (l[j]).int)∧(jG l)[j*3+2]?=some (strB (l[j]).text):=by
 induction l with
 | nil=>intro j h;simp at h
 | cons c l ih =>
  intro j h
  cases j with
  | zero=>simp [jG]
  | succ j =>
   have hj:j < l.length:=by simpa using h
   have e:jG (c :: l)=[.bool c.null,.int .i64 c.int,strB c.text]++jG l:=by simp [jG]
   obtain ⟨h1,h2,h3⟩:=ih j hj
   rw [e]
   refine ⟨?_,?_,?_⟩
   ·rw [List.getElem?_append_right (by simp;omega)]
    simpa [show (j+1)*3 - 3=j*3 by omega] using h1
   ·rw [List.getElem?_append_right (by simp;omega)]
    simpa [show (j+1)*3+1 - 3=j*3+1 by omega] using h2
   ·rw [List.getElem?_append_right (by simp;omega)]
    simpa [show (j+1)*3+2 - 3=j*3+2 by omega] using h3
theorem JC {w:World} {base n:Nat} {v:Value} {l:List CellB} (h:w.ownsRow base 58 3 v n (jG l)) (hok:∀ c ∈ l,okC c) :
  ∃ a cap,v=.slice a l.length cap∧n=l.length∧Lies w a l:=by
 have hn:n=l.length:=by have:=h.1;rw [Jg] at this;omega
 subst hn
 rcases h.2 with ⟨rfl,h0⟩|⟨g,cap,cur,rfl,_,hg,_⟩
 ·have:l=[]:=List.eq_nil_of_length_eq_zero h0
  subst this
  exact ⟨none,0,rfl,rfl,hok,fun hne=>absurd rfl hne⟩
 ·refine ⟨_,_,rfl,rfl,hok,fun _=>⟨g,0,rfl,(h.lt g rfl).2,fun j hj=>?_⟩⟩
  obtain ⟨h1,h2,h3⟩:=KN l j hj
  simp only [Nat.zero_add]
  exact ⟨by rw [h.cellAt (j*3) (by omega)];exact h1,by rw [h.cellAt (j*3+1) (by omega)];exact h2,by rw [h.cellAt (j*3+2) (by omega)];exact h3⟩
theorem Tryz.infoCell:(Tryz.prog.info? 58).map (fun i=>(i.zero,i.size,i.bytes))=some (some (.agg #[.bool false,.int .i64 0,.string ⟨#[]⟩]),3,32):=by kernel_rfl
theorem qj (w:World) (C:Array Value) (t:TypeId):∀ (j:Nat) (u:Value),C.toList[j]?=some u→(w.alloc (.cells C t)).cell? ((⟨w.heap.size,0,none⟩:Addr).add j)=some u:=by
 intro j u h
 have:(⟨w.heap.size,0,none⟩:Addr).add j=⟨w.heap.size,j,none⟩:=by unfold Addr.add;split<;>simp_all
 rw [this,World.cell?_alloc_mark]
 simpa using h
theorem RA {w wr w2:World} {v v':Value} {n:Nat} {l:List CellB} {c:CellB} {o:Obj} (hB:Below w.heap.size w wr) (hn:n=l.length)
  (hl:wr.ownsRow w.heap.size 58 3 v n (jG l)) (hl2:w2.ownsRow w.heap.size 58 3 v' (n+1) (jG l++[.bool c.null,.int .i64 c.int,strB c.text])) (hg:(wr.alloc o).grownBy w2 v.ownBlock) :
  w2.ownsRow w.heap.size 58 3 v' (l++[c]).length (jG (l++[c]))∧Below w.heap.size w w2:=by
 have hz:=hB.size
 subst hn
 refine ⟨?_,(hB.alloc hz o).grown hg (by simp;omega) (fun k hk=>(hl.lt k hk).1)⟩
 rw [Jl,List.length_append]
 exact hl2
theorem Iq (l:List CellB) (k:Nat) (h:k < l.length):je (l.take (k+1))=je (l.take k)++(if (l[k]).null=true then [] else [l[k]]):=by
 unfold je
 rw [List.take_succ_eq_append_getElem h,List.filter_append]
 congr 1
 cases hc:(l[k]).null<;>simp [hc]
theorem Av (l:List CellB) (k:Nat):(je (l.take k)).length≤k:=by
 have h1:(je (l.take k)).length≤(l.take k).length:=List.length_filter_le _ _
 have h2:(l.take k).length≤k:=List.length_take_le _ _
 omega
theorem GY (a:Option Addr) (cap:Nat) (l:List CellB) (w:World) (hn:l.length≤1000) (hl:Lies w a l) :
  Calls Tryz.prog 114 #[.slice a l.length cap] w fun e w'=>∃ v,e=.returned v∧w'.ownsRow w.heap.size 58 3 v (je l).length (jG (je l))∧Below w.heap.size w w':=by
 obtain ⟨i1,hi1,hy0,hy1,hy2⟩:=info_parts Tryz.infoCell
 have Hl:=hid hl
 clear hl
 go_enter Tryz.func114,Tryz.ntmps114
 go_wp2
 go_loopw [3,4] (fun v i wr=>∃ k:Nat,k≤l.length∧i=.int .i64 k∧wr.ownsRow w.heap.size 58 3 v (je (l.take k)).length (jG (je (l.take k)))∧Below w.heap.size w wr) (fun _ i _=>l.length - (intOf i).toNat)
 case atStart=>exact ⟨0,Nat.zero_le _,rfl,World.ownsRow_nil _ _ _ _,Below.refl _ _⟩
 case round =>
  obtain ⟨k,hkl,rfl,hown,hB⟩:=hrel
  by_cases hlt:k < l.length
  ·obtain ⟨b,off,rfl,hbw,hcell⟩:=(Hl.out.later hB).at_ (List.ne_nil_of_length_pos (by omega))
   obtain ⟨g1,g2,g3⟩:=hcell k hlt
   clear hcell
   have HF:=hid (Iq l k hlt)
   have hvl:=Av l k
   generalize je (l.take k)=vs at *
   cases hnull:(l[k]).null with
   | true =>
    have HF2:Hid (je (l.take (k+1))=vs):=by have:=HF.out;rw [hnull] at this;simpa [Hid] using this
    rw [hnull] at g1
    clear HF hnull
    go_wp2
    go_roundw
    case rel=>exact ⟨k+1,by omega,by go_num,by rw [HF2.out];exact hown,hB⟩
    case measure=>simp [intOf];omega
   | false =>
    have HF2:Hid (je (l.take (k+1))=vs++[l[k]]):=by have:=HF.out;rw [hnull] at this;simpa [Hid] using this
    have HN:=hid hnull
    rw [hnull] at g1
    clear HF hnull
    go_wp2_with (at_builtin;refine wpList_append_own _ rfl (.tmp 17) (.tmp 22) 59 rfl w.heap.size 58 i1 (.agg #[.bool false,.int .i64 0,.string ⟨#[]⟩]) 3 32 Tryz.underlying59 hi1 hy0 hy1 hy2 rfl (by decide) _ _ _ rfl (hown.alloc _) ⟨_,0,none⟩ 1 1 [.bool false,.int .i64 (l[k]).int,strB (l[k]).text] rfl rfl ?c1 ?c2 ?c3 ?c4 ?c5 ?_)
    case c1=>exact qj wr #[.bool false,.int .i64 (l[k]).int,strB (l[k]).text] 58
    case c2=>intro u hu;simp at hu;rcases hu with rfl|rfl|rfl<;>rfl
    case c3=>unfold maxLen;omega
    case c4=>omega
    case c5=>have:=hB.size;simp;omega
    intro v2 w2 hl2 hg2 _
    have HR:=hid (RA (c:=l[k]) hB rfl hown (by rw [HN.out];exact hl2) hg2)
    clear hl2 hg2 hB hown g1 g2 g3
    go_wp2
    go_roundw
    case rel=>exact ⟨k+1,by omega,by go_num,by rw [HF2.out];exact HR.out.1,HR.out.2⟩
    case measure=>simp [intOf];omega
  ·have hk5:k=l.length:=by omega
   subst hk5
   rw [List.take_length] at hown
   go_wp2
   go_ret
   exact ⟨_,rfl,hown,hB⟩
theorem So (a:Option Addr) (cap i:Nat) (b:Bool) (l:List CellB) (w:World) (hn:l.length≤1000) (hi:i≤l.length) (hl:Lies w a l) :
  Calls Tryz.prog 174 #[.slice a l.length cap,.int .i64 (i:Int),.bool b] w fun e w'=>e=.returned (.int .i64 (rowB b (l.drop i):Int))∧w'=w:=by
 have Hl:=hid hl
 clear hl
 have hr:=ZL b (l.drop i)
 rw [List.length_drop] at hr
 go_enter Tryz.func174,Tryz.ntmps174
 go_wp2
 go_loop [7] (fun n=>∃ m:Nat,m≤rowB b (l.drop i)∧n=.int .i64 (m:Int)) (fun n=>1000 - (intOf n).toNat)
 case atStart=>exact ⟨0,Nat.zero_le _,rfl⟩
 case round =>
  obtain ⟨m,hm,rfl⟩:=hrel
  by_cases hlt:m < rowB b (l.drop i)
  ·obtain ⟨h1,h2⟩:=GD b (l.drop i) m hlt
   rw [List.length_drop] at h1
   rw [List.getElem_drop] at h2
   have hil:i+m < l.length:=by omega
   obtain ⟨bb,off,rfl,hbw,hcell⟩:=Hl.out.at_ (List.ne_nil_of_length_pos (by omega))
   obtain ⟨g1,g2,g3⟩:=hcell (i+m) hil
   rw [h2] at g1
   clear hcell h2 g2 g3
   have hit:(i:Int)+(m:Int) < (l.length:Int):=by omega
   go_wp2
   go_round
   case rel=>exact ⟨m+1,by omega,by go_num⟩
   case measure=>simp [intOf];omega
  ·have hme:m=rowB b (l.drop i):=by omega
   have HM:=hid hme
   by_cases hend:i+m < l.length
   ·have hlen:rowB b (l.drop i) < (l.drop i).length:=by rw [List.length_drop];omega
    have h2:=NM b (l.drop i) hlen
    have h3:(l[i+m]'hend).null=!b:=by
     rw [← h2,List.getElem_drop]
     congr 2
     omega
    obtain ⟨bb,off,rfl,hbw,hcell⟩:=Hl.out.at_ (List.ne_nil_of_length_pos (by omega))
    obtain ⟨g1,g2,g3⟩:=hcell (i+m) hend
    rw [h3] at g1
    clear hcell h2 h3 g2 g3 hme hlen
    have hit:(i:Int)+(m:Int) < (l.length:Int):=by omega
    cases b
    all_goals
     simp only [Bool.not_false,Bool.not_true] at g1
     go_wp2
     go_ret
     exact ⟨qZ (by rw [← HM.out]),rfl⟩
   ·have hit:(l.length:Int)≤(i:Int)+(m:Int):=by omega
    clear hme
    go_wp2
    go_ret
    exact ⟨qZ (by rw [← HM.out]),rfl⟩
theorem YC (l:List CellB) (i:Nat) (b:Bool) (h:i < l.length) :
  2*(l.length - (i+rowB b (l.drop i)))+(if rowB (!b) (l.drop (i+rowB b (l.drop i)))=0 then 1 else 0) < 2*(l.length - i)+(if rowB b (l.drop i)=0 then 1 else 0):=by
 by_cases h0:rowB b (l.drop i)=0
 ·rw [h0,Nat.add_zero,if_pos rfl]
  have hne:rowB (!b) (l.drop i)≠0:=by
   have hd:l.drop i≠[]:=by intro e;have:=congrArg List.length e;simp at this;omega
   cases hl:l.drop i with
   | nil=>exact absurd hl hd
   | cons c t =>
    rw [hl] at h0
    simp only [rowB] at h0 ⊢
    have hc:¬ c.null=b:=by intro e;simp [e] at h0
    have hc2:c.null=!b:=by cases hn:c.null<;>cases b<;>simp_all
    simp [hc2]
  rw [if_neg hne]
  omega
 ·rw [if_neg h0]
  have hr:=ZL b (l.drop i)
  rw [List.length_drop] at hr
  split<;>omega
def Pa:Value→Bool
 | .bool b=>b
 | _=>false
theorem ED (a:Option Addr) (cap:Nat) (l:List CellB) (w:World) (hn:l.length≤60) (hl:Lies w a l) :
  Calls Tryz.prog 115 #[.slice a l.length cap] w fun e w'=>e=.returned (strB (zr l))∧Below w.heap.size w w':=by
 have Hl:=hid hl
 clear hl
 have HH:=hid (Zx l hn)
 go_enter Tryz.func115,Tryz.ntmps115
 go_wp2_with fail
 refine (Ny _ _ (by omega) (by omega)).mono ?_
 rintro e w1 ⟨rfl,hb1⟩
 rw [Int.toNat_natCast]
 go_wp2_with fail
 go_loopw [3,4,5] (fun s n i wr=>∃ (k:Nat) (b:Bool) (acc:List UInt8),k≤l.length∧i=.int .i64 (k:Int)∧n=.bool b∧s=strB acc∧acc++qO b (l.drop k)=zr l∧Below w.heap.size w wr)
  (fun _ n i _=>2*(l.length - (intOf i).toNat)+(if rowB (Pa n) (l.drop (intOf i).toNat)=0 then 1 else 0))
 case atStart=>exact ⟨0,false,uB l.length,Nat.zero_le _,rfl,rfl,rfl,rfl,hb1⟩
 case round =>
  obtain ⟨k,b,acc,hk,rfl,rfl,rfl,hacc,hB⟩:=hrel
  have HA:=hid hacc
  have hal:acc.length≤1000:=by
   have h1:=HH.out
   have h2:=congrArg List.length hacc
   rw [List.length_append] at h2
   omega
  clear hacc
  by_cases hlt:k < l.length
  ·have hne:l.drop k≠[]:=by intro e;have:=congrArg List.length e;simp at this;omega
   have HS:=hid (QT b (l.drop k) hne)
   have HMs:=hid (YC l k b hlt)
   have hr:=ZL b (l.drop k)
   rw [List.length_drop] at hr
   have hul:=jN (rowB b (l.drop k)) (by omega)
   clear hne
   go_wp2_with fail
   refine (So a cap k b l _ (by omega) hk (Hl.out.later hB)).mono ?_
   rintro e w2 ⟨rfl,rfl⟩
   generalize hrr:rowB b (l.drop k)=r at *
   have HRr:=hid hrr
   clear hrr
   go_wp2_with fail
   refine (Ny _ _ (by omega) (by omega)).mono ?_
   rintro e w3 ⟨rfl,hb3⟩
   rw [Int.toNat_natCast]
   have hB3:=hB.trans (hb3.mono hB.size)
   clear hb3
   go_wp2
   go_roundw
   case rel=>
    refine ⟨k+r,!b,acc++uB r,by omega,by go_num,rfl,by rw [xe],?_,hB3⟩
    rw [← HA.out,HS.out,List.append_assoc,List.drop_drop]
   case measure=>
    have h5:=HMs.out
    have e1:((k:Int)+(r:Int)).toNat=k+r:=by omega
    simp only [intOf,Pa,e1,Int.toNat_natCast,HRr.out]
    exact h5
  ·have hke:k=l.length:=by omega
   subst hke
   go_wp2
   go_ret
   exact ⟨qt (by rw [← HA.out];simp [qO]),hB⟩
end
section
open Go.RowKit
theorem KW (w:World) (dT sT ty elem:TypeId) (g dLen dCap size:Nat) (a:Addr) (sLen sCap:Nat) (cur:Array Value) (t:TypeId) (cs:List Value)
  (hu:Tryz.prog.underlying dT=some (.slice elem)) (hs:(Tryz.prog.info? elem).map (·.size)=some size)
  (hg:w.heap[g]?=some (.cells cur t (0,0))) (hn:cs.length=Nat.min sLen dLen*size)
  (hsrc:∀ j v,cs[j]?=some v→w.cell? (a.add j)=some v) (hfit:cs.length≤cur.size) (h1:∀ v ∈ cs,v.oneCell'=true) :
  (Builtin.copy_ #[dT,sT] ty #[.slice (some ⟨g,0,none⟩) dLen dCap,.slice (some a) sLen sCap]).run Tryz.prog w =
   .ok (goInt (Nat.min sLen dLen)) (w.setRow g (cs++cur.toList.drop cs.length).toArray):=by
 have hl:=run_loadCells_list (P:=Tryz.prog) w a cs hsrc
 have hst:=run_storeCells_at Tryz.prog g 0 t cs 0 cur w hg (by simpa using hfit) h1
 cases hq:Tryz.prog.info? elem with
 | none=>simp [hq] at hs
 | some i =>
  have hi:i.size=size:=by simpa [hq] using hs
  simp only [Nat.zero_add,List.take_zero,List.nil_append] at hst
  simp [Builtin.copy_,run_underlying hu,Builtin.lenOf,Builtin.firstCells,sizeOf,typeInfo,hq,hi,← hn,hl,hst]
theorem Rc (w:World) (dT sT ty elem:TypeId) (g dLen dCap size sCap:Nat)
  (hu:Tryz.prog.underlying dT=some (.slice elem)) (hs:(Tryz.prog.info? elem).map (·.size)=some size) :
  (Builtin.copy_ #[dT,sT] ty #[.slice (some ⟨g,0,none⟩) dLen dCap,.slice none 0 sCap]).run Tryz.prog w=.ok (goInt 0) w:=by
 cases hq:Tryz.prog.info? elem with
 | none=>simp [hq] at hs
 | some i=>simp [Builtin.copy_,run_underlying hu,Builtin.lenOf,Builtin.firstCells,sizeOf,typeInfo,hq,storeCells]
theorem Lies.cells {w:World} {b off:Nat} {l:List CellB} (h:∀ j (h:j < l.length),
  w.cell? ⟨b,off+j*3,none⟩=some (.bool (l[j]).null)∧w.cell? ⟨b,off+j*3+1,none⟩=some (.int .i64 (l[j]).int)∧w.cell? ⟨b,off+j*3+2,none⟩=some (strB (l[j]).text)) :
  ∀ i v,(jG l)[i]?=some v→w.cell? ((⟨b,off,none⟩:Addr).add i)=some v:=by
 intro i v hi
 have hil:i < (jG l).length:=(List.getElem?_eq_some_iff.1 hi).1
 rw [Jg] at hil
 have hj:i / 3 < l.length:=by omega
 obtain ⟨h1,h2,h3⟩:=h (i / 3) hj
 obtain ⟨c1,c2,c3⟩:=KN l (i / 3) hj
 have ha:(⟨b,off,none⟩:Addr).add i=⟨b,off+i,none⟩:=by unfold Addr.add;split<;>simp_all
 rw [ha]
 have hm:i % 3=0∨i % 3=1∨i % 3=2:=by omega
 rcases hm with hm|hm|hm
 ·have e:i=i / 3*3:=by omega
  rw [e] at hi ⊢
  rw [c1] at hi
  rw [h1];exact hi
 ·have e:i=i / 3*3+1:=by omega
  rw [e] at hi ⊢
  rw [c2] at hi
  rw [← Nat.add_assoc,h2];exact hi
 ·have e:i=i / 3*3+2:=by omega
  rw [e] at hi ⊢
  rw [c3] at hi
  rw [← Nat.add_assoc,h3];exact hi
theorem ZC (l:List CellB):∀ v ∈ jG l,v.oneCell'=true:=by
 intro v hv
 simp only [jG,List.mem_flatMap] at hv
 obtain ⟨c,_,hc⟩:=hv
 simp at hc
 rcases hc with rfl|rfl|rfl<;>rfl
theorem Sv (a a2:Option Addr) (cap cap2:Nat) (l:List CellB) (w:World) (hm:l.length≤maxLen) (hl:Lies w a l) (hl2:Lies w a2 l) :
  Calls Tryz.prog 92 #[.slice a l.length cap,.slice a2 l.length cap2] w fun e w'=>e=.returned (.bool true)∧Below w.heap.size w w':=by
 have Hl:=hid hl
 have Hl2:=hid hl2
 clear hl hl2
 unfold maxLen at hm
 have hne:((l.length:Int) != (l.length:Int))=false:=by simp
 go_enter Tryz.func92,Tryz.ntmps92
 go_wp2
 go_loopw [5] (fun i wr=>∃ k:Nat,k≤l.length∧i=.int .i64 (k:Int)∧Below w.heap.size w wr) (fun i _=>l.length - (intOf i).toNat)
 case atStart=>exact ⟨0,Nat.zero_le _,rfl,Below.refl _ _⟩
 case round =>
  obtain ⟨k,hk,rfl,hB⟩:=hrel
  by_cases hlt:k < l.length
  ·obtain ⟨b,off,rfl,hbw,hcell⟩:=(Hl.out.later hB).at_ (List.ne_nil_of_length_pos (by omega))
   obtain ⟨g1,g2,g3⟩:=hcell k hlt
   obtain ⟨b',off',rfl,hbw',hcell'⟩:=(Hl2.out.later hB).at_ (List.ne_nil_of_length_pos (by omega))
   obtain ⟨k1,k2,k3⟩:=hcell' k hlt
   clear hcell hcell'
   generalize l[k]=c at *
   have hki:(k:Int) < (l.length:Int):=by omega
   go_wp2_with fail
   go_quiet (fail)
   go_wp2_with fail
   go_roundw
   case rel=>exact ⟨k+1,by omega,by go_num,below_drewN hB nq⟩
   case measure=>simp [intOf];omega
  ·go_wp2
   go_ret
   exact ⟨rfl,hB⟩
end
section
open Go.RowKit
theorem NF (c:UInt8) (r:List UInt8):qd 1 (some (c :: r))=([c],some r):=by
 rw [zR (by omega) (by simp;omega)];rfl
theorem QC (s r:List UInt8):qd (s.length:Int) (some (s++r))=(s,some r):=by
 rw [zR (by omega) (by simp;omega)]
 simp
theorem JL (n:Nat) (h:n≤255):(byB (n:Int)).toNat=n:=by
 have:=xE (n:Int) (by omega) (by omega)
 omega
theorem YJ (k acc sc:Nat) (c:UInt8) (r:List UInt8):uP (k+1) acc sc (some (c :: r)) =
  if c.toNat < 128 then ((acc+sc*(c.toNat % 128)) % 18446744073709551616,some r) else uP k ((acc+sc*(c.toNat % 128)) % 18446744073709551616) (sc*128 % 18446744073709551616) (some r):=by
 simp only [uP,NF]
theorem LY (r:List UInt8):∀ (k n acc sc:Nat),n < 128 ^ (k+1)→acc+sc*n < 18446744073709551616→uP (k+1) acc sc (some (uB n++r))=(acc+sc*n,some r):=by
 intro k
 induction k with
 | zero =>
  intro n acc sc hn hs
  have hn':n≤127:=by omega
  rw [zM hn']
  show uP (0+1) acc sc (some (byB (n:Int) :: r))=_
  rw [YJ,JL n (by omega),if_pos (by omega),Nat.mod_eq_of_lt (show n < 128 by omega),Nat.mod_eq_of_lt hs]
 | succ k ih =>
  intro n acc sc hn hs
  by_cases hsm:n≤127
  ·rw [zM hsm]
   show uP (k+1+1) acc sc (some (byB (n:Int) :: r))=_
   rw [YJ,JL n (by omega),if_pos (by omega),Nat.mod_eq_of_lt (show n < 128 by omega),Nat.mod_eq_of_lt hs]
  ·rw [XF (by omega)]
   have hc:(byB ((n:Int) % 128+128)).toNat=n % 128+128:=by
    have:=JL (n % 128+128) (by omega)
    have e:(((n % 128+128:Nat)):Int)=(n:Int) % 128+128:=by omega
    rw [e] at this
    exact this
   show uP (k+1+1) acc sc (some (byB ((n:Int) % 128+128) :: (uB (n / 128)++r)))=_
   rw [YJ,hc,if_neg (by omega)]
   have e1:(n % 128+128) % 128=n % 128:=by omega
   have e2:sc*n=sc*(n % 128)+sc*128*(n / 128):=by
    have h:=Nat.mod_add_div n 128
    have h3:sc*(n % 128+128*(n / 128))=sc*(n % 128)+sc*128*(n / 128):=by rw [Nat.mul_add,Nat.mul_assoc]
    rw [h] at h3
    exact h3
   have h1:1≤n / 128:=by omega
   have h2:sc*128≤sc*128*(n / 128):=Nat.le_mul_of_pos_right _ (by omega)
   rw [e1,Nat.mod_eq_of_lt (show acc+sc*(n % 128) < 18446744073709551616 by omega),Nat.mod_eq_of_lt (show sc*128 < 18446744073709551616 by omega)]
   rw [ih (n / 128) (acc+sc*(n % 128)) (sc*128) (by rw [Nat.div_lt_iff_lt_mul (by decide)];rw [Nat.pow_succ] at hn;exact hn) (by omega)]
   rw [e2,Nat.add_assoc]
theorem DN (n:Nat) (r:List UInt8) (h:n < 18446744073709551616):uR (some (uB n++r))=(n,some r):=by
 unfold uR
 rw [LY r 9 n 0 1 (by omega) (by omega)]
 simp
theorem Jo (max n:Nat) (r:List UInt8) (h:n≤max) (hm:max < 18446744073709551616):jJ max (some (uB n++r))=(n,some r):=by
 unfold jJ
 rw [DN n r (by omega),if_neg (by omega)]
theorem Ma (max:Nat) (s r:List UInt8) (h:s.length≤max) (hm:max < 18446744073709551616):xR max (some (xB s++r))=(s,some r):=by
 unfold xR xB
 rw [List.append_assoc,Jo max s.length (s++r) h hm]
 exact QC s r
theorem AZ (x:Int):zOf (zN x)=x:=by
 unfold zN
 split
 ·unfold zOf;rw [if_pos (by omega)];omega
 ·unfold zOf;rw [if_neg (by omega)];omega
theorem SH (x:Int) (r:List UInt8) (h0:-9223372036854775808≤x) (h1:x≤9223372036854775807):uR (some (zB x++r))=(zN x,some r):=DN _ r (EP x h0 h1)
theorem Tk (v:Nat) (h:v < 18446744073709551616):Un (Ka v 8)=v:=by
 have hb:∀ k,(byB ((Kd v k:Int) % 256)).toNat=Kd v k % 256:=by
  intro k
  have:=JL (Kd v k % 256) (by omega)
  have e:((Kd v k % 256:Nat):Int)=(Kd v k:Int) % 256:=by omega
  rw [e] at this
  exact this
 simp only [Ka,List.nil_append,List.cons_append,Un,hb]
 simp only [Kd]
 omega
theorem SN (x:Int) (r:List UInt8) (h0:-9223372036854775808≤x) (h1:x≤9223372036854775807):bR (some (bB x++r))=(x,some r):=by
 unfold bR
 have hl:=Xt x
 have e:qd 8 (some (bB x++r))=(bB x,some r):=by
  have:=QC (bB x) r
  rw [hl] at this
  exact this
 rw [e]
 unfold bB
 rw [Tk _ (by omega)]
 simp only [Prod.mk.injEq,and_true]
 unfold wrap64
 omega
end
section
def jP:List CellB→List UInt8→Nat
 | [],_=>0
 | c :: l,t=>if c.text=t then 0 else jP l t+1
theorem Vf (l:List CellB) (t:List UInt8):∀ m,m < jP l t→∀ h:m < l.length,(l[m]).text≠t:=by
 induction l with
 | nil=>intro m h;simp [jP] at h
 | cons c l ih =>
  intro m h hl
  simp only [jP] at h
  split at h
  ·omega
  ·cases m with
   | zero=>simpa using ‹¬ c.text=t›
   | succ m=>simpa using ih m (by omega) (by simpa using hl)
theorem QJ (l:List CellB) (t:List UInt8) (h:∃ c ∈ l,c.text=t):∃ hl:jP l t < l.length,(l[jP l t]).text=t:=by
 induction l with
 | nil=>obtain ⟨c,hc,_⟩:=h;cases hc
 | cons c l ih =>
  by_cases hc:c.text=t
  ·have e:jP (c :: l) t=0:=by simp [jP,hc]
   exact ⟨by rw [e];simp,by simp only [e,List.getElem_cons_zero];exact hc⟩
  ·have e:jP (c :: l) t=jP l t+1:=by simp [jP,hc]
   obtain ⟨h1,h2⟩:=ih (by
    obtain ⟨d,hd,ht⟩:=h
    rcases List.mem_cons.1 hd with rfl|hd
    ·exact absurd ht hc
    ·exact ⟨d,hd,ht⟩)
   exact ⟨by rw [e];simp;omega,by simp only [e,List.getElem_cons_succ];exact h2⟩
theorem Vw (l:List CellB) (k:Nat) (h:k < l.length):jP l (l[k]).text≤k:=by
 rcases Nat.lt_or_ge k (jP l (l[k]).text) with h1|h1
 ·exact absurd rfl (Vf l _ k h1 h)
 ·exact h1
theorem ZA (l:List CellB) (t:List UInt8):jP l t≤l.length:=by
 induction l with
 | nil=>exact Nat.le_refl _
 | cons c l ih=>simp only [jP,List.length_cons];split<;>omega
def qz:CellB:=⟨false,0,[]⟩
def xP (l:List CellB) (i:Nat):CellB:=l.getD i qz
theorem jY (l:List CellB) (i:Nat) (h:i < l.length):xP l i=l[i]:=by simp [xP,List.getD,h]
def jZ (l:List CellB):Nat→List CellB
 | 0=>[]
 | k+1=>jZ l k++(if jP l (xP l k).text=k then [xP l k] else [])
def qa (l:List CellB):List CellB:=jZ l l.length
theorem zp (l:List CellB) (k:Nat):(jZ l k).length≤k:=by
 induction k with
 | zero=>exact Nat.le_refl _
 | succ k ih=>simp only [jZ,List.length_append];split<;>simp<;>omega
theorem Qc (l:List CellB) (k:Nat) (hk:k≤l.length):∀ c ∈ jZ l k,c ∈ l:=by
 induction k with
 | zero=>intro c hc;simp [jZ] at hc
 | succ k ih =>
  intro c hc
  simp only [jZ,List.mem_append] at hc
  rcases hc with hc|hc
  ·exact ih (by omega) c hc
  ·split at hc
   ·simp at hc;subst hc;rw [jY l k (by omega)];exact List.getElem_mem _
   ·simp at hc
theorem GU (l:List CellB) (i:Nat) (hi:i < l.length) (hf:jP l (l[i]).text=i):∀ k,i < k→k≤l.length→l[i] ∈ jZ l k:=by
 intro k
 induction k with
 | zero=>intro h;omega
 | succ k ih =>
  intro h hk
  simp only [jZ,List.mem_append]
  by_cases hik:i=k
  ·subst hik
   right
   rw [jY l i hi,if_pos hf]
   simp
  ·left;exact ih (by omega) (by omega)
theorem Zy (l:List CellB) (i:Nat) (hi:i < l.length):∃ c ∈ qa l,c.text=(l[i]).text:=by
 obtain ⟨h1,h2⟩:=QJ l (l[i]).text ⟨l[i],List.getElem_mem hi,rfl⟩
 have hf:jP l (l[jP l (l[i]).text]).text=jP l (l[i]).text:=by rw [h2]
 exact ⟨_,GU l _ h1 hf _ h1 (Nat.le_refl _),h2⟩
def zZ (v:Int):List CellB→Nat
 | []=>0
 | c :: l=>if c.int=v then zZ v l+1 else 0
theorem UV (v:Int) (l:List CellB):zZ v l≤l.length:=by
 induction l with
 | nil=>exact Nat.le_refl _
 | cons c l ih=>simp only [zZ,List.length_cons];split<;>omega
theorem GM (v:Int) (l:List CellB):∀ m,m < zZ v l→∃ h:m < l.length,(l[m]).int=v:=by
 induction l with
 | nil=>intro m h;simp [zZ] at h
 | cons c l ih =>
  intro m h
  simp only [zZ] at h
  split at h
  ·cases m with
   | zero=>exact ⟨by simp,by assumption⟩
   | succ m =>
    obtain ⟨h1,h2⟩:=ih m (by omega)
    exact ⟨by simp;omega,by simpa using h2⟩
  ·omega
theorem Uw (v:Int) (l:List CellB):∀ (h:zZ v l < l.length),(l[zZ v l]).int≠v:=by
 induction l with
 | nil=>intro h;simp [zZ] at h
 | cons c l ih =>
  intro h
  by_cases hc:c.int=v
  ·have e:zZ v (c :: l)=zZ v l+1:=by simp [zZ,hc]
   have h':zZ v l < l.length:=by rw [e] at h;simpa using h
   have:=ih h'
   simp only [e,List.getElem_cons_succ]
   exact this
  ·have e:zZ v (c :: l)=0:=by simp [zZ,hc]
   simp only [e,List.getElem_cons_zero]
   exact hc
def jF:List UInt8→List UInt8→Nat
 | a :: s,b :: t=>if a=b then jF s t+1 else 0
 | _,_=>0
theorem zY (s t:List UInt8):jF s t≤s.length∧jF s t≤t.length:=by
 induction s generalizing t with
 | nil=>simp [jF]
 | cons a s ih =>
  cases t with
  | nil=>simp [jF]
  | cons b t =>
   have:=ih t
   simp only [jF,List.length_cons]
   split<;>omega
theorem Uj (s t:List UInt8):∀ m,m < jF s t→∀ (h1:m < s.length) (h2:m < t.length),s[m]=t[m]:=by
 induction s generalizing t with
 | nil=>intro m h;simp [jF] at h
 | cons a s ih =>
  cases t with
  | nil=>intro m h;simp [jF] at h
  | cons b t =>
   intro m h h1 h2
   simp only [jF] at h
   split at h
   ·cases m with
    | zero=>simpa using ‹a=b›
    | succ m=>simpa using ih t m (by omega) (by simpa using h1) (by simpa using h2)
   ·omega
theorem Gi (s t:List UInt8):∀ (h1:jF s t < s.length) (h2:jF s t < t.length),s[jF s t]≠t[jF s t]:=by
 induction s generalizing t with
 | nil=>intro h;simp [jF] at h
 | cons a s ih =>
  cases t with
  | nil=>intro h1 h2;simp [jF] at h2
  | cons b t =>
   intro h1 h2
   by_cases hab:a=b
   ·have e:jF (a :: s) (b :: t)=jF s t+1:=by simp [jF,hab]
    have h1':jF s t < s.length:=by rw [e] at h1;simpa using h1
    have h2':jF s t < t.length:=by rw [e] at h2;simpa using h2
    have:=ih t h1' h2'
    simp only [e,List.getElem_cons_succ]
    exact this
   ·have e:jF (a :: s) (b :: t)=0:=by simp [jF,hab]
    simp only [e,List.getElem_cons_zero]
    exact hab
def jR (l:List CellB) (i:Nat):CellB:=if i=0 then qz else xP l (i - 1)
def qG (n:Nat) (l:List CellB) (i:Nat):List UInt8 :=
 match n with
 | 0=>bB (xP l i).int
 | 1=>zB (RowKit.wrap64 ((xP l i).int - (jR l i).int))
 | 2=>if i=0∨(xP l i).int≠(jR l i).int then uB (zZ (xP l i).int (l.drop (i+1))+1)++zB (xP l i).int else []
 | 3=>uB (jP (qa l) (xP l i).text)
 | 4=>uB (jF (xP l i).text (jR l i).text)++xB ((xP l i).text.drop (jF (xP l i).text (jR l i).text))
 | _=>xB (xP l i).text
def js (n:Nat) (l:List CellB):Nat→List UInt8
 | 0=>[]
 | k+1=>js n l k++qG n l k
def zC (l:List CellB):Nat→List UInt8
 | 0=>uB l.length
 | k+1=>zC l k++xB (xP l k).text
def qq (n:Nat) (l:List CellB):List UInt8:=(if n=3 then zC (qa l) (qa l).length else [])++js n l l.length
def qw (c:CellB):Prop:=-9223372036854775808≤c.int∧c.int≤9223372036854775807∧c.text.length≤12
theorem TH:qw qz:=⟨by decide,by decide,by decide⟩
theorem Vp (l:List CellB) (h:∀ c ∈ l,qw c) (i:Nat):qw (xP l i):=by
 by_cases hi:i < l.length
 ·rw [jY l i hi];exact h _ (List.getElem_mem hi)
 ·have:xP l i=qz:=by simp [xP,List.getD,show l.length≤i by omega]
  rw [this];exact TH
theorem Jb (l:List CellB) (h:∀ c ∈ l,qw c) (i:Nat):qw (jR l i):=by
 unfold jR;split
 ·exact TH
 ·exact Vp l h _
theorem Kr (n:Int) (h0:-9223372036854775808≤n) (h1:n≤9223372036854775807):(zB n).length≤10:=jN _ (EP n h0 h1)
theorem Uq (s:List UInt8) (h:s.length≤12):(xB s).length≤22:=by
 have:=jN s.length (by omega)
 simp only [xB,List.length_append];omega
theorem zk (n:Int):-9223372036854775808≤RowKit.wrap64 n∧RowKit.wrap64 n≤9223372036854775807:=by
 unfold RowKit.wrap64;omega
theorem QI (n:Nat) (l:List CellB) (h:∀ c ∈ l,qw c) (hn:l.length≤60) (i:Nat):(qG n l i).length≤40:=by
 obtain ⟨a1,a2,a3⟩:=Vp l h i
 obtain ⟨b1,b2,b3⟩:=Jb l h i
 have hd:=zp l l.length
 unfold qG
 split
 ·rw [Xt];omega
 ·have:=zk ((xP l i).int - (jR l i).int)
  have:=Kr _ this.1 this.2
  omega
 ·split
  ·have h1:=UV (xP l i).int (l.drop (i+1))
   rw [List.length_drop] at h1
   have h2:=jN (zZ (xP l i).int (l.drop (i+1))+1) (by omega)
   have h3:=Kr _ a1 a2
   rw [List.length_append];omega
  ·simp
 ·have h1:jP (qa l) (xP l i).text≤(qa l).length:=ZA _ _
  have h4:(qa l).length≤l.length:=hd
  have h2:=jN (jP (qa l) (xP l i).text) (by omega)
  omega
 ·have h1:=zY (xP l i).text (jR l i).text
  have h2:=jN (jF (xP l i).text (jR l i).text) (by omega)
  have h3:=Uq ((xP l i).text.drop (jF (xP l i).text (jR l i).text)) (by rw [List.length_drop];omega)
  rw [List.length_append];omega
 ·have:=Uq _ a3;omega
theorem xl (n:Nat) (l:List CellB) (h:∀ c ∈ l,qw c) (hn:l.length≤60) (k:Nat):(js n l k).length≤40*k:=by
 induction k with
 | zero=>simp [js]
 | succ k ih =>
  have:=QI n l h hn k
  simp only [js,List.length_append];omega
theorem Kt (l:List CellB) (h:∀ c ∈ l,qw c) (hn:l.length≤60) (k:Nat):(zC l k).length≤10+22*k:=by
 induction k with
 | zero=>have:=jN l.length (by omega);simp only [zC];omega
 | succ k ih =>
  have:=Uq (xP l k).text (Vp l h k).2.2
  simp only [zC,List.length_append];omega
end
section
def Xp (kind:Int) (k:Nat):Nat:=if kind=0 then k else if k=0 then 5 else k+2
def zT (n:Nat) (v:List CellB):List UInt8:=byB ((n:Int) % 5) :: qq n v
def jE (kind:Int) (v:List CellB):Nat→List UInt8
 | 0=>[]
 | k+1=>if k=0∨(zT (Xp kind k) v).length < (jE kind v k).length then zT (Xp kind k) v else jE kind v k
def xw (kind:Int) (l:List CellB):List UInt8:=if je l=[] then zr l else zr l++jE kind (je l) 3
theorem Kw (n:Nat) (v:List CellB) (h:∀ c ∈ v,qw c) (hn:v.length≤60):(qq n v).length≤5000:=by
 have h1:=xl n v h hn v.length
 have hd:∀ c ∈ qa v,qw c:=fun c hc=>h c (Qc v v.length (Nat.le_refl _) c hc)
 have hl:(qa v).length≤60:=Nat.le_trans (zp v v.length) hn
 have h2:=Kt (qa v) hd hl (qa v).length
 unfold qq
 rw [List.length_append]
 split<;>simp<;>omega
theorem Xx (kind:Int) (v:List CellB) (h:∀ c ∈ v,qw c) (hn:v.length≤60) (k:Nat):(jE kind v k).length≤5001:=by
 induction k with
 | zero=>simp [jE]
 | succ k ih =>
  have:=Kw (Xp kind k) v h hn
  simp only [jE]
  split
  ·simp only [zT,List.length_cons];omega
  ·exact ih
end
section
open Go.RowKit
variable {T:List TypeId} {B:Nat}
theorem jd {w:World} {g j:Nat} {cur:Array Value} {e:TypeId} (h:w.heap[g]?=some (.cells cur e (0,0))):w.cell? ⟨g,j,none⟩=cur[j]?:=cell_of_row w g j cur e (0,0) h
theorem Xj {α:Type} (f:α→List Value) (m:Nat) (hf:∀ x,(f x).length=m) (l:List α):∀ (j i:Nat) (hj:j < l.length) (hi:i < m),(l.flatMap f)[j*m+i]?=(f l[j])[i]?:=by
 induction l with
 | nil=>intro j i hj;simp at hj
 | cons x l ih =>
  intro j i hj hi
  rw [List.flatMap_cons]
  cases j with
  | zero=>rw [List.getElem?_append_left (by rw [hf];omega)];simp
  | succ j =>
   have hj':j < l.length:=by simpa using hj
   rw [List.getElem?_append_right (by rw [hf,Nat.succ_mul];omega),hf]
   rw [show (j+1)*m+i - m=j*m+i by rw [Nat.succ_mul];omega]
   exact ih j i hj' hi
theorem XZ {α:Type} (f:α→List Value) (m:Nat) (hf:∀ x,(f x).length=m) (l:List α):(l.flatMap f).length=l.length*m:=by
 induction l with
 | nil=>simp
 | cons x l ih=>rw [List.flatMap_cons,List.length_append,hf,ih,List.length_cons,Nat.succ_mul];omega
theorem qg (w:World) (C:Array Value) (t:TypeId):Below w.heap.size w (w.alloc (.cells C t))∧w.heap.size < (w.alloc (.cells C t)).heap.size∧(∀ j,(w.alloc (.cells C t)).cell? ⟨w.heap.size,j,none⟩=C[j]?)∧(w.alloc (.cells C t)).heap[w.heap.size]?=some (.cells C t (0,0)) :=
 ⟨(Below.refl _ _).alloc (Nat.le_refl _) _,by simp,fun j=>World.cell?_alloc_mark ..,heap_alloc_new w _⟩
end
end Go.Proofs.YthhpbhpfagoapaaGreat
