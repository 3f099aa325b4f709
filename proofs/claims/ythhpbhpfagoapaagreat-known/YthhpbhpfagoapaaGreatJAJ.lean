import Derived.Test.YthhpbhpfagoapaaGreatJAK
import Derived.Test.YthhpbhpfagoapaaGreatJAN
import Derived.Test.YthhpbhpfagoapaaGreatJAO
import Derived.Test.YthhpbhpfagoapaaGreatDBytes
import Derived.Deep.QuietTactic
import Derived.BigQuiet
import Derived.Test.YthhpbhpfagoapaaGreatJAS
import Derived.Test.YthhpbhpfagoapaaGreatWJob
import Derived.Test.YthhpbhpfagoapaaGreatLCells
namespace Go.Proofs.YthhpbhpfagoapaaGreat
set_option linter.unusedVariables false
set_option linter.unusedSimpArgs false
set_option maxRecDepth 100000
set_option maxHeartbeats 16000000
section
def atB (raw:List Int) (i:Nat):Int:=raw.getD (i % raw.length) 0
def inI64 (x:Int):Prop:=-9223372036854775808≤x∧x≤9223372036854775807
theorem atB_range (raw:List Int) (i:Nat) (h:∀ x ∈ raw,inI64 x):inI64 (atB raw i):=by
 unfold atB
 rw [List.getD_eq_getElem?_getD]
 cases hq:raw[i % raw.length]? with
 | none=>simp [inI64]
 | some x=>exact h x (List.mem_of_getElem? hq)
def thirdB (v:Int):Nat→Int
 | 0=>v
 | k+1=>thirdB v k / 3
theorem thirdB_range (v:Int) (h0:0≤v) (h1:v≤1099511627776) (k:Nat):0≤thirdB v k∧thirdB v k≤1099511627776:=by
 induction k with
 | zero=>exact ⟨h0,h1⟩
 | succ k ih=>obtain ⟨a,b⟩:=ih;simp only [thirdB];omega
def textTo (v:Int):Nat→List UInt8
 | 0=>[]
 | k+1=>textTo v k++[byB (97+thirdB v k % 3)]
theorem textTo_length (v:Int) (k:Nat):(textTo v k).length=k:=by
 induction k with
 | zero=>rfl
 | succ k ih=>simp [textTo,ih]
def textRaw (c:Int):List UInt8:=textTo (pickB c 1099511627776 / 13) (pickB c 1099511627776 % 13).toNat
theorem textRaw_len (c:Int):(textRaw c).length≤12:=by
 unfold textRaw;rw [textTo_length];omega
def cellRaw (kind c:Int):CellB :=
 if pickB c 1099511627776 % 5=0 then ⟨true,0,[]⟩
 else if kind=1 then ⟨false,0,textRaw (pickB c 1099511627776 / 5)⟩
 else if pickB c 1099511627776 % 5=1 then ⟨false,c,[]⟩ else ⟨false,pickB c 1099511627776 / 5 % 40,[]⟩
theorem cellRaw_fits (kind c:Int) (hk:kind=0∨kind=1) (hc:inI64 c):fitsB kind (cellRaw kind c)=true∧inI64 (cellRaw kind c).int:=by
 have ht:=textRaw_len (pickB c 1099511627776 / 5)
 unfold cellRaw
 split
 ·exact ⟨by simp [fitsB],by simp [inI64]⟩
 ·split
  ·rename_i h;subst h;exact ⟨by simp [fitsB,ht],by simp [inI64]⟩
  ·rename_i h
   have h0:kind=0:=by omega
   subst h0
   split
   ·exact ⟨by simp [fitsB],hc⟩
   ·exact ⟨by simp [fitsB],by simp only [inI64];omega⟩
def nameRaw (i:Nat):List UInt8:=[99,UInt8.ofNat (97+i)]
def rowsRaw (raw:List Int):Nat:=(pickB (atB raw 1) 20).toNat
def colsRaw (raw:List Int):Nat:=(1+pickB (atB raw 0) 4).toNat
def kindRaw (raw:List Int) (i:Nat):Int:=pickB (atB raw (6+i)) 2
def colRaw (raw:List Int) (i n:Nat):ColB :=
 ⟨nameRaw i,kindRaw raw i,pickB (atB raw (10+i)) 5,(List.range n).map fun k=>cellRaw (kindRaw raw i) (atB raw (14+i*rowsRaw raw+k))⟩
def tableRaw (raw:List Int) (k:Nat):List ColB:=(List.range k).map fun i=>colRaw raw i (rowsRaw raw)
def planRaw (raw:List Int):PlanB:=⟨1+pickB (atB raw 3) 12,1+pickB (atB raw 4) 6,5,decide (pickB (atB raw 5) 2=1)⟩
def jobRaw (raw:List Int) (pre:List UInt8):JobB:=⟨tableRaw raw (colsRaw raw),planRaw raw,pre.take 20,pickB (atB raw 2) 65536⟩
theorem colsRaw_range (raw:List Int):1≤colsRaw raw∧colsRaw raw≤4:=by
 have:=pickB_range (atB raw 0) 4 (by decide)
 unfold colsRaw;omega
theorem rowsRaw_range (raw:List Int):rowsRaw raw≤19:=by
 have:=pickB_range (atB raw 1) 20 (by decide)
 unfold rowsRaw;omega
theorem kindRaw_range (raw:List Int) (i:Nat):kindRaw raw i=0∨kindRaw raw i=1:=by
 have:=pickB_range (atB raw (6+i)) 2 (by decide)
 unfold kindRaw;omega
theorem tableRaw_length (raw:List Int) (k:Nat):(tableRaw raw k).length=k:=by simp [tableRaw]
theorem tableRaw_at (raw:List Int) (k i:Nat) (h:i < (tableRaw raw k).length):(tableRaw raw k)[i]=colRaw raw i (rowsRaw raw):=by simp [tableRaw]
theorem nameRaw_ok {i:Nat} (h:i < 4):nameOkB (nameRaw i)=true:=by
 have:i=0∨i=1∨i=2∨i=3:=by omega
 rcases this with rfl|rfl|rfl|rfl<;>decide
theorem nameRaw_inj {i k:Nat} (hi:i < 4) (hk:k < 4) (h:nameRaw i=nameRaw k):i=k:=by
 have:i=0∨i=1∨i=2∨i=3:=by omega
 have:k=0∨k=1∨k=2∨k=3:=by omega
 rcases ‹i=0∨_› with rfl|rfl|rfl|rfl<;>rcases ‹k=0∨_› with rfl|rfl|rfl|rfl<;>first|rfl|(exfalso;revert h;decide)
theorem headsTo_raw (t:List ColB) (n:Nat) (hn:n≤t.length) (h4:t.length≤4) (ht:∀ k (hk:k < t.length),(t[k]).name=nameRaw k∧((t[k]).kind=0∨(t[k]).kind=1)∧0≤(t[k]).key∧(t[k]).key≤9):headsTo t n=true:=by
 induction n with
 | zero=>rfl
 | succ n ih =>
  have hlt:n < t.length:=by omega
  obtain ⟨h1,h2,h3,h4'⟩:=ht n hlt
  simp only [headsTo,ih (by omega),Bool.true_and]
  rw [List.getElem?_eq_getElem hlt]
  simp only [headOkB,h1,nameRaw_ok (show n < 4 by omega),Bool.true_and,Bool.and_eq_true,decide_eq_true_eq,Bool.not_eq_true']
  refine ⟨⟨⟨by omega,by omega⟩,h3,h4'⟩,?_⟩
  unfold hasNameB
  rw [List.any_eq_false]
  intro c hc
  obtain ⟨k,hk,rfl⟩:=List.mem_iff_getElem.1 hc
  rw [List.length_take] at hk
  rw [List.getElem_take,(ht k (by omega)).1]
  simp only [beq_iff_eq]
  intro e
  have:=nameRaw_inj (by omega) (by omega) e
  omega
theorem good_raw (t:List ColB) (n:Nat) (h1:1≤t.length) (h4:t.length≤4) (hn:n≤60) (ht:∀ k (hk:k < t.length),(t[k]).name=nameRaw k∧((t[k]).kind=0∨(t[k]).kind=1)∧0≤(t[k]).key∧(t[k]).key≤9)
  (hc:∀ c ∈ t,c.cells.length=n∧∀ x ∈ c.cells,fitsB c.kind x=true∧inI64 x.int):GoodT t:=by
 have hr:rowsB t=n:=by
  cases t with
  | nil=>simp at h1
  | cons c l=>exact (hc c (List.mem_cons_self ..)).1
 refine ⟨?_,fun c hc' x hx=>((hc c hc').2 x hx).2⟩
 simp only [tableOkB,headsOkB,Bool.and_eq_true,decide_eq_true_eq,List.all_eq_true]
 refine ⟨⟨headsTo_raw t _ (Nat.le_refl _) h4 ht,h1,by omega⟩,fun c hc'=>?_⟩
 obtain ⟨k,hk,rfl⟩:=List.mem_iff_getElem.1 hc'
 obtain ⟨a,b⟩:=hc _ hc'
 have h2:=(ht k hk).2.1
 simp only [cellsOkB,Bool.and_eq_true,Bool.or_eq_true,decide_eq_true_eq,List.all_eq_true]
 exact ⟨⟨⟨h2,by omega⟩,fun x hx=>(b x hx).1⟩,by rw [hr];exact a⟩
theorem planOk_of {p:PlanB} (h:(1≤p.group∧p.group≤60)∧((1≤p.page∧p.page≤60)∧(1≤p.foot∧p.foot≤9))):planOkB p=true:=by
 simp only [planOkB,Bool.and_eq_true,decide_eq_true_eq]
 exact h
theorem planRaw_ok (raw:List Int):planOkB (planRaw raw)=true:=by
 have h1:=pickB_range (atB raw 3) 12 (by decide)
 have h2:=pickB_range (atB raw 4) 6 (by decide)
 refine planOk_of ⟨⟨?_,?_⟩,⟨?_,?_⟩,?_,?_⟩<;>simp only [planRaw]<;>omega
def ringRaw (c without:Int):List KeyB:=(ringB c without 5).map fun x=>⟨(x.1:Int),x.2⟩
end
section
open Go.RowKit
theorem cells3K {w:World} {p:Nat} {x y z:Value} {t:TypeId} (h:w.heap[p]?=some (.cells #[x,y,z] t (0,0))) :
  (w.cell? ⟨p,0,none⟩=some x∧w.cell? ⟨p,1,none⟩=some y∧w.cell? ⟨p,2,none⟩=some z)∧(∀ j,w.frozen? ⟨p,j,none⟩=false) :=
 ⟨⟨by rw [cell_of_heap h];rfl,by rw [cell_of_heap h];rfl,by rw [cell_of_heap h];rfl⟩,fun j=>frozen_of_row w p j _ t h⟩
theorem setK3 {w:World} {g:Nat} {x y z a b c:Value} {t:TypeId} (h:w.heap[g]?=some (.cells #[x,y,z] t (0,0))) :
  (((w.setCell ⟨g,0,none⟩ a).setCell ⟨g,1,none⟩ b).setCell ⟨g,2,none⟩ c).heap[g]?=some (.cells #[a,b,c] t (0,0)):=by
 have h1:(w.setCell ⟨g,0,none⟩ a).heap[g]?=some (.cells #[a,y,z] t (0,0)):=by rw [heap_setCell_same w g 0 _ t a h];rfl
 have h2:((w.setCell ⟨g,0,none⟩ a).setCell ⟨g,1,none⟩ b).heap[g]?=some (.cells #[a,b,z] t (0,0)):=by rw [heap_setCell_same _ g 1 _ t b h1];rfl
 rw [heap_setCell_same _ g 2 _ t c h2];rfl
structure LiesI (w:World) (a:Option Addr) (raw:List Int):Prop where
 ok:∀ x ∈ raw,inI64 x
 few:raw.length≤140737488351232
 at_:raw≠[]→∃ b off,a=some ⟨b,off,none⟩∧b < w.heap.size∧∀ j (h:j < raw.length),w.cell? ⟨b,off+j,none⟩=some (.int .i64 raw[j])
theorem LiesI.later {w w':World} {a:Option Addr} {r:List Int} (h:LiesI w a r) (hb:Below w.heap.size w w'):LiesI w' a r:=by
 refine ⟨h.ok,h.few,fun hne=>?_⟩
 obtain ⟨b,off,ha,hlt,hc⟩:=h.at_ hne
 exact ⟨b,off,ha,Nat.lt_of_lt_of_le hlt hb.size,fun j hj=>(hb.cell (p:=⟨b,_,none⟩) hlt).trans (hc j hj)⟩
theorem at_any (a:Option Addr) (cap:Nat) (raw:List Int) (i:Nat) (w:World) (hl:LiesI w a raw) (hi:i≤100000) :
  Calls Tryz.prog 71 #[.slice a raw.length cap,.int .i64 (i:Int)] w fun e w'=>e=.returned (.int .i64 (atB raw i))∧w'=w:=by
 have Hl:=hid hl
 have hf:=hl.few
 clear hl
 by_cases h0:raw=[]
 ·subst h0
  have HE:Hid (atB [] i=0):=by simp [Hid,atB]
  go_enter Tryz.func71,Tryz.ntmps71
  go_wp2
  go_ret
  exact ⟨ret_int HE.out.symm,rfl⟩
 ·have hp:0 < raw.length:=List.length_pos_iff.2 h0
  obtain ⟨b,off,rfl,hbw,hcell⟩:=Hl.out.at_ h0
  have hm:i % raw.length < raw.length:=Nat.mod_lt _ hp
  have hc:=hcell (i % raw.length) hm
  have HE:Hid (atB raw i=raw[i % raw.length]):=by
   show atB raw i=_
   unfold atB
   rw [List.getD_eq_getElem?_getD,List.getElem?_eq_getElem hm];rfl
  have hz1:((raw.length:Int) == 0)=false:=by simp;omega
  have hz2:(raw.length:Int)≠0:=by omega
  have HT:Hid (Int.tmod (i:Int) (raw.length:Int)=((i % raw.length:Nat):Int)):=by
   show _=_
   rw [Int.tmod_eq_emod_of_nonneg (by omega)];rfl
  clear hcell
  go_enter Tryz.func71,Tryz.ntmps71
  go_wp2
  go_ret
  exact ⟨ret_int HE.out.symm,rfl⟩
theorem name_any (i:Nat) (w:World) (hi:i < 4) :
  Calls Tryz.prog 72 #[.int .i64 (i:Int)] w fun e w'=>e=.returned (strB (nameRaw i))∧Below w.heap.size w w':=by
 have hw:IntKind.u8.wrap (97+(i:Int))=97+(i:Int):=by simp only [IntKind.wrap_u8];omega
 have hc:=conv_two w 99 (97+(i:Int)) (by omega) (by omega) (by omega) (by omega)
 go_enter Tryz.func72,Tryz.ntmps72
 go_wp2
 go_ret
 exact ⟨rfl,(Below.refl _ _).alloc (Nat.le_refl _) _⟩
theorem textD (c:Int) (w:World) (h0:-9223372036854775808≤c) (h1:c≤9223372036854775807) :
  Calls Tryz.prog 132 #[.int .i64 c] w fun e w'=>e=.returned (strB (textRaw c))∧Below w.heap.size w w':=by
 obtain ⟨i0,hi,hz0,hz1,hz2⟩:=info_parts Tryz.infoU8
 obtain ⟨hp0,hp1⟩:=pickB_range c 1099511627776 (by decide)
 have HE:Hid (textRaw c=textTo (pickB c 1099511627776 / 13) (pickB c 1099511627776 % 13).toNat):=rfl
 go_enter Tryz.func132,Tryz.ntmps132
 go_wp2_with fail
 refine (pick_any c _ _ h0 h1 (by decide) (by decide)).mono ?_
 rintro e w1 ⟨rfl,rfl⟩
 generalize pickB c 1099511627776=V at *
 have HTR:=hid (thirdB_range (V / 13) (by omega) (by omega))
 go_wp2_with fail
 go_loopw [3,5,6] (fun t v i wr=>∃ (k:Nat),(k:Int)≤V % 13∧i=.int .i64 (k:Int)∧t=.int .i64 (thirdB (V / 13) k)∧wr.ownsRow w1.heap.size 5 1 v k (cellsB (textTo (V / 13) k))∧Below w1.heap.size w1 wr) (fun _ _ i _=>13 - (intOf i).toNat)
 case atStart=>exact ⟨0,by omega,rfl,rfl,World.ownsRow_nil _ _ _ _,Below.refl _ _⟩
 case round =>
  obtain ⟨k,hk,rfl,rfl,hown,hB⟩:=hrel
  obtain ⟨hx0,hx1⟩:=HTR.out k
  have HS:Hid (thirdB (V / 13) (k+1)=thirdB (V / 13) k / 3):=rfl
  have HS2:Hid (textTo (V / 13) (k+1)=textTo (V / 13) k++[byB (97+thirdB (V / 13) k % 3)]):=rfl
  by_cases hlt:(k:Int) < V % 13
  ·generalize thirdB (V / 13) k=x at *
   have hx3:0≤x % 3∧x % 3 < 3:=⟨by omega,by omega⟩
   go_wp2_with (at_builtin;refine wpList_append_own _ rfl (.tmp 18) (.tmp 23) 149 rfl w1.heap.size 5 i0 (.int .u8 0) 1 1 Tryz.underlying149 hi hz0 hz1 hz2 rfl (by decide) _ _ _ rfl (hown.alloc _) ⟨_,0,none⟩ 1 1 [.int .u8 (97+x % 3)] rfl rfl ?c1 ?c2 ?c3 ?c4 ?c5 ?_)
   case c1=>exact cell_laid wr #[.int .u8 (97+x % 3)] 5
   case c2=>intro u hu;simp at hu;subst hu;rfl
   case c3=>unfold maxLen;omega
   case c4=>omega
   case c5=>have:=hB.size;simp;omega
   intro v2 w2 hown2 hgr2 _
   have HR:=hid (row_push (k:=k+1) (b:=byB (97+x % 3)) _ rfl (byB_toNat _ (by omega) (by omega)) hB hown hown2 hgr2)
   clear hown hown2 hgr2 hB
   go_wp2
   go_roundw
   case rel=>exact ⟨k+1,by omega,by go_num,by rw [HS.out],by rw [HS2.out];exact HR.out.1,HR.out.2⟩
   case measure=>simp [intOf];omega
  ·have hcv:=conv_any hown
   have hke:(k:Int)=V % 13:=by omega
   have HF:Hid (textRaw c=textTo (V / 13) k):=by show _=_;rw [HE.out,show (V % 13).toNat=k by omega]
   have hni:decide ((k:Int) < V % 13)=false:=by simp;omega
   clear hke
   generalize textTo (V / 13) k=TT at *
   go_wp2
   go_ret
   exact ⟨congrArg (fun x=>Ending.returned (strB x)) HF.out.symm,hB⟩
theorem cellD_any (kind c:Int) (w:World) (hk:kind=0∨kind=1) (h0:-9223372036854775808≤c) (h1:c≤9223372036854775807) :
  Calls Tryz.prog 73 #[.int .i64 kind,.int .i64 c] w fun e w'=>e=.returned (cellV (cellRaw kind c))∧Below w.heap.size w w':=by
 obtain ⟨hp0,hp1⟩:=pickB_range c 1099511627776 (by decide)
 have Hk:=hid hk
 clear hk
 by_cases hv0:pickB c 1099511627776 % 5=0
 ·have HE:Hid (cellRaw kind c=⟨true,0,[]⟩):=by simp [Hid,cellRaw,hv0]
  have hv0i:(pickB c 1099511627776 % 5 == 0)=true:=by simp [hv0]
  clear hv0
  go_enter Tryz.func73,Tryz.ntmps73
  go_wp2_with fail
  refine (pick_any c _ _ h0 h1 (by decide) (by decide)).mono ?_
  rintro e w1 ⟨rfl,rfl⟩
  generalize pickB c 1099511627776=V at *
  go_wp2
  exact bodyPost_ret (v:=cellV ⟨true,0,[]⟩) (by simp [results,Tryz.results73,go_sem]) rfl ⟨by rw [HE.out],(Below.refl _ _).alloc (Nat.le_refl _) _⟩
 ·have hv0i:(pickB c 1099511627776 % 5 == 0)=false:=by simp [hv0]
  by_cases hk1:kind=1
  ·subst hk1
   have HE:Hid (cellRaw 1 c=⟨false,0,textRaw (pickB c 1099511627776 / 5)⟩):=by simp [Hid,cellRaw,hv0]
   clear hv0
   go_enter Tryz.func73,Tryz.ntmps73
   go_wp2_with fail
   refine (pick_any c _ _ h0 h1 (by decide) (by decide)).mono ?_
   rintro e w1 ⟨rfl,rfl⟩
   generalize pickB c 1099511627776=V at *
   go_wp2_with fail
   refine (textD (V / 5) _ (by omega) (by omega)).mono ?_
   rintro e w2 ⟨rfl,hb2⟩
   generalize textRaw (V / 5)=t at *
   have hb0:Below w.heap.size w (w.alloc (Obj.cells #[.bool false,.int .i64 0,.string ⟨#[]⟩] 58)):=(Below.refl _ _).alloc (Nat.le_refl _) _
   have hblk:w2.heap[w.heap.size]?=some (.cells #[.bool false,.int .i64 0,.string ⟨#[]⟩] 58 (0,0)):=(hb2.block w.heap.size (by simp)).trans (heap_alloc_new w _)
   obtain ⟨⟨c0,c1,c2⟩,cf⟩:=cells3K hblk
   have f0:=cf 0
   have f1:=cf 1
   have f2:=cf 2
   have HB2:=hid (hb0.trans (hb2.mono hb0.size))
   have HW:=hid (setK3 (a:=.bool false) (b:=.int .i64 0) (c:=strB t) hblk)
   have HBW:=hid (((HB2.out.setCell (p:=⟨w.heap.size,0,none⟩) (Nat.le_refl _) (.bool false)).setCell (p:=⟨w.heap.size,1,none⟩) (Nat.le_refl _) (.int .i64 0)).setCell (p:=⟨w.heap.size,2,none⟩) (Nat.le_refl _) (strB t))
   clear hb2 hb0 cf hblk
   go_wp2
   obtain ⟨⟨d0,d1,d2⟩,_⟩:=cells3K HW.out
   generalize ((w2.setCell _ _).setCell _ _).setCell _ _=W at *
   exact bodyPost_ret (v:=cellV ⟨false,0,t⟩) (by simp [results,Tryz.results73,go_sem,d0,d1,d2]) rfl ⟨by rw [HE.out],HBW.out⟩
  ·have hk0:kind=0:=Hk.out.resolve_right hk1
   subst hk0
   clear hk1
   by_cases hv1:pickB c 1099511627776 % 5=1
   ·have HE:Hid (cellRaw 0 c=⟨false,c,[]⟩):=by simp [Hid,cellRaw,hv1]
    have hv1i:(pickB c 1099511627776 % 5 == 1)=true:=by simp [hv1]
    clear hv1 hv0
    go_enter Tryz.func73,Tryz.ntmps73
    go_wp2_with fail
    refine (pick_any c _ _ h0 h1 (by decide) (by decide)).mono ?_
    rintro e w1 ⟨rfl,rfl⟩
    generalize pickB c 1099511627776=V at *
    go_wp2
    exact bodyPost_ret (v:=cellV ⟨false,c,[]⟩) (by simp [results,Tryz.results73,go_sem]) rfl ⟨by rw [HE.out],(Below.refl _ _).alloc (Nat.le_refl _) _⟩
   ·have HE:Hid (cellRaw 0 c=⟨false,pickB c 1099511627776 / 5 % 40,[]⟩):=by simp [Hid,cellRaw,hv0,hv1]
    have hv1i:(pickB c 1099511627776 % 5 == 1)=false:=by simp [hv1]
    clear hv1 hv0
    go_enter Tryz.func73,Tryz.ntmps73
    go_wp2_with fail
    refine (pick_any c _ _ h0 h1 (by decide) (by decide)).mono ?_
    rintro e w1 ⟨rfl,rfl⟩
    generalize pickB c 1099511627776=V at *
    go_wp2
    exact bodyPost_ret (v:=cellV ⟨false,V / 5 % 40,[]⟩) (by simp [results,Tryz.results73,go_sem]) rfl ⟨by rw [HE.out],(Below.refl _ _).alloc (Nat.le_refl _) _⟩
end
section
theorem runsC_few (l:List CellB):∀ (b:Bool) (n:Nat),n+l.length≤127→(runsC b n l).length≤l.length+1:=by
 induction l with
 | nil=>intro b n h;simp only [runsC];rw [uB_small (by simpa using h)];simp
 | cons c l ih =>
  intro b n h
  simp only [List.length_cons] at h
  simp only [runsC]
  split
  ·have:=ih b (n+1) (by omega);simp only [List.length_cons];omega
  ·have:=ih (!b) 1 (by omega)
   rw [List.length_append,uB_small (by omega)]
   simp only [List.length_cons,List.length_nil];omega
theorem headB_few (l:List CellB) (h:l.length≤60):(headB l).length≤l.length+2:=by
 unfold headB restRuns
 rw [List.length_append,uB_small (by omega)]
 split
 ·simp
 ·have:=runsC_few l false 0 (by omega)
  simp;omega
theorem page_few (kind:Int) (l:List CellB) (h:∀ c ∈ l,smallC c) (hn:l.length≤6):(pageB kind l).length≤250:=by
 have h1:=headB_few l (by omega)
 have hv:(valuesB l).length≤6:=Nat.le_trans (List.length_filter_le ..) hn
 have hs:∀ c ∈ valuesB l,smallC c:=fun c hc=>h c (List.mem_filter.1 hc).1
 have h2:(bestTo kind (valuesB l) 3).length≤_:=bestTo_first kind (valuesB l) 2
 have h3:(candB (wayN kind 0) (valuesB l)).length≤241:=by
  have h4:=stepsTo_len (wayN kind 0) (valuesB l) hs (by omega) (valuesB l).length
  have h5:wayN kind 0≠3:=by unfold wayN;split<;>simp
  simp only [candB,wayB,if_neg h5,List.length_cons,List.nil_append]
  omega
 unfold pageB
 split
 ·omega
 ·rw [List.length_append];omega
theorem plain_few {t:List ColB} (h:GoodT t) {s:SpotB} (hs:s.c < t.length) (hm:s.many≤60) (h6:s.sort≠77→s.many≤6):(plainB t s).length≤250:=by
 obtain ⟨_,_,h3⟩:=h.cells s.c hs
 have hsm:∀ x ∈ ((colAt t s.c).cells.drop s.start).take s.many,smallC x:=by
  rw [colAt_eq hs]
  exact fun x hx=>h3 x (List.mem_of_mem_drop (List.mem_of_mem_take hx))
 have hl:(((colAt t s.c).cells.drop s.start).take s.many).length≤s.many:=by rw [List.length_take];omega
 unfold plainB
 split
 ·have:=meta_len (colAt t s.c).kind _ hsm (by omega);omega
 ·rename_i hne
  have:=h6 hne
  exact page_few _ _ hsm (by omega)
theorem spotsSt_few {j:JobB} {r:List KeyB} (B:Nat) (l:List SpotB):∀ st:StB,(∀ s ∈ l,(plainB j.table s).length≤B)→(spotsSt j r st l).out.length≤st.out.length+(B+8)*l.length:=by
 induction l with
 | nil=>intro st _;simp [spotsSt]
 | cons s l ih =>
  intro st hl
  have h1:=hl s (List.mem_cons_self ..)
  have h2:=mod_len j r (colAt j.table s.c).key s.sort s.g s.c s.p (plainB j.table s) st
  have h3:=ih (spotSt j r st s) (fun x hx=>hl x (List.mem_cons_of_mem _ hx))
  have e:spotsSt j r st (s :: l)=spotsSt j r (spotSt j r st s) l:=rfl
  rw [e]
  have e2:spotSt j r st s=modSt j r (colAt j.table s.c).key s.sort s.g s.c s.p (plainB j.table s) st:=rfl
  rw [← e2] at h2
  have e3:(B+8)*(s :: l).length=(B+8)*l.length+(B+8):=by rw [List.length_cons,Nat.mul_add,Nat.mul_one]
  rw [e3]
  omega
theorem chunk_few (R G P g c:Nat) (hP:1≤P):(chunkSpots R G P g c).length≤partN R G g+1:=by
 have h1:=cnt_le (n:=partN R G g) hP
 unfold chunkSpots pageSpots
 simp
 omega
theorem group_few (R G P g C:Nat) (hP:1≤P):(groupSpots R G P g C).length≤(partN R G g+1)*C:=by
 induction C with
 | zero=>simp [groupSpots]
 | succ C ih =>
  have h:groupSpots R G P g (C+1)=groupSpots R G P g C++chunkSpots R G P g C:=by simp [groupSpots,List.range_succ]
  have h2:=chunk_few R G P g C hP
  rw [h,List.length_append,Nat.mul_add,Nat.mul_one]
  omega
theorem to_few (R C G P:Nat) (hP:1≤P) (hG:1≤G):∀ n,n≤cntN R G→(spotsTo R C G P n).length≤2*min (n*G) R*C:=by
 intro n
 induction n with
 | zero=>intro _;simp [spotsTo]
 | succ n ih =>
  intro hn
  have hnG:n*G < R:=(cnt_lt hG).1 (by omega)
  have h1:=ih (by omega)
  have h2:=group_few R G P n C hP
  have h3:0 < partN R G n:=(part_pos hG).2 hnG
  have h4:=part_end R G n hnG
  have h5:min ((n+1)*G) R=min (n*G) R+partN R G n:=by rw [Nat.succ_mul];omega
  rw [spots_succ,List.length_append,h5]
  have h6:(partN R G n+1)*C≤2*partN R G n*C:=Nat.mul_le_mul_right _ (by omega)
  have h7:2*(min (n*G) R+partN R G n)*C=2*min (n*G) R*C+2*partN R G n*C:=by rw [Nat.mul_add,Nat.add_mul]
  omega
theorem file_few {j:JobB} {r:List KeyB} (h:GoodJ j r) (hC:j.table.length≤4) (hR:rowsB j.table≤20) (hP:j.plan.page.toNat≤6):(fileB j r).length≤65000:=by
 obtain ⟨⟨a,b⟩,⟨c,d⟩,_⟩:=h.sizes
 have hpl:∀ s ∈ spotsJ j,(plainB j.table s).length≤250:=fun s hs=>by
  have hin:=h.spotIn s hs
  refine plain_few h.table hin.col hin.few.2.2.2.2 (fun hne=>?_)
  simp only [spotsJ,spotsB,spotsTo,groupSpots,List.mem_flatMap,List.mem_range] at hs
  obtain ⟨g,_,k,_,hs⟩:=hs
  rcases List.mem_append.1 hs with hs|hs
  ·simp only [pageSpots,List.mem_map,List.mem_range] at hs
   obtain ⟨p,_,rfl⟩:=hs
   have:=(part_le (partN (rowsB j.table) j.plan.group.toNat g) j.plan.page.toNat p).1
   simp only
   omega
  ·simp only [List.mem_cons,List.not_mem_nil,or_false] at hs
   subst hs
   exact absurd rfl hne
 have h1:=spotsSt_few (r:=r) 250 (spotsJ j) ⟨startB j.plan,[]⟩ hpl
 have h2:(spotsJ j).length≤2*min (cntN (rowsB j.table) j.plan.group.toNat*j.plan.group.toNat) (rowsB j.table)*j.table.length:=to_few _ _ _ _ c a _ (Nat.le_refl _)
 have h3:2*min (cntN (rowsB j.table) j.plan.group.toNat*j.plan.group.toNat) (rowsB j.table)*j.table.length≤40*4:=Nat.mul_le_mul (by omega) hC
 have h4:(bodySt j r).out.length≤4+258*(spotsJ j).length:=h1
 have h5:=h.foot.2.2
 have h6:(endSt j r (footJ j r) (bodySt j r)).out.length≤(bodySt j r).out.length+4000:=by
  unfold endSt
  split
  ·have e1:=(seal_len j.draw (secretB r j.plan.foot) (boundB j.pre 83 0 0 0++footJ j r) [] (openSt (footJ j r) (bodySt j r))).1
   have e2:=open_len (footJ j r) (bodySt j r)
   rw [e1,e2]
   simp
   omega
  ·have e1:=(seal_len j.draw (secretB r j.plan.foot) (boundB j.pre 70 0 0 0) (footJ j r) (bodySt j r)).1
   rw [e1]
   omega
 unfold fileB
 simp only [List.length_append,twoB_length,List.length_cons,List.length_nil]
 omega
end
section
open Go.RowKit
def colsL (P:List (ColB × Value)):List Value:=P.flatMap fun p=>[strB p.1.name,.int .i64 p.1.kind,.int .i64 p.1.key,p.2]
theorem colsC_length (l:List (ColB × Value)):(colsL l).length=l.length*4:=flat_length _ 4 (fun _=>rfl) l
theorem colsC_append (a b:List (ColB × Value)):colsL (a++b)=colsL a++colsL b:=by simp [colsL]
theorem colsC_at (l:List (ColB × Value)) (j:Nat) (h:j < l.length):(colsL l)[j*4]?=some (strB (l[j]).1.name)∧(colsL l)[j*4+1]?=some (.int .i64 (l[j]).1.kind)∧(colsL l)[j*4+2]?=some (.int .i64 (l[j]).1.key)∧(colsL l)[j*4+3]?=some (l[j]).2 :=
 ⟨flat_at _ 4 (fun _=>rfl) l j 0 h (by decide),flat_at _ 4 (fun _=>rfl) l j 1 h (by decide),flat_at _ 4 (fun _=>rfl) l j 2 h (by decide),flat_at _ 4 (fun _=>rfl) l j 3 h (by decide)⟩
theorem Tryz.infoColumn:(Tryz.prog.info? 61).map (fun i=>(i.zero,i.size,i.bytes))=some (some (.agg #[.string ⟨#[]⟩,.int .i64 0,.int .i64 0,.slice none 0 0]),4,56):=by kernel_rfl
theorem own_laterT {W W':World} {base e size n:Nat} {v:Value} {xs:List Value} (h:W.ownsRow base e size v n xs) (hb:Below W.heap.size W W'):W'.ownsRow base e size v n xs :=
 h.kept (bgrown hb) (Classical.em _)
end
section
open Go.RowKit
def PageAns (w:World) (v:Value):Option (List CellB)→Prop
 | none=>∃ a cap,v=.slice a 0 cap
 | some l=>∃ a cap,v=.slice a l.length cap∧Lies w a l
def errU:Option (List CellB)→Int
 | none=>6
 | some _=>0
def UnpackDoes:Prop:=∀ (kind:Int) (page:ByteArray) (w:World),-9223372036854775808≤kind→kind≤9223372036854775807→page.size≤maxLen →
 Calls Tryz.prog 24 #[.int .i64 kind,.string page] w fun e w'=>∃ v,e=.returned (.tuple #[v,.int .i64 (errU (unpageB kind page.data.toList))])∧PageAns w' v (unpageB kind page.data.toList)∧Below w.heap.size w w'
end
end Go.Proofs.YthhpbhpfagoapaaGreat
