import Derived.Test.YthhpbhpfagoapabGreatJAL
import Derived.Test.YthhpbhpfagoapabGreatJAS
import Derived.Test.YthhpbhpfagoapabGreatJAY
import Derived.Test.YthhpbhpfagoapabGreatDBytes
import Derived.Deep.QuietTactic
import Derived.BigQuiet
namespace Go.Proofs.YthhpbhpfagoapabGreat
set_option linter.unusedVariables false
set_option linter.unusedSimpArgs false
set_option maxRecDepth 100000
set_option maxHeartbeats 16000000
open Go.RowKit
theorem EN {w:World} {p:Nat} {x y z:Value} {t:TypeId} (h:w.heap[p]?=some (.cells #[x,y,z] t (0,0))) :
  (w.cell? ⟨p,0,none⟩=some x∧w.cell? ⟨p,1,none⟩=some y∧w.cell? ⟨p,2,none⟩=some z)∧(∀ j,w.frozen? ⟨p,j,none⟩=false) :=
 ⟨⟨by rw [jb h];rfl,by rw [jb h];rfl,by rw [jb h];rfl⟩,fun j=>frozen_of_row w p j _ t h⟩
theorem Hi {w:World} {g:Nat} {x y z a b c:Value} {t:TypeId} (h:w.heap[g]?=some (.cells #[x,y,z] t (0,0))) :
  (((w.setCell ⟨g,0,none⟩ a).setCell ⟨g,1,none⟩ b).setCell ⟨g,2,none⟩ c).heap[g]?=some (.cells #[a,b,c] t (0,0)):=by
 have h1:(w.setCell ⟨g,0,none⟩ a).heap[g]?=some (.cells #[a,y,z] t (0,0)):=by rw [heap_setCell_same w g 0 _ t a h];rfl
 have h2:((w.setCell ⟨g,0,none⟩ a).setCell ⟨g,1,none⟩ b).heap[g]?=some (.cells #[a,b,z] t (0,0)):=by rw [heap_setCell_same _ g 1 _ t b h1];rfl
 rw [heap_setCell_same _ g 2 _ t c h2];rfl
structure LiesI (w:World) (a:Option Addr) (raw:List Int):Prop where
 ok:∀ x ∈ raw,Xy x
 few:raw.length≤140737488351232
 at_:raw≠[]→∃ b off,a=some ⟨b,off,none⟩∧b < w.heap.size∧∀ j (h:j < raw.length),w.cell? ⟨b,off+j,none⟩=some (.int .i64 raw[j])
theorem LiesI.later {w w':World} {a:Option Addr} {r:List Int} (h:LiesI w a r) (hb:Below w.heap.size w w'):LiesI w' a r:=by
 refine ⟨h.ok,h.few,fun hne=>?_⟩
 obtain ⟨b,off,ha,hlt,hc⟩:=h.at_ hne
 exact ⟨b,off,ha,Nat.lt_of_lt_of_le hlt hb.size,fun j hj=>(hb.cell (p:=⟨b,_,none⟩) hlt).trans (hc j hj)⟩
theorem Fe (a:Option Addr) (cap:Nat) (raw:List Int) (i:Nat) (w:World) (hl:LiesI w a raw) (hi:i≤100000) :
  Calls Tryz.prog 7 #[.slice a raw.length cap,.int .i64 (i:Int)] w fun e w'=>e=.returned (.int .i64 (atB raw i))∧w'=w:=by
 have Hl:=hid hl
 have hf:=hl.few
 clear hl
 by_cases h0:raw=[]
 ·subst h0
  have HE:Hid (atB [] i=0):=by simp [Hid,atB]
  go_enter Tryz.func7,Tryz.ntmps7
  go_wp2
  go_ret
  exact ⟨xd HE.out.symm,rfl⟩
 ·have hp:0 < raw.length:=List.length_pos_iff.2 h0
  obtain ⟨b,off,rfl,hbw,hcell⟩:=Hl.out.at_ h0
  have hm:i % raw.length < raw.length:=Nat.mod_lt _ hp
  have hc:=hcell (i % raw.length) hm
  have HE:Hid (atB raw i=raw[i % raw.length]):=by
   show atB raw i=_
   unfold atB
   rw [List.getD_eq_getElem?_getD,List.getElem?_eq_getElem hm];rfl
  have hz1:((raw.length:Int) == 0)=false:=by simp;omega
  have hz2:(raw.length:Int)≠0:=by omega
  have HT:Hid (Int.tmod (i:Int) (raw.length:Int)=((i % raw.length:Nat):Int)):=by
   show _=_
   rw [Int.tmod_eq_emod_of_nonneg (by omega)];rfl
  clear hcell
  go_enter Tryz.func7,Tryz.ntmps7
  go_wp2
  go_ret
  exact ⟨xd HE.out.symm,rfl⟩
theorem SF (i:Nat) (w:World) (hi:i < 4) :
  Calls Tryz.prog 20 #[.int .i64 (i:Int)] w fun e w'=>e=.returned (strB (Xq i))∧Below w.heap.size w w':=by
 have hw:IntKind.u8.wrap (97+(i:Int))=97+(i:Int):=by simp only [IntKind.wrap_u8];omega
 have hc:=At w 99 (97+(i:Int)) (by omega) (by omega) (by omega) (by omega)
 go_enter Tryz.func20,Tryz.ntmps20
 go_wp2
 go_ret
 exact ⟨rfl,(Below.refl _ _).alloc (Nat.le_refl _) _⟩
theorem FV (c:Int) (w:World) (h0:-9223372036854775808≤c) (h1:c≤9223372036854775807) :
  Calls Tryz.prog 35 #[.int .i64 c] w fun e w'=>e=.returned (strB (ZE c))∧Below w.heap.size w w':=by
 obtain ⟨i0,hi,hz0,hz1,hz2⟩:=info_parts Tryz.infoU8
 obtain ⟨hp0,hp1⟩:=qD c 1099511627776 (by decide)
 have HE:Hid (ZE c=ZT (qj c 1099511627776 / 13) (qj c 1099511627776 % 13).toNat):=rfl
 go_enter Tryz.func35,Tryz.ntmps35
 go_wp2_with fail
 refine (Jn c _ _ h0 h1 (by decide) (by decide)).mono ?_
 rintro e w1 ⟨rfl,rfl⟩
 generalize qj c 1099511627776=V at *
 have HTR:=hid (IT (V / 13) (by omega) (by omega))
 go_wp2_with fail
 go_loopw [3,5,6] (fun t v i wr=>∃ (k:Nat),(k:Int)≤V % 13∧i=.int .i64 (k:Int)∧t=.int .i64 (Kf (V / 13) k)∧wr.ownsRow w1.heap.size 5 1 v k (qw (ZT (V / 13) k))∧Below w1.heap.size w1 wr) (fun _ _ i _=>13 - (intOf i).toNat)
 case atStart=>exact ⟨0,by omega,rfl,rfl,World.ownsRow_nil _ _ _ _,Below.refl _ _⟩
 case round =>
  obtain ⟨k,hk,rfl,rfl,hown,hB⟩:=hrel
  obtain ⟨hx0,hx1⟩:=HTR.out k
  have HS:Hid (Kf (V / 13) (k+1)=Kf (V / 13) k / 3):=rfl
  have HS2:Hid (ZT (V / 13) (k+1)=ZT (V / 13) k++[byB (97+Kf (V / 13) k % 3)]):=rfl
  by_cases hlt:(k:Int) < V % 13
  ·generalize Kf (V / 13) k=x at *
   have hx3:0≤x % 3∧x % 3 < 3:=⟨by omega,by omega⟩
   go_wp2_with (at_builtin;refine wpList_append_own _ rfl (.tmp 18) (.tmp 23) 64 rfl w1.heap.size 5 i0 (.int .u8 0) 1 1 Tryz.underlying64 hi hz0 hz1 hz2 rfl (by decide) _ _ _ rfl (hown.alloc _) ⟨_,0,none⟩ 1 1 [.int .u8 (97+x % 3)] rfl rfl ?c1 ?c2 ?c3 ?c4 ?c5 ?_)
   case c1=>exact qE wr #[.int .u8 (97+x % 3)] 5
   case c2=>intro u hu;simp at hu;subst hu;rfl
   case c3=>unfold maxLen;omega
   case c4=>omega
   case c5=>have:=hB.size;simp;omega
   intro v2 w2 hown2 hgr2 _
   have HR:=hid (RJ (k:=k+1) (b:=byB (97+x % 3)) _ rfl (xY _ (by omega) (by omega)) hB hown hown2 hgr2)
   clear hown hown2 hgr2 hB
   go_wp2
   go_roundw
   case rel=>exact ⟨k+1,by omega,by go_num,by rw [HS.out],by rw [HS2.out];exact HR.out.1,HR.out.2⟩
   case measure=>simp [intOf];omega
  ·have hcv:=Km hown
   have hke:(k:Int)=V % 13:=by omega
   have HF:Hid (ZE c=ZT (V / 13) k):=by show _=_;rw [HE.out,show (V % 13).toNat=k by omega]
   have hni:decide ((k:Int) < V % 13)=false:=by simp;omega
   clear hke
   generalize ZT (V / 13) k=TT at *
   go_wp2
   go_ret
   exact ⟨congrArg (fun x=>Ending.returned (strB x)) HF.out.symm,hB⟩
theorem TU (kind c:Int) (w:World) (hk:kind=0∨kind=1) (h0:-9223372036854775808≤c) (h1:c≤9223372036854775807) :
  Calls Tryz.prog 21 #[.int .i64 kind,.int .i64 c] w fun e w'=>e=.returned (cellV (zA kind c))∧Below w.heap.size w w':=by
 obtain ⟨hp0,hp1⟩:=qD c 1099511627776 (by decide)
 have Hk:=hid hk
 clear hk
 by_cases hv0:qj c 1099511627776 % 5=0
 ·have HE:Hid (zA kind c=⟨true,0,[]⟩):=by simp [Hid,zA,hv0]
  have hv0i:(qj c 1099511627776 % 5 == 0)=true:=by simp [hv0]
  clear hv0
  go_enter Tryz.func21,Tryz.ntmps21
  go_wp2_with fail
  refine (Jn c _ _ h0 h1 (by decide) (by decide)).mono ?_
  rintro e w1 ⟨rfl,rfl⟩
  generalize qj c 1099511627776=V at *
  go_wp2
  exact bodyPost_ret (v:=cellV ⟨true,0,[]⟩) (by simp [results,Tryz.results21,go_sem]) rfl ⟨by rw [HE.out],(Below.refl _ _).alloc (Nat.le_refl _) _⟩
 ·have hv0i:(qj c 1099511627776 % 5 == 0)=false:=by simp [hv0]
  by_cases hk1:kind=1
  ·subst hk1
   have HE:Hid (zA 1 c=⟨false,0,ZE (qj c 1099511627776 / 5)⟩):=by simp [Hid,zA,hv0]
   clear hv0
   go_enter Tryz.func21,Tryz.ntmps21
   go_wp2_with fail
   refine (Jn c _ _ h0 h1 (by decide) (by decide)).mono ?_
   rintro e w1 ⟨rfl,rfl⟩
   generalize qj c 1099511627776=V at *
   go_wp2_with fail
   refine (FV (V / 5) _ (by omega) (by omega)).mono ?_
   rintro e w2 ⟨rfl,hb2⟩
   generalize ZE (V / 5)=t at *
   have hb0:Below w.heap.size w (w.alloc (Obj.cells #[.bool false,.int .i64 0,.string ⟨#[]⟩] 34)):=(Below.refl _ _).alloc (Nat.le_refl _) _
   have hblk:w2.heap[w.heap.size]?=some (.cells #[.bool false,.int .i64 0,.string ⟨#[]⟩] 34 (0,0)):=(hb2.block w.heap.size (by simp)).trans (heap_alloc_new w _)
   obtain ⟨⟨c0,c1,c2⟩,cf⟩:=EN hblk
   have f0:=cf 0
   have f1:=cf 1
   have f2:=cf 2
   have HB2:=hid (hb0.trans (hb2.mono hb0.size))
   have HW:=hid (Hi (a:=.bool false) (b:=.int .i64 0) (c:=strB t) hblk)
   have HBW:=hid (((HB2.out.setCell (p:=⟨w.heap.size,0,none⟩) (Nat.le_refl _) (.bool false)).setCell (p:=⟨w.heap.size,1,none⟩) (Nat.le_refl _) (.int .i64 0)).setCell (p:=⟨w.heap.size,2,none⟩) (Nat.le_refl _) (strB t))
   clear hb2 hb0 cf hblk
   go_wp2
   obtain ⟨⟨d0,d1,d2⟩,_⟩:=EN HW.out
   generalize ((w2.setCell _ _).setCell _ _).setCell _ _=W at *
   exact bodyPost_ret (v:=cellV ⟨false,0,t⟩) (by simp [results,Tryz.results21,go_sem,d0,d1,d2]) rfl ⟨by rw [HE.out],HBW.out⟩
  ·have hk0:kind=0:=Hk.out.resolve_right hk1
   subst hk0
   clear hk1
   by_cases hv1:qj c 1099511627776 % 5=1
   ·have HE:Hid (zA 0 c=⟨false,c,[]⟩):=by simp [Hid,zA,hv1]
    have hv1i:(qj c 1099511627776 % 5 == 1)=true:=by simp [hv1]
    clear hv1 hv0
    go_enter Tryz.func21,Tryz.ntmps21
    go_wp2_with fail
    refine (Jn c _ _ h0 h1 (by decide) (by decide)).mono ?_
    rintro e w1 ⟨rfl,rfl⟩
    generalize qj c 1099511627776=V at *
    go_wp2
    exact bodyPost_ret (v:=cellV ⟨false,c,[]⟩) (by simp [results,Tryz.results21,go_sem]) rfl ⟨by rw [HE.out],(Below.refl _ _).alloc (Nat.le_refl _) _⟩
   ·have HE:Hid (zA 0 c=⟨false,qj c 1099511627776 / 5 % 40,[]⟩):=by simp [Hid,zA,hv0,hv1]
    have hv1i:(qj c 1099511627776 % 5 == 1)=false:=by simp [hv1]
    clear hv1 hv0
    go_enter Tryz.func21,Tryz.ntmps21
    go_wp2_with fail
    refine (Jn c _ _ h0 h1 (by decide) (by decide)).mono ?_
    rintro e w1 ⟨rfl,rfl⟩
    generalize qj c 1099511627776=V at *
    go_wp2
    exact bodyPost_ret (v:=cellV ⟨false,V / 5 % 40,[]⟩) (by simp [results,Tryz.results21,go_sem]) rfl ⟨by rw [HE.out],(Below.refl _ _).alloc (Nat.le_refl _) _⟩
end Go.Proofs.YthhpbhpfagoapabGreat
