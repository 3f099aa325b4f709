import Derived.Test.YthhpbhpfagoapabGreatJoin
import Derived.BigQuiet
import Derived.Test.YthhpbhpfagoapabGreatJAR
import Derived.Test.YthhpbhpfagoapabGreatJAO
import Derived.Test.YthhpbhpfagoapabGreatDBytes
import Derived.Deep.QuietTactic
import Derived.Laws.CopyOwn
import Derived.OwnWalk
import Derived.WalkSmall
import Derived.Deep.RegionWith
import Derived.Test.YthhpbhpfagoapabGreatJAK
import Derived.Test.YthhpbhpfagoapabGreatJAM
import Derived.Deep.DeepCutAuto
namespace Go.Proofs.YthhpbhpfagoapabGreat
set_option linter.unusedVariables false
set_option linter.unusedSimpArgs false
set_option maxRecDepth 100000
set_option maxHeartbeats 16000000
section
open Go.RowKit
theorem YG (a b:List UInt8):xF [⟨a.toArray⟩,⟨b.toArray⟩]=a++b:=by simp [xF]
theorem Az (sec non ext cip:List UInt8):(NK sec non ext cip).length=2:=rfl
theorem CO (parts:List ByteArray) (C:Array Value) (n:Nat) (w:World) (hC:C=(parts.map Value.string).toArray) (hl:parts.length=n) (hn:n≤1000) (hs:(xF parts).length≤1000000) :
  Calls Tryz.prog 93 #[.slice (some ⟨w.heap.size,0,none⟩) n n] (w.alloc (.cells C 9)) fun e w'=>e=.returned (strB (xF parts))∧Below (w.heap.size+1) (w.alloc (.cells C 9)) w':=by
 subst hl
 refine (IH parts w.heap.size parts.length _ hn hs (by simp) (Uc w parts C hC _)).mono ?_
 rintro e w' ⟨h1,h2⟩
 exact ⟨h1,by simpa using h2⟩
theorem SH (sec non ext plain:ByteArray) (w:World) (h1:sec.size≤1000) (h2:non.size≤1000) (h3:ext.size≤5000) (h4:plain.size≤5000) :
  Calls Tryz.prog 124 #[.string sec,.string non,.string ext,.string plain] w fun e w' =>
   e=.returned (strB (xX sec.data.toList non.data.toList ext.data.toList plain.data.toList))∧Below w.heap.size w w':=by
 have hm:(1000:Nat)≤maxLen:=by decide
 have hm5:(5000:Nat)≤maxLen:=by decide
 go_enter Tryz.func124,Tryz.ntmps124
 go_wp2_with fail
 refine (Dl sec non plain w (Nat.le_trans h1 hm) (Nat.le_trans h2 hm) h4).mono ?_
 rintro e w1 ⟨rfl,hb1⟩
 have hl:=JH sec.data.toList non.data.toList plain.data.toList
 have hl2:(zA sec.data.toList non.data.toList plain.data.toList).length≤5000:=by rw [hl];simpa using h4
 clear hl
 have HF:Hid (∀ c,c=zA sec.data.toList non.data.toList plain.data.toList→c++NK sec.data.toList non.data.toList ext.data.toList c=xX sec.data.toList non.data.toList ext.data.toList plain.data.toList):=by
  intro c hc;subst hc;rfl
 have HF2:=hid (HF.out _ rfl)
 clear HF
 generalize zA sec.data.toList non.data.toList plain.data.toList=cip at *
 go_wp2_with fail
 refine (Ej sec non ext ⟨cip.toArray⟩ _ (Nat.le_trans h1 hm) (Nat.le_trans h2 hm) h3 (by rw [jM];omega)).mono ?_
 rintro e w2 ⟨rfl,hb2⟩
 go_wp2_with fail
 refine (CO [⟨cip.toArray⟩,⟨(NK sec.data.toList non.data.toList ext.data.toList cip).toArray⟩] _ 2 w2 rfl rfl (by decide) (by rw [YG,List.length_append,Az];omega)).mono ?_
 rintro e w3 ⟨rfl,hb3⟩
 rw [YG,HF2.out]
 go_wp2
 go_ret
 refine ⟨rfl,?_⟩
 have z1:=hb1.size
 have z2:=hb2.size
 exact ((hb1.trans (hb2.mono z1)).alloc (by omega) _).trans (hb3.mono (by omega))
end
section
open Go.RowKit
theorem Iq {w:World} {p:Nat} {x y z:Value} {t:TypeId} (h:w.heap[p]?=some (.cells #[x,y,z] t (0,0))) :
  (w.cell? ⟨p,0,none⟩=some x∧w.cell? ⟨p,1,none⟩=some y∧w.cell? ⟨p,2,none⟩=some z)∧(∀ j,w.frozen? ⟨p,j,none⟩=false) :=
 ⟨⟨by rw [jb h];rfl,by rw [jb h];rfl,by rw [jb h];rfl⟩,fun j=>frozen_of_row w p j _ t h⟩
theorem LZ {w:World} {g:Nat} {x y z a b c:Value} {t:TypeId} (h:w.heap[g]?=some (.cells #[x,y,z] t (0,0))) :
  (((w.setCell ⟨g,0,none⟩ a).setCell ⟨g,1,none⟩ b).setCell ⟨g,2,none⟩ c).heap[g]?=some (.cells #[a,b,c] t (0,0)):=by
 have h1:(w.setCell ⟨g,0,none⟩ a).heap[g]?=some (.cells #[a,y,z] t (0,0)):=by rw [heap_setCell_same w g 0 _ t a h];rfl
 have h2:((w.setCell ⟨g,0,none⟩ a).setCell ⟨g,1,none⟩ b).heap[g]?=some (.cells #[a,b,z] t (0,0)):=by rw [heap_setCell_same _ g 1 _ t b h1];rfl
 rw [heap_setCell_same _ g 2 _ t c h2];rfl
structure LiesI (w:World) (a:Option Addr) (raw:List Int):Prop where
 ok:∀ x ∈ raw,Xl x
 few:raw.length≤140737488351232
 at_:raw≠[]→∃ b off,a=some ⟨b,off,none⟩∧b < w.heap.size∧∀ j (h:j < raw.length),w.cell? ⟨b,off+j,none⟩=some (.int .i64 raw[j])
theorem LiesI.later {w w':World} {a:Option Addr} {r:List Int} (h:LiesI w a r) (hb:Below w.heap.size w w'):LiesI w' a r:=by
 refine ⟨h.ok,h.few,fun hne=>?_⟩
 obtain ⟨b,off,ha,hlt,hc⟩:=h.at_ hne
 exact ⟨b,off,ha,Nat.lt_of_lt_of_le hlt hb.size,fun j hj=>(hb.cell (p:=⟨b,_,none⟩) hlt).trans (hc j hj)⟩
theorem Bu (a:Option Addr) (cap:Nat) (raw:List Int) (i:Nat) (w:World) (hl:LiesI w a raw) (hi:i≤100000) :
  Calls Tryz.prog 7 #[.slice a raw.length cap,.int .i64 (i:Int)] w fun e w'=>e=.returned (.int .i64 (atB raw i))∧w'=w:=by
 have Hl:=hid hl
 have hf:=hl.few
 clear hl
 by_cases h0:raw=[]
 ·subst h0
  have HE:Hid (atB [] i=0):=by simp [Hid,atB]
  go_enter Tryz.func7,Tryz.ntmps7
  go_wp2
  go_ret
  exact ⟨xb HE.out.symm,rfl⟩
 ·have hp:0 < raw.length:=List.length_pos_iff.2 h0
  obtain ⟨b,off,rfl,hbw,hcell⟩:=Hl.out.at_ h0
  have hm:i % raw.length < raw.length:=Nat.mod_lt _ hp
  have hc:=hcell (i % raw.length) hm
  have HE:Hid (atB raw i=raw[i % raw.length]):=by
   show atB raw i=_
   unfold atB
   rw [List.getD_eq_getElem?_getD,List.getElem?_eq_getElem hm];rfl
  have hz1:((raw.length:Int) == 0)=false:=by simp;omega
  have hz2:(raw.length:Int)≠0:=by omega
  have HT:Hid (Int.tmod (i:Int) (raw.length:Int)=((i % raw.length:Nat):Int)):=by
   show _=_
   rw [Int.tmod_eq_emod_of_nonneg (by omega)];rfl
  clear hcell
  go_enter Tryz.func7,Tryz.ntmps7
  go_wp2
  go_ret
  exact ⟨xb HE.out.symm,rfl⟩
theorem PT (i:Nat) (w:World) (hi:i < 4) :
  Calls Tryz.prog 20 #[.int .i64 (i:Int)] w fun e w'=>e=.returned (strB (Xg i))∧Below w.heap.size w w':=by
 have hw:IntKind.u8.wrap (97+(i:Int))=97+(i:Int):=by simp only [IntKind.wrap_u8];omega
 have hc:=Dk w 99 (97+(i:Int)) (by omega) (by omega) (by omega) (by omega)
 go_enter Tryz.func20,Tryz.ntmps20
 go_wp2
 go_ret
 exact ⟨rfl,(Below.refl _ _).alloc (Nat.le_refl _) _⟩
theorem BW (c:Int) (w:World) (h0:-9223372036854775808≤c) (h1:c≤9223372036854775807) :
  Calls Tryz.prog 35 #[.int .i64 c] w fun e w'=>e=.returned (strB (ZD c))∧Below w.heap.size w w':=by
 obtain ⟨i0,hi,hz0,hz1,hz2⟩:=info_parts Tryz.infoU8
 obtain ⟨hp0,hp1⟩:=qB c 1099511627776 (by decide)
 have HE:Hid (ZD c=ZM (qi c 1099511627776 / 13) (qi c 1099511627776 % 13).toNat):=rfl
 go_enter Tryz.func35,Tryz.ntmps35
 go_wp2_with fail
 refine (Jk c _ _ h0 h1 (by decide) (by decide)).mono ?_
 rintro e w1 ⟨rfl,rfl⟩
 generalize qi c 1099511627776=V at *
 have HTR:=hid (Ia (V / 13) (by omega) (by omega))
 go_wp2_with fail
 go_loopw [3,5,6] (fun t v i wr=>∃ (k:Nat),(k:Int)≤V % 13∧i=.int .i64 (k:Int)∧t=.int .i64 (ZL (V / 13) k)∧wr.ownsRow w1.heap.size 5 1 v k (qu (ZM (V / 13) k))∧Below w1.heap.size w1 wr) (fun _ _ i _=>13 - (intOf i).toNat)
 case atStart=>exact ⟨0,by omega,rfl,rfl,World.ownsRow_nil _ _ _ _,Below.refl _ _⟩
 case round =>
  obtain ⟨k,hk,rfl,rfl,hown,hB⟩:=hrel
  obtain ⟨hx0,hx1⟩:=HTR.out k
  have HS:Hid (ZL (V / 13) (k+1)=ZL (V / 13) k / 3):=rfl
  have HS2:Hid (ZM (V / 13) (k+1)=ZM (V / 13) k++[byB (97+ZL (V / 13) k % 3)]):=rfl
  by_cases hlt:(k:Int) < V % 13
  ·generalize ZL (V / 13) k=x at *
   have hx3:0≤x % 3∧x % 3 < 3:=⟨by omega,by omega⟩
   go_wp2_with (at_builtin;refine wpList_append_own _ rfl (.tmp 18) (.tmp 23) 64 rfl w1.heap.size 5 i0 (.int .u8 0) 1 1 Tryz.underlying64 hi hz0 hz1 hz2 rfl (by decide) _ _ _ rfl (hown.alloc _) ⟨_,0,none⟩ 1 1 [.int .u8 (97+x % 3)] rfl rfl ?c1 ?c2 ?c3 ?c4 ?c5 ?_)
   case c1=>exact qC wr #[.int .u8 (97+x % 3)] 5
   case c2=>intro u hu;simp at hu;subst hu;rfl
   case c3=>unfold maxLen;omega
   case c4=>omega
   case c5=>have:=hB.size;simp;omega
   intro v2 w2 hown2 hgr2 _
   have HR:=hid (NY (k:=k+1) (b:=byB (97+x % 3)) _ rfl (xV _ (by omega) (by omega)) hB hown hown2 hgr2)
   clear hown hown2 hgr2 hB
   go_wp2
   go_roundw
   case rel=>exact ⟨k+1,by omega,by go_num,by rw [HS.out],by rw [HS2.out];exact HR.out.1,HR.out.2⟩
   case measure=>simp [intOf];omega
  ·have hcv:=Ke hown
   have hke:(k:Int)=V % 13:=by omega
   have HF:Hid (ZD c=ZM (V / 13) k):=by show _=_;rw [HE.out,show (V % 13).toNat=k by omega]
   have hni:decide ((k:Int) < V % 13)=false:=by simp;omega
   clear hke
   generalize ZM (V / 13) k=TT at *
   go_wp2
   go_ret
   exact ⟨congrArg (fun x=>Ending.returned (strB x)) HF.out.symm,hB⟩
theorem TF (kind c:Int) (w:World) (hk:kind=0∨kind=1) (h0:-9223372036854775808≤c) (h1:c≤9223372036854775807) :
  Calls Tryz.prog 21 #[.int .i64 kind,.int .i64 c] w fun e w'=>e=.returned (cellV (zI kind c))∧Below w.heap.size w w':=by
 obtain ⟨hp0,hp1⟩:=qB c 1099511627776 (by decide)
 have Hk:=hid hk
 clear hk
 by_cases hv0:qi c 1099511627776 % 5=0
 ·have HE:Hid (zI kind c=⟨true,0,[]⟩):=by simp [Hid,zI,hv0]
  have hv0i:(qi c 1099511627776 % 5 == 0)=true:=by simp [hv0]
  clear hv0
  go_enter Tryz.func21,Tryz.ntmps21
  go_wp2_with fail
  refine (Jk c _ _ h0 h1 (by decide) (by decide)).mono ?_
  rintro e w1 ⟨rfl,rfl⟩
  generalize qi c 1099511627776=V at *
  go_wp2
  exact bodyPost_ret (v:=cellV ⟨true,0,[]⟩) (by simp [results,Tryz.results21,go_sem]) rfl ⟨by rw [HE.out],(Below.refl _ _).alloc (Nat.le_refl _) _⟩
 ·have hv0i:(qi c 1099511627776 % 5 == 0)=false:=by simp [hv0]
  by_cases hk1:kind=1
  ·subst hk1
   have HE:Hid (zI 1 c=⟨false,0,ZD (qi c 1099511627776 / 5)⟩):=by simp [Hid,zI,hv0]
   clear hv0
   go_enter Tryz.func21,Tryz.ntmps21
   go_wp2_with fail
   refine (Jk c _ _ h0 h1 (by decide) (by decide)).mono ?_
   rintro e w1 ⟨rfl,rfl⟩
   generalize qi c 1099511627776=V at *
   go_wp2_with fail
   refine (BW (V / 5) _ (by omega) (by omega)).mono ?_
   rintro e w2 ⟨rfl,hb2⟩
   generalize ZD (V / 5)=t at *
   have hb0:Below w.heap.size w (w.alloc (Obj.cells #[.bool false,.int .i64 0,.string ⟨#[]⟩] 34)):=(Below.refl _ _).alloc (Nat.le_refl _) _
   have hblk:w2.heap[w.heap.size]?=some (.cells #[.bool false,.int .i64 0,.string ⟨#[]⟩] 34 (0,0)):=(hb2.block w.heap.size (by simp)).trans (heap_alloc_new w _)
   obtain ⟨⟨c0,c1,c2⟩,cf⟩:=Iq hblk
   have f0:=cf 0
   have f1:=cf 1
   have f2:=cf 2
   have HB2:=hid (hb0.trans (hb2.mono hb0.size))
   have HW:=hid (LZ (a:=.bool false) (b:=.int .i64 0) (c:=strB t) hblk)
   have HBW:=hid (((HB2.out.setCell (p:=⟨w.heap.size,0,none⟩) (Nat.le_refl _) (.bool false)).setCell (p:=⟨w.heap.size,1,none⟩) (Nat.le_refl _) (.int .i64 0)).setCell (p:=⟨w.heap.size,2,none⟩) (Nat.le_refl _) (strB t))
   clear hb2 hb0 cf hblk
   go_wp2
   obtain ⟨⟨d0,d1,d2⟩,_⟩:=Iq HW.out
   generalize ((w2.setCell _ _).setCell _ _).setCell _ _=W at *
   exact bodyPost_ret (v:=cellV ⟨false,0,t⟩) (by simp [results,Tryz.results21,go_sem,d0,d1,d2]) rfl ⟨by rw [HE.out],HBW.out⟩
  ·have hk0:kind=0:=Hk.out.resolve_right hk1
   subst hk0
   clear hk1
   by_cases hv1:qi c 1099511627776 % 5=1
   ·have HE:Hid (zI 0 c=⟨false,c,[]⟩):=by simp [Hid,zI,hv1]
    have hv1i:(qi c 1099511627776 % 5 == 1)=true:=by simp [hv1]
    clear hv1 hv0
    go_enter Tryz.func21,Tryz.ntmps21
    go_wp2_with fail
    refine (Jk c _ _ h0 h1 (by decide) (by decide)).mono ?_
    rintro e w1 ⟨rfl,rfl⟩
    generalize qi c 1099511627776=V at *
    go_wp2
    exact bodyPost_ret (v:=cellV ⟨false,c,[]⟩) (by simp [results,Tryz.results21,go_sem]) rfl ⟨by rw [HE.out],(Below.refl _ _).alloc (Nat.le_refl _) _⟩
   ·have HE:Hid (zI 0 c=⟨false,qi c 1099511627776 / 5 % 40,[]⟩):=by simp [Hid,zI,hv0,hv1]
    have hv1i:(qi c 1099511627776 % 5 == 1)=false:=by simp [hv1]
    clear hv1 hv0
    go_enter Tryz.func21,Tryz.ntmps21
    go_wp2_with fail
    refine (Jk c _ _ h0 h1 (by decide) (by decide)).mono ?_
    rintro e w1 ⟨rfl,rfl⟩
    generalize qi c 1099511627776=V at *
    go_wp2
    exact bodyPost_ret (v:=cellV ⟨false,V / 5 % 40,[]⟩) (by simp [results,Tryz.results21,go_sem]) rfl ⟨by rw [HE.out],(Below.refl _ _).alloc (Nat.le_refl _) _⟩
end
section
open Go.RowKit
theorem Lies.cells {w:World} {b off:Nat} {l:List CellB} (h:∀ j (h:j < l.length),
  w.cell? ⟨b,off+j*3,none⟩=some (.bool (l[j]).null)∧w.cell? ⟨b,off+j*3+1,none⟩=some (.int .i64 (l[j]).int)∧w.cell? ⟨b,off+j*3+2,none⟩=some (strB (l[j]).text)) :
  ∀ i v,(qz l)[i]?=some v→w.cell? ((⟨b,off,none⟩:Addr).add i)=some v:=by
 intro i v hi
 have hil:i < (qz l).length:=(List.getElem?_eq_some_iff.1 hi).1
 rw [Xb] at hil
 have hj:i / 3 < l.length:=by omega
 obtain ⟨h1,h2,h3⟩:=h (i / 3) hj
 obtain ⟨c1,c2,c3⟩:=VM l (i / 3) hj
 have ha:(⟨b,off,none⟩:Addr).add i=⟨b,off+i,none⟩:=by unfold Addr.add;split<;>simp_all
 rw [ha]
 have hm:i % 3=0∨i % 3=1∨i % 3=2:=by omega
 rcases hm with hm|hm|hm
 ·have e:i=i / 3*3:=by omega
  rw [e] at hi ⊢
  rw [c1] at hi
  rw [h1];exact hi
 ·have e:i=i / 3*3+1:=by omega
  rw [e] at hi ⊢
  rw [c2] at hi
  rw [← Nat.add_assoc,h2];exact hi
 ·have e:i=i / 3*3+2:=by omega
  rw [e] at hi ⊢
  rw [c3] at hi
  rw [← Nat.add_assoc,h3];exact hi
theorem Re (l:List CellB):∀ v ∈ qz l,v.oneCell'=true:=by
 intro v hv
 simp only [qz,List.mem_flatMap] at hv
 obtain ⟨c,_,hc⟩:=hv
 simp at hc
 rcases hc with rfl|rfl|rfl<;>rfl
end
section
open Go.RowKit
def Ug:Nat→Option (List UInt8)→List (List UInt8) × Option (List UInt8)
 | 0,st=>([],st)
 | k+1,st=>((xR 12 st).1 :: (Ug k (xR 12 st).2).1,(Ug k (xR 12 st).2).2)
def xsB (d:List CellB):List UInt8:=d.flatMap fun c=>xB c.text
theorem Tt (d:List CellB):∀ k,k≤d.length→Qt d k=uB d.length++xsB (d.take k):=by
 intro k
 induction k with
 | zero=>intro _;simp [Qt,xsB]
 | succ k ih =>
  intro h
  rw [Qt,ih (by omega),qK d k (by omega),List.take_succ_eq_append_getElem (by omega)]
  simp only [xsB,List.flatMap_append,List.flatMap_cons,List.flatMap_nil,List.append_nil,List.append_assoc]
theorem Aw (d:List CellB) (r:List UInt8) (h:∀ c ∈ d,c.text.length≤12):Ug d.length (some (xsB d++r))=(d.map (·.text),some r):=by
 induction d with
 | nil=>rfl
 | cons c d ih =>
  have e:xsB (c :: d)++r=xB c.text++(xsB d++r):=by simp [xsB]
  rw [e]
  simp only [List.length_cons,Ug]
  rw [PL 12 c.text (xsB d++r) (h c (by simp)) (by omega)]
  simp only
  rw [ih (fun x hx=>h x (by simp [hx]))]
  rfl
theorem Bt (v:List CellB) (r:List UInt8) (hv:∀ c ∈ v,YY c) (hn:v.length≤60):Jq 1 3 ((qU v).map (·.text)) v.length (v.length+1) [] xx (some (zP 3 v 0 v.length++r))=(v,some r):=by
 have:=ZX 1 3 3 ((qU v).map (·.text)) v r (fun i h rest=>by
  have hc:=hv v[i] (List.getElem_mem h)
  have hs:xL 3 v i=uB (qj (qU v) (v[i]).text):=by show uB (qj (qU v) (zp v i).text)=_;rw [qK v i h]
  obtain ⟨h1,h2⟩:=XJ (qU v) (v[i]).text (Uy v i h)
  have hdl:=JE v v.length
  have hd2:(qU v).length≤v.length:=hdl
  have hne:(qU v).map (·.text)≠[]:=by
   intro e0
   have:=congrArg List.length e0
   simp at this
   rw [this] at h1
   simp at h1
  have hlm:((qU v).map (·.text)).length=(qU v).length:=by simp
  unfold ZC
  rw [if_neg (by omega),if_neg (by omega),if_neg (by omega),if_neg (by omega),if_pos ⟨rfl,rfl,hne⟩,hs,hlm,Kz _ _ rest (by omega) (by omega)]
  have eg:((qU v).map (·.text)).getD (qj (qU v) (v[i]).text) []=(v[i]).text:=by
   simp only [List.getD,List.getElem?_map,List.getElem?_eq_getElem h1,Option.map_some,Option.getD_some]
   exact h2
  rw [eg]
  exact Prod.ext (Rs hc).symm rfl) v.length 0 (by omega)
 simpa [qN] using this
theorem CE (w:Nat) (v:List CellB):∀ (q a k:Nat),q≤k→(∀ j,j < q→xL w v (a+j)=[])→zP w v a k=zP w v (a+q) (k - q):=by
 intro q
 induction q with
 | zero=>intro a k _ _;rfl
 | succ q ih =>
  intro a k hk h
  obtain ⟨k',rfl⟩:∃ k',k=k'+1:=⟨k - 1,by omega⟩
  have h0:=h 0 (by omega)
  simp only [Nat.add_zero] at h0
  simp only [zP]
  rw [h0,List.nil_append,ih (a+1) k' (by omega) (fun j hj=>by have:=h (j+1) (by omega);rwa [show a+(j+1)=a+1+j by omega] at this)]
  congr 1<;>omega
theorem Bq (v:List CellB) (r:List UInt8) (hv:∀ c ∈ v,Tw c) (hn:v.length≤60) :
  ∀ (k i f:Nat) (last:CellB),i+k=v.length→k < f→(k=0∨i=0∨(zp v i).int≠(qN v i).int)→Jq 0 2 [] v.length f (v.take i) last (some (zP 2 v i k++r))=(v,some r):=by
 intro k
 induction k using Nat.strongRecOn with
 | _ k ih =>
  intro i f last hi hf hrun
  obtain ⟨f',rfl⟩:∃ f',f=f'+1:=⟨f - 1,by omega⟩
  have hl:(v.take i).length=i:=by rw [List.length_take];omega
  by_cases hk:k=0
  ·subst hk
   rw [Jq,if_neg (by rw [hl];omega),zP,List.nil_append,List.take_of_length_le (by omega)]
  ·have hlt:i < v.length:=by omega
   have hc:=hv v[i] (List.getElem_mem hlt)
   have hrow:=Nm (v[i]).int (v.drop (i+1))
   rw [List.length_drop] at hrow
   have hin:∀ j,j < Jv (v[i]).int (v.drop (i+1))→∃ h:i+1+j < v.length,v[i+1+j]=v[i]:=by
    intro j hj
    obtain ⟨h1,h2⟩:=Eu (v[i]).int (v.drop (i+1)) j hj
    rw [List.length_drop] at h1
    refine ⟨by omega,?_⟩
    rw [List.getElem_drop] at h2
    rw [VC (hv v[i+1+j] (List.getElem_mem _)),VC hc,h2]
   have hend:∀ h:i+1+Jv (v[i]).int (v.drop (i+1)) < v.length,(v[i+1+Jv (v[i]).int (v.drop (i+1))]).int≠(v[i]).int:=by
    intro h
    have:=Rr (v[i]).int (v.drop (i+1)) (by rw [List.length_drop];omega)
    rw [List.getElem_drop] at this
    exact this
   have hs:xL 2 v i=uB (Jv (v[i]).int (v.drop (i+1))+1)++zB (v[i]).int:=by
    simp only [xL,qK v i hlt]
    rw [if_pos]
    rcases hrun with h|h|h
    ·exact absurd h hk
    ·exact .inl h
    ·rw [qK v i hlt] at h;exact .inr h
   generalize Jv (v[i]).int (v.drop (i+1))=q at *
   have hskip:zP 2 v (i+1) (k - 1)=zP 2 v (i+1+q) (k - 1 - q):=CE 2 v q (i+1) (k - 1) (by omega) (fun j hj=>by
    obtain ⟨h1,h2⟩:=hin j hj
    simp only [xL,qK v (i+1+j) h1,qN]
    rw [if_neg (by omega:¬ (i+1+j=0)),qK v (i+1+j - 1) (by omega)]
    have hp:v[i+1+j - 1]=v[i]:=by
     cases j with
     | zero=>rfl
     | succ j =>
      obtain ⟨h3,h4⟩:=hin j (by omega)
      rw [← h4]
      congr 1
    rw [hp,h2]
    rw [if_neg (fun h=>h.elim (fun h=>by omega) (fun h=>h rfl))])
   obtain ⟨k',rfl⟩:∃ k',k=k'+1:=⟨k - 1,by omega⟩
   simp only [Nat.add_sub_cancel] at hskip
   rw [Jq,if_pos (by rw [hl];exact ⟨hlt,rfl⟩),hl]
   simp only [zP,hs,hskip,List.append_assoc]
   have hstep:ZC 0 2 [] v.length i last (some (uB (q+1)++(zB (v[i]).int++(zP 2 v (i+1+q) (k' - q)++r))))=(v[i],q+1,some (zP 2 v (i+1+q) (k' - q)++r)):=by
    unfold ZC
    rw [if_neg (by omega),if_neg (by omega),if_pos ⟨rfl,rfl⟩,Kz _ _ _ (by omega) (by omega),LV _ _ hc.2.2.1 hc.2.2.2]
    simp only [MB]
    rw [if_neg (by omega)]
    exact Prod.ext (VC hc).symm rfl
   rw [hstep]
   have e1:v.take i++List.replicate (q+1) v[i]=v.take (i+1+q):=by
    apply List.ext_getElem
    ·simp only [List.length_append,List.length_take,List.length_replicate];omega
    ·intro j h1 h2
     rw [List.getElem_take]
     by_cases hj:j < i
     ·rw [List.getElem_append_left (by rw [hl];exact hj),List.getElem_take]
     ·rw [List.getElem_append_right (by rw [hl];omega),List.getElem_replicate]
      by_cases hji:j=i
      ·subst hji;rfl
      ·obtain ⟨h3,h4⟩:=hin (j - i - 1) (by rw [List.length_take] at h2;omega)
       rw [← h4]
       congr 1
       omega
   simp only [e1]
   refine ih (k' - q) (by omega) (i+1+q) f' v[i] (by omega) (by omega) ?_
   by_cases hz:k' - q=0
   ·exact .inl hz
   ·right;right
    have h5:i+1+q < v.length:=by omega
    rw [qK v (i+1+q) h5]
    unfold qN
    rw [if_neg (by omega),qK v (i+1+q - 1) (by omega)]
    have hp:v[i+1+q - 1]=v[i]:=by
     cases q with
     | zero=>rfl
     | succ q =>
      obtain ⟨h3,h4⟩:=hin q (by omega)
      rw [← h4]
      congr 1
    rw [hp]
    exact hend h5
end
section
open Go.RowKit
def Xx (kind:Int) (n:Nat) (st:Option (List UInt8)):List CellB × Option (List UInt8) :=
 match KQ 1 st with
 | (c :: _,some r) =>
  if kind=1∧c.toNat=3 then Jq kind 3 (Ug (zj 60 (some r)).1 (zj 60 (some r)).2).1 n (n+1) [] xx (Ug (zj 60 (some r)).1 (zj 60 (some r)).2).2
  else Jq kind c.toNat [] n (n+1) [] xx (some r)
 | _=>([],none)
theorem ZI (kind:Int) (n:Nat) (c:UInt8) (r:List UInt8):Xx kind n (some (c :: r)) =
  if kind=1∧c.toNat=3 then Jq kind 3 (Ug (zj 60 (some r)).1 (zj 60 (some r)).2).1 n (n+1) [] xx (Ug (zj 60 (some r)).1 (zj 60 (some r)).2).2
  else Jq kind c.toNat [] n (n+1) [] xx (some r):=by
 simp only [Xx,NC]
theorem DT (kind:Int) (v:List CellB) (r:List UInt8) (j:Nat) (hj:j < 3) (hk:kind=0∨kind=1) (hn:v.length≤60) (h0:kind=0→∀ c ∈ v,Tw c) (h1:kind=1→∀ c ∈ v,YY c) :
  Xx kind v.length (some (Xr (ZO kind j) v++r))=(v,some r):=by
 rcases hk with rfl|rfl
 ·have hv:=h0 rfl
  have hw:ZO 0 j=j:=rfl
  rw [hw]
  have e5:((j:Int) % 5)=(j:Int):=by omega
  show Xx 0 v.length (some (byB ((j:Int) % 5) :: (qJ j v++r)))=_
  rw [ZI,e5,Qw j (by omega),if_neg (by omega)]
  have hww:qJ j v=zP j v 0 v.length:=by unfold qJ;rw [if_neg (by omega),List.nil_append,UD]
  rw [hww]
  match j,hj with
  | 0,_=>exact BA v r hv
  | 1,_=>exact Bw v r hv
  | 2,_ =>
   have:=Bq v r hv hn v.length 0 (v.length+1) xx (by omega) (by omega) (.inr (.inl rfl))
   simpa using this
 ·have hv:=h1 rfl
  match j,hj with
  | 0,_ =>
   show Xx 1 v.length (some (byB 0 :: (qJ 5 v++r)))=_
   rw [ZI,show (byB 0).toNat=0 from rfl,if_neg (by omega)]
   have hww:qJ 5 v=zP 5 v 0 v.length:=by unfold qJ;rw [if_neg (by omega),List.nil_append,UD]
   rw [hww]
   exact Bo v r hv
  | 1,_ =>
   show Xx 1 v.length (some (byB 3 :: (qJ 3 v++r)))=_
   rw [ZI,show (byB 3).toNat=3 from rfl,if_pos ⟨rfl,rfl⟩]
   have hd:(qU v).length≤60:=Nat.le_trans (JE v v.length) hn
   have hww:qJ 3 v++r=uB (qU v).length++(xsB (qU v)++(zP 3 v 0 v.length++r)):=by
    unfold qJ
    rw [if_pos rfl,Tt (qU v) (qU v).length (Nat.le_refl _),List.take_length,UD]
    simp only [List.append_assoc]
   rw [hww,Kz 60 _ _ hd (by omega)]
   simp only
   rw [Aw (qU v) _ (fun c hc=>(hv c (XV v v.length (Nat.le_refl _) c hc)).2.2)]
   exact Bt v r hv hn
  | 2,_ =>
   show Xx 1 v.length (some (byB 4 :: (qJ 4 v++r)))=_
   rw [ZI,show (byB 4).toNat=4 from rfl,if_neg (by omega)]
   have hww:qJ 4 v=zP 4 v 0 v.length:=by unfold qJ;rw [if_neg (by omega),List.nil_append,UD]
   rw [hww]
   exact BG v r hv
theorem CA (kind:Int) (v:List CellB):∃ j,j < 3∧jQ kind v 3=Xr (ZO kind j) v:=by
 have h1:jQ kind v 1=Xr (ZO kind 0) v:=by simp [jQ]
 have h2:jQ kind v 2=Xr (ZO kind 1) v∨jQ kind v 2=Xr (ZO kind 0) v:=by
  show (if 1=0∨_ then _ else _)=_∨(if 1=0∨_ then _ else _)=_
  split
  ·exact .inl rfl
  ·exact .inr h1
 have h3:jQ kind v 3=Xr (ZO kind 2) v∨jQ kind v 3=jQ kind v 2:=by
  show (if 2=0∨_ then _ else _)=_∨(if 2=0∨_ then _ else _)=_
  split
  ·exact .inl rfl
  ·exact .inr rfl
 rcases h3 with h|h
 ·exact ⟨2,by omega,h⟩
 ·rcases h2 with h'|h'
  ·exact ⟨1,by omega,by rw [h,h']⟩
  ·exact ⟨0,by omega,by rw [h,h']⟩
def Xj (n:Nat):Nat→List Bool→Bool→Option (List UInt8)→List Bool × Option (List UInt8)
 | 0,l,_,st=>(l,st)
 | f+1,l,b,st=>if l.length < n∧st.isSome=true then Xj n f (l++List.replicate (zj (n - l.length) st).1 b) (!b) (zj (n - l.length) st).2 else (l,st)
theorem Tc (b:Bool) (l:List CellB):(l.take (Jh b l)).map (·.null)=List.replicate (Jh b l) b:=by
 apply List.ext_getElem
 ·simp only [List.length_map,List.length_take,List.length_replicate]
  have:=Nl b l
  omega
 ·intro i h1 h2
  simp only [List.length_replicate] at h2
  obtain ⟨h3,h4⟩:=Ek b l i h2
  simp only [List.getElem_map,List.getElem_take,List.getElem_replicate]
  exact h4
theorem Ph (b:Bool) (l:List CellB) (h:Jh b l=0) (hl:l≠[]):Jh (!b) l≠0:=by
 cases l with
 | nil=>exact absurd rfl hl
 | cons c l =>
  simp only [Jh] at h ⊢
  have hc:¬ c.null=b:=by intro e;simp [e] at h
  have hc2:c.null=!b:=by cases hn:c.null<;>cases b<;>simp_all
  simp [hc2]
theorem CY (n:Nat) (hn:n≤60) (r:List UInt8):∀ (f:Nat) (l:List CellB) (b:Bool) (pre:List Bool),pre.length+l.length=n→2*l.length+(if Jh b l=0 then 1 else 0) < f →
  Xj n f pre b (some (qX b l++r))=(pre++l.map (·.null),some r):=by
 intro f
 induction f with
 | zero=>intro l b pre _ h;omega
 | succ f ih =>
  intro l b pre hp hf
  by_cases hl:l=[]
  ·subst hl
   simp only [List.length_nil,Nat.add_zero] at hp
   rw [Xj,if_neg (by omega)]
   simp [qX]
  ·have hpos:0 < l.length:=by cases l with|nil=>exact absurd rfl hl|cons c l=>simp
   have hrow:=Nl b l
   rw [Xj,if_pos ⟨by omega,rfl⟩,ZV b l hl,List.append_assoc,Kz _ _ _ (by omega) (by omega)]
   simp only
   have e:pre++l.map (·.null)=(pre++List.replicate (Jh b l) b)++(l.drop (Jh b l)).map (·.null):=by
    rw [List.append_assoc,← Tc b l,← List.map_append,List.take_append_drop]
   rw [e]
   refine ih (l.drop (Jh b l)) (!b) _ ?_ ?_
   ·simp only [List.length_append,List.length_replicate,List.length_drop];omega
   ·rw [List.length_drop]
    by_cases h0:Jh b l=0
    ·rw [h0,List.drop_zero,if_neg (Ph b l h0 hl)]
     rw [if_pos h0] at hf
     omega
    ·rw [if_neg h0] at hf
     split<;>omega
def qZ:List Bool→List CellB→List CellB
 | [],_=>[]
 | true :: l,v=>⟨true,0,[]⟩ :: qZ l v
 | false :: l,c :: v=>c :: qZ l v
 | false :: l,[]=>⟨false,0,[]⟩ :: qZ l []
theorem Gf (l:List CellB) (h:∀ c ∈ l,c.null=true→c=⟨true,0,[]⟩):qZ (l.map (·.null)) (jm l)=l:=by
 induction l with
 | nil=>rfl
 | cons c l ih =>
  have ih':=ih (fun x hx=>h x (by simp [hx]))
  cases hc:c.null with
  | true =>
   have e:=h c (by simp) hc
   have ev:jm (c :: l)=jm l:=by simp [jm,hc]
   simp only [List.map_cons,hc,ev,qZ]
   rw [ih',← e]
  | false =>
   have ev:jm (c :: l)=c :: jm l:=by simp [jm,hc]
   simp only [List.map_cons,hc,ev,qZ]
   rw [ih']
def UX (l:List Bool):Nat:=(l.filter fun b=>!b).length
theorem XC (l:List CellB):UX (l.map (·.null))=(jm l).length:=by
 unfold UX jm
 rw [List.filter_map,List.length_map]
 rfl
def VR (kind:Int) (page:List UInt8):Option (List CellB) :=
 if (Xj (zj 60 (some page)).1 200 [] false (zj 60 (some page)).2).2=none∨(Xj (zj 60 (some page)).1 200 [] false (zj 60 (some page)).2).1.length≠(zj 60 (some page)).1 then none
 else if UX (Xj (zj 60 (some page)).1 200 [] false (zj 60 (some page)).2).1=0 then some (qZ (Xj (zj 60 (some page)).1 200 [] false (zj 60 (some page)).2).1 [])
 else if (Xx kind (UX (Xj (zj 60 (some page)).1 200 [] false (zj 60 (some page)).2).1) (Xj (zj 60 (some page)).1 200 [] false (zj 60 (some page)).2).2).2=none ∨
   (Xx kind (UX (Xj (zj 60 (some page)).1 200 [] false (zj 60 (some page)).2).1) (Xj (zj 60 (some page)).1 200 [] false (zj 60 (some page)).2).2).1.length≠UX (Xj (zj 60 (some page)).1 200 [] false (zj 60 (some page)).2).1 then none
 else some (qZ (Xj (zj 60 (some page)).1 200 [] false (zj 60 (some page)).2).1 (Xx kind (UX (Xj (zj 60 (some page)).1 200 [] false (zj 60 (some page)).2).1) (Xj (zj 60 (some page)).1 200 [] false (zj 60 (some page)).2).2).1)
theorem SG {c:CellB} (h:xg 0 c=true) (hn:c.null=false) (hr:-9223372036854775808≤c.int∧c.int≤9223372036854775807):Tw c:=by
 unfold xg at h
 rw [hn] at h
 simp at h
 exact ⟨hn,h,hr.1,hr.2⟩
theorem Pl {c:CellB} (h:xg 1 c=true) (hn:c.null=false):YY c:=by
 unfold xg at h
 rw [hn] at h
 simp at h
 exact ⟨hn,h.1,h.2⟩
theorem Tv {kind:Int} {c:CellB} (h:xg kind c=true) (hn:c.null=true):c=⟨true,0,[]⟩:=by
 unfold xg at h
 rw [if_pos hn] at h
 obtain ⟨n,i,t⟩:=c
 simp at h hn
 obtain ⟨h1,h2⟩:=h
 subst h1 h2 hn
 rfl
theorem Dx (kind:Int) (l:List CellB) (rest:List UInt8) (hok:qA kind l=true) (hr:∀ c ∈ l,-9223372036854775808≤c.int∧c.int≤9223372036854775807):VR kind (xK kind l++rest)=some l:=by
 unfold qA at hok
 simp only [Bool.and_eq_true,Bool.or_eq_true,decide_eq_true_eq,List.all_eq_true] at hok
 obtain ⟨⟨hk,hn⟩,hf⟩:=hok
 have hnull:∀ c ∈ l,c.null=true→c=⟨true,0,[]⟩:=fun c hc h=>Tv (hf c hc) h
 have hfill:=Gf l hnull
 have hmem:∀ c ∈ jm l,c ∈ l∧c.null=false:=fun c hc=>by
  have:=List.mem_filter.1 hc
  exact ⟨this.1,by simpa using this.2⟩
 have hvl:(jm l).length≤l.length:=List.length_filter_le _ _
 have hhead:∀ rest:List UInt8,zj 60 (some (Jb l++rest))=(l.length,some (qX false l++rest)):=by
  intro rest
  unfold Jb
  rw [List.append_assoc]
  exact Kz 60 l.length _ hn (by omega)
 have hruns:∀ rest:List UInt8,Xj l.length 200 [] false (some (qX false l++rest))=(l.map (·.null),some rest):=by
  intro rest
  have:=CY l.length hn rest 200 l false [] (by simp) (by split<;>omega)
  simpa using this
 by_cases hv:jm l=[]
 ·have hp:xK kind l=Jb l:=by unfold xK;rw [if_pos hv]
  unfold VR
  rw [hp,hhead rest]
  simp only
  rw [hruns rest]
  simp only
  rw [if_neg (by simp),XC,hv,if_pos (show ([]:List CellB).length=0 from rfl)]
  rw [hv] at hfill
  rw [hfill]
 ·have hp:xK kind l=Jb l++jQ kind (jm l) 3:=by unfold xK;rw [if_neg hv]
  obtain ⟨j,hj,hb⟩:=CA kind (jm l)
  have hg:=DT kind (jm l) rest j hj hk (by omega) (fun h c hc=>by subst h;exact SG (hf c (hmem c hc).1) (hmem c hc).2 (hr c (hmem c hc).1)) (fun h c hc=>by subst h;exact Pl (hf c (hmem c hc).1) (hmem c hc).2)
  rw [← hb] at hg
  have hpos:(jm l).length≠0:=fun h=>hv (List.eq_nil_of_length_eq_zero h)
  unfold VR
  rw [hp,List.append_assoc,hhead]
  simp only
  rw [hruns]
  simp only
  rw [if_neg (by simp),XC,if_neg hpos,hg]
  simp only
  rw [if_neg (by simp),hfill]
def JD (c:CellB):Prop:=-9223372036854775808≤c.int∧c.int≤9223372036854775807
theorem Pg (k:Nat) (hk:k < 18446744073709551616):-9223372036854775808≤zOf k∧zOf k≤9223372036854775807:=by
 unfold zOf;split<;>omega
theorem IR (kind:Int) (e:Nat) (words:List (List UInt8)) (n len:Nat) (last:CellB) (st:Option (List UInt8)):JD (ZC kind e words n len last st).1:=by
 unfold ZC
 split
 ·exact JK (MC (KQ 8 st).1:Int)
 split
 ·exact JK (last.int+zOf (uR st).1)
 split
 ·exact Pg _ (BS _)
 split
 ·exact ⟨(by decide:(-9223372036854775808:Int)≤0),(by decide:(0:Int)≤9223372036854775807)⟩
 split
 ·exact ⟨(by decide:(-9223372036854775808:Int)≤0),(by decide:(0:Int)≤9223372036854775807)⟩
 split
 ·exact ⟨(by decide:(-9223372036854775808:Int)≤0),(by decide:(0:Int)≤9223372036854775807)⟩
 ·exact ⟨(by decide:(-9223372036854775808:Int)≤0),(by decide:(0:Int)≤9223372036854775807)⟩
theorem Vz (kind:Int) (e:Nat) (words:List (List UInt8)) (n:Nat):∀ (f:Nat) (l:List CellB) (last:CellB) (st:Option (List UInt8)),(∀ c ∈ l,JD c)→∀ c ∈ (Jq kind e words n f l last st).1,JD c:=by
 intro f
 induction f with
 | zero=>intro l last st h;exact h
 | succ f ih =>
  intro l last st h
  rw [Jq]
  split
  ·refine ih _ _ _ (fun c hc=>?_)
   rcases List.mem_append.1 hc with hc|hc
   ·exact h c hc
   ·rw [(List.mem_replicate.1 hc).2]
    exact IR _ _ _ _ _ _ _
  ·exact h
theorem Ee (kind:Int) (n:Nat) (st:Option (List UInt8)):∀ c ∈ (Xx kind n st).1,JD c:=by
 unfold Xx
 split
 ·split
  ·exact Vz _ _ _ _ _ _ _ _ (by simp)
  ·exact Vz _ _ _ _ _ _ _ _ (by simp)
 ·simp
theorem GG:∀ (l:List Bool) (v:List CellB),(∀ c ∈ v,JD c)→∀ c ∈ qZ l v,JD c:=by
 intro l
 induction l with
 | nil=>intro v h c hc;simp [qZ] at hc
 | cons b l ih =>
  intro v h c hc
  have h0:JD ⟨true,0,[]⟩:=⟨by decide,by decide⟩
  have h1:JD ⟨false,0,[]⟩:=⟨by decide,by decide⟩
  cases b with
  | true =>
   simp only [qZ,List.mem_cons] at hc
   rcases hc with rfl|hc
   ·exact h0
   ·exact ih v h c hc
  | false =>
   cases v with
   | nil =>
    simp only [qZ,List.mem_cons] at hc
    rcases hc with rfl|hc
    ·exact h1
    ·exact ih [] h c hc
   | cons d v =>
    simp only [qZ,List.mem_cons] at hc
    rcases hc with rfl|hc
    ·exact h c (by simp)
    ·exact ih v (fun x hx=>h x (by simp [hx])) c hc
theorem Io {kind:Int} {page:List UInt8} {l:List CellB} (h:VR kind page=some l):∀ c ∈ l,JD c:=by
 unfold VR at h
 split at h
 ·cases h
 ·split at h
  ·cases h;exact GG _ _ (by simp)
  ·split at h
   ·cases h
   ·cases h;exact GG _ _ (Ee _ _ _)
def JI (kind:Int) (page:List UInt8):Option (List CellB) :=
 match VR kind page with
 | none=>none
 | some l=>if qA kind l=true∧xK kind l=page then some l else none
theorem Ul {kind:Int} {page:List UInt8} {l:List CellB} (h:JI kind page=some l):qA kind l=true∧xK kind l=page∧∀ c ∈ l,JD c:=by
 unfold JI at h
 split at h
 ·cases h
 ·rename_i l' hl
  split at h
  ·rename_i hc
   cases h
   exact ⟨hc.1,hc.2,Io hl⟩
  ·cases h
theorem KU (kind:Int) (l:List CellB) (hok:qA kind l=true) (hr:∀ c ∈ l,JD c):JI kind (xK kind l)=some l:=by
 have:=Dx kind l [] hok hr
 rw [List.append_nil] at this
 unfold JI
 rw [this]
 exact if_pos ⟨hok,rfl⟩
end
section
open Go.RowKit
theorem zX {wr w1:World} {B p e sz n:Nat} {v:Value} {xs:List Value} (h:wr.ownsRow B e sz v n xs) (hp:p < B) (hg:wr.grownBy w1 (some p)):w1.ownsRow B e sz v n xs:=by
 refine h.kept hg ?_
 cases hv:v.ownBlock with
 | none=>exact .inl rfl
 | some k =>
  right
  have:=(h.lt k hv).1
  simp only [ne_eq,Option.some.injEq]
  omega
theorem Ua {w wr:World} {p:Option Nat} (h:w.grownBy wr p) (o:Obj):w.grownBy (wr.alloc o) p:=jf h (World.grownBy_alloc wr o p)
theorem JM {w wr w2:World} {p q:Option Nat} (h:w.grownBy wr p) (hg:wr.grownBy w2 q) (hq:∀ k,q=some k→w.heap.size≤k):w.grownBy w2 p:=by
 refine ⟨hg.os.trans h.os,hg.tape.trans h.tape,hg.output.trans h.output,Nat.le_trans h.size hg.size,fun i hi hne=>?_⟩
 rw [hg.block i (Nat.lt_of_lt_of_le hi h.size) (fun e=>absurd (hq i e.symm) (by omega))]
 exact h.block i hi hne
theorem jS {w:World} {b b' e s n:Nat} {v:Value} {xs:List Value} (h:w.ownsRow b e s v n xs) (hb:b'≤b):w.ownsRow b' e s v n xs:=by
 refine ⟨h.1,?_⟩
 rcases h.2 with h|⟨g,cap,cur,rfl,hg,rest⟩
 ·exact .inl h
 ·exact .inr ⟨g,cap,cur,rfl,Nat.le_trans hb hg,rest⟩
theorem jP {a b:World} {p:Option Nat} (h:(a.drew).grownBy b p):a.grownBy b p:=⟨h.os,h.tape,h.output,h.size,h.block⟩
end
section
theorem IA {R G P g c:Nat}:∀ s ∈ jh R G P g c,s.c=c∧s.many≤G:=by
 intro s hs
 rcases List.mem_append.1 hs with hs|hs
 ·simp only [jt,List.mem_map,List.mem_range] at hs
  obtain ⟨k,_,rfl⟩:=hs
  exact ⟨rfl,Nat.le_trans (Ju _ _ _).2 (Ju _ _ _).1⟩
 ·simp only [List.mem_cons,List.not_mem_nil,or_false] at hs
  subst hs
  exact ⟨rfl,(Ju _ _ _).1⟩
theorem KY {R G P g C:Nat}:∀ s ∈ jr R G P g C,s.c < C∧s.many≤G:=by
 intro s hs
 simp only [jr,List.mem_flatMap,List.mem_range] at hs
 obtain ⟨c,hc,hs⟩:=hs
 obtain ⟨h1,h2⟩:=IA s hs
 exact ⟨by omega,h2⟩
theorem Ai {R C G P n:Nat}:∀ s ∈ jH R C G P n,s.c < C∧s.many≤G:=by
 intro s hs
 simp only [jH,List.mem_flatMap,List.mem_range] at hs
 obtain ⟨g,_,hs⟩:=hs
 exact KY s hs
end
section
open Go.RowKit
def ZA (b:UInt8):Bool:=decide (97≤b.toNat) && decide (b.toNat≤122)
theorem Pf (s:List UInt8):zz s=(s.all ZA && (decide (1≤s.length) && decide (s.length≤8))):=rfl
theorem Mc {t:List ColB} {k:Nat} (hk:k < t.length) (h:(QA t[k] && !zb (t.take k) (t[k]).name)=false):qc t=false:=by
 cases hh:qc t with
 | false=>rfl
 | true =>
  simp only [qc,Bool.and_eq_true] at hh
  obtain ⟨h1,h2⟩:=Qd hh.1 (Nat.le_refl _) k hk
  rw [h1,h2] at h
  cases h
theorem Iu {t:List ColB} {k:Nat} (hk:k < t.length) (h:Jd t k=true):Jd t (k+1)=(QA t[k] && !zb (t.take k) (t[k]).name):=by
 simp only [Jd,h,Bool.true_and]
 rw [List.getElem?_eq_getElem hk]
theorem Eh {t:List ColB} {k m:Nat} (hm:m < t.length) (hk:m < k) (s:List UInt8):zb ((t.take k).take (m+1)) s=(zb ((t.take k).take m) s || (t[m]).name == s):=by
 have hl:m < (t.take k).length:=by rw [List.length_take];omega
 rw [List.take_succ_eq_append_getElem hl]
 simp [zb]
end
section
open Go.RowKit
abbrev planV (p:PlanB):Value:=.agg #[.int .i64 p.group,.int .i64 p.page,.int .i64 p.foot,.bool p.told]
theorem NM {t:List ColB} (h:0 < t.length):qa t=(t[0]).cells.length:=by
 cases t with
 | nil=>simp at h
 | cons c t=>rfl
theorem La {t:List ColB} {k:Nat} (hk:k < t.length) (h:(qA (t[k]).kind (t[k]).cells && decide ((t[k]).cells.length=qa t))=false):xz t=false:=by
 have:(t.all fun c=>qA c.kind c.cells && decide (c.cells.length=qa t))=false:=by
  rw [List.all_eq_false]
  exact ⟨t[k],List.getElem_mem hk,by rw [h];simp⟩
 rw [xz,this,Bool.and_false]
/- Rings. -/
theorem VP {r:List KeyB} {n:Nat} (h:XT r n=true) (hn:n≤r.length):∀ k (hk:k < n),QM (r[k]'(by omega))=true∧jw (r.take k) (r[k]'(by omega)).number=false:=by
 induction n with
 | zero=>intro k hk;omega
 | succ n ih =>
  intro k hk
  simp only [XT,Bool.and_eq_true] at h
  rcases Nat.lt_or_ge k n with hkn|hkn
  ·exact ih h.1 (by omega) k hkn
  ·have:k=n:=by omega
   subst this
   have h2:=h.2
   rw [List.getElem?_eq_getElem (by omega)] at h2
   simpa using h2
theorem CF {r:List KeyB} {k:Nat} (hk:k < r.length) (h:(QM r[k] && !jw (r.take k) (r[k]).number)=false):xH r=false:=by
 cases hh:xH r with
 | false=>rfl
 | true =>
  obtain ⟨h1,h2⟩:=VP hh (Nat.le_refl _) k hk
  rw [h1,h2] at h
  cases h
theorem Ah {r:List KeyB} {k:Nat} (hk:k < r.length) (h:XT r k=true):XT r (k+1)=(QM r[k] && !jw (r.take k) (r[k]).number):=by
 simp only [XT,h,Bool.true_and]
 rw [List.getElem?_eq_getElem hk]
theorem Gx {r:List KeyB} {k m:Nat} (hm:m < r.length) (hk:m < k) (n:Int):jw ((r.take k).take (m+1)) n=(jw ((r.take k).take m) n || decide ((r[m]).number=n)):=by
 have hl:m < (r.take k).length:=by rw [List.length_take];omega
 rw [List.take_succ_eq_append_getElem hl]
 simp [jw]
theorem BF {c:KeyB} (h:QM c=false):c.number < 1∨(¬ c.number < 1∧(9 < c.number∨(¬ 9 < c.number∧c.secret.length≠8))):=by
 simp only [QM,Bool.and_eq_false_iff,decide_eq_false_iff_not] at h
 omega
theorem YN {c:KeyB} (h:QM c=true):1≤c.number∧c.number≤9∧c.secret.length=8:=by
 simp only [QM,Bool.and_eq_true,decide_eq_true_eq] at h
 exact ⟨h.1.1,h.1.2,h.2⟩
theorem LJ {r:List KeyB} {k:Nat} {n:Int} (hk:k < r.length) (hno:jw (r.take k) n=false) (he:(r[k]).number=n):KM r n=some (r[k]).secret:=by
 have e:r=r.take k++r[k] :: r.drop (k+1):=by rw [← List.drop_eq_getElem_cons hk,List.take_append_drop]
 have h0:(r.take k).find? (fun x=>decide (x.number=n))=none:=by
  rw [List.find?_eq_none]
  intro x hx
  simp only [jw,List.any_eq_false] at hno
  exact hno x hx
 have h1:r.find? (fun x=>decide (x.number=n))=some r[k]:=by
  have h2:(r.take k++r[k] :: r.drop (k+1)).find? (fun x=>decide (x.number=n))=some r[k]:=by
   rw [List.find?_append,h0,List.find?_cons_of_pos (by simp [he])]
   rfl
  rwa [← e] at h2
 rw [KM,h1]
 rfl
theorem YE {r:List KeyB} {n:Int} (hno:jw r n=false):KM r n=none:=by
 have h0:r.find? (fun x=>decide (x.number=n))=none:=by
  rw [List.find?_eq_none]
  intro x hx
  simp only [jw,List.any_eq_false] at hno
  exact hno x hx
 simp [KM,h0]
end
section
open Go.RowKit
abbrev jobV (v:Value) (j:JobB):Value:=.agg #[v,.int .i64 j.plan.group,.int .i64 j.plan.page,.int .i64 j.plan.foot,.bool j.plan.told,strB j.pre,.int .i64 j.draw]
structure LiesJ (w:World) (a:Option Addr) (cap:Nat) (j:JobB):Prop where
 table:LiesT w a j.table
 len:j.table.length≤maxLen
 cap_:j.table.length≤cap
 pre:j.pre.length≤maxLen
 draw:-9223372036854775808≤j.draw∧j.draw≤9223372036854775807
 group:-9223372036854775808≤j.plan.group∧j.plan.group≤9223372036854775807
 page:-9223372036854775808≤j.plan.page∧j.plan.page≤9223372036854775807
 foot:-9223372036854775808≤j.plan.foot∧j.plan.foot≤9223372036854775807
theorem LiesJ.later {w w':World} {a:Option Addr} {cap:Nat} {j:JobB} (h:LiesJ w a cap j) (hb:Below w.heap.size w w'):LiesJ w' a cap j :=
 ⟨h.table.later hb,h.len,h.cap_,h.pre,h.draw,h.group,h.page,h.foot⟩
def VZ (j:JobB):Bool:=qP j.plan && (decide (j.pre.length≤20) && (decide (0≤j.draw) && decide (j.draw≤65535)))
theorem Zt {r:List KeyB} {n:Int} (hr:xH r=true):(ji r n=[]) ↔ jw r n=false:=by
 constructor
 ·intro h
  cases hh:jw r n with
  | false=>rfl
  | true =>
   simp only [jw,List.any_eq_true] at hh
   cases hf:r.find? (fun k=>decide (k.number=n)) with
   | none =>
    rw [List.find?_eq_none] at hf
    obtain ⟨x,hx,hx2⟩:=hh
    exact absurd hx2 (hf x hx)
   | some x =>
    have hm:=List.mem_of_find?_eq_some hf
    obtain ⟨k,hk,rfl⟩:=List.mem_iff_getElem.1 hm
    have:=(YN (VP hr (Nat.le_refl _) k hk).1).2.2
    simp only [ji,KM,hf,Option.map_some,Option.getD_some] at h
    rw [h] at this
    simp at this
 ·intro h
  rw [ji,YE h];rfl
theorem Qb {r:List KeyB} {n:Int} (hr:xH r=true) (hn:jw r n=true):(ji r n).length=8:=by
 simp only [jw,List.any_eq_true] at hn
 cases hf:r.find? (fun k=>decide (k.number=n)) with
 | none =>
  rw [List.find?_eq_none] at hf
  obtain ⟨x,hx,hx2⟩:=hn
  exact absurd hx2 (hf x hx)
 | some x =>
  have hm:=List.mem_of_find?_eq_some hf
  obtain ⟨k,hk,rfl⟩:=List.mem_iff_getElem.1 hm
  have:=(YN (VP hr (Nat.le_refl _) k hk).1).2.2
  simp only [ji,KM,hf,Option.map_some,Option.getD_some]
  exact this
def BoxJ (w:World) (p:Nat) (v:Value) (j:JobB):Prop :=
 w.cell? ⟨p,0,none⟩=some v∧w.cell? ⟨p,1,none⟩=some (.int .i64 j.plan.group)∧w.cell? ⟨p,2,none⟩=some (.int .i64 j.plan.page)∧w.cell? ⟨p,3,none⟩=some (.int .i64 j.plan.foot)∧w.cell? ⟨p,4,none⟩=some (.bool j.plan.told)∧w.cell? ⟨p,5,none⟩=some (strB j.pre)∧w.cell? ⟨p,6,none⟩=some (.int .i64 j.draw)
theorem BoxJ.later {w w':World} {p:Nat} {v:Value} {j:JobB} (h:BoxJ w p v j) (hp:p < w.heap.size) (hb:Below w.heap.size w w'):BoxJ w' p v j:=by
 obtain ⟨h0,h1,h2,h3,h4,h5,h6⟩:=h
 exact ⟨(hb.cell (p:=⟨p,_,none⟩) hp).trans h0,(hb.cell (p:=⟨p,_,none⟩) hp).trans h1,(hb.cell (p:=⟨p,_,none⟩) hp).trans h2,(hb.cell (p:=⟨p,_,none⟩) hp).trans h3,(hb.cell (p:=⟨p,_,none⟩) hp).trans h4,(hb.cell (p:=⟨p,_,none⟩) hp).trans h5,(hb.cell (p:=⟨p,_,none⟩) hp).trans h6⟩
theorem Rb (w:World) (v:Value) (j:JobB) (t:TypeId):BoxJ (w.alloc (.cells #[v,.int .i64 j.plan.group,.int .i64 j.plan.page,.int .i64 j.plan.foot,.bool j.plan.told,strB j.pre,.int .i64 j.draw] t)) w.heap.size v j:=by
 obtain ⟨_,_,h,_⟩:=jJ w #[v,.int .i64 j.plan.group,.int .i64 j.plan.page,.int .i64 j.plan.foot,.bool j.plan.told,strB j.pre,.int .i64 j.draw] t
 exact ⟨h 0,h 1,h 2,h 3,h 4,h 5,h 6⟩
theorem Cc {a b:Bool} (h:(a=true) ↔ (b=true)):a=b:=by cases a<;>cases b<;>simp_all
end
section
structure FormF where
 told:Bool
 foot:Nat
 parts:List UInt8
 footer:List UInt8
 nonce:List UInt8
 body:List UInt8
def qW (f:FormF):List UInt8:=(if f.told=true then qQ (f.footer.length:Int)++f.footer else [])++(qQ (f.body.length:Int)++(f.nonce++f.body))
def zi (f:FormF):List UInt8:=([67,70]++[if f.told=true then 79 else 69]++[byB (f.foot:Int)])++(f.parts++(qW f++(qQ ((qW f).length:Int)++[67,70])))
structure FormOk (f:FormF):Prop where
 nonce:f.nonce.length=4
 body:2≤f.body.length
 foot:1≤f.foot∧f.foot≤9
 short:(zi f).length≤65000
 none_:f.told=false→f.footer=[]
theorem Jm {a b:Nat} (ha:a≤65535) (hb:b≤65535) (h:qQ (a:Int)=qQ (b:Int)):a=b:=by
 unfold qQ at h
 simp only [List.cons.injEq,and_true] at h
 obtain ⟨h1,h2⟩:=h
 have e1:=congrArg UInt8.toNat h1
 have e2:=congrArg UInt8.toNat h2
 simp only [UInt8.toNat_ofNat'] at e1 e2
 omega
theorem FormOk.lens {f:FormF} (h:FormOk f):(qW f).length≤64992∧f.body.length≤64992∧f.footer.length≤64992:=by
 have hs:=h.short
 have e:(zi f).length=4+(f.parts.length+((qW f).length+4)):=by
  simp only [zi,List.length_append,List.length_cons,List.length_nil,jy]
 have hfp:(qW f).length=(if f.told=true then 2+f.footer.length else 0)+(2+(f.nonce.length+f.body.length)):=by
  unfold qW
  rw [List.length_append]
  split<;>simp only [List.length_append,jy,List.length_nil]
 refine ⟨by omega,by omega,?_⟩
 cases ht:f.told with
 | true=>rw [ht] at hfp;simp only [if_true] at hfp;omega
 | false=>rw [h.none_ ht];simp
theorem Kf {a b c d:List UInt8} (h:a++b=c++d) (hl:b.length=d.length):a=c∧b=d:=by
 have hlen:=congrArg List.length h
 rw [List.length_append,List.length_append] at hlen
 exact List.append_inj h (by omega)
theorem Ay {f g:FormF} (hf:FormOk f) (hg:FormOk g) (h:zi f=zi g):f=g:=by
 obtain ⟨l1,l2,l3⟩:=hf.lens
 obtain ⟨m1,m2,m3⟩:=hg.lens
 unfold zi at h
 obtain ⟨h1,h2⟩:=List.append_inj h (by simp)
 have ht:f.told=g.told:=by
  cases e1:f.told<;>cases e2:g.told<;>simp_all
 have hft:f.foot=g.foot:=by
  simp only [ht,List.cons_append,List.nil_append,List.cons.injEq,and_true,true_and] at h1
  have e:=congrArg UInt8.toNat h1
  have b1:=xV (f.foot:Int) (by omega) (by have:=hf.foot;omega)
  have b2:=xV (g.foot:Int) (by omega) (by have:=hg.foot;omega)
  omega
 have h2':(f.parts++qW f)++(qQ ((qW f).length:Int)++[67,70])=(g.parts++qW g)++(qQ ((qW g).length:Int)++[67,70]):=by
  rw [List.append_assoc,List.append_assoc];exact h2
 obtain ⟨h3,h4⟩:=Kf h2' (by simp [jy])
 obtain ⟨h5,_⟩:=List.append_inj h4 (by rw [jy,jy])
 have hl:=Jm (by omega) (by omega) h5
 obtain ⟨h6,h7⟩:=Kf h3 hl
 have key:f.footer=g.footer∧f.nonce=g.nonce∧f.body=g.body:=by
  unfold qW at h7
  rw [← ht] at h7
  have tail:∀ {a b:FormF},FormOk a→FormOk b→a.body.length≤65535→b.body.length≤65535→qQ (a.body.length:Int)++(a.nonce++a.body)=qQ (b.body.length:Int)++(b.nonce++b.body)→a.nonce=b.nonce∧a.body=b.body:=by
   intro a b ha hb _ _ e
   obtain ⟨_,e2⟩:=List.append_inj e (by rw [jy,jy])
   exact List.append_inj e2 (by rw [ha.nonce,hb.nonce])
  cases htt:f.told with
  | false =>
   rw [htt] at h7
   simp only [Bool.false_eq_true,if_false,List.nil_append] at h7
   obtain ⟨a,b⟩:=tail hf hg (by omega) (by omega) h7
   exact ⟨by rw [hf.none_ htt,hg.none_ (ht ▸ htt)],a,b⟩
  | true =>
   rw [htt] at h7
   simp only [if_true,List.append_assoc] at h7
   obtain ⟨e1,e2⟩:=List.append_inj h7 (by rw [jy,jy])
   have hlen:=Jm (by omega) (by omega) e1
   obtain ⟨e3,e4⟩:=List.append_inj e2 hlen
   obtain ⟨a,b⟩:=tail hf hg (by omega) (by omega) e4
   exact ⟨e3,a,b⟩
 obtain ⟨k1,k2,k3⟩:=key
 cases f
 cases g
 simp_all
end
section
theorem xN:∀ (n m:Nat) (r q:List UInt8),uB n++r=uB m++q→n=m∧r=q:=by
 intro n
 induction n using Nat.strongRecOn with
 | _ n ih =>
  intro m r q h
  by_cases hn:n≤127
  ·by_cases hm:m≤127
   ·rw [zr hn,zr hm] at h
    simp only [List.cons_append,List.nil_append,List.cons.injEq] at h
    obtain ⟨h1,h2⟩:=h
    have e:=congrArg UInt8.toNat h1
    rw [Qw n (by omega),Qw m (by omega)] at e
    exact ⟨e,h2⟩
   ·exfalso
    rw [zr hn,ZR (n:=m) (by omega)] at h
    simp only [List.cons_append,List.nil_append,List.cons.injEq] at h
    have e:=congrArg UInt8.toNat h.1
    have b1:=xV (n:Int) (by omega) (by omega)
    have b2:=xV ((m:Int) % 128+128) (by omega) (by omega)
    omega
  ·by_cases hm:m≤127
   ·exfalso
    rw [zr hm,ZR (n:=n) (by omega)] at h
    simp only [List.cons_append,List.nil_append,List.cons.injEq] at h
    have e:=congrArg UInt8.toNat h.1
    have b1:=xV (m:Int) (by omega) (by omega)
    have b2:=xV ((n:Int) % 128+128) (by omega) (by omega)
    omega
   ·rw [ZR (n:=n) (by omega),ZR (n:=m) (by omega)] at h
    simp only [List.cons_append,List.cons.injEq] at h
    obtain ⟨h1,h2⟩:=h
    have e:=congrArg UInt8.toNat h1
    have b1:=xV ((n:Int) % 128+128) (by omega) (by omega)
    have b2:=xV ((m:Int) % 128+128) (by omega) (by omega)
    obtain ⟨h3,h4⟩:=ih (n / 128) (by omega) (m / 128) r q h2
    exact ⟨by omega,h4⟩
theorem Vq {s t r q:List UInt8} (h:xB s++r=xB t++q):s=t∧r=q:=by
 unfold xB at h
 rw [List.append_assoc,List.append_assoc] at h
 obtain ⟨h1,h2⟩:=xN _ _ _ _ h
 exact List.append_inj h2 h1
theorem YZ:∀ (a b:List Nat),a.length=b.length→a.flatMap uB=b.flatMap uB→a=b:=by
 intro a
 induction a with
 | nil=>intro b hl _;cases b with
  | nil=>rfl
  | cons x l=>simp at hl
 | cons x l ih =>
  intro b hl h
  cases b with
  | nil=>simp at hl
  | cons y m =>
   rw [List.flatMap_cons,List.flatMap_cons] at h
   obtain ⟨h1,h2⟩:=xN _ _ _ _ h
   rw [h1,ih m (by simpa using hl) h2]
def Xp (c:ColB):List UInt8 × Nat × Nat:=(c.name,c.kind.toNat,c.key.toNat)
theorem KX:∀ (a b:List ColB) (r q:List UInt8),a.length=b.length→a.flatMap qn++r=b.flatMap qn++q→a.map Xp=b.map Xp∧r=q:=by
 intro a
 induction a with
 | nil=>intro b r q hl h;cases b with
  | nil=>exact ⟨rfl,h⟩
  | cons x l=>simp at hl
 | cons x l ih =>
  intro b r q hl h
  cases b with
  | nil=>simp at hl
  | cons y m =>
   rw [List.flatMap_cons,List.flatMap_cons] at h
   simp only [qn,List.append_assoc] at h
   obtain ⟨h1,h2⟩:=Vq h
   obtain ⟨h3,h4⟩:=xN _ _ _ _ h2
   obtain ⟨h5,h6⟩:=xN _ _ _ _ h4
   obtain ⟨h7,h8⟩:=ih m r q (by simpa using hl) h6
   refine ⟨?_,h8⟩
   simp only [List.map_cons,h7,Xp,h1,h3,h5]
theorem ZT {R R':Nat} {p p':PlanB} {t t':List ColB} {pl pl':List Nat} (hl:pl.length=jX R p.group.toNat*t.length) (hl':pl'.length=jX R' p'.group.toNat*t'.length)
  (h:qo R p t pl=qo R' p' t' pl'):R=R'∧p.group.toNat=p'.group.toNat∧p.page.toNat=p'.page.toNat∧p.foot.toNat=p'.foot.toNat∧t.map Xp=t'.map Xp∧pl=pl':=by
 unfold qo at h
 simp only [List.append_assoc] at h
 obtain ⟨h1,h⟩:=xN _ _ _ _ h
 obtain ⟨h2,h⟩:=xN _ _ _ _ h
 obtain ⟨h3,h⟩:=xN _ _ _ _ h
 obtain ⟨h4,h⟩:=xN _ _ _ _ h
 obtain ⟨h5,h⟩:=xN _ _ _ _ h
 obtain ⟨h6,h⟩:=KX t t' _ _ h5 h
 exact ⟨h1,h2,h3,h4,h6,YZ _ _ (by rw [hl,hl',h1,h2,h5]) h⟩
end
section
structure ModF where
 plain:List UInt8
 nonce:List UInt8
 body:List UInt8
def qw (key:Int) (m:ModF):List UInt8:=if key=0 then qQ (m.plain.length:Int)++m.plain else qQ (m.body.length:Int)++(m.nonce++m.body)
def zv (key:Int) (m:ModF):Prop:=(key=0∧m.nonce=[]∧m.body=[]∧m.plain.length≤65535)∨(key≠0∧m.plain=[]∧m.nonce.length=4∧2≤m.body.length∧m.body.length≤65535)
def jn (t:List ColB):List SpotB→List ModF→List UInt8
 | s :: L,m :: M=>qw (jg t s.c).key m++jn t L M
 | _,_=>[]
def jL (t:List ColB):Nat→Bool→List SpotB→List ModF→List Nat
 | n,b,s :: L,m :: M=>(if b=true then [n] else [])++jL t (n+(qw (jg t s.c).key m).length) (decide (s.sort=77)) L M
 | _,_,_,_=>[]
inductive ModsOk (t:List ColB):List SpotB→List ModF→Prop
 | nil:ModsOk t [] []
 | cons {s:SpotB} {L:List SpotB} {m:ModF} {M:List ModF}:zv (jg t s.c).key m→ModsOk t L M→ModsOk t (s :: L) (m :: M)
theorem QC {key:Int} {m m':ModF} {r q:List UInt8} (h:zv key m) (h':zv key m') (e:qw key m++r=qw key m'++q):m=m'∧r=q:=by
 unfold qw at e
 rcases h with ⟨hk,a1,a2,a3⟩|⟨hk,a1,a2,a3,a4⟩
 ·rcases h' with ⟨_,b1,b2,b3⟩|⟨hk',_⟩
  ·rw [if_pos hk,if_pos hk,List.append_assoc,List.append_assoc] at e
   obtain ⟨e1,e2⟩:=List.append_inj e (by rw [jy,jy])
   have hl:=Jm a3 b3 e1
   obtain ⟨e3,e4⟩:=List.append_inj e2 hl
   refine ⟨?_,e4⟩
   cases m;cases m';simp_all
  ·exact absurd hk hk'
 ·rcases h' with ⟨hk',_⟩|⟨_,b1,b2,b3,b4⟩
  ·exact absurd hk' hk
  ·rw [if_neg hk,if_neg hk,List.append_assoc,List.append_assoc,List.append_assoc,List.append_assoc] at e
   obtain ⟨e1,e2⟩:=List.append_inj e (by rw [jy,jy])
   have hl:=Jm a4 b4 e1
   obtain ⟨e3,e4⟩:=List.append_inj e2 (by rw [a2,b2])
   obtain ⟨e5,e6⟩:=List.append_inj e4 hl
   refine ⟨?_,e6⟩
   cases m;cases m';simp_all
theorem An {t:List ColB} {L:List SpotB} {M M':List ModF} (h:ModsOk t L M) (h':ModsOk t L M') (e:jn t L M=jn t L M'):M=M':=by
 induction h generalizing M' with
 | nil=>cases h';rfl
 | cons hm _ ih =>
  cases h' with
  | cons hm' h2' =>
   simp only [jn] at e
   obtain ⟨e1,e2⟩:=QC hm hm' e
   rw [e1,ih h2' e2]
structure SheetF where
 rows:Nat
 plan:PlanB
 cols:List ColB
 mods:List ModF
def qt (S:SheetF):List SpotB:=qk S.rows S.cols.length S.plan.group.toNat S.plan.page.toNat
structure SheetOk (foot:Nat) (parts footer:List UInt8) (S:SheetF):Prop where
 rows:S.rows≤60
 plan:qP S.plan=true
 told:S.plan.told=false
 foot:S.plan.foot=(foot:Int)
 heads:qc S.cols=true
 bare:∀ c ∈ S.cols,c.cells=[]
 mods:ModsOk S.cols (qt S) S.mods
 parts:parts=jn S.cols (qt S) S.mods
 footer:footer=qo S.rows S.plan S.cols (jL S.cols 4 true (qt S) S.mods)
theorem qT {t:List ColB} {L:List SpotB} {M:List ModF} (h:ModsOk t L M):M.length=L.length:=by
 induction h with
 | nil=>rfl
 | cons _ _ ih=>simp [ih]
theorem KP {t:List ColB} (j:JobB) (r:List KeyB):∀ (L:List SpotB) (M:List ModF) (n:Nat) (b:Bool) (st:StB),M.length=L.length→(jL t n b L M).length=(qM j r st b L).length:=by
 intro L
 induction L with
 | nil=>intro M n b st h;cases M with
  | nil=>rfl
  | cons m M=>simp at h
 | cons s L ih =>
  intro M n b st h
  cases M with
  | nil=>simp at h
  | cons m M =>
   simp only [jL,qM,List.length_append]
   rw [ih M _ _ (zL j r st s) (by simpa using h)]
   cases b<;>rfl
theorem JP {foot:Nat} {parts footer:List UInt8} {S:SheetF} (h:SheetOk foot parts footer S):(jL S.cols 4 true (qt S) S.mods).length=jX S.rows S.plan.group.toNat*S.cols.length:=by
 rw [KP ⟨[],⟨0,0,0,false⟩,[],0⟩ [] _ _ _ _ ⟨[],[]⟩ (qT h.mods)]
 exact JT _ _ _ _ _ _ _ _
theorem Cz {p q:PlanB} (hp:qP p=true) (hq:qP q=true) (ht:p.told=q.told) (h1:p.group.toNat=q.group.toNat) (h2:p.page.toNat=q.page.toNat) (h3:p.foot.toNat=q.foot.toNat):p=q:=by
 simp only [qP,Bool.and_eq_true,decide_eq_true_eq] at hp hq
 have e1:p.group=q.group:=by omega
 have e2:p.page=q.page:=by omega
 have e3:p.foot=q.foot:=by omega
 cases p;cases q;simp_all
theorem Cl {a b:List ColB} (ha:qc a=true) (hb:qc b=true) (ca:∀ c ∈ a,c.cells=[]) (cb:∀ c ∈ b,c.cells=[]) (h:a.map Xp=b.map Xp):a=b:=by
 have hl:a.length=b.length:=by have:=congrArg List.length h;simpa using this
 have parts:∀ {t:List ColB},qc t=true→∀ k (hk:k < t.length),0≤(t[k]).kind∧0≤(t[k]).key:=by
  intro t ht k hk
  simp only [qc,Bool.and_eq_true] at ht
  obtain ⟨_,h1,h2,_⟩:=QP (Qd ht.1 (Nat.le_refl _) k hk).1
  exact ⟨by omega,h2⟩
 apply List.ext_getElem hl
 intro k h1 h2
 have e:Xp a[k]=Xp b[k]:=by
  have:(a.map Xp)[k]'(by simpa using h1)=(b.map Xp)[k]'(by simpa using h2):=by simp only [h]
  simpa using this
 obtain ⟨p1,p2⟩:=parts ha k h1
 obtain ⟨q1,q2⟩:=parts hb k h2
 have c1:=ca a[k] (List.getElem_mem h1)
 have c2:=cb b[k] (List.getElem_mem h2)
 generalize a[k]=x at *
 generalize b[k]=y at *
 simp only [Xp,Prod.mk.injEq] at e
 obtain ⟨e1,e2,e3⟩:=e
 have k1:x.kind=y.kind:=by omega
 have k2:x.key=y.key:=by omega
 cases x;cases y;simp_all
theorem EQ {foot:Nat} {parts footer:List UInt8} {S S':SheetF} (h:SheetOk foot parts footer S) (h':SheetOk foot parts footer S'):S=S':=by
 have hf:=h.footer.symm.trans h'.footer
 obtain ⟨e1,e2,e3,e4,e5,e6⟩:=ZT (JP h) (JP h') hf
 have hp:=Cz h.plan h'.plan (h.told.trans h'.told.symm) e2 e3 e4
 have hc:=Cl h.heads h'.heads h.bare h'.bare e5
 have hm:=h.parts.symm.trans h'.parts
 have hs:qt S=qt S':=by unfold qt;rw [e1,hp,hc]
 rw [hs,hc] at hm
 have m1:=h.mods
 rw [hs,hc] at m1
 have e7:=An m1 h'.mods hm
 cases S;cases S';simp_all
end
section
noncomputable def zd (file:List UInt8):Option FormF:=by
 classical exact if h:∃ f,FormOk f∧zi f=file then some (Classical.choose h) else none
theorem Gw {f:FormF} (h:FormOk f):zd (zi f)=some f:=by
 have hex:∃ g,FormOk g∧zi g=zi f:=⟨f,h,rfl⟩
 unfold zd
 rw [dif_pos hex]
 have hc:=Classical.choose_spec hex
 exact congrArg some (Ay hc.1 h hc.2)
theorem Ql {file:List UInt8} (h:∀ f,FormOk f→zi f≠file):zd file=none:=by
 unfold zd
 rw [dif_neg]
 rintro ⟨f,h1,h2⟩
 exact h f h1 h2
noncomputable def xT (foot:Nat) (parts footer:List UInt8):Option SheetF:=by
 classical exact if h:∃ S,SheetOk foot parts footer S then some (Classical.choose h) else none
theorem Vh {foot:Nat} {parts footer:List UInt8} {S:SheetF} (h:SheetOk foot parts footer S):xT foot parts footer=some S:=by
 have hex:∃ S,SheetOk foot parts footer S:=⟨S,h⟩
 unfold xT
 rw [dif_pos hex]
 exact congrArg some (EQ (Classical.choose_spec hex) h)
theorem Kr {foot:Nat} {parts footer:List UInt8} (h:∀ S,¬ SheetOk foot parts footer S):xT foot parts footer=none:=by
 unfold xT
 rw [dif_neg]
 rintro ⟨S,h1⟩
 exact h S h1
def xp (sec non ext body:List UInt8):Option (List UInt8) :=
 if body.length≤5002∧2≤body.length∧xX sec non ext (zA sec non (body.take (body.length - 2)))=body then some (zA sec non (body.take (body.length - 2))) else none
structure FoundB where
 name:List UInt8
 kind:Int
 key:Int
 state:Int
 cells:List CellB
def JR (pre:List UInt8) (r:List KeyB) (key:Int) (s:SpotB) (m:ModF):Option (List UInt8) :=
 if key=0 then some m.plain else xp (ji r key) m.nonce (jR pre s.sort s.g s.c s.p) m.body
def QI (pre:List UInt8) (r:List KeyB) (kind key:Int) (cells:List CellB) (s:SpotB) (m:ModF):Option (List CellB) :=
 match JR pre r key s m with
 | none=>none
 | some plain =>
  if s.sort=77 then (if plain=Qf kind (cells.drop s.start) then some cells else none)
  else match JI kind plain with
   | none=>none
   | some l=>if l.length=s.many then some (cells++l) else none
def jI (pre:List UInt8) (r:List KeyB) (kind key:Int) (c:Nat):Option (List CellB)→List SpotB→List ModF→Option (List CellB)
 | none,_,_=>none
 | some cells,s :: L,m :: M=>jI pre r kind key c (if s.c=c then QI pre r kind key cells s m else some cells) L M
 | some cells,_,_=>some cells
def qh (pre:List UInt8) (r:List KeyB) (S:SheetF) (c:Nat):FoundB :=
 if 0 < (jg S.cols c).key∧jw r (jg S.cols c).key=false then ⟨(jg S.cols c).name,(jg S.cols c).kind,(jg S.cols c).key,1,[]⟩
 else match jI pre r (jg S.cols c).kind (jg S.cols c).key c (some []) (qt S) S.mods with
  | none=>⟨(jg S.cols c).name,(jg S.cols c).kind,(jg S.cols c).key,2,[]⟩
  | some cells=>⟨(jg S.cols c).name,(jg S.cols c).kind,(jg S.cols c).key,0,cells⟩
def Xo (pre:List UInt8) (r:List KeyB) (S:SheetF):List FoundB:=(List.range S.cols.length).map (qh pre r S)
noncomputable def xe (file pre:List UInt8) (r:List KeyB) (trust:Bool):Int × Option SheetF :=
 if 20 < pre.length then (7,none)
 else if xH r=false then (1,none)
 else match zd file with
  | none=>(9,none)
  | some f =>
   if f.told=true then
    match xT f.foot f.parts f.footer with
    | none=>(9,none)
    | some S =>
     if trust=true then (0,some S)
     else if jw r (f.foot:Int)=false then (8,none)
     else if xp (ji r (f.foot:Int)) f.nonce (jR pre 83 0 0 0++f.footer) f.body=some [] then (0,some S) else (4,none)
   else if jw r (f.foot:Int)=false then (8,none)
   else match xp (ji r (f.foot:Int)) f.nonce (jR pre 70 0 0 0) f.body with
    | none=>(4,none)
    | some footer =>
     match xT f.foot f.parts footer with
     | none=>(9,none)
     | some S=>(0,some S)
end
section
theorem zU {t:List ColB}:∀ (L:List SpotB) (M:List ModF) (L2:List SpotB) (M2:List ModF),M.length=L.length→jn t (L++L2) (M++M2)=jn t L M++jn t L2 M2:=by
 intro L
 induction L with
 | nil=>intro M L2 M2 h;rw [List.eq_nil_of_length_eq_zero h];simp [jn]
 | cons s L ih =>
  intro M L2 M2 h
  cases M with
  | nil=>simp at h
  | cons m M =>
   simp only [List.cons_append,jn,List.append_assoc]
   rw [ih M L2 M2 (by simpa using h)]
theorem ModsOk.append {t:List ColB} {L:List SpotB} {M:List ModF} {L2:List SpotB} {M2:List ModF} (h:ModsOk t L M) (h2:ModsOk t L2 M2):ModsOk t (L++L2) (M++M2):=by
 induction h with
 | nil=>exact h2
 | cons hm _ ih=>exact .cons hm ih
theorem RI {t:List ColB} {L:List SpotB}:∀ {L2:List SpotB} {M:List ModF},ModsOk t (L++L2) M→∃ M1 M2,M=M1++M2∧ModsOk t L M1∧ModsOk t L2 M2:=by
 induction L with
 | nil=>intro L2 M h;exact ⟨[],M,rfl,.nil,h⟩
 | cons s L ih =>
  intro L2 M h
  cases h with
  | cons hm h2 =>
   obtain ⟨M1,M2,h3,h4,h5⟩:=ih h2
   exact ⟨_ :: M1,M2,by rw [h3];rfl,.cons hm h4,h5⟩
theorem Qy {t:List ColB}:∀ (L:List SpotB) (M:List ModF) (L2:List SpotB) (M2:List ModF) (n:Nat) (b:Bool),M.length=L.length→jL t n b (L++L2) (M++M2)=jL t n b L M++jL t (n+(jn t L M).length) (xP b L) L2 M2:=by
 intro L
 induction L with
 | nil=>intro M L2 M2 n b h;rw [List.eq_nil_of_length_eq_zero h];simp [jL,jn,xP]
 | cons s L ih =>
  intro M L2 M2 n b h
  cases M with
  | nil=>simp at h
  | cons m M =>
   simp only [List.cons_append,jn,jL,List.append_assoc,xP,List.length_append]
   rw [ih M L2 M2 _ _ (by simpa using h),Nat.add_assoc]
def xu (Q:Nat→Nat→List ModF) (g C:Nat):List ModF:=(List.range C).flatMap fun c=>Q g c
def xk (Q:Nat→Nat→List ModF) (C n:Nat):List ModF:=(List.range n).flatMap fun g=>xu Q g C
theorem zR (Q:Nat→Nat→List ModF) (g C:Nat):xu Q g (C+1)=xu Q g C++Q g C:=by simp [xu,List.range_succ]
theorem Qk (Q:Nat→Nat→List ModF) (C n:Nat):xk Q C (n+1)=xk Q C n++xu Q n C:=by simp [xk,List.range_succ]
theorem XE {t:List ColB} {Q:Nat→Nat→List ModF} {R G P g:Nat}:∀ {C:Nat},(∀ c,c < C→ModsOk t (jh R G P g c) (Q g c))→ModsOk t (jr R G P g C) (xu Q g C):=by
 intro C
 induction C with
 | zero=>intro _;exact .nil
 | succ C ih=>intro h;rw [zR,zM];exact (ih (fun c hc=>h c (by omega))).append (h C (by omega))
theorem VW {t:List ColB} {Q:Nat→Nat→List ModF} {R C G P:Nat}:∀ {n:Nat},(∀ g,g < n→∀ c,c < C→ModsOk t (jh R G P g c) (Q g c))→ModsOk t (jH R C G P n) (xk Q C n):=by
 intro n
 induction n with
 | zero=>intro _;exact .nil
 | succ n ih=>intro h;rw [Qk,zJ];exact (ih (fun g hg=>h g (by omega))).append (XE (h n (by omega)))
theorem Ga {t:List ColB}:∀ (L:List SpotB) (M:List ModF) (n:Nat),(∀ s ∈ L,s.sort=80)→jL t n false L M=[]:=by
 intro L
 induction L with
 | nil=>intro M n _;cases M<;>rfl
 | cons s L ih =>
  intro M n h
  cases M with
  | nil=>rfl
  | cons m M =>
   have hs:=h s (by simp)
   simp only [jL,hs]
   rw [show decide ((80:UInt8)=77)=false from by decide,ih M _ (fun x hx=>h x (List.mem_cons_of_mem _ hx))]
   rfl
theorem VV {t:List ColB} {R G P g c n:Nat} {M:List ModF} (h:M.length=(jh R G P g c).length):jL t n true (jh R G P g c) M=[n]:=by
 cases hp:jt P g c (g*G) (jp R G g) (jX (jp R G g) P) with
 | nil =>
  unfold jh at h ⊢
  rw [hp] at h ⊢
  obtain ⟨m,rfl⟩:=List.length_eq_one_iff.1 h
  rfl
 | cons s L =>
  have hsort:=Zj P g c (g*G) (jp R G g) (jX (jp R G g) P)
  rw [hp] at hsort
  unfold jh at h ⊢
  rw [hp] at h ⊢
  obtain ⟨M0,m,rfl⟩:∃ M0 m,M=M0++[m]:=by
   have hne:M≠[]:=by intro e;rw [e] at h;simp at h
   exact ⟨M.dropLast,M.getLast hne,(List.dropLast_concat_getLast hne).symm⟩
  have hl:M0.length=(s :: L).length:=by simp at h ⊢;omega
  rw [Qy _ _ _ _ _ _ hl]
  cases M0 with
  | nil=>simp at hl
  | cons m0 M0 =>
   have hm:xP true (s :: L)=false:=Ud _ hsort (by simp) true
   simp only [jL]
   rw [hm,show decide (s.sort=77)=false from by rw [hsort s (by simp)];decide,Ga L M0 _ (fun x hx=>hsort x (List.mem_cons_of_mem _ hx))]
   rfl
theorem xr (pre:List UInt8) (r:List KeyB) (kind key:Int) (c:Nat) (L:List SpotB) (M:List ModF):jI pre r kind key c none L M=none:=by cases L<;>cases M<;>rfl
theorem xZ (pre:List UInt8) (r:List KeyB) (kind key:Int) (c:Nat):∀ (L:List SpotB) (M:List ModF) (L2:List SpotB) (M2:List ModF) (x:Option (List CellB)),M.length=L.length →
  jI pre r kind key c x (L++L2) (M++M2)=jI pre r kind key c (jI pre r kind key c x L M) L2 M2:=by
 intro L
 induction L with
 | nil=>intro M L2 M2 x h;rw [List.eq_nil_of_length_eq_zero h];cases x<;>simp [jI,xr]
 | cons s L ih =>
  intro M L2 M2 x h
  cases M with
  | nil=>simp at h
  | cons m M =>
   cases x with
   | none=>simp [xr]
   | some cells =>
    simp only [List.cons_append,jI]
    exact ih M L2 M2 _ (by simpa using h)
theorem ZH (pre:List UInt8) (r:List KeyB) (kind key:Int) (c:Nat):∀ (L:List SpotB) (M:List ModF) (x:Option (List CellB)),(∀ s ∈ L,s.c≠c)→jI pre r kind key c x L M=x:=by
 intro L
 induction L with
 | nil=>intro M x _;cases x<;>cases M<;>rfl
 | cons s L ih =>
  intro M x h
  cases x with
  | none=>exact xr ..
  | some cells =>
   cases M with
   | nil=>rfl
   | cons m M =>
    simp only [jI]
    rw [if_neg (h s (by simp))]
    exact ih M _ (fun y hy=>h y (List.mem_cons_of_mem _ hy))
theorem Qg {R G P g c:Nat}:∀ s ∈ jh R G P g c,s.c=c:=by
 intro s hs
 simp only [jh,jt,List.mem_append,List.mem_map,List.mem_range,List.mem_singleton] at hs
 rcases hs with ⟨p,_,rfl⟩|rfl<;>rfl
theorem EN {t:List ColB} {Q:Nat→Nat→List ModF} {R G P g:Nat} (pre:List UInt8) (r:List KeyB) (kind key:Int) (c:Nat) (x:Option (List CellB)):∀ {C:Nat},(∀ i,i < C→ModsOk t (jh R G P g i) (Q g i)) →
  jI pre r kind key c x (jr R G P g C) (xu Q g C)=if c < C then jI pre r kind key c x (jh R G P g c) (Q g c) else x:=by
 intro C
 induction C with
 | zero=>intro _;simp [jr,xu];cases x<;>rfl
 | succ C ih =>
  intro h
  rw [zR,zM,xZ _ _ _ _ _ _ _ _ _ _ (qT (XE (fun i hi=>h i (by omega)))),ih (fun i hi=>h i (by omega))]
  by_cases hc:c < C
  ·rw [if_pos hc,if_pos (by omega),ZH]
   intro s hs
   rw [Qg s hs];omega
  ·rw [if_neg hc]
   by_cases he:c=C
   ·subst he;rw [if_pos (by omega)]
   ·rw [if_neg (by omega),ZH]
    intro s hs
    rw [Qg s hs];omega
theorem VJ {t:List ColB} {Q:Nat→Nat→List ModF} {R C G P:Nat} (pre:List UInt8) (r:List KeyB) (kind key:Int) {c:Nat} (hc:c < C) (x:Option (List CellB)) {n:Nat} (h:∀ g,g < n+1→∀ i,i < C→ModsOk t (jh R G P g i) (Q g i)) :
  jI pre r kind key c x (jH R C G P (n+1)) (xk Q C (n+1))=jI pre r kind key c (jI pre r kind key c x (jH R C G P n) (xk Q C n)) (jh R G P n c) (Q n c):=by
 rw [Qk,zJ,xZ _ _ _ _ _ _ _ _ _ _ (qT (VW (fun g hg=>h g (by omega)))),EN pre r kind key c _ (h n (by omega)),if_pos hc]
theorem XP (pre:List UInt8) (r:List KeyB) (kind key:Int) (s:SpotB) (m:ModF) (cells:List CellB):jI pre r kind key s.c (some cells) [s] [m]=QI pre r kind key cells s m:=by
 simp only [jI,if_true]
 cases QI pre r kind key cells s m<;>rfl
theorem Ii (pre:List UInt8) (r:List KeyB) (kind key:Int) (c:Nat) (cells:List CellB):∀ (L:List SpotB) (M:List ModF) (x:List CellB),(∀ s ∈ L,s.sort=80)→jI pre r kind key c (some (cells++x)) L M=(jI pre r kind key c (some x) L M).map (cells++·):=by
 intro L
 induction L with
 | nil=>intro M x _;cases M<;>rfl
 | cons s L ih =>
  intro M x h
  cases M with
  | nil=>rfl
  | cons m M =>
   simp only [jI]
   by_cases hc:s.c=c
   ·rw [if_pos hc,if_pos hc]
    have hs:¬ s.sort=77:=by rw [h s (by simp)];decide
    unfold QI
    simp only [if_neg hs]
    cases JR pre r key s m with
    | none=>simp [xr]
    | some plain =>
     dsimp only
     cases hu:JI kind plain with
     | none=>simp [xr]
     | some l =>
      dsimp only
      by_cases hm:l.length=s.many
      ·rw [if_pos hm,if_pos hm,List.append_assoc];exact ih M _ (fun y hy=>h y (List.mem_cons_of_mem _ hy))
      ·rw [if_neg hm,if_neg hm];simp [xr]
   ·rw [if_neg hc,if_neg hc]
    exact ih M _ (fun y hy=>h y (List.mem_cons_of_mem _ hy))
def qD (R G P g c:Nat):List SpotB:=jt P g c (g*G) (jp R G g) (jX (jp R G g) P)
def QK (R G g c:Nat):SpotB:=⟨77,g,c,0,g*G,jp R G g⟩
theorem UH (R G P g c:Nat):jh R G P g c=qD R G P g c++[QK R G g c]:=rfl
theorem Ve (pre:List UInt8) (r:List KeyB) (kind key:Int) {R G P g c:Nat} (cells:List CellB) (hl:cells.length=g*G) (mp:List ModF) (mm:ModF) (hm:mp.length=(qD R G P g c).length) :
  jI pre r kind key c (some cells) (jh R G P g c) (mp++[mm])=(jI pre r kind key c (some []) (qD R G P g c) mp).bind fun part=>if JR pre r key (QK R G g c) mm=some (Qf kind part) then some (cells++part) else none:=by
 rw [UH,xZ _ _ _ _ _ _ _ _ _ _ hm]
 have h1:=Ii pre r kind key c cells (qD R G P g c) mp [] (Zj _ _ _ _ _ _)
 rw [List.append_nil] at h1
 rw [h1]
 cases jI pre r kind key c (some []) (qD R G P g c) mp with
 | none=>simp [xr]
 | some part =>
  simp only [Option.map_some,Option.bind_some]
  have:=XP pre r kind key (QK R G g c) mm (cells++part)
  rw [show (QK R G g c).c=c from rfl] at this
  rw [this]
  unfold QI
  have hd:(cells++part).drop (QK R G g c).start=part:=by
   show (cells++part).drop (g*G)=part
   rw [← hl,List.drop_left]
  rw [hd]
  cases JR pre r key (QK R G g c) mm with
  | none=>simp
  | some plain=>simp only [Option.some.injEq,if_pos (show (QK R G g c).sort=77 from rfl)]
theorem Gm (pre:List UInt8) (r:List KeyB) (kind key:Int) {P g c start n:Nat}:∀ (k:Nat) (mp:List ModF) (part:List CellB),mp.length=k→k*P≤n+P→jI pre r kind key c (some []) (jt P g c start n k) mp=some part→part.length=min (k*P) n:=by
 intro k
 induction k with
 | zero=>intro mp part hl _ h;rw [List.eq_nil_of_length_eq_zero hl] at h;simp [jt,jI] at h;subst h;simp
 | succ k ih =>
  intro mp part hl hk h
  obtain ⟨M0,m,rfl⟩:∃ M0 m,mp=M0++[m]:=by
   have hne:mp≠[]:=by intro e;rw [e] at hl;simp at hl
   exact ⟨mp.dropLast,mp.getLast hne,(List.dropLast_concat_getLast hne).symm⟩
  have hl0:M0.length=k:=by simp at hl;omega
  rw [Qi,xZ _ _ _ _ _ _ _ _ _ _ (by rw [hl0];simp [jt])] at h
  rw [Nat.succ_mul] at hk ⊢
  cases hc:jI pre r kind key c (some []) (jt P g c start n k) M0 with
  | none=>rw [hc,xr] at h;cases h
  | some x =>
   rw [hc] at h
   have hx:=ih M0 x hl0 (by omega) hc
   have:=XP pre r kind key ⟨80,g,c,k,start+k*P,jp n P k⟩ m x
   simp only at this
   rw [this] at h
   unfold QI at h
   simp only [show ¬ ((80:UInt8)=77) from by decide,if_false] at h
   split at h
   ·cases h
   ·split at h
    ·cases h
    ·split at h
     ·rename_i hmany
      cases h
      rw [List.length_append,hx,hmany]
      unfold jp
      omega
     ·cases h
theorem Up {n size:Nat} (hs:1≤size):n≤jX n size*size∧jX n size*size≤n+size:=by
 have h1:=(Jr (n:=n) (i:=jX n size) hs)
 have h2:¬ jX n size*size < n:=fun h=>by have:=h1.2 h;omega
 refine ⟨by omega,?_⟩
 rcases Nat.eq_zero_or_pos (jX n size) with h0|h0
 ·rw [h0];omega
 ·have h3:=(Jr (n:=n) (i:=jX n size - 1) hs).1 (by omega)
  have h4:(jX n size - 1)*size+size=jX n size*size:=by rw [← Nat.succ_mul];congr 1;omega
  omega
theorem KJ (pre:List UInt8) (r:List KeyB) (kind key:Int) {R G P g c:Nat} (hP:1≤P) {mp:List ModF} {part:List CellB} (hm:mp.length=(qD R G P g c).length) (h:jI pre r kind key c (some []) (qD R G P g c) mp=some part):part.length=jp R G g:=by
 have hk:mp.length=jX (jp R G g) P:=by rw [hm];simp [qD,jt]
 have h1:=Up (n:=jp R G g) hP
 have:=Gm pre r kind key _ mp part hk h1.2 h
 omega
theorem RU {t:List ColB} {Q:Nat→Nat→List ModF} {R C G P:Nat} (pre:List UInt8) (r:List KeyB) (kind key:Int) {c:Nat} (hc:c < C) (hP:1≤P):∀ {n:Nat} {cells:List CellB},(∀ g,g < n→∀ i,i < C→ModsOk t (jh R G P g i) (Q g i))→n*G≤R+G →
  jI pre r kind key c (some []) (jH R C G P n) (xk Q C n)=some cells→cells.length=min (n*G) R:=by
 intro n
 induction n with
 | zero=>intro cells _ _ h;simp [jH,jI] at h;subst h;simp
 | succ n ih =>
  intro cells h hn e
  rw [VJ pre r kind key hc _ h] at e
  rw [Nat.succ_mul] at hn ⊢
  cases hx:jI pre r kind key c (some []) (jH R C G P n) (xk Q C n) with
  | none=>rw [hx,xr] at e;cases e
  | some x =>
   rw [hx] at e
   have hl:=ih (fun g hg=>h g (by omega)) (by omega) hx
   have hq:=qT (h n (by omega) c hc)
   obtain ⟨mp,mm,hmm⟩:∃ mp mm,Q n c=mp++[mm]:=by
    have hne:Q n c≠[]:=by intro e;rw [e] at hq;simp [jh] at hq
    exact ⟨(Q n c).dropLast,(Q n c).getLast hne,(List.dropLast_concat_getLast hne).symm⟩
   have hmp:mp.length=(qD R G P n c).length:=by rw [hmm,UH] at hq;simpa using hq
   rw [hmm,Ve pre r kind key x (by omega) mp mm hmp] at e
   cases hp:jI pre r kind key c (some []) (qD R G P n c) mp with
   | none=>rw [hp] at e;simp at e
   | some part =>
    rw [hp] at e
    have hpl:=KJ pre r kind key hP hmp hp
    simp only [Option.bind_some] at e
    split at e
    ·cases e
     rw [List.length_append,hl,hpl]
     unfold jp
     omega
    ·cases e
end
end Go.Proofs.YthhpbhpfagoapabGreat
