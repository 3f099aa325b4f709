import Derived.Test.YthhpbhpfagoapabGreatJAR
import Derived.Test.YthhpbhpfagoapabGreatJAT
import Derived.Deep.QuietTactic
import Derived.BigQuiet
import Derived.Test.YthhpbhpfagoapabGreatJAP
import Derived.Test.YthhpbhpfagoapabGreatJAB
import Derived.Test.YthhpbhpfagoapabGreatJAY
import Derived.Defers
import Derived.Recover
import Derived.Laws.Pointers
import Derived.Laws.Tables
import Derived.Laws.Rows
namespace Go.Proofs.YthhpbhpfagoapabGreat
set_option linter.unusedVariables false
set_option linter.unusedSimpArgs false
set_option maxRecDepth 100000
set_option maxHeartbeats 16000000
open Go.RowKit
section
instance decSealB:DecidableEq SealB:=fun a b=>decidable_of_iff (a.secret=b.secret∧a.nonce=b.nonce∧a.extra=b.extra∧a.body=b.body) ⟨fun ⟨h1,h2,h3,h4⟩=>by cases a;cases b;simp_all,fun h=>by subst h;exact ⟨rfl,rfl,rfl,rfl⟩⟩
abbrev sealV (s:SealB):Value:=.agg #[strB s.secret,strB s.nonce,strB s.extra,strB s.body]
theorem xM {w:World} {p:Nat} {a b c d:Value} {t:TypeId} (h:w.heap[p]?=some (.cells #[a,b,c,d] t (0,0))):w.cell? ⟨p,0,none⟩=some a∧w.cell? ⟨p,1,none⟩=some b∧w.cell? ⟨p,2,none⟩=some c∧w.cell? ⟨p,3,none⟩=some d :=
 ⟨by rw [jb h];rfl,by rw [jb h];rfl,by rw [jb h];rfl,by rw [jb h];rfl⟩
theorem Gn {w:World} {g:Nat} {c0 c1 c2 c3:Value} {t:TypeId} (h:w.heap[g]?=some (.cells #[c0,c1,c2,c3] t (0,0))) (v0 v1 v2 v3:Value) :
  ((((w.setCell ⟨g,0,none⟩ v0).setCell ⟨g,1,none⟩ v1).setCell ⟨g,2,none⟩ v2).setCell ⟨g,3,none⟩ v3).heap[g]?=some (.cells #[v0,v1,v2,v3] t (0,0)):=by
 have h1:=heap_setCell_same w g 0 _ t v0 h
 have h2:=heap_setCell_same _ g 1 _ t v1 h1
 have h3:=heap_setCell_same _ g 2 _ t v2 h2
 have h4:=heap_setCell_same _ g 3 _ t v3 h3
 simpa using h4
theorem Ml (a:Option Addr) (cap:Nat) (l:List SealB) (s:SealB) (w:World) (hm:l.length≤10000000) (hl:LiesS w a l) :
  Calls Tryz.prog 83 #[.slice a l.length cap,sealV s] w fun e w'=>(∃ r,e=.returned (.int .i64 r)∧((0≤r∧s ∈ l)∨(r=-1∧s ∉ l)))∧Below w.heap.size w w':=by
 obtain ⟨hb0,hs0,_,hh0⟩:=jJ w #[strB s.secret,strB s.nonce,strB s.extra,strB s.body] 54
 have Hl:=hid (hl.later hb0)
 have Hb0:=hid hb0
 have Hh0:=hid hh0
 clear hl hb0 hh0
 go_enter Tryz.func83,Tryz.ntmps83
 go_wp2
 generalize w.alloc (.cells #[strB s.secret,strB s.nonce,strB s.extra,strB s.body] 54)=w0 at *
 generalize hpx:w.heap.size=px at *
 have Hpx:=hid hpx
 clear hpx
 go_loopw [8] (fun i wr=>∃ k:Nat,k≤l.length∧i=.int .i64 (k:Int)∧s ∉ l.take k∧Below w0.heap.size w0 wr) (fun i _=>l.length - (intOf i).toNat)
 case atStart=>exact ⟨0,Nat.zero_le _,rfl,(by simp),Below.refl _ _⟩
 case round =>
  obtain ⟨k,hk,rfl,ht,hB⟩:=hrel
  have Ht:=hid ht
  clear ht
  have HBF:Hid (Below w.heap.size w wr):=by show Below w.heap.size w wr;rw [Hpx.out];exact Hb0.out.trans (hB.mono (Nat.le_of_lt hs0))
  by_cases hlt:k < l.length
  ·obtain ⟨b,rfl,hbw,hcell⟩:=(Hl.out.later hB).at_ (List.ne_nil_of_length_pos (by omega))
   obtain ⟨g1,g2,g3,g4⟩:=hcell k hlt
   have HY:Hid (s=l[k]→s ∈ l):=fun h=>h ▸ List.getElem_mem hlt
   have HN:Hid (s≠l[k]→s ∉ l.take (k+1)):=by
    intro hne hm2
    rw [List.take_succ_eq_append_getElem hlt,List.mem_append] at hm2
    rcases hm2 with h|h
    ·exact Ht.out h
    ·simp only [List.mem_cons,List.not_mem_nil,or_false] at h;exact hne h
   clear hcell
   have hx:=(hB.block px hs0).trans Hh0.out
   obtain ⟨x1,x2,x3,x4⟩:=xM hx
   clear hx
   have hki:(k:Int) < (l.length:Int):=by omega
   have HB:=hid hB
   clear hB
   generalize l[k]=t at *
   obtain ⟨s1,s2,s3,s4⟩:=s
   obtain ⟨t1,t2,t3,t4⟩:=t
   simp only at g1 g2 g3 g4 x1 x2 x3 x4
   by_cases e1:s1=t1
   ·subst e1
    by_cases e2:s2=t2
    ·subst e2
     by_cases e3:s3=t3
     ·subst e3
      by_cases e4:s4=t4
      ·subst e4
       have HX:=hid (HY.out rfl)
       clear HY HN
       go_wp2_with fail
       go_quiet (fail)
       go_wp2
       go_ret
       exact ⟨⟨_,rfl,.inl ⟨by omega,HX.out⟩⟩,below_drewN HBF.out nq⟩
      ·have q:(s4 == t4)=false:=by simpa using e4
       have HX:=hid (HN.out (by simp [e4]))
       clear HY HN e4
       go_wp2_with fail
       go_quiet (fail)
       go_wp2_with fail
       go_roundw
       case rel=>exact ⟨k+1,by omega,by go_num,HX.out,below_drewN HB.out nq⟩
       case measure=>simp [intOf];omega
     ·have q:(s3 == t3)=false:=by simpa using e3
      have HX:=hid (HN.out (by simp [e3]))
      clear HY HN e3
      go_wp2_with fail
      go_quiet (fail)
      go_wp2_with fail
      go_roundw
      case rel=>exact ⟨k+1,by omega,by go_num,HX.out,below_drewN HB.out nq⟩
      case measure=>simp [intOf];omega
    ·have q:(s2 == t2)=false:=by simpa using e2
     have HX:=hid (HN.out (by simp [e2]))
     clear HY HN e2
     go_wp2_with fail
     go_quiet (fail)
     go_wp2_with fail
     go_roundw
     case rel=>exact ⟨k+1,by omega,by go_num,HX.out,below_drewN HB.out nq⟩
     case measure=>simp [intOf];omega
   ·have q:(s1 == t1)=false:=by simpa using e1
    have HX:=hid (HN.out (by simp [e1]))
    clear HY HN e1
    go_wp2_with fail
    go_quiet (fail)
    go_wp2_with fail
    go_roundw
    case rel=>exact ⟨k+1,by omega,by go_num,HX.out,below_drewN HB.out nq⟩
    case measure=>simp [intOf];omega
  ·have HX:Hid (s ∉ l):=by
    have:=Ht.out
    rw [List.take_of_length_le (by omega)] at this
    exact this
   go_wp2
   go_ret
   exact ⟨⟨_,rfl,.inr ⟨rfl,HX.out⟩⟩,HBF.out⟩
theorem RY (a:Option Addr) (cap:Nat) (l:List SealB) (s:SealB) (w:World) (hm:l.length≤10000000) (hl:LiesS w a l) :
  Calls Tryz.prog 52 #[.slice a l.length cap,sealV s] w fun e w'=>e=.returned (.bool (decide (s ∈ l)))∧Below w.heap.size w w':=by
 obtain ⟨hb0,hs0,_,hh0⟩:=jJ w #[strB s.secret,strB s.nonce,strB s.extra,strB s.body] 54
 have HI:=hid (Ml a cap l s (w.alloc (.cells #[strB s.secret,strB s.nonce,strB s.extra,strB s.body] 54)) hm (hl.later hb0))
 have Hb0:=hid hb0
 obtain ⟨x0,x1,x2,x3⟩:=xM hh0
 clear hl hb0 hh0 x0 x1 x2 x3
 go_enter Tryz.func52,Tryz.ntmps52
 go_wp2_with fail
 refine HI.out.mono ?_
 rintro e w2 ⟨⟨r,rfl,⟨h0,hin⟩|⟨rfl,hin⟩⟩,hb2⟩
 ·have HP:Hid (decide (s ∈ l)=true):=decide_eq_true hin
  have HB:=hid (Hb0.out.trans (hb2.mono Hb0.out.size))
  clear hin HI hb2
  go_wp2
  go_ret
  exact ⟨by rw [HP.out];rfl,HB.out⟩
 ·have HP:Hid (decide (s ∈ l)=false):=decide_eq_false hin
  have HB:=hid (Hb0.out.trans (hb2.mono Hb0.out.size))
  clear hin HI hb2
  go_wp2
  go_ret
  exact ⟨by rw [HP.out];rfl,HB.out⟩
def zq (l kn:List SealB):Option SealB:=l.find? fun x=>decide (x ∉ kn)
def Xu:Option SealB→Value
 | some x=>.tuple #[sealV x,.int .i64 0]
 | none=>.tuple #[sealV ⟨[],[],[],[]⟩,.int .i64 11]
theorem DF {l kn:List SealB} {k:Nat} (hk:k < l.length) (h1:∀ x ∈ l.take k,x ∈ kn) (h2:l[k] ∉ kn):zq l kn=some l[k]:=by
 unfold zq
 have e:l=l.take k++l[k] :: l.drop (k+1):=by rw [List.getElem_cons_drop,List.take_append_drop]
 have h3:(l.take k).find? (fun x=>decide (x ∉ kn))=none:=by
  rw [List.find?_eq_none]
  intro x hx
  simp [h1 x hx]
 have h4:(l.take k++l[k] :: l.drop (k+1)).find? (fun x=>decide (x ∉ kn))=some l[k]:=by
  rw [List.find?_append,h3,List.find?_cons]
  simp [h2]
 rw [← e] at h4
 exact h4
theorem EZ {l kn:List SealB} (h1:∀ x ∈ l,x ∈ kn):zq l kn=none:=by
 unfold zq
 rw [List.find?_eq_none]
 intro x hx
 simp [h1 x hx]
theorem GY (a a2:Option Addr) (cap cap2:Nat) (l kn:List SealB) (w:World) (hm:l.length≤10000000) (hm2:kn.length≤10000000) (hl:LiesS w a l) (hl2:LiesS w a2 kn) :
  Calls Tryz.prog 28 #[.slice a l.length cap,.slice a2 kn.length cap2] w fun e w'=>e=.returned (Xu (zq l kn))∧Below w.heap.size w w':=by
 obtain ⟨hb0,hs0,_,hh0⟩:=jJ w #[strB [],strB [],strB [],strB []] 54
 have Hl:=hid (hl.later hb0)
 have Hl2:=hid (hl2.later hb0)
 have Hb0:=hid hb0
 have Hh0:=hid hh0
 clear hl hl2 hb0 hh0
 go_enter Tryz.func28,Tryz.ntmps28
 go_wp2
 generalize w.alloc (.cells #[.string ⟨#[]⟩,.string ⟨#[]⟩,.string ⟨#[]⟩,.string ⟨#[]⟩] 54)=w0 at *
 go_loopw [10] (fun i wr=>∃ k:Nat,k≤l.length∧i=.int .i64 (k:Int)∧(∀ x ∈ l.take k,x ∈ kn)∧Below w0.heap.size w0 wr) (fun i _=>l.length - (intOf i).toNat)
 case atStart=>exact ⟨0,Nat.zero_le _,rfl,(by simp),Below.refl _ _⟩
 case round =>
  obtain ⟨k,hk,rfl,ht,hB⟩:=hrel
  have Ht:=hid ht
  have HB:=hid hB
  clear ht
  by_cases hlt:k < l.length
  ·obtain ⟨b,rfl,hbw,hcell⟩:=(Hl.out.later hB).at_ (List.ne_nil_of_length_pos (by omega))
   obtain ⟨g1,g2,g3,g4⟩:=hcell k hlt
   have HY:Hid (l[k] ∉ kn→zq l kn=some l[k]):=fun h=>DF hlt Ht.out h
   have HN:Hid (l[k] ∈ kn→∀ x ∈ l.take (k+1),x ∈ kn):=by
    intro hin x hx
    rw [List.take_succ_eq_append_getElem hlt,List.mem_append] at hx
    rcases hx with h|h
    ·exact Ht.out x h
    ·simp only [List.mem_cons,List.not_mem_nil,or_false] at h;subst h;exact hin
   clear hcell hB
   have hki:(k:Int) < (l.length:Int):=by omega
   generalize hs:l[k]=s at *
   clear hs
   go_upto_region 4 with fail
   clear g1 g2 g3 g4
   obtain ⟨hbb,hsb,_,hhb⟩:=jJ wr #[strB s.secret,strB s.nonce,strB s.extra,strB s.body] 54
   generalize wr.alloc (.cells #[.string ⟨s.secret.toArray⟩,.string ⟨s.nonce.toArray⟩,.string ⟨s.extra.toArray⟩,.string ⟨s.body.toArray⟩] 54)=w3 at *
   have HB3:=hid (HB.out.trans (hbb.mono HB.out.size))
   have HC:=hid (RY a2 cap2 kn s w3 hm2 (Hl2.out.later HB3.out))
   obtain ⟨x0,x1,x2,x3⟩:=xM hhb
   have Hhb:=hid hhb
   clear hhb hbb
   generalize hpx:wr.heap.size=px at *
   clear hpx
   go_wp2_with fail
   refine HC.out.mono ?_
   clear x0 x1 x2 x3 HC
   rintro e w4 ⟨rfl,hb4⟩
   have HB4:=hid (HB3.out.trans (hb4.mono HB3.out.size))
   obtain ⟨x0,x1,x2,x3⟩:=xM ((hb4.block px hsb).trans Hhb.out)
   have hlt4:px < w4.heap.size:=Nat.lt_of_lt_of_le hsb hb4.size
   clear hb4 Hhb
   by_cases hin:s ∈ kn
   ·have hd:decide (s ∈ kn)=true:=decide_eq_true hin
    have HX:=hid (HN.out hin)
    clear hin HY HN x0 x1 x2 x3
    go_wp2
    go_roundw
    case rel=>exact ⟨k+1,by omega,by go_num,HX.out,HB4.out⟩
    case measure=>simp [intOf];omega
   ·have hd:decide (s ∈ kn)=false:=decide_eq_false hin
    have HX:=hid (HY.out hin)
    have ho:=(HB4.out.block w.heap.size hs0).trans Hh0.out
    have Ho:=hid ho
    obtain ⟨y0,y1,y2,y3⟩:=xM ho
    have f0:=frozen_of_row w4 w.heap.size 0 _ _ ho
    have f1:=frozen_of_row w4 w.heap.size 1 _ _ ho
    have f2:=frozen_of_row w4 w.heap.size 2 _ _ ho
    have f3:=frozen_of_row w4 w.heap.size 3 _ _ ho
    clear hin HY HN ho
    have HO5:=hid (Gn Ho.out (strB s.secret) (strB s.nonce) (strB s.extra) (strB s.body))
    have HB5:=hid (Hb0.out.trans (HB4.out.mono Hb0.out.size))
    have HBS:=hid ((((HB5.out.setCell (p:=⟨w.heap.size,0,none⟩) (Nat.le_refl _) (strB s.secret)).setCell (p:=⟨w.heap.size,1,none⟩) (Nat.le_refl _) (strB s.nonce)).setCell (p:=⟨w.heap.size,2,none⟩) (Nat.le_refl _) (strB s.extra)).setCell (p:=⟨w.heap.size,3,none⟩) (Nat.le_refl _) (strB s.body))
    go_wp2
    generalize (((w4.setCell _ _).setCell _ _).setCell _ _).setCell _ _=W at *
    obtain ⟨d0,d1,d2,d3⟩:=xM HO5.out
    exact bodyPost_ret (v:=Xu (some s)) (by simp [results,Tryz.results28,go_sem,d0,d1,d2,d3,Xu]) rfl ⟨by rw [HX.out],HBS.out⟩
  ·have hke:k=l.length:=by omega
   subst hke
   have HX:Hid (zq l kn=none):=EZ (by have:=Ht.out;rw [List.take_length] at this;exact this)
   have ho:=(HB.out.block w.heap.size hs0).trans Hh0.out
   have Ho:=hid ho
   obtain ⟨y0,y1,y2,y3⟩:=xM ho
   have f0:=frozen_of_row wr w.heap.size 0 _ _ ho
   have f1:=frozen_of_row wr w.heap.size 1 _ _ ho
   have f2:=frozen_of_row wr w.heap.size 2 _ _ ho
   have f3:=frozen_of_row wr w.heap.size 3 _ _ ho
   clear ho hB
   have HO5:=hid (Gn Ho.out (strB []) (strB []) (strB []) (strB []))
   have HB5:=hid (Hb0.out.trans (HB.out.mono Hb0.out.size))
   have HBS:=hid ((((HB5.out.setCell (p:=⟨w.heap.size,0,none⟩) (Nat.le_refl _) (strB [])).setCell (p:=⟨w.heap.size,1,none⟩) (Nat.le_refl _) (strB [])).setCell (p:=⟨w.heap.size,2,none⟩) (Nat.le_refl _) (strB [])).setCell (p:=⟨w.heap.size,3,none⟩) (Nat.le_refl _) (strB []))
   go_wp2
   generalize (((wr.setCell _ _).setCell _ _).setCell _ _).setCell _ _=W at *
   obtain ⟨d0,d1,d2,d3⟩:=xM HO5.out
   exact bodyPost_ret (v:=Xu none) (by simp [results,Tryz.results28,go_sem,d0,d1,d2,d3,Xu]) rfl ⟨by rw [HX.out],HBS.out⟩
end
section
theorem Mf (D:List CellB) (k:Nat) (h:k < D.length) (x:Int):QB (D.take (k+1)) x=if (D[k]).int < QB (D.take k) x then (D[k]).int else QB (D.take k) x:=by
 unfold QB
 rw [List.take_succ_eq_append_getElem h,List.foldl_append]
 rfl
theorem TL (D:List CellB) (k:Nat) (h:k < D.length) (x:Int):ZG (D.take (k+1)) x=if ZG (D.take k) x < (D[k]).int then (D[k]).int else ZG (D.take k) x:=by
 unfold ZG
 rw [List.take_succ_eq_append_getElem h,List.foldl_append]
 rfl
theorem Gu {D:List CellB} (h:0 < D.length):qR D=(D[0]).int:=by
 cases D with
 | nil=>simp at h
 | cons c D=>rfl
theorem Pm {D:List CellB} (h:0 < D.length):QB (D.take 1) (qR D)=qR D:=by
 cases D with
 | nil=>simp at h
 | cons c D=>simp [QB,qR]
theorem SY {D:List CellB} (h:0 < D.length):ZG (D.take 1) (qR D)=qR D:=by
 cases D with
 | nil=>simp at h
 | cons c D=>simp [ZG,qR]
theorem SW (b cap:Nat) (D:List CellB) (w:World) (h1:0 < D.length) (hn:D.length≤60) (hs:∀ c ∈ D,qG c) (hl:IntsLie w b D) :
  Calls Tryz.prog 129 #[.slice (some ⟨b,0,none⟩) D.length cap] w fun e w'=>e=.returned (.int .i64 (QB D (qR D)))∧w'=w:=by
 obtain ⟨hb,hc⟩:=hl
 have h1i:¬ (D.length:Int) < 1:=by omega
 have h0i:(0:Int) < (D.length:Int):=by omega
 have c0:=hc 0 h1
 have HF:=hid (Gu h1)
 have HO:=hid (Pm h1)
 have HR:=hid (fun k=>Ub (D.take k) (fun c hc=>hs c (List.mem_of_mem_take hc)) (qR D) (Qv D hs))
 rw [← HF.out] at c0
 go_enter Tryz.func129,Tryz.ntmps129
 go_wp2
 go_loop [3,4] (fun m i=>∃ k:Nat,1≤k∧k≤D.length∧i=.int .i64 k∧m=.int .i64 (QB (D.take k) (qR D))) (fun _ i=>D.length - (intOf i).toNat)
 case atStart=>exact ⟨1,by omega,by omega,rfl,by rw [HO.out,HF.out]⟩
 case round =>
  obtain ⟨k,hk1,hkl,rfl,rfl⟩:=hrel
  by_cases hlt:k < D.length
  ·have hki:(k:Int) < (D.length:Int):=by omega
   have ck:=hc k hlt
   have HT:=hid (Mf D k hlt (qR D))
   obtain ⟨r1,r2⟩:=HR.out k
   obtain ⟨s1,s2,_⟩:=hs D[k] (List.getElem_mem hlt)
   clear hc c0
   generalize QB (D.take k) (qR D)=M at *
   generalize (D[k]).int=x at *
   by_cases hx:x < M
   ·go_wp2
    go_round
    case rel=>exact ⟨k+1,by omega,by omega,by go_num,by rw [HT.out,if_pos hx]⟩
    case measure=>simp [intOf];omega
   ·have hx2:¬ x < M:=hx
    go_wp2
    go_round
    case rel=>exact ⟨k+1,by omega,by omega,by go_num,by rw [HT.out,if_neg hx]⟩
    case measure=>simp [intOf];omega
  ·have hke:k=D.length:=by omega
   subst hke
   rw [List.take_length]
   go_wp2
   go_ret
   exact ⟨rfl,rfl⟩
theorem PU (b cap:Nat) (D:List CellB) (w:World) (h1:0 < D.length) (hn:D.length≤60) (hs:∀ c ∈ D,qG c) (hl:IntsLie w b D) :
  Calls Tryz.prog 130 #[.slice (some ⟨b,0,none⟩) D.length cap] w fun e w'=>e=.returned (.int .i64 (ZG D (qR D)))∧w'=w:=by
 obtain ⟨hb,hc⟩:=hl
 have h1i:¬ (D.length:Int) < 1:=by omega
 have h0i:(0:Int) < (D.length:Int):=by omega
 have c0:=hc 0 h1
 have HF:=hid (Gu h1)
 have HO:=hid (SY h1)
 have HR:=hid (fun k=>UO (D.take k) (fun c hc=>hs c (List.mem_of_mem_take hc)) (qR D) (Qv D hs))
 rw [← HF.out] at c0
 go_enter Tryz.func130,Tryz.ntmps130
 go_wp2
 go_loop [3,4] (fun m i=>∃ k:Nat,1≤k∧k≤D.length∧i=.int .i64 k∧m=.int .i64 (ZG (D.take k) (qR D))) (fun _ i=>D.length - (intOf i).toNat)
 case atStart=>exact ⟨1,by omega,by omega,rfl,by rw [HO.out,HF.out]⟩
 case round =>
  obtain ⟨k,hk1,hkl,rfl,rfl⟩:=hrel
  by_cases hlt:k < D.length
  ·have hki:(k:Int) < (D.length:Int):=by omega
   have ck:=hc k hlt
   have HT:=hid (TL D k hlt (qR D))
   obtain ⟨r1,r2⟩:=HR.out k
   obtain ⟨s1,s2,_⟩:=hs D[k] (List.getElem_mem hlt)
   clear hc c0
   generalize ZG (D.take k) (qR D)=M at *
   generalize (D[k]).int=x at *
   by_cases hx:M < x
   ·go_wp2
    go_round
    case rel=>exact ⟨k+1,by omega,by omega,by go_num,by rw [HT.out,if_pos hx]⟩
    case measure=>simp [intOf];omega
   ·have hx2:¬ M < x:=hx
    go_wp2
    go_round
    case rel=>exact ⟨k+1,by omega,by omega,by go_num,by rw [HT.out,if_neg hx]⟩
    case measure=>simp [intOf];omega
  ·have hke:k=D.length:=by omega
   subst hke
   rw [List.take_length]
   go_wp2
   go_ret
   exact ⟨rfl,rfl⟩
theorem Gv (kind:Int) (l:List CellB) (h:kind≠0∨jm l=[]):Qf kind l=uB (l.length - (jm l).length)++[0]:=by
 unfold Qf
 rw [if_neg (by rintro ⟨h1,h2⟩;rcases h with h|h;exact h h1;exact h2 h)]
theorem TR (l:List CellB) (h:jm l≠[]):Qf 0 l=uB (l.length - (jm l).length)++([1]++zB (QB (jm l) (qR (jm l)))++zB (ZG (jm l) (qR (jm l)))):=by
 unfold Qf
 rw [if_pos ⟨rfl,h⟩]
def Xt (l:List CellB) (k:Nat):Nat:=k - (jm (l.take k)).length
theorem Ro (l:List CellB) (k:Nat) (h:k < l.length):Xt l (k+1)=Xt l k+(if (l[k]).null=true then 1 else 0):=by
 unfold Xt
 have hv:=Zr (l.take k)
 rw [List.length_take] at hv
 rw [JL l k h,List.length_append]
 split<;>simp<;>omega
theorem AZ (l:List CellB) (k:Nat):Xt l k≤k:=Nat.sub_le _ _
theorem VX (l:List CellB):Xt l l.length=l.length - (jm l).length:=by unfold Xt;rw [List.take_length]
theorem Mp (kind:Int) (a:Option Addr) (cap:Nat) (l:List CellB) (w:World) (hk:kind≠0) (hn:l.length≤60) (hl:Lies w a l) :
  Calls Tryz.prog 113 #[.int .i64 kind,.slice a l.length cap] w fun e w'=>e=.returned (strB (Qf kind l))∧Below w.heap.size w w':=by
 have Hl:=hid hl
 have hk2:(kind == 0)=false:=by simp [hk]
 have HM:=hid (Gv kind l (.inl hk))
 rw [← VX] at HM
 clear hl hk
 go_enter Tryz.func113,Tryz.ntmps113
 go_wp2
 go_loopw [5,6,13] (fun v m i wr=>∃ k:Nat,k≤l.length∧i=.int .i64 (k:Int)∧m=.int .i64 ((Xt l k:Nat):Int)∧v=.slice none 0 0∧Below w.heap.size w wr) (fun _ _ i _=>l.length - (intOf i).toNat)
 case atStart=>exact ⟨0,Nat.zero_le _,rfl,rfl,rfl,Below.refl _ _⟩
 case round =>
  obtain ⟨k,hkl,rfl,rfl,rfl,hB⟩:=hrel
  have hvl:=AZ l k
  by_cases hlt:k < l.length
  ·obtain ⟨b,off,rfl,hbw,hcell⟩:=(Hl.out.later hB).at_ (List.ne_nil_of_length_pos (by omega))
   obtain ⟨g1,g2,g3⟩:=hcell k hlt
   clear hcell
   have HV:=hid (Ro l k hlt)
   have hki:(k:Int) < (l.length:Int):=by omega
   have HB1:=hid (hB.alloc hB.size (Obj.cells #[.bool (l[k]).null,.int .i64 (l[k]).int,strB (l[k]).text] 34))
   cases hnl:(l[k]).null with
   | true =>
    rw [hnl] at g1 HB1 HV
    clear hnl
    generalize Xt l k=q at *
    go_wp2
    go_roundw
    case rel=>exact ⟨k+1,by omega,by go_num,by rw [HV.out];go_num,rfl,HB1.out⟩
    case measure=>simp [intOf];omega
   | false =>
    rw [hnl] at g1 HB1 HV
    clear hnl
    generalize Xt l k=q at *
    go_wp2
    go_roundw
    case rel=>exact ⟨k+1,by omega,by go_num,by rw [HV.out];rfl,rfl,HB1.out⟩
    case measure=>simp [intOf];omega
  ·have hke:k=l.length:=by omega
   subst hke
   have hul:=jY (Xt l l.length) (by omega)
   generalize Xt l l.length=q at *
   go_wp2_with fail
   refine (zy q _ (by omega)).mono ?_
   rintro e w1 ⟨rfl,hb1⟩
   go_wp2_with fail
   refine (zV 0 _ (by decide) (by decide)).mono ?_
   rintro e w2 ⟨rfl,hb2⟩
   generalize uB q=U at *
   go_wp2_with fail
   refine (Qu [U,[byB 0]] _ 2 w2 rfl rfl (by decide) (by simp;omega)).mono ?_
   rintro e w3 ⟨rfl,hb3⟩
   have hB1:=hB.trans (hb1.mono hB.size)
   have hB2:=hB1.trans (hb2.mono hB1.size)
   have hB3:=hB2.trans (hb3.mono hB2.size)
   go_wp2
   go_ret
   exact ⟨xh (by rw [HM.out];simp [byB]),hB3⟩
theorem Dy (a:Option Addr) (cap:Nat) (l:List CellB) (w:World) (hn:l.length≤60) (hs:∀ c ∈ l,qG c) (hl:Lies w a l) :
  Calls Tryz.prog 113 #[.int .i64 0,.slice a l.length cap] w fun e w'=>e=.returned (strB (Qf 0 l))∧Below w.heap.size w w':=by
 obtain ⟨i0,hi,hz0,hz1,hz2⟩:=info_parts Tryz.infoInt
 have Hl:=hid hl
 have Hs:=hid hs
 clear hl hs
 go_enter Tryz.func113,Tryz.ntmps113
 go_wp2
 go_loopw [5,6,13] (fun v m i wr=>∃ k:Nat,k≤l.length∧i=.int .i64 (k:Int)∧m=.int .i64 ((Xt l k:Nat):Int)∧wr.ownsRow w.heap.size 3 1 v (jm (l.take k)).length (QY (jm (l.take k)))∧Below w.heap.size w wr) (fun _ _ i _=>l.length - (intOf i).toNat)
 case atStart=>exact ⟨0,Nat.zero_le _,rfl,rfl,World.ownsRow_nil _ _ _ _,Below.refl _ _⟩
 case round =>
  obtain ⟨k,hkl,rfl,rfl,hown,hB⟩:=hrel
  have hvl:=AZ l k
  have hv2:=Zr (l.take k)
  rw [List.length_take] at hv2
  by_cases hlt:k < l.length
  ·obtain ⟨b,off,rfl,hbw,hcell⟩:=(Hl.out.later hB).at_ (List.ne_nil_of_length_pos (by omega))
   obtain ⟨g1,g2,g3⟩:=hcell k hlt
   clear hcell
   have HV:=hid (Ro l k hlt)
   have HV2:=hid (JL l k hlt)
   have hki:(k:Int) < (l.length:Int):=by omega
   have hB1:=hB.alloc hB.size (Obj.cells #[.bool (l[k]).null,.int .i64 (l[k]).int,strB (l[k]).text] 34)
   have hown1:=hown.alloc (Obj.cells #[.bool (l[k]).null,.int .i64 (l[k]).int,strB (l[k]).text] 34)
   clear hown hB
   cases hnl:(l[k]).null with
   | true =>
    rw [hnl] at g1 hB1 HV HV2 hown1
    have HB1:=hid hB1
    have HO1:=hid hown1
    clear hnl hB1 hown1
    generalize Xt l k=q at *
    go_wp2
    go_roundw
    case rel=>exact ⟨k+1,by omega,by go_num,by rw [HV.out];go_num,by rw [HV2.out];simpa using HO1.out,HB1.out⟩
    case measure=>simp [intOf];omega
   | false =>
    rw [hnl] at g1 hB1 HV HV2 hown1
    clear hnl
    generalize Xt l k=q at *
    generalize jm (l.take k)=V at *
    go_wp2_with (at_builtin;refine wpList_append_own _ rfl (.tmp 23) (.tmp 26) 22 rfl w.heap.size 3 i0 (.int .i64 0) 1 8 Tryz.underlying22 hi hz0 hz1 hz2 rfl (by decide) _ _ _ rfl (hown1.alloc _) ⟨_,0,none⟩ 1 1 [.int .i64 (l[k]).int] rfl rfl ?c1 ?c2 ?c3 ?c4 ?c5 ?_)
    case c1 =>
     have hcl:=qC (wr.alloc (Obj.cells #[.bool false,.int .i64 (l[k]).int,strB (l[k]).text] 34)) #[.int .i64 (l[k]).int] 3
     have e:(wr.alloc (Obj.cells #[.bool false,.int .i64 (l[k]).int,strB (l[k]).text] 34)).heap.size=wr.heap.size+1:=by simp
     rw [e] at hcl
     exact hcl
    case c2=>intro u hu;simp at hu;subst hu;rfl
    case c3=>unfold maxLen;omega
    case c4=>omega
    case c5=>have:=hB1.size;simp at *;omega
    intro v3 w3 hown3 hgr3 _
    have HO3:=hid hown3
    have HB3:=hid ((hB1.alloc hB1.size _).grown hgr3 (by have:=hB1.size;simp at *;omega) (fun k hk=>(hown1.lt k hk).1))
    clear hown1 hown3 hgr3 hB1
    go_wp2
    go_roundw
    case rel=>exact ⟨k+1,by omega,by go_num,by rw [HV.out];rfl,by rw [HV2.out];simpa [QY] using HO3.out,HB3.out⟩
    case measure=>simp [intOf];omega
  ·have hke:k=l.length:=by omega
   subst hke
   have hul:=jY (Xt l l.length) (by omega)
   rw [List.take_length] at hown hv2
   have hln:=NU hown
   by_cases hv0:jm l=[]
   ·have HM:=hid (Gv 0 l (.inr hv0))
    rw [← VX] at HM
    have hv1:(jm l).length=0:=by rw [hv0];rfl
    rw [hv1] at hln
    have hln2:=hln wr
    clear hln hv0 hv1 hown
    generalize Xt l l.length=q at *
    go_wp2_with fail
    refine (zy q _ (by omega)).mono ?_
    rintro e w1 ⟨rfl,hb1⟩
    go_wp2_with fail
    refine (zV 0 _ (by decide) (by decide)).mono ?_
    rintro e w2 ⟨rfl,hb2⟩
    generalize uB q=U at *
    go_wp2_with fail
    refine (Qu [U,[byB 0]] _ 2 w2 rfl rfl (by decide) (by simp;omega)).mono ?_
    rintro e w3 ⟨rfl,hb3⟩
    have hB1:=hB.trans (hb1.mono hB.size)
    have hB2:=hB1.trans (hb2.mono hB1.size)
    have hB3:=hB2.trans (hb3.mono hB2.size)
    go_wp2
    go_ret
    exact ⟨xh (by rw [HM.out];simp [byB]),hB3⟩
   ·have HM:=hid (TR l hv0)
    rw [← VX] at HM
    have hln2:=hln wr
    have hvp0:=List.length_pos_iff.2 hv0
    have hvp:(((jm l).length:Int) == 0)=false:=by simp;omega
    obtain ⟨bv,cv,rfl,hvl2⟩:=IX hown hv0
    have Hvl:=hid hvl2
    have HSm:Hid (∀ c ∈ jm l,qG c):=fun c hc=>Hs.out c (List.mem_filter.1 hc).1
    have hfi:=Qv _ HSm.out
    have hlr:=Ub _ HSm.out _ hfi
    have hmr:=UO _ HSm.out _ hfi
    have hz1:=VL _ hlr.1 hlr.2
    have hz2:=VL _ hmr.1 hmr.2
    have Hmin:=hid (SW bv cv (jm l) wr hvp0 (by omega) HSm.out hvl2)
    have Hmax:=hid (PU bv cv (jm l) wr hvp0 (by omega) HSm.out hvl2)
    clear hln hv0 hown hvl2 HSm Hvl hfi
    generalize Xt l l.length=q at *
    generalize QB (jm l) (qR (jm l))=lo at *
    generalize ZG (jm l) (qR (jm l))=hi2 at *
    generalize (jm l).length=vl at *
    obtain ⟨lr1,lr2⟩:=hlr
    obtain ⟨mr1,mr2⟩:=hmr
    go_wp2_with fail
    refine Hmin.out.mono ?_
    rintro e w0 ⟨rfl,rfl⟩
    go_wp2_with fail
    refine Hmax.out.mono ?_
    rintro e w0' ⟨rfl,rfl⟩
    go_wp2_with fail
    refine (zy q _ (by omega)).mono ?_
    rintro e w1 ⟨rfl,hb1⟩
    go_wp2_with fail
    refine (zV 1 _ (by decide) (by decide)).mono ?_
    rintro e w2 ⟨rfl,hb2⟩
    go_wp2_with fail
    refine (UQ lo _ lr1 lr2).mono ?_
    rintro e w3 ⟨rfl,hb3⟩
    go_wp2_with fail
    refine (UQ hi2 _ mr1 mr2).mono ?_
    rintro e w4 ⟨rfl,hb4⟩
    generalize uB q=U at *
    generalize zB lo=Z1 at *
    generalize zB hi2=Z2 at *
    go_wp2_with fail
    refine (Qu [U,[byB 1],Z1,Z2] _ 4 w4 rfl rfl (by decide) (by simp;omega)).mono ?_
    rintro e w5 ⟨rfl,hb5⟩
    have hB1:=hB.trans (hb1.mono hB.size)
    have hB2:=hB1.trans (hb2.mono hB1.size)
    have hB3:=hB2.trans (hb3.mono hB2.size)
    have hB4:=hB3.trans (hb4.mono hB3.size)
    have hB5:=hB4.trans (hb5.mono hB4.size)
    go_wp2
    go_ret
    exact ⟨xh (by rw [HM.out];simp [byB]),hB5⟩
theorem YV (kind:Int) (a:Option Addr) (cap:Nat) (l:List CellB) (w:World) (hn:l.length≤60) (hs:∀ c ∈ l,qG c) (hl:Lies w a l) :
  Calls Tryz.prog 113 #[.int .i64 kind,.slice a l.length cap] w fun e w'=>e=.returned (strB (Qf kind l))∧Below w.heap.size w w':=by
 by_cases hk:kind=0
 ·subst hk;exact Dy a cap l w hn hs hl
 ·exact Mp kind a cap l w hk hn hl
end
section
abbrev formC (f:FormF):Array Value:=#[.int .i64 (f.foot:Int),.bool f.told,strB f.footer,strB [if f.told=true then 83 else 70],.int .i64 0,.int .i64 0,.int .i64 0,strB f.nonce,strB f.body,strB (qg f)]
abbrev form0:Array Value:=#[.int .i64 0,.bool false,Value.string { data:=#[] },Value.string { data:=#[] },.int .i64 0,.int .i64 0,.int .i64 0,Value.string { data:=#[] },Value.string { data:=#[] },Value.string { data:=#[] }]
theorem Uv (f:FormF):(formC f).all (·.oneCell')=true:=by simp [Value.oneCell']
theorem UK (w:World) (g:Nat) (cs:Array Value):w.grownBy (w.setRow g cs) (some g) :=
 ⟨rfl,rfl,rfl,by simp,fun k _ hk=>setRow_other w g k cs (fun e=>hk (by rw [e]))⟩
theorem PW (file:List UInt8) (B:Nat) (w:World) (hs:file.length≤maxLen) (hB:w.cell? ⟨B,0,none⟩=some (strB file)) :
  Calls Tryz.prog 41 #[.pointer (some ⟨B,0,none⟩)] w (LX file w):=by
 have Hs:=hid hs
 have hBa:=je (.cells form0 77) hB
 clear hs
 obtain ⟨hb0,hl0,_,ho0⟩:=jJ w form0 77
 go_enter Tryz.func41,Tryz.ntmps41
 go_wp2_with fail
 clear hBa hB
 refine (EU file (w.alloc (.cells form0 77)) Hs.out).mono ?_
 generalize w.alloc _=W0 at *
 have HB0:=hid hb0
 have Ho0:=hid ho0
 clear hb0 ho0
 rintro e w1 ⟨hb1,⟨rfl,hn⟩|⟨f,hf,rfl⟩⟩
 ·have HN:=hid hn
  have HB1:=hid (HB0.out.trans (hb1.mono HB0.out.size))
  clear hb1 hn
  go_wp2
  exact ⟨rfl,HB1.out,.inl ⟨rfl,HN.out⟩⟩
 ·have HF:=hid hf
  have HB1:=hid (HB0.out.trans (hb1.mono HB0.out.size))
  have Ho1:=hid (jd hb1 Ho0.out)
  clear hb1 hf
  go_wp2_with (refine wpList_store_row rfl 77 (.tmp 1) (.tmp 3) rfl w.heap.size (formC f) rfl rfl 77 form0 Ho1.out (by kernel_rfl) rfl (Uv f) ?_)
  have HoF:=hid (setRow_heap w1 w.heap.size _ (formC f) 77 (0,0) Ho1.out)
  have HBF:=hid (HB1.out.trans (jq (UK w1 w.heap.size (formC f)) (Nat.le_refl _) HB1.out.size))
  generalize w1.setRow _ _=WF at *
  exact bodyPost_ret (v:=formV f) (results_cell_row (P:=Tryz.prog) (p:=1) (ty:=77) rfl _ _ w.heap.size 77 (formC f) (0,0) _ rfl HoF.out Tryz.underlying77 rfl (by kernel_rfl)) rfl ⟨HBF.out,.inr ⟨f,HF.out,rfl⟩⟩
theorem Ge (p:Addr) (b:Bool) (u:TypeId) (pv:Value) (older:List PanicEntry) (w:World) (hc:w.cell? p=some (.bool b)) (hz:w.frozen? p=false) :
  CallsD Tryz.prog 68 #[.pointer (some p)] (.panicking ({ v:=.iface u pv,recovered:=false } :: older)) w fun e u' w' =>
   e=.returned (.tuple #[])∧u'=.panicking ({ v:=.iface u pv,recovered:=true } :: older)∧w'=w.setCell p (.bool false):=by
 refine callsD_of_wpS Tryz.func68 rfl fun c₀ cs hu=>?_
 apply wpS_region
 simp [wpOpsS,go_sem,recoverD,hu,Tryz.ntmps68,Exit.thenS,hc,hz,bodyPostS,results,Tryz.results68]
theorem IS (p:Addr) (b:Bool) (w:World) (hc:w.cell? p=some (.bool b)) (hz:w.frozen? p=false) :
  CallsD Tryz.prog 68 #[.pointer (some p)] .returning w fun e u' w'=>e=.returned (.tuple #[])∧u'=.returning∧w'=w.setCell p (.bool true):=by
 refine callsD_of_wpS Tryz.func68 rfl fun c₀ cs hu=>?_
 apply wpS_region
 simp [wpOpsS,go_sem,recoverD,hu,Tryz.ntmps68,Exit.thenS,hc,hz,bodyPostS,results,Tryz.results68]
 cases c₀
 simp_all
theorem Lw (file:List UInt8) (B:Nat) (w:World) (hs:file.length≤maxLen) (hB:w.cell? ⟨B,0,none⟩=some (strB file)) :
  Calls Tryz.prog 40 #[.func (.func 41) #[] #[.pointer (some ⟨B,0,none⟩)]] w fun e w'=>Below w.heap.size w w' ∧
   ((zd file=none∧e=.returned (.tuple #[.agg form0,.bool false]))∨∃ f,zd file=some f∧e=.returned (.tuple #[formV f,.bool true])):=by
 have hmf:∀ (fn:Fn) (first cap:Array Value) (w:World),(Instr.makeFunc fn first cap).run Tryz.prog w=.ok (.func fn first cap) w:=fun _ _ _ _=>rfl
 have Hs:=hid hs
 have hBa:=je (.cells #[.bool false] 4) (je (.cells form0 77) hB)
 obtain ⟨hb0,hl0,ho0,hk0⟩:=JQ w form0 77 #[.bool false] 4
 have HBa:=hid hBa
 clear hs hB hBa
 go_enter_defers Tryz.func40,Tryz.ntmps40
 go_wp2_with fail
 refine (PW file B ((w.alloc (.cells form0 77)).alloc (.cells #[.bool false] 4)) Hs.out HBa.out).mono ?_
 clear HBa
 generalize (w.alloc _).alloc _=W0 at *
 have HB0:=hid hb0
 have Ho0:=hid ho0
 have Hk0:=hid hk0
 clear hb0 ho0 hk0
 rintro e w2 ⟨hb2,ho⟩
 have HB2:=hid (HB0.out.trans (hb2.mono HB0.out.size))
 have Ho2:=hid (jd hb2 Ho0.out)
 have Hk2:=hid (jd hb2 Hk0.out)
 have hc2:w2.cell? ⟨w.heap.size+1,0,none⟩=some (.bool false):=by rw [jb Hk2.out];rfl
 have hz2:w2.frozen? ⟨w.heap.size+1,0,none⟩=false:=frozen_of_row w2 _ _ _ _ Hk2.out
 rcases ho with ⟨rfl,hn⟩|⟨f,hf,rfl⟩
 ·have Hn:=hid hn
  clear hn hb2
  go_wp2
  refine leaves_cons (f:=68) (args:=#[.pointer (some ⟨w.heap.size+1,0,none⟩)]) (by simp) (by simp [go_sem]) ?_
  refine (Ge ⟨w.heap.size+1,0,none⟩ false 9 _ [] _ hc2 hz2).mono ?_
  rintro e u' w'' ⟨rfl,rfl,rfl⟩
  have hW:=World.cell?_setCell_same w2 ⟨w.heap.size+1,0,none⟩ (.bool false) hc2
  have HBW:=hid (HB2.out.setCell (p:=⟨w.heap.size+1,0,none⟩) (by simp) (.bool false))
  have HoW:=hid (jk (qr w2 (w.heap.size+1) 0 (.bool false)) Ho2.out (by omega))
  generalize w2.setCell _ _=W at *
  obtain ⟨⟨o0,o1,o2,o3,o4,o5,o6,o7,o8,o9⟩,_⟩:=xA HoW.out
  simp [Leaves,settle,results,Tryz.results40,go_sem,hW,o0,o1,o2,o3,o4,o5,o6,o7,o8,o9]
  exact ⟨HBW.out,Hn.out⟩
 ·have Hf:=hid hf
  have hg3:=UK w2 w.heap.size (formC f)
  have Hk3:=hid (jk hg3 Hk2.out (by omega))
  have Ho3:=hid (setRow_heap w2 w.heap.size _ (formC f) 77 (0,0) Ho2.out)
  have HB3:=hid (HB2.out.trans (jq hg3 (Nat.le_refl _) HB2.out.size))
  have hc3:(w2.setRow w.heap.size (formC f)).cell? ⟨w.heap.size+1,0,none⟩=some (.bool false):=by rw [jb Hk3.out];rfl
  have hz3:(w2.setRow w.heap.size (formC f)).frozen? ⟨w.heap.size+1,0,none⟩=false:=frozen_of_row _ _ _ _ _ Hk3.out
  clear hf hb2 hg3 hc2 hz2
  go_wp2_with (refine wpList_store_row rfl 77 (.tmp 2) (.tmp 6) rfl w.heap.size (formC f) rfl rfl 77 form0 Ho2.out (by kernel_rfl) rfl (Uv f) ?_)
  generalize w2.setRow _ _=w3 at *
  refine leaves_cons (f:=68) (args:=#[.pointer (some ⟨w.heap.size+1,0,none⟩)]) (by simp) (by simp [go_sem]) ?_
  refine (IS ⟨w.heap.size+1,0,none⟩ true _ ?_ ?_).mono ?_
  ·exact World.cell?_setCell_same w3 ⟨w.heap.size+1,0,none⟩ (.bool true) hc3
  ·simp [hz3]
  rintro e u' w'' ⟨rfl,rfl,rfl⟩
  have hW1:=World.cell?_setCell_same w3 ⟨w.heap.size+1,0,none⟩ (.bool true) hc3
  have hW:=World.cell?_setCell_same _ ⟨w.heap.size+1,0,none⟩ (.bool true) hW1
  have HBW:=hid ((HB3.out.setCell (p:=⟨w.heap.size+1,0,none⟩) (by simp) (.bool true)).setCell (p:=⟨w.heap.size+1,0,none⟩) (by simp) (.bool true))
  have HoW:=hid (jk (qr (w3.setCell ⟨w.heap.size+1,0,none⟩ (.bool true)) (w.heap.size+1) 0 (.bool true)) (jk (qr w3 (w.heap.size+1) 0 (.bool true)) Ho3.out (by omega)) (by omega))
  clear hW1 hc3 hz3
  generalize (w3.setCell _ _).setCell _ _=W at *
  obtain ⟨⟨o0,o1,o2,o3,o4,o5,o6,o7,o8,o9⟩,_⟩:=xA HoW.out
  simp [Leaves,settle,results,Tryz.results40,go_sem,hW,o0,o1,o2,o3,o4,o5,o6,o7,o8,o9]
  exact ⟨HBW.out,f,Hf.out,rfl,rfl,rfl,rfl,rfl,rfl,rfl⟩
end
end Go.Proofs.YthhpbhpfagoapabGreat
