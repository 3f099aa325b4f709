import Derived.Test.YthhpbhpfagoapabGreatJAR
import Derived.Test.YthhpbhpfagoapabGreatJAY
import Derived.Test.YthhpbhpfagoapabGreatJBC
import Derived.Deep.QuietTactic
import Derived.BigQuiet
import Derived.Test.YthhpbhpfagoapabGreatJBH
import Derived.Test.YthhpbhpfagoapabGreatJBG
namespace Go.Proofs.YthhpbhpfagoapabGreat
set_option linter.unusedVariables false
set_option linter.unusedSimpArgs false
set_option maxRecDepth 100000
set_option maxHeartbeats 16000000
open Go.RowKit
section
def Li:DecidableEq SealB:=fun a b=>decidable_of_iff (a.secret=b.secret∧a.nonce=b.nonce∧a.extra=b.extra∧a.body=b.body) ⟨fun ⟨h1,h2,h3,h4⟩=>by cases a;cases b;simp_all,fun h=>by subst h;exact ⟨rfl,rfl,rfl,rfl⟩⟩
def EC (s:SealB) (l:List SealB):Decidable (s ∈ l):=letI:DecidableEq SealB:=Li;inferInstance
def RU (s:SealB) (l:List SealB):Bool:=@decide (s ∈ l) (EC s l)
theorem memS_iff {s:SealB} {l:List SealB}:RU s l=true ↔ s ∈ l:=@decide_eq_true_iff _ (EC s l)
theorem memS_no {s:SealB} {l:List SealB}:RU s l=false ↔ ¬ s ∈ l:=@decide_eq_false_iff_not _ (EC s l)
abbrev sealV (s:SealB):Value:=.agg #[strB s.secret,strB s.nonce,strB s.extra,strB s.body]
theorem xO {w:World} {p:Nat} {a b c d:Value} {t:TypeId} (h:w.heap[p]?=some (.cells #[a,b,c,d] t (0,0))):w.cell? ⟨p,0,none⟩=some a∧w.cell? ⟨p,1,none⟩=some b∧w.cell? ⟨p,2,none⟩=some c∧w.cell? ⟨p,3,none⟩=some d :=
 ⟨by rw [jb h];rfl,by rw [jb h];rfl,by rw [jb h];rfl,by rw [jb h];rfl⟩
theorem Na {w:World} {g:Nat} {c0 c1 c2 c3:Value} {t:TypeId} (h:w.heap[g]?=some (.cells #[c0,c1,c2,c3] t (0,0))) (v0 v1 v2 v3:Value) :
  ((((w.setCell ⟨g,0,none⟩ v0).setCell ⟨g,1,none⟩ v1).setCell ⟨g,2,none⟩ v2).setCell ⟨g,3,none⟩ v3).heap[g]?=some (.cells #[v0,v1,v2,v3] t (0,0)):=by
 have h1:=heap_setCell_same w g 0 _ t v0 h
 have h2:=heap_setCell_same _ g 1 _ t v1 h1
 have h3:=heap_setCell_same _ g 2 _ t v2 h2
 have h4:=heap_setCell_same _ g 3 _ t v3 h3
 simpa using h4
theorem CL (a:Option Addr) (cap:Nat) (l:List SealB) (s:SealB) (w:World) (hm:l.length≤10000000) (hl:LiesS w a l) :
  Calls Tryz.prog 83 #[.slice a l.length cap,sealV s] w fun e w'=>(∃ r,e=.returned (.int .i64 r)∧((0≤r∧s ∈ l)∨(r=-1∧s ∉ l)))∧Below w.heap.size w w':=by
 obtain ⟨hb0,hs0,_,hh0⟩:=jK w #[strB s.secret,strB s.nonce,strB s.extra,strB s.body] 54
 have Hl:=hid (hl.later hb0)
 have Hb0:=hid hb0
 have Hh0:=hid hh0
 clear hl hb0 hh0
 go_enter Tryz.func83,Tryz.ntmps83
 go_wp2
 generalize w.alloc (.cells #[strB s.secret,strB s.nonce,strB s.extra,strB s.body] 54)=w0 at *
 generalize hpx:w.heap.size=px at *
 have Hpx:=hid hpx
 clear hpx
 go_loopw [8] (fun i wr=>∃ k:Nat,k≤l.length∧i=.int .i64 (k:Int)∧s ∉ l.take k∧Below w0.heap.size w0 wr) (fun i _=>l.length - (intOf i).toNat)
 case atStart=>exact ⟨0,Nat.zero_le _,rfl,(by simp),Below.refl _ _⟩
 case round =>
  obtain ⟨k,hk,rfl,ht,hB⟩:=hrel
  have Ht:=hid ht
  clear ht
  have HBF:Hid (Below w.heap.size w wr):=by show Below w.heap.size w wr;rw [Hpx.out];exact Hb0.out.trans (hB.mono (Nat.le_of_lt hs0))
  by_cases hlt:k < l.length
  ·obtain ⟨b,rfl,hbw,hcell⟩:=(Hl.out.later hB).at_ (List.ne_nil_of_length_pos (by omega))
   obtain ⟨g1,g2,g3,g4⟩:=hcell k hlt
   have HY:Hid (s=l[k]→s ∈ l):=fun h=>h ▸ List.getElem_mem hlt
   have HN:Hid (s≠l[k]→s ∉ l.take (k+1)):=by
    intro hne hm2
    rw [List.take_succ_eq_append_getElem hlt,List.mem_append] at hm2
    rcases hm2 with h|h
    ·exact Ht.out h
    ·simp only [List.mem_cons,List.not_mem_nil,or_false] at h;exact hne h
   clear hcell
   have hx:=(hB.block px hs0).trans Hh0.out
   obtain ⟨x1,x2,x3,x4⟩:=xO hx
   clear hx
   have hki:(k:Int) < (l.length:Int):=by omega
   have HB:=hid hB
   clear hB
   generalize l[k]=t at *
   obtain ⟨s1,s2,s3,s4⟩:=s
   obtain ⟨t1,t2,t3,t4⟩:=t
   simp only at g1 g2 g3 g4 x1 x2 x3 x4
   by_cases e1:s1=t1
   ·subst e1
    by_cases e2:s2=t2
    ·subst e2
     by_cases e3:s3=t3
     ·subst e3
      by_cases e4:s4=t4
      ·subst e4
       have HX:=hid (HY.out rfl)
       clear HY HN
       go_wp2_with fail
       go_quiet (fail)
       go_wp2
       go_ret
       exact ⟨⟨_,rfl,.inl ⟨by omega,HX.out⟩⟩,below_drewN HBF.out nq⟩
      ·have q:(s4 == t4)=false:=by simpa using e4
       have HX:=hid (HN.out (by simp [e4]))
       clear HY HN e4
       go_wp2_with fail
       go_quiet (fail)
       go_wp2_with fail
       go_roundw
       case rel=>exact ⟨k+1,by omega,by go_num,HX.out,below_drewN HB.out nq⟩
       case measure=>simp [intOf];omega
     ·have q:(s3 == t3)=false:=by simpa using e3
      have HX:=hid (HN.out (by simp [e3]))
      clear HY HN e3
      go_wp2_with fail
      go_quiet (fail)
      go_wp2_with fail
      go_roundw
      case rel=>exact ⟨k+1,by omega,by go_num,HX.out,below_drewN HB.out nq⟩
      case measure=>simp [intOf];omega
    ·have q:(s2 == t2)=false:=by simpa using e2
     have HX:=hid (HN.out (by simp [e2]))
     clear HY HN e2
     go_wp2_with fail
     go_quiet (fail)
     go_wp2_with fail
     go_roundw
     case rel=>exact ⟨k+1,by omega,by go_num,HX.out,below_drewN HB.out nq⟩
     case measure=>simp [intOf];omega
   ·have q:(s1 == t1)=false:=by simpa using e1
    have HX:=hid (HN.out (by simp [e1]))
    clear HY HN e1
    go_wp2_with fail
    go_quiet (fail)
    go_wp2_with fail
    go_roundw
    case rel=>exact ⟨k+1,by omega,by go_num,HX.out,below_drewN HB.out nq⟩
    case measure=>simp [intOf];omega
  ·have HX:Hid (s ∉ l):=by
    have:=Ht.out
    rw [List.take_of_length_le (by omega)] at this
    exact this
   go_wp2
   go_ret
   exact ⟨⟨_,rfl,.inr ⟨rfl,HX.out⟩⟩,HBF.out⟩
theorem YD (a:Option Addr) (cap:Nat) (l:List SealB) (s:SealB) (w:World) (hm:l.length≤10000000) (hl:LiesS w a l) :
  Calls Tryz.prog 52 #[.slice a l.length cap,sealV s] w fun e w'=>e=.returned (.bool (RU s l))∧Below w.heap.size w w':=by
 obtain ⟨hb0,hs0,_,hh0⟩:=jK w #[strB s.secret,strB s.nonce,strB s.extra,strB s.body] 54
 have HI:=hid (CL a cap l s (w.alloc (.cells #[strB s.secret,strB s.nonce,strB s.extra,strB s.body] 54)) hm (hl.later hb0))
 have Hb0:=hid hb0
 obtain ⟨x0,x1,x2,x3⟩:=xO hh0
 clear hl hb0 hh0 x0 x1 x2 x3
 go_enter Tryz.func52,Tryz.ntmps52
 go_wp2_with fail
 refine HI.out.mono ?_
 rintro e w2 ⟨⟨r,rfl,⟨h0,hin⟩|⟨rfl,hin⟩⟩,hb2⟩
 ·have HP:Hid (RU s l=true):=memS_iff.2 hin
  have HB:=hid (Hb0.out.trans (hb2.mono Hb0.out.size))
  clear hin HI hb2
  go_wp2
  go_ret
  exact ⟨by rw [HP.out];rfl,HB.out⟩
 ·have HP:Hid (RU s l=false):=memS_no.2 hin
  have HB:=hid (Hb0.out.trans (hb2.mono Hb0.out.size))
  clear hin HI hb2
  go_wp2
  go_ret
  exact ⟨by rw [HP.out];rfl,HB.out⟩
def zp (l kn:List SealB):Option SealB:=l.find? fun x=>!RU x kn
def XD:Option SealB→Value
 | some x=>.tuple #[sealV x,.int .i64 0]
 | none=>.tuple #[sealV ⟨[],[],[],[]⟩,.int .i64 11]
theorem CG {l kn:List SealB} {k:Nat} (hk:k < l.length) (h1:∀ x ∈ l.take k,x ∈ kn) (h2:l[k] ∉ kn):zp l kn=some l[k]:=by
 unfold zp
 have e:l=l.take k++l[k] :: l.drop (k+1):=by rw [List.getElem_cons_drop,List.take_append_drop]
 have h3:(l.take k).find? (fun x=>!RU x kn)=none:=by
  rw [List.find?_eq_none]
  intro x hx
  simp [memS_iff.2 (h1 x hx)]
 have h4:(l.take k++l[k] :: l.drop (k+1)).find? (fun x=>!RU x kn)=some l[k]:=by
  rw [List.find?_append,h3,List.find?_cons]
  simp [memS_no.2 h2]
 rw [← e] at h4
 exact h4
theorem IC {l kn:List SealB} (h1:∀ x ∈ l,x ∈ kn):zp l kn=none:=by
 unfold zp
 rw [List.find?_eq_none]
 intro x hx
 simp [memS_iff.2 (h1 x hx)]
theorem Nn (a a2:Option Addr) (cap cap2:Nat) (l kn:List SealB) (w:World) (hm:l.length≤10000000) (hm2:kn.length≤10000000) (hl:LiesS w a l) (hl2:LiesS w a2 kn) :
  Calls Tryz.prog 28 #[.slice a l.length cap,.slice a2 kn.length cap2] w fun e w'=>e=.returned (XD (zp l kn))∧Below w.heap.size w w':=by
 obtain ⟨hb0,hs0,_,hh0⟩:=jK w #[strB [],strB [],strB [],strB []] 54
 have Hl:=hid (hl.later hb0)
 have Hl2:=hid (hl2.later hb0)
 have Hb0:=hid hb0
 have Hh0:=hid hh0
 clear hl hl2 hb0 hh0
 go_enter Tryz.func28,Tryz.ntmps28
 go_wp2
 generalize w.alloc (.cells #[.string ⟨#[]⟩,.string ⟨#[]⟩,.string ⟨#[]⟩,.string ⟨#[]⟩] 54)=w0 at *
 go_loopw [10] (fun i wr=>∃ k:Nat,k≤l.length∧i=.int .i64 (k:Int)∧(∀ x ∈ l.take k,x ∈ kn)∧Below w0.heap.size w0 wr) (fun i _=>l.length - (intOf i).toNat)
 case atStart=>exact ⟨0,Nat.zero_le _,rfl,(by simp),Below.refl _ _⟩
 case round =>
  obtain ⟨k,hk,rfl,ht,hB⟩:=hrel
  have Ht:=hid ht
  have HB:=hid hB
  clear ht
  by_cases hlt:k < l.length
  ·obtain ⟨b,rfl,hbw,hcell⟩:=(Hl.out.later hB).at_ (List.ne_nil_of_length_pos (by omega))
   obtain ⟨g1,g2,g3,g4⟩:=hcell k hlt
   have HY:Hid (l[k] ∉ kn→zp l kn=some l[k]):=fun h=>CG hlt Ht.out h
   have HN:Hid (l[k] ∈ kn→∀ x ∈ l.take (k+1),x ∈ kn):=by
    intro hin x hx
    rw [List.take_succ_eq_append_getElem hlt,List.mem_append] at hx
    rcases hx with h|h
    ·exact Ht.out x h
    ·simp only [List.mem_cons,List.not_mem_nil,or_false] at h;subst h;exact hin
   clear hcell hB
   have hki:(k:Int) < (l.length:Int):=by omega
   generalize hs:l[k]=s at *
   clear hs
   go_upto_region 4 with fail
   clear g1 g2 g3 g4
   obtain ⟨hbb,hsb,_,hhb⟩:=jK wr #[strB s.secret,strB s.nonce,strB s.extra,strB s.body] 54
   generalize wr.alloc (.cells #[.string ⟨s.secret.toArray⟩,.string ⟨s.nonce.toArray⟩,.string ⟨s.extra.toArray⟩,.string ⟨s.body.toArray⟩] 54)=w3 at *
   have HB3:=hid (HB.out.trans (hbb.mono HB.out.size))
   have HC:=hid (YD a2 cap2 kn s w3 hm2 (Hl2.out.later HB3.out))
   obtain ⟨x0,x1,x2,x3⟩:=xO hhb
   have Hhb:=hid hhb
   clear hhb hbb
   generalize hpx:wr.heap.size=px at *
   clear hpx
   go_wp2_with fail
   refine HC.out.mono ?_
   clear x0 x1 x2 x3 HC
   rintro e w4 ⟨rfl,hb4⟩
   have HB4:=hid (HB3.out.trans (hb4.mono HB3.out.size))
   obtain ⟨x0,x1,x2,x3⟩:=xO ((hb4.block px hsb).trans Hhb.out)
   have hlt4:px < w4.heap.size:=Nat.lt_of_lt_of_le hsb hb4.size
   clear hb4 Hhb
   by_cases hin:s ∈ kn
   ·have hd:RU s kn=true:=memS_iff.2 hin
    have HX:=hid (HN.out hin)
    clear hin HY HN x0 x1 x2 x3
    go_wp2
    go_roundw
    case rel=>exact ⟨k+1,by omega,by go_num,HX.out,HB4.out⟩
    case measure=>simp [intOf];omega
   ·have hd:RU s kn=false:=memS_no.2 hin
    have HX:=hid (HY.out hin)
    have ho:=(HB4.out.block w.heap.size hs0).trans Hh0.out
    have Ho:=hid ho
    obtain ⟨y0,y1,y2,y3⟩:=xO ho
    have f0:=frozen_of_row w4 w.heap.size 0 _ _ ho
    have f1:=frozen_of_row w4 w.heap.size 1 _ _ ho
    have f2:=frozen_of_row w4 w.heap.size 2 _ _ ho
    have f3:=frozen_of_row w4 w.heap.size 3 _ _ ho
    clear hin HY HN ho
    have HO5:=hid (Na Ho.out (strB s.secret) (strB s.nonce) (strB s.extra) (strB s.body))
    have HB5:=hid (Hb0.out.trans (HB4.out.mono Hb0.out.size))
    have HBS:=hid ((((HB5.out.setCell (p:=⟨w.heap.size,0,none⟩) (Nat.le_refl _) (strB s.secret)).setCell (p:=⟨w.heap.size,1,none⟩) (Nat.le_refl _) (strB s.nonce)).setCell (p:=⟨w.heap.size,2,none⟩) (Nat.le_refl _) (strB s.extra)).setCell (p:=⟨w.heap.size,3,none⟩) (Nat.le_refl _) (strB s.body))
    go_wp2
    generalize (((w4.setCell _ _).setCell _ _).setCell _ _).setCell _ _=W at *
    obtain ⟨d0,d1,d2,d3⟩:=xO HO5.out
    exact bodyPost_ret (v:=XD (some s)) (by simp [results,Tryz.results28,go_sem,d0,d1,d2,d3,XD]) rfl ⟨by rw [HX.out],HBS.out⟩
  ·have hke:k=l.length:=by omega
   subst hke
   have HX:Hid (zp l kn=none):=IC (by have:=Ht.out;rw [List.take_length] at this;exact this)
   have ho:=(HB.out.block w.heap.size hs0).trans Hh0.out
   have Ho:=hid ho
   obtain ⟨y0,y1,y2,y3⟩:=xO ho
   have f0:=frozen_of_row wr w.heap.size 0 _ _ ho
   have f1:=frozen_of_row wr w.heap.size 1 _ _ ho
   have f2:=frozen_of_row wr w.heap.size 2 _ _ ho
   have f3:=frozen_of_row wr w.heap.size 3 _ _ ho
   clear ho hB
   have HO5:=hid (Na Ho.out (strB []) (strB []) (strB []) (strB []))
   have HB5:=hid (Hb0.out.trans (HB.out.mono Hb0.out.size))
   have HBS:=hid ((((HB5.out.setCell (p:=⟨w.heap.size,0,none⟩) (Nat.le_refl _) (strB [])).setCell (p:=⟨w.heap.size,1,none⟩) (Nat.le_refl _) (strB [])).setCell (p:=⟨w.heap.size,2,none⟩) (Nat.le_refl _) (strB [])).setCell (p:=⟨w.heap.size,3,none⟩) (Nat.le_refl _) (strB []))
   go_wp2
   generalize (((wr.setCell _ _).setCell _ _).setCell _ _).setCell _ _=W at *
   obtain ⟨d0,d1,d2,d3⟩:=xO HO5.out
   exact bodyPost_ret (v:=XD none) (by simp [results,Tryz.results28,go_sem,d0,d1,d2,d3,XD]) rfl ⟨by rw [HX.out],HBS.out⟩
end
section
theorem Ed {w:World} {q g:Nat} {o:Obj} (hne:q≠g) (h:w.heap[q]?=some o) (v0 v1 v2 v3:Value) :
  ((((w.setCell ⟨g,0,none⟩ v0).setCell ⟨g,1,none⟩ v1).setCell ⟨g,2,none⟩ v2).setCell ⟨g,3,none⟩ v3).heap[q]?=some o:=by
 rw [heap_setCell_other _ ⟨g,3,none⟩ q v3 hne,heap_setCell_other _ ⟨g,2,none⟩ q v2 hne,heap_setCell_other _ ⟨g,1,none⟩ q v1 hne,heap_setCell_other _ ⟨g,0,none⟩ q v0 hne]
 exact h
theorem UH {w:World} {q:Nat} {a b c d e f:Value} {t:TypeId} (h:w.heap[q]?=some (.cells #[a,b,c,d,e,f] t (0,0))):w.cell? ⟨q,4,none⟩=some e∧w.cell? ⟨q,5,none⟩=some f :=
 ⟨by rw [jb h];rfl,by rw [jb h];rfl⟩
theorem Qq {w:World} {q:Nat} {a b c d:Value} {t:TypeId} (h:w.heap[q]?=some (.cells #[a,b,c,d] t (0,0))):(w.cell? ⟨q,0,none⟩=some a∧w.cell? ⟨q,1,none⟩=some b∧w.cell? ⟨q,2,none⟩=some c∧w.cell? ⟨q,3,none⟩=some d)∧w.frozen? ⟨q,0,none⟩=false∧w.frozen? ⟨q,1,none⟩=false∧w.frozen? ⟨q,2,none⟩=false∧w.frozen? ⟨q,3,none⟩=false :=
 ⟨xO h,frozen_of_row w q 0 _ _ h,frozen_of_row w q 1 _ _ h,frozen_of_row w q 2 _ _ h,frozen_of_row w q 3 _ _ h⟩
theorem Ys {w w':World} {o:Obj} (h:Below (w.alloc o).drew.heap.size (w.alloc o).drew w'):Below w.heap.size w w':=by
 have h1:Below w.heap.size w (w.alloc o):=(Below.refl _ _).alloc (Nat.le_refl _) o
 have h2:Below (w.alloc o).heap.size (w.alloc o) w':=jl h
 exact h1.trans (h2.mono h1.size)
theorem Ng (sort:List UInt8) (g c p:Int) (non txt:List UInt8) (ra:Option Addr) (rcap:Nat) (r:List KeyB) (key:Int) (ext:List UInt8) (w:World) (hrm:r.length≤maxLen) (hsec:(ji r key).length≤1000) (hr:LiesK w ra r) :
  Calls Tryz.prog 84 #[.agg #[strB sort,.int .i64 g,.int .i64 c,.int .i64 p,strB non,strB txt],.slice ra r.length rcap,.int .i64 key,strB ext] w fun e w'=>e=.returned (sealV ⟨ji r key,non,ext,txt⟩)∧Below w.heap.size w w':=by
 obtain ⟨hb0,hs0,ho0,hq0⟩:=JY w #[strB sort,.int .i64 g,.int .i64 c,.int .i64 p,strB non,strB txt] 75 #[strB [],strB [],strB [],strB []] 54
 go_enter Tryz.func84,Tryz.ntmps84
 go_wp2_with fail
 have Hr:=hid (hr.later hb0)
 have Hb0:=hid hb0
 have Ho0:=hid ho0
 have Hq0:=hid hq0
 clear hr hb0 ho0 hq0
 generalize (w.alloc _).alloc _=w0 at *
 refine (QW ra rcap r key w0 hrm Hr.out).mono ?_
 rintro e w1 ⟨rfl,hb1⟩
 generalize jw r key=hk at *
 generalize hSE:ji r key=sec at *
 have HSE:=hid hSE
 clear hSE
 have HB1:=hid (Hb0.out.trans (hb1.mono Hb0.out.size))
 have Ho1:=hid (jd hb1 Ho0.out)
 have Hq1:=hid (jd hb1 Hq0.out)
 clear hb1 Hr
 go_upto_region 2 with fail
 have d0:w1.drew.cell? ⟨w.heap.size,4,none⟩=some (strB non)∧w1.drew.cell? ⟨w.heap.size,5,none⟩=some (strB txt):=UH Ho1.out
 have Y1:(w1.alloc (.cells #[strB sec] 9)).drew.heap[w.heap.size]?=some (.cells #[strB sort,.int .i64 g,.int .i64 c,.int .i64 p,strB non,strB txt] 75 (0,0)):=jo _ Ho1.out
 have Z1:(w1.alloc (.cells #[strB sec] 9)).drew.heap[w.heap.size+1]?=some (.cells #[strB [],strB [],strB [],strB []] 54 (0,0)):=jo _ Hq1.out
 have d1:=UH Y1
 go_region_held3 (fun w'=>w'.cell? ⟨w.heap.size,4,none⟩=some (strB non)∧w'.cell? ⟨w.heap.size,5,none⟩=some (strB txt))
  (first|with_reducible exact d3|with_reducible exact d2|with_reducible exact d1|with_reducible exact d0)
  (first
   | (go_at_call 93;refine (AM sec _ _ hsec ?_).mono ?_;exact heap_alloc_new _ _;rintro e w2 ⟨rfl,hb2⟩;have Y2:=jd hb2 Y1;have Z2:=jd hb2 Z1;have d2:=UH Y2;have d3:=UH (Ed (q:=w.heap.size) (g:=w.heap.size+1) (by omega) Y2 (strB sec) (strB non) (strB ext) (strB txt));obtain ⟨⟨x0,x1,x2,x3⟩,f0,f1,f2,f3⟩:=Qq Z2))
 rename_i hSS
 clear hSS
 have hb2':=jl hb2
 have HB2:=hid (HB1.out.trans ((Ys hb2).mono HB1.out.size))
 have HO3:=hid (Na Z2 (strB sec) (strB non) (strB ext) (strB txt))
 have HBS:=hid ((((HB2.out.setCell (p:=⟨w.heap.size+1,0,none⟩) (by simp) (strB sec)).setCell (p:=⟨w.heap.size+1,1,none⟩) (by simp) (strB non)).setCell (p:=⟨w.heap.size+1,2,none⟩) (by simp) (strB ext)).setCell (p:=⟨w.heap.size+1,3,none⟩) (by simp) (strB txt))
 clear d0 d1 d2 d3 x0 x1 x2 x3 f0 f1 f2 f3 Y1 Y2 Z1 Z2 hb2 hb2'
 go_wp2
 generalize (((w2.setCell _ _).setCell _ _).setCell _ _).setCell _ _=W at *
 obtain ⟨e0,e1,e2,e3⟩:=xO HO3.out
 exact bodyPost_ret (v:=sealV ⟨sec,non,ext,txt⟩) (by simp [results,Tryz.results84,go_sem,e0,e1,e2,e3]) rfl ⟨by rw [HSE.out],HBS.out⟩
def BS (q:Nat) (f:FormF) (w:World):Prop :=
 w.cell? ⟨q,0,none⟩=some (.int .i64 (f.foot:Int))∧w.cell? ⟨q,1,none⟩=some (.bool f.told)∧w.cell? ⟨q,2,none⟩=some (strB f.footer)∧w.cell? ⟨q,3,none⟩=some (strB [if f.told=true then 83 else 70])∧w.cell? ⟨q,4,none⟩=some (.int .i64 0)∧w.cell? ⟨q,5,none⟩=some (.int .i64 0)∧w.cell? ⟨q,6,none⟩=some (.int .i64 0)∧w.cell? ⟨q,7,none⟩=some (strB f.nonce)∧w.cell? ⟨q,8,none⟩=some (strB f.body)∧w.cell? ⟨q,9,none⟩=some (strB (qg f))
theorem DN {w:World} {q:Nat} {S:SheetF} {f:FormF} {cv pv:Value} {Kb:Nat} {t:TypeId} (h:w.heap[q]?=some (.cells (qR S f cv pv Kb) t (0,0))):BS q f w :=
 ⟨by rw [jb h];rfl,by rw [jb h];rfl,by rw [jb h];rfl,by rw [jb h];rfl,by rw [jb h];rfl,by rw [jb h];rfl,by rw [jb h];rfl,by rw [jb h];rfl,by rw [jb h];rfl,by rw [jb h];rfl⟩
theorem RR (S:SheetF) (f:FormF) (cv pv:Value) (Kb:Nat) (ra:Option Addr) (rcap:Nat) (r:List KeyB) (pre:List UInt8) (w:World) (hsz:(qR S f cv pv Kb).size=18) (hone:(qR S f cv pv Kb).all (·.oneCell')=true) (hpre:pre.length≤20) (hf:f.footer.length≤5000) (hrm:r.length≤maxLen) (hsec:(ji r (f.foot:Int)).length≤1000) (hr:LiesK w ra r) :
  Calls Tryz.prog 53 #[.agg (qR S f cv pv Kb),.slice ra r.length rcap,strB pre] w fun e w'=>e=.returned (sealV ⟨ji r (f.foot:Int),f.nonce,qd pre f,f.body⟩)∧Below w.heap.size w w':=by
 have HFX:Hid (∀ w':World,Calls Tryz.prog 85 #[.agg #[.int .i64 (f.foot:Int),.bool f.told,strB f.footer,strB [if f.told=true then 83 else 70],.int .i64 0,.int .i64 0,.int .i64 0,strB f.nonce,strB f.body,strB (qg f)],strB pre] w' fun e w2=>e=.returned (strB (qd pre f))∧Below w'.heap.size w' w2):=fun w'=>UY f pre w' hpre hf
 obtain ⟨hb0,hs0,ho0,hq0⟩:=JY w (qR S f cv pv Kb) 82 #[strB [],strB [],strB [],strB []] 54
 have HPS:=hid (fun (w':World) (hb:Below w.heap.size w w')=>Ng [if f.told=true then 83 else 70] 0 0 0 f.nonce f.body ra rcap r (f.foot:Int) (qd pre f) w' hrm hsec (hr.later hb))
 have HSV:Hid (∀ s,s=qd pre f→sealV ⟨ji r (f.foot:Int),f.nonce,s,f.body⟩=sealV ⟨ji r (f.foot:Int),f.nonce,qd pre f,f.body⟩):=fun s h=>by rw [h]
 have HQ0:=hid hq0
 have HF0:=hid (DN ho0)
 have HO0:=hid ho0
 have HB0:=hid hb0
 have hinf:(Tryz.prog.info? 82).map (·.size)=some (qR S f cv pv Kb).size:=by rw [hsz];kernel_rfl
 clear hr hb0 ho0 hq0 hsec hrm hpre hf HSV
 have HFO:=hid (fun (w':World) (h:w'.heap[w.heap.size]?=some (.cells (qR S f cv pv Kb) 82 (0,0)))=>DN h)
 unfold BS at HFO
 generalize hCC:qR S f cv pv Kb=CC at *
 clear hCC HF0
 generalize (if f.told=true then (83:UInt8) else 70)=sb at *
 generalize hEX:qd pre f=ext at *
 have HEX:=hid hEX
 generalize hSE:ji r (f.foot:Int)=sec at *
 have HSE:=hid hSE
 clear hEX hSE
 go_enter Tryz.func53,Tryz.ntmps53
 go_wp2_with fail
 generalize (w.alloc _).alloc _=w0 at *
 have d0:w0.drew.cell? ⟨w.heap.size,0,none⟩=some (.int .i64 (f.foot:Int))∧w0.drew.cell? ⟨w.heap.size,1,none⟩=some (.bool f.told)∧w0.drew.cell? ⟨w.heap.size,2,none⟩=some (strB f.footer)∧w0.drew.cell? ⟨w.heap.size,3,none⟩=some (strB [sb])∧w0.drew.cell? ⟨w.heap.size,4,none⟩=some (.int .i64 0)∧w0.drew.cell? ⟨w.heap.size,5,none⟩=some (.int .i64 0)∧w0.drew.cell? ⟨w.heap.size,6,none⟩=some (.int .i64 0)∧w0.drew.cell? ⟨w.heap.size,7,none⟩=some (strB f.nonce)∧w0.drew.cell? ⟨w.heap.size,8,none⟩=some (strB f.body)∧w0.drew.cell? ⟨w.heap.size,9,none⟩=some (strB (qg f)):=HFO.out w0 HO0.out
 have hne:w.heap.size≠w.heap.size+1:=by omega
 go_region_held3 (fun w'=>w'.cell? ⟨w.heap.size,0,none⟩=some (.int .i64 (f.foot:Int))∧w'.cell? ⟨w.heap.size,1,none⟩=some (.bool f.told)∧w'.cell? ⟨w.heap.size,2,none⟩=some (strB f.footer)∧w'.cell? ⟨w.heap.size,3,none⟩=some (strB [sb])∧w'.cell? ⟨w.heap.size,4,none⟩=some (.int .i64 0)∧w'.cell? ⟨w.heap.size,5,none⟩=some (.int .i64 0)∧w'.cell? ⟨w.heap.size,6,none⟩=some (.int .i64 0)∧w'.cell? ⟨w.heap.size,7,none⟩=some (strB f.nonce)∧w'.cell? ⟨w.heap.size,8,none⟩=some (strB f.body)∧w'.cell? ⟨w.heap.size,9,none⟩=some (strB (qg f)))
  (first|with_reducible exact d3|with_reducible exact d2|with_reducible exact d1|with_reducible exact d0)
  (first
   | (go_at_call 85;refine (HFX.out _).mono ?_;rintro e w1 ⟨rfl,hb1⟩;have O1:=jd (jl hb1) HO0.out;have d1:=HFO.out w1 O1)
   | (go_at_call 84;refine (HPS.out _ (HB0.out.trans ((jl hb1).mono HB0.out.size))).mono ?_;rintro e w2 ⟨rfl,hb2⟩;have O2:=jd hb2 O1;have d2:=HFO.out w2 O2;have Z2:=jd hb2 (jd (jl hb1) HQ0.out);have d3:=HFO.out _ (Ed (q:=w.heap.size) (g:=w.heap.size+1) hne O2 (strB sec) (strB f.nonce) (strB ext) (strB f.body));obtain ⟨⟨x0,x1,x2,x3⟩,f0,f1,f2,f3⟩:=Qq Z2))
 rename_i hSS
 clear hSS
 have hb1':=jl hb1
 have HB2:=hid (HB0.out.trans ((hb1'.trans (hb2.mono hb1'.size)).mono HB0.out.size))
 have HO3:=hid (Na Z2 (strB sec) (strB f.nonce) (strB ext) (strB f.body))
 have HBS:=hid ((((HB2.out.setCell (p:=⟨w.heap.size+1,0,none⟩) (by simp) (strB sec)).setCell (p:=⟨w.heap.size+1,1,none⟩) (by simp) (strB f.nonce)).setCell (p:=⟨w.heap.size+1,2,none⟩) (by simp) (strB ext)).setCell (p:=⟨w.heap.size+1,3,none⟩) (by simp) (strB f.body))
 clear d0 d1 d2 d3 x0 x1 x2 x3 f0 f1 f2 f3 O1 O2 Z2 hb1 hb2 hb1'
 go_wp2
 generalize (((w2.setCell _ _).setCell _ _).setCell _ _).setCell _ _=W at *
 obtain ⟨e0,e1,e2,e3⟩:=xO HO3.out
 exact bodyPost_ret (v:=sealV ⟨sec,f.nonce,ext,f.body⟩) (by simp [results,Tryz.results53,go_sem,e0,e1,e2,e3]) rfl ⟨rfl,HBS.out⟩
end
end Go.Proofs.YthhpbhpfagoapabGreat
