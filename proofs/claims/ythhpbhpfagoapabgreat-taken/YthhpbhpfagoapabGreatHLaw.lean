import Derived.Test.YthhpbhpfagoapabGreatJAH
import Derived.Test.YthhpbhpfagoapabGreatJAM
import Derived.Test.YthhpbhpfagoapabGreatJAK
import Derived.Deep.RegionHeld3
import Derived.Deep.RegionWith
namespace Go.Proofs.YthhpbhpfagoapabGreat
set_option linter.unusedVariables false
set_option linter.unusedSimpArgs false
set_option maxRecDepth 100000
set_option maxHeartbeats 16000000
open Go.RowKit
theorem TH (a:Option Addr) (cap:Nat) (l:List SealB) (s:SealB) (w:World) (hm:l.length≤10000000) (hl:LiesS w a l) :
  Calls Tryz.prog 34 #[.slice a l.length cap,sealV s] w fun e w'=>e=.returned (.bool (RU s l))∧Below w.heap.size w w':=by
 obtain ⟨hb0,hs0,_,hh0⟩:=jK w #[strB s.secret,strB s.nonce,strB s.extra,strB s.body] 54
 have Hl:=hid (hl.later hb0)
 have Hb0:=hid hb0
 have Hh0:=hid hh0
 clear hl hb0 hh0
 go_enter Tryz.func34,Tryz.ntmps34
 go_wp2
 generalize w.alloc (.cells #[strB s.secret,strB s.nonce,strB s.extra,strB s.body] 54)=w0 at *
 generalize hpx:w.heap.size=px at *
 have Hpx:=hid hpx
 clear hpx
 go_loopw [5] (fun i wr=>∃ k:Nat,k≤l.length∧i=.int .i64 (k:Int)∧s ∉ l.take k∧Below w0.heap.size w0 wr) (fun i _=>l.length - (intOf i).toNat)
 case atStart=>exact ⟨0,Nat.zero_le _,rfl,(by simp),Below.refl _ _⟩
 case round =>
  obtain ⟨k,hk,rfl,ht,hB⟩:=hrel
  have Ht:=hid ht
  clear ht
  have HBF:Hid (Below w.heap.size w wr):=by show Below w.heap.size w wr;rw [Hpx.out];exact Hb0.out.trans (hB.mono (Nat.le_of_lt hs0))
  by_cases hlt:k < l.length
  ·obtain ⟨b,rfl,hbw,hcell⟩:=(Hl.out.later hB).at_ (List.ne_nil_of_length_pos (by omega))
   obtain ⟨g1,g2,g3,g4⟩:=hcell k hlt
   have HY:Hid (s=l[k]→s ∈ l):=fun h=>h ▸ List.getElem_mem hlt
   have HN:Hid (s≠l[k]→s ∉ l.take (k+1)):=by
    intro hne hm2
    rw [List.take_succ_eq_append_getElem hlt,List.mem_append] at hm2
    rcases hm2 with h|h
    ·exact Ht.out h
    ·simp only [List.mem_cons,List.not_mem_nil,or_false] at h;exact hne h
   clear hcell
   have hx:=(hB.block px hs0).trans Hh0.out
   obtain ⟨x1,x2,x3,x4⟩:=xO hx
   clear hx
   have hki:(k:Int) < (l.length:Int):=by omega
   have HB:=hid hB
   clear hB
   generalize l[k]=t at *
   obtain ⟨s1,s2,s3,s4⟩:=s
   obtain ⟨t1,t2,t3,t4⟩:=t
   simp only at g1 g2 g3 g4 x1 x2 x3 x4
   by_cases e1:s1=t1
   ·subst e1
    by_cases e2:s2=t2
    ·subst e2
     by_cases e3:s3=t3
     ·subst e3
      by_cases e4:s4=t4
      ·subst e4
       have HX:=hid (HY.out rfl)
       clear HY HN
       go_wp2_with fail
       go_quiet (fail)
       go_wp2
       go_ret
       exact ⟨by rw [memS_iff.2 HX.out];rfl,below_drewN HBF.out nq⟩
      ·have q:(t4 == s4)=false:=by simpa using fun h=>e4 (Eq.symm h)
       have HX:=hid (HN.out (by simp [e4]))
       clear HY HN e4
       go_wp2_with fail
       go_quiet (fail)
       go_wp2_with fail
       go_roundw
       case rel=>exact ⟨k+1,by omega,by go_num,HX.out,below_drewN HB.out nq⟩
       case measure=>simp [intOf];omega
     ·have q:(t3 == s3)=false:=by simpa using fun h=>e3 (Eq.symm h)
      have HX:=hid (HN.out (by simp [e3]))
      clear HY HN e3
      go_wp2_with fail
      go_quiet (fail)
      go_wp2_with fail
      go_roundw
      case rel=>exact ⟨k+1,by omega,by go_num,HX.out,below_drewN HB.out nq⟩
      case measure=>simp [intOf];omega
    ·have q:(t2 == s2)=false:=by simpa using fun h=>e2 (Eq.symm h)
     have HX:=hid (HN.out (by simp [e2]))
     clear HY HN e2
     go_wp2_with fail
     go_quiet (fail)
     go_wp2_with fail
     go_roundw
     case rel=>exact ⟨k+1,by omega,by go_num,HX.out,below_drewN HB.out nq⟩
     case measure=>simp [intOf];omega
   ·have q:(t1 == s1)=false:=by simpa using fun h=>e1 (Eq.symm h)
    have HX:=hid (HN.out (by simp [e1]))
    clear HY HN e1
    go_wp2_with fail
    go_quiet (fail)
    go_wp2_with fail
    go_roundw
    case rel=>exact ⟨k+1,by omega,by go_num,HX.out,below_drewN HB.out nq⟩
    case measure=>simp [intOf];omega
  ·have HX:Hid (s ∉ l):=by
    have:=Ht.out
    rw [List.take_of_length_le (by omega)] at this
    exact this
   go_wp2
   go_ret
   exact ⟨by rw [memS_no.2 HX.out];rfl,HBF.out⟩
theorem Lu {s t:List UInt8} (h:StandsIn s t):∃ p,p+t.length≤s.length∧(s.drop p).take t.length=t:=by
 obtain ⟨a,b,rfl⟩:=h
 refine ⟨a.length,by simp,?_⟩
 rw [List.append_assoc,List.drop_left,List.take_left]
theorem IB (s t:List UInt8) (w:World) (hs:s.length≤1000000000) (h:StandsIn s t) :
  Calls Tryz.prog 33 #[strB s,strB t] w fun e w'=>e=.returned (.bool true)∧Below w.heap.size w w':=by
 obtain ⟨p,hp1,hp2⟩:=Lu h
 have HP:=hid hp2
 clear hp2 h
 go_enter Tryz.func33,Tryz.ntmps33
 go_wp2
 go_loopw [5] (fun i wr=>∃ k:Nat,k≤p∧i=.int .i64 (k:Int)∧wr=w) (fun i _=>p+1 - (intOf i).toNat)
 case atStart=>exact ⟨0,Nat.zero_le _,rfl,rfl⟩
 case round =>
  obtain ⟨k,hk,rfl,rfl⟩:=hrel
  have e0:((⟨s.toArray⟩:ByteArray).extract k (k+t.length))=⟨((s.drop k).take t.length).toArray⟩:=by rw [KO,Nat.add_sub_cancel_left]
  have hw:IntKind.i64.wrap ((k:Int)+(t.length:Int))=(k:Int)+(t.length:Int):=by rw [IntKind.wrap_i64];omega
  have hle:(k:Int)+(t.length:Int)≤(s.length:Int):=by omega
  have hge:(0:Int)≤(k:Int)+(t.length:Int):=by omega
  have hkk:(k:Int)≤(k:Int)+(t.length:Int):=by omega
  have htn:((k:Int)+(t.length:Int)).toNat=k+t.length:=by omega
  by_cases he:(s.drop k).take t.length=t
  ·have hq:(((s.drop k).take t.length) == t)=true:=by simp [he]
   clear he
   go_wp2
   go_ret
   exact ⟨rfl,Below.refl _ _⟩
  ·have hne:k≠p:=fun e=>he (by rw [e];exact HP.out)
   have hq:(((s.drop k).take t.length) == t)=false:=by simpa using he
   clear he
   go_wp2
   exact ⟨⟨k+1,by omega,by go_num,by simp⟩,by simp [intOf];omega⟩
theorem LC {sec non ext body:List UInt8} {p:List UInt8} (h:xr sec non ext body=some p):2≤body.length∧Zi sec non ext body=true:=by
 have h2:2≤body.length:=by
  unfold xr at h
  split at h
  ·rename_i hc;exact hc.2.1
  ·cases h
 cases ho:Zi sec non ext body with
 | true=>exact ⟨h2,rfl⟩
 | false=>rw [Da ho] at h;cases h
theorem Ry (x:SealB) (file:List UInt8) (la:Option Addr) (lc:Nat) (log:List SealB) (w:World) (hf:file.length≤1000000000) (hx:SeenOk file x) (hn:x ∉ log) (hm:log.length≤10000000) (hl:LiesS w la log) :
  Calls Tryz.prog 19 #[sealV x,strB file,.slice la log.length lc] w fun e w'=>e=.returned (.bool true)∧Below w.heap.size w w':=by
 obtain ⟨x1,x2,x3,x4⟩:=x
 obtain ⟨hst,⟨pl,hop⟩,hse,hno,hex,hbo⟩:=hx
 simp only at hst hop hse hno hex hbo
 obtain ⟨ho1,ho2⟩:=LC hop
 obtain ⟨hb0,hs0,_,hh0⟩:=jK w #[strB x1,strB x2,strB x3,strB x4] 54
 have hsz:RZ x1.length x2.length x3.length x4.length 2=0:=by
  unfold RZ
  rw [if_neg (by omega),if_neg (by omega),if_neg (by omega)]
 have HOP:Hid (∀ w':World,Calls Tryz.prog 32 #[strB x1,strB x2,strB x3,strB x4] w' fun e w2=>(∃ p,e=.returned (.tuple #[strB p,.int .i64 0]))∧Below w'.heap.size w' w2):=fun w'=>by
  refine (BM ⟨x1.toArray⟩ ⟨x2.toArray⟩ ⟨x3.toArray⟩ ⟨x4.toArray⟩ w' (by rw [jM];unfold maxLen;omega) (by rw [jM];unfold maxLen;omega) (by rw [jM];unfold maxLen;omega) (by rw [jM];unfold maxLen;omega) (by rw [jM,jM,jM,jM];exact hsz) (by rw [jM];exact ho1) ho2).mono ?_
  rintro e w2 ⟨he,hb⟩
  exact ⟨⟨_,he⟩,hb⟩
 have HCO:=hid (fun w'=>IB file (x2++x4) w' hf hst)
 have HAM:Hid (∀ w':World,Below w.heap.size w w'→Calls Tryz.prog 34 #[.slice la log.length lc,.agg #[strB x1,strB x2,strB x3,strB x4]] w' fun e w2=>e=.returned (.bool false)∧Below w'.heap.size w' w2):=fun w' hb=>by
  have:=TH la lc log ⟨x1,x2,x3,x4⟩ w' hm (hl.later hb)
  rw [memS_no.2 hn] at this
  exact this
 have hadd:x2.length+x4.length≤10000:=by omega
 have HB0:=hid hb0
 have HH0:=hid hh0
 clear hb0 hh0 hl hn hst hop hse ho1 ho2 hsz hm
 go_enter Tryz.func19,Tryz.ntmps19
 obtain ⟨y0,y1,y2,y3⟩:=xO HH0.out
 go_wp2_with fail
 clear y0 y1 y2 y3
 generalize w.alloc _=w0 at *
 refine (HOP.out w0).mono ?_
 clear HOP
 rintro e w1 ⟨⟨p,rfl⟩,hb1⟩
 have HB1:=hid (HB0.out.trans (hb1.mono HB0.out.size))
 have HH1:=hid (jd hb1 HH0.out)
 clear hb1
 obtain ⟨y0,y1,y2,y3⟩:=xO HH1.out
 have hno2:¬ (9223372036854775807 < x2.length+x4.length):=by omega
 go_wp2_with fail
 clear y0 y1 y2 y3
 rw [IN]
 refine (HCO.out w1).mono ?_
 rintro e w2 ⟨rfl,hb2⟩
 have HB2:=hid (HB1.out.trans (hb2.mono HB1.out.size))
 have HH2:=hid (jd hb2 HH1.out)
 clear hb2 HCO
 obtain ⟨y0,y1,y2,y3⟩:=xO HH2.out
 go_wp2_with fail
 clear y0 y1 y2 y3
 refine (HAM.out w2 HB2.out).mono ?_
 rintro e w3 ⟨rfl,hb3⟩
 have HB3:=hid (HB2.out.trans (hb3.mono HB2.out.size))
 clear hb3 HAM
 go_wp2
 go_ret
 exact ⟨rfl,HB3.out⟩
theorem ZG (a:Option Addr) (cap:Nat) (F:Nat→FoundB) (n:Nat) (ta:Option Addr) (tc:Nat) (j:JobB) (w:World) (hm:n≤1000) (hl:LiesF w a F n) (hj:LiesJ w ta tc j) :
  Calls Tryz.prog 18 #[.slice a n cap,jobV (.slice ta j.table.length tc) j] w fun e w'=>e=.returned (.bool (xW F n j.table))∧Below w.heap.size w w':=by
 obtain ⟨hb0,hs0,_,hh0⟩:=jK w #[.slice ta j.table.length tc,.int .i64 j.plan.group,.int .i64 j.plan.page,.int .i64 j.plan.foot,.bool j.plan.told,strB j.pre,.int .i64 j.draw] 27
 have Hl:=hid (hl.later hb0)
 have Hj:=hid (hj.later hb0)
 have hlen:=hj.len
 have HB0:=hid hb0
 have HH0:=hid hh0
 have HD:Hid (xW F n j.table=(!Ji F n j.table || zE F j.table n)):=rfl
 clear hl hj hb0 hh0
 go_enter Tryz.func18,Tryz.ntmps18
 obtain ⟨⟨y0,_,_,_,_,_,_⟩,_⟩:=JX HH0.out
 go_wp2_with fail
 clear y0
 generalize w.alloc _=w0 at *
 refine (DQ a ta cap tc F n j.table w0 hm hlen Hl.out Hj.out.table).mono ?_
 rintro e w1 ⟨rfl,hb1⟩
 have HB1:=hid (HB0.out.trans (hb1.mono HB0.out.size))
 have HH1:=hid (jd hb1 HH0.out)
 have Hl1:=hid (Hl.out.later hb1)
 have Hj1:=hid (Hj.out.later hb1)
 clear hb1 Hl Hj HH0
 cases hh:Ji F n j.table with
 | false =>
  have HX:Hid (xW F n j.table=true):=by show _=_;rw [HD.out,hh];rfl
  clear hh HD
  go_wp2
  go_ret
  exact ⟨by rw [HX.out];rfl,HB1.out⟩
 | true =>
  have HX:Hid (xW F n j.table=zE F j.table n):=by show _=_;rw [HD.out,hh];rfl
  have hnT:n=j.table.length:=by
   unfold Ji at hh
   simp only [Bool.and_eq_true,decide_eq_true_eq] at hh
   exact hh.1
  have HNT:=hid hnT
  clear hh HD hnT
  go_wp2
  go_loopw [6] (fun i wr=>∃ k:Nat,k≤n∧i=.int .i64 (k:Int)∧zE F j.table k=false∧Below w1.heap.size w1 wr) (fun i _=>n - (intOf i).toNat)
  case atStart=>exact ⟨0,Nat.zero_le _,rfl,rfl,Below.refl _ _⟩
  case round =>
   obtain ⟨k,hk,rfl,ht,hB⟩:=hrel
   have Ht:=hid ht
   have HB:=hid hB
   clear ht
   by_cases hlt:k < n
   ·have hki:(k:Int) < (n:Int):=by omega
    have hlt2:k < j.table.length:=by have:=HNT.out;omega
    have hki2:(k:Int) < (j.table.length:Int):=by omega
    obtain ⟨b,rfl,hbw,hcell⟩:=(Hl1.out.later hB).at_ (by omega)
    obtain ⟨ca,cc,g1,g2,g3,g4,g5,g6,g7⟩:=hcell k hlt
    obtain ⟨b',off,rfl,hbw',hcell'⟩:=(Hj1.out.later hB).table.at_ (List.ne_nil_of_length_pos (by omega))
    obtain ⟨_,_,_,v,k4,ca',cc',rfl,hcc,hlc,hcm⟩:=hcell' k hlt2
    have HSC:=hid (fun w' (hb:Below wr.heap.size wr w')=>PD ca ca' cc cc' (F k).cells (j.table[k]).cells w' (by unfold maxLen;omega) (by unfold maxLen;omega) (g6.later hb) (hlc.later hb))
    have HN:Hid (zE F j.table (k+1)=(decide (0 < (F k).key) && decide ((F k).state=0) && !XL (F k).cells (j.table[k]).cells)):=by
     show zE F j.table (k+1)=_
     rw [← xz hlt2]
     simp only [zE,Ht.out,Bool.false_or]
    have HYE:=hid (fun h=>Dx (F:=F) (T:=j.table) hlt h)
    obtain ⟨⟨y0,_,_,_,_,_,_⟩,_⟩:=JX ((hB.block w.heap.size (Array.getElem?_eq_some_iff.1 HH1.out).1).trans HH1.out)
    have hpx:w.heap.size < wr.heap.size:=Nat.lt_of_lt_of_le (Array.getElem?_eq_some_iff.1 HH1.out).1 hB.size
    clear hcell hcell' g1 g2 g6 g7 hlc hcm hcc hB
    generalize XL (F k).cells (j.table[k]).cells=D at *
    generalize (F k).cells.length=m at *
    generalize (F k).state=st at *
    generalize (F k).key=ky at *
    generalize (j.table[k]).cells.length=m' at *
    have hd0:wr.drew.cell? ⟨w.heap.size,0,none⟩=some (.slice (some ⟨b',off,none⟩) j.table.length tc)∧wr.drew.cell? ⟨b,k*5+4,none⟩=some (.slice ca m cc)∧wr.drew.cell? ⟨b',off+k*4+3,none⟩=some (.slice ca' m' cc'):=⟨y0,g5,k4⟩
    go_upto_region 7 with fail
    go_region_held3 (fun w'=>w'.cell? ⟨w.heap.size,0,none⟩=some (.slice (some ⟨b',off,none⟩) j.table.length tc)∧w'.cell? ⟨b,k*5+4,none⟩=some (.slice ca m cc)∧w'.cell? ⟨b',off+k*4+3,none⟩=some (.slice ca' m' cc'))
     (first|with_reducible exact Y11|with_reducible exact hd0)
     (first|(go_at_call 31;refine (HSC.out _ (Xs (Below.refl _ _))).mono ?_;rintro e w11 ⟨rfl,hb11⟩;have Y11:w11.cell? ⟨w.heap.size,0,none⟩=some (.slice (some ⟨b',off,none⟩) j.table.length tc)∧w11.cell? ⟨b,k*5+4,none⟩=some (.slice ca m cc)∧w11.cell? ⟨b',off+k*4+3,none⟩=some (.slice ca' m' cc'):=⟨(hb11.cell (p:=⟨w.heap.size,0,none⟩) hpx).trans y0,(hb11.cell (p:=⟨b,k*5+4,none⟩) hbw).trans g5,(hb11.cell (p:=⟨b',off+k*4+3,none⟩) hbw').trans k4⟩))
    rename_i hSS
    clear hSS hd0
    have hb11':=jl hb11
    have HB11:=hid (HB.out.trans (hb11'.mono HB.out.size))
    have v2:=(hb11'.cell (p:=⟨b,k*5+2,none⟩) hbw).trans g3
    have v3:=(hb11'.cell (p:=⟨b,k*5+3,none⟩) hbw).trans g4
    clear Y11 g3 g4 g5 k4 y0 hb11 hb11' HSC
    by_cases h1:0 < ky
    ·by_cases h2:st=0
     ·subst h2
      cases D with
      | true =>
       have HX2:Hid (zE F j.table (k+1)=false):=by show _=_;rw [HN.out];simp
       clear HN HYE
       go_wp2_with fail
       go_roundw
       case rel=>exact ⟨k+1,by omega,by go_num,HX2.out,HB11.out⟩
       case measure=>simp [intOf];omega
      | false =>
       have HX2:Hid (zE F j.table n=true):=HYE.out (by rw [HN.out];simp [h1])
       have HBF:=hid (HB1.out.trans (HB11.out.mono HB1.out.size))
       clear HN HYE
       go_wp2
       go_ret
       exact ⟨by rw [HX.out,HX2.out];rfl,HBF.out⟩
     ·have q:(st == 0)=false:=by simpa using h2
      have HX2:Hid (zE F j.table (k+1)=false):=by show _=_;rw [HN.out];simp [h2]
      clear HN HYE h2
      go_wp2_with fail
      go_roundw
      case rel=>exact ⟨k+1,by omega,by go_num,HX2.out,HB11.out⟩
      case measure=>simp [intOf];omega
    ·have HX2:Hid (zE F j.table (k+1)=false):=by show _=_;rw [HN.out];simp [h1]
     clear HN HYE
     go_wp2_with fail
     go_roundw
     case rel=>exact ⟨k+1,by omega,by go_num,HX2.out,HB11.out⟩
     case measure=>simp [intOf];omega
   ·have hke:k=n:=by omega
    subst hke
    have HBF:=hid (HB1.out.trans (HB.out.mono HB1.out.size))
    go_wp2
    go_ret
    exact ⟨by rw [HX.out,Ht.out];rfl,HBF.out⟩
end Go.Proofs.YthhpbhpfagoapabGreat
