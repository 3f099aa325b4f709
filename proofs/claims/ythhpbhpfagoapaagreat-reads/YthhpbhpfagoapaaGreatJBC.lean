import Derived.Test.YthhpbhpfagoapaaGreatJAY
import Derived.Test.YthhpbhpfagoapaaGreatWFoot
import Derived.Test.YthhpbhpfagoapaaGreatJAS
import Derived.Test.YthhpbhpfagoapaaGreatJAH
import Derived.Test.YthhpbhpfagoapaaGreatJBB
import Derived.Deep.RegionHeld3
namespace Go.Proofs.YthhpbhpfagoapaaGreat
set_option linter.unusedVariables false
set_option linter.unusedSimpArgs false
set_option maxRecDepth 100000
set_option maxHeartbeats 16000000
open Go.RowKit
section
theorem RN {w:World} {q:Nat} {x y z u:Value} {t:TypeId} (h:w.heap[q]?=some (.cells #[x,y,z,u] t (0,0))):w.cell? ⟨q,0,none⟩=some x∧w.cell? ⟨q,1,none⟩=some y∧w.cell? ⟨q,2,none⟩=some z:=Bk h
theorem IT (rows G P F:Nat) (told:Bool) (a:Option Addr) (cap:Nat) (t:List ColB) (pa:Option Addr) (pc:Nat) (places:List Nat) (w:World)
  (hr:rows≤60) (hG:G≤60) (hP:P≤60) (hF:F≤9) (ht:t.length≤6) (hps:places.length≤360) (hpb:∀ x ∈ places,x≤80000000)
  (hcol:∀ c ∈ t,c.name.length≤8∧(0≤c.kind∧c.kind≤9)∧(0≤c.key∧c.key≤9)) (hl:LiesT w a t)
  (hpl:∀ j (hj:j < places.length),∃ g,pa=some ⟨g,0,none⟩∧g < w.heap.size∧w.cell? ⟨g,j,none⟩=some (.int .i64 ((places[j]:Nat):Int))) :
  Calls Tryz.prog 87 #[.int .i64 (rows:Int),.agg #[.int .i64 (G:Int),.int .i64 (P:Int),.int .i64 (F:Int),.bool told],.slice a t.length cap,.slice pa places.length pc] w
   fun e w'=>e=.returned (strB (uB rows++uB G++uB P++uB F++uB t.length++t.flatMap jT++places.flatMap uB))∧Below w.heap.size w w':=by
 have Hl:=hid hl
 have Hpl:=hid hpl
 have Hcol:=hid hcol
 have Hpb:=hid hpb
 clear hl hpl hcol hpb
 have hu1:=jN rows (by omega)
 have hu2:=jN G (by omega)
 have hu3:=jN P (by omega)
 have hu4:=jN F (by omega)
 have hu5:=jN t.length (by omega)
 have v1:IntKind.u64.wrap (rows:Int)=(rows:Int):=zZ (by omega) (by omega)
 have v2:IntKind.u64.wrap (G:Int)=(G:Int):=zZ (by omega) (by omega)
 have v3:IntKind.u64.wrap (P:Int)=(P:Int):=zZ (by omega) (by omega)
 have v4:IntKind.u64.wrap (F:Int)=(F:Int):=zZ (by omega) (by omega)
 have v5:IntKind.u64.wrap (t.length:Int)=(t.length:Int):=zZ (by omega) (by omega)
 have HU:Hid (∀ (n:Nat) w',n≤80000000→Calls Tryz.prog 147 #[.int .u64 (n:Int)] w' fun e w2=>e=.returned (strB (uB n))∧Below w'.heap.size w' w2):=fun n w' h=>DC n w' (by omega)
 have q1:¬ (9223372036854775807 < (uB rows).length+(uB G).length):=by omega
 have q2:¬ (9223372036854775807 < (uB rows).length+(uB G).length+(uB P).length):=by omega
 have q3:¬ (9223372036854775807 < (uB rows).length+(uB G).length+(uB P).length+(uB F).length):=by omega
 have q4:¬ (9223372036854775807 < (uB rows).length+(uB G).length+(uB P).length+(uB F).length+(uB t.length).length):=by omega
 go_enter Tryz.func87,Tryz.ntmps87
 go_wp2_with fail
 obtain ⟨hb0,hs0,_,hh0⟩:=qg w #[.int .i64 (G:Int),.int .i64 (P:Int),.int .i64 (F:Int),.bool told] 24
 have Hb0:=hid hb0
 clear hb0
 generalize w.alloc _=wb at *
 go_region_held3 (fun w'=>w'.cell? ⟨w.heap.size,0,none⟩=some (.int .i64 (G:Int))∧w'.cell? ⟨w.heap.size,1,none⟩=some (.int .i64 (P:Int))∧w'.cell? ⟨w.heap.size,2,none⟩=some (.int .i64 (F:Int)))
  (first|exact RN Y5|exact RN Y4|exact RN Y3|exact RN Y2|exact RN Y1|exact RN hh0)
  (first
   | (go_at_call_of 147 (Value.int IntKind.u64 (rows:Int));refine (HU.out rows _ (by omega)).mono ?_;rintro e w1 ⟨rfl,hb1⟩;replace hb1:=ji hb1;have Y1:=jb hb1 hh0)
   | (go_at_call_of 147 (Value.int IntKind.u64 (G:Int));refine (HU.out G _ (by omega)).mono ?_;rintro e w2 ⟨rfl,hb2⟩;have Y2:=jb hb2 Y1)
   | (go_at_call_of 147 (Value.int IntKind.u64 (P:Int));refine (HU.out P _ (by omega)).mono ?_;rintro e w3 ⟨rfl,hb3⟩;have Y3:=jb hb3 Y2)
   | (go_at_call_of 147 (Value.int IntKind.u64 (F:Int));refine (HU.out F _ (by omega)).mono ?_;rintro e w4 ⟨rfl,hb4⟩;have Y4:=jb hb4 Y3)
   | (go_at_call 147;refine (HU.out t.length _ (by omega)).mono ?_;rintro e w5 ⟨rfl,hb5⟩;have Y5:=jb hb5 Y4))
 have hB1:=Hb0.out.trans (hb1.mono Hb0.out.size)
 have hB2:=hB1.trans (hb2.mono hB1.size)
 have hB3:=hB2.trans (hb3.mono hB2.size)
 have hB4:=hB3.trans (hb4.mono hB3.size)
 have HB5:=hid (hB4.trans (hb5.mono hB4.size))
 have hHL:(uB rows++uB G++uB P++uB F++uB t.length).length≤50:=by simp only [List.length_append];omega
 clear Y1 Y2 Y3 Y4 Y5 hb1 hb2 hb3 hb4 hb5 hB1 hB2 hB3 hB4 v1 v2 v3 v4 v5 hu1 hu2 hu3 hu4 hu5 hh0 q1 q2 q3 q4
 go_simp
 simp only [xg]
 generalize hHD:uB rows++uB G++uB P++uB F++uB t.length=HD at *
 have HHD:=hid hHD
 clear hHD
 generalize hA4:uB rows++uB G++uB P++uB F=A4 at *
 have HA4:=hid hA4
 clear hA4
 generalize hA3:uB rows++uB G++uB P=A3 at *
 have HA3:=hid hA3
 clear hA3
 generalize hA2:uB rows++uB G=A2 at *
 have HA2:=hid hA2
 clear hA2
 go_wp2_with fail
 go_loopw [9,10] (fun v i wr=>∃ k:Nat,k≤t.length∧i=.int .i64 (k:Int)∧v=strB (HD++(t.take k).flatMap jT)∧Below w.heap.size w wr) (fun _ i _=>t.length - (intOf i).toNat)
 case atStart=>exact ⟨0,Nat.zero_le _,rfl,by simp,HB5.out⟩
 case round =>
  clear HB5
  obtain ⟨k,hkl,rfl,rfl,hB⟩:=hrel
  have hfl:=Ns jT 38 (t.take k) (fun c hc=>by
   obtain ⟨h1,h2,h3⟩:=Hcol.out c (List.mem_of_mem_take hc)
   have a:=jN c.name.length (by omega)
   have b:=jN c.kind.toNat (by omega)
   have d:=jN c.key.toNat (by omega)
   simp only [jT,xB,List.length_append];omega)
  rw [List.length_take] at hfl
  have hsl:(HD++(t.take k).flatMap jT).length≤300:=by
   rw [List.length_append]
   have:38*min k t.length≤38*6:=Nat.mul_le_mul (Nat.le_refl _) (by omega)
   omega
  clear hfl
  by_cases hlt:k < t.length
  ·obtain ⟨b,off,rfl,hbw,hcell⟩:=(Hl.out.later hB).at_ (List.ne_nil_of_length_pos (by omega))
   obtain ⟨g1,g2,g3,v4,g4,ca,cap2,rfl,_⟩:=hcell k hlt
   clear hcell g4
   have hki:(k:Int) < (t.length:Int):=by omega
   obtain ⟨hcn,⟨hck0,hck9⟩,hcy0,hcy9⟩:=Hcol.out t[k] (List.getElem_mem hlt)
   have HFT:=hid (UX jT t k hlt)
   have HCF:Hid (jT t[k]=xB (t[k]).name++uB (t[k]).kind.toNat++uB (t[k]).key.toNat):=rfl
   obtain ⟨kd,hkd⟩:∃ kd:Nat,(t[k]).kind=(kd:Int):=⟨(t[k]).kind.toNat,by omega⟩
   obtain ⟨ky,hky⟩:∃ ky:Nat,(t[k]).key=(ky:Int):=⟨(t[k]).key.toNat,by omega⟩
   rw [hkd,hky] at HCF
   rw [hkd] at g2
   rw [hky] at g3
   have hkd9:kd≤9:=by omega
   have hky9:ky≤9:=by omega
   simp only [Int.toNat_natCast] at HCF
   clear hck0 hck9 hcy0 hcy9 hkd hky
   generalize (t[k]).name=nm at *
   have hxl:(xB nm).length≤20:=by have:=jN nm.length (by omega);simp only [xB,List.length_append];omega
   have hk1:=jN kd (by omega)
   have hk2:=jN ky (by omega)
   have v1:IntKind.u64.wrap (kd:Int)=(kd:Int):=zZ (by omega) (by omega)
   have v2:IntKind.u64.wrap (ky:Int)=(ky:Int):=zZ (by omega) (by omega)
   have HT:Hid (∀ w',Calls Tryz.prog 146 #[strB nm] w' fun e w2=>e=.returned (strB (xB nm))∧Below w'.heap.size w' w2):=fun w'=>PA nm w' (by omega)
   have HAP:Hid (HD++(t.take (k+1)).flatMap jT=HD++(t.take k).flatMap jT++xB nm++uB kd++uB ky):=by show _=_;rw [HFT.out,HCF.out];simp
   generalize HD++(t.take k).flatMap jT=S0 at *
   have q1:¬ (9223372036854775807 < S0.length+(xB nm).length):=by omega
   have q2:¬ (9223372036854775807 < S0.length+(xB nm).length+(uB kd).length):=by omega
   have q3:¬ (9223372036854775807 < S0.length+(xB nm).length+(uB kd).length+(uB ky).length):=by omega
   go_wp2_with fail
   go_region_held3 (fun w'=>w'.cell? ⟨b,off+k*4,none⟩=some (strB nm)∧w'.cell? ⟨b,off+k*4+1,none⟩=some (.int .i64 (kd:Int))∧w'.cell? ⟨b,off+k*4+2,none⟩=some (.int .i64 (ky:Int)))
    (first|exact ⟨(hb8.cell (p:=⟨b,_,none⟩) hbw8).trans z1,(hb8.cell (p:=⟨b,_,none⟩) hbw8).trans z2,(hb8.cell (p:=⟨b,_,none⟩) hbw8).trans z3⟩|exact ⟨z1,z2,z3⟩|exact ⟨y1,y2,y3⟩|exact ⟨g1,g2,g3⟩)
    (first
     | (go_at_call 146;refine (HT.out _).mono ?_;rintro e w6 ⟨rfl,hb6⟩;replace hb6:=ji hb6;have y1:=(hb6.cell (p:=⟨b,_,none⟩) hbw).trans g1;have y2:=(hb6.cell (p:=⟨b,_,none⟩) hbw).trans g2;have y3:=(hb6.cell (p:=⟨b,_,none⟩) hbw).trans g3;have hbw7:=Nat.lt_of_lt_of_le hbw hb6.size)
     | (go_at_call_of 147 (Value.int IntKind.u64 (kd:Int));refine (HU.out kd _ (by omega)).mono ?_;rintro e w7 ⟨rfl,hb7⟩;have z1:=(hb7.cell (p:=⟨b,_,none⟩) hbw7).trans y1;have z2:=(hb7.cell (p:=⟨b,_,none⟩) hbw7).trans y2;have z3:=(hb7.cell (p:=⟨b,_,none⟩) hbw7).trans y3;have hbw8:=Nat.lt_of_lt_of_le hbw7 hb7.size)
     | (go_at_call_of 147 (Value.int IntKind.u64 (ky:Int));refine (HU.out ky _ (by omega)).mono ?_;rintro e w8 ⟨rfl,hb8⟩))
   have hB6:=hB.trans (hb6.mono hB.size)
   have hB7:=hB6.trans (hb7.mono hB6.size)
   have HB8:=hid (hB7.trans (hb8.mono hB7.size))
   clear g1 g2 g3 y1 y2 y3 z1 z2 z3 hb6 hb7 hb8 hB6 hB7 hB v1 v2
   simp only [xg]
   rw [← HAP.out]
   clear q1 q2 q3
   go_wp2
   go_roundw
   case rel=>exact ⟨k+1,by omega,by go_num,rfl,HB8.out⟩
   case measure=>simp [intOf];omega
  ·have hke:k=t.length:=by omega
   subst hke
   rw [List.take_length]
   rw [List.take_length] at hsl
   generalize hHD2:HD++t.flatMap jT=HD2 at *
   have HHD2:=hid hHD2
   have HB:=hid hB
   clear hHD2 hB
   go_wp2_with fail
   go_loopw [9,11] (fun v i wr=>∃ m:Nat,m≤places.length∧i=.int .i64 (m:Int)∧v=strB (HD2++(places.take m).flatMap uB)∧Below w.heap.size w wr) (fun _ i _=>places.length - (intOf i).toNat)
   case atStart=>exact ⟨0,Nat.zero_le _,rfl,by simp,HB.out⟩
   case round =>
    clear HB
    obtain ⟨m,hml,rfl,rfl,hB⟩:=hrel
    have hpl2:=Ns uB 10 (places.take m) (fun x hx=>jN x (by have:=Hpb.out x (List.mem_of_mem_take hx);omega))
    have hsl2:(HD2++(places.take m).flatMap uB).length≤4000:=by
     rw [List.length_append]
     rw [List.length_take] at hpl2
     have:10*min m places.length≤10*360:=Nat.mul_le_mul (Nat.le_refl _) (by omega)
     omega
    clear hpl2
    by_cases hlm:m < places.length
    ·obtain ⟨g,rfl,hgw,hcm⟩:=Hpl.out m hlm
     have cm:=(hB.cell (p:=⟨g,m,none⟩) hgw).trans hcm
     have hmi:(m:Int) < (places.length:Int):=by omega
     have hpx:=Hpb.out places[m] (List.getElem_mem hlm)
     have HFT:=hid (UX uB places m hlm)
     generalize places[m]=pl at *
     have v1:IntKind.u64.wrap (pl:Int)=(pl:Int):=zZ (by omega) (by omega)
     have hul:=jN pl (by omega)
     have HAP:Hid (HD2++(places.take (m+1)).flatMap uB=HD2++(places.take m).flatMap uB++uB pl):=by show _=_;rw [HFT.out];simp
     generalize HD2++(places.take m).flatMap uB=S0 at *
     clear hcm
     go_wp2_with fail
     refine (HU.out pl _ (by omega)).mono ?_
     rintro e w6 ⟨rfl,hb6⟩
     have HB6:=hid (hB.trans (hb6.mono hB.size))
     clear hB hb6 cm v1
     go_wp2_with fail
     go_roundw
     case rel=>exact ⟨m+1,by omega,by go_num,by rw [HAP.out];simp [xg],HB6.out⟩
     case measure=>simp [intOf];omega
    ·have hme:m=places.length:=by omega
     subst hme
     rw [List.take_length]
     go_wp2
     go_ret
     exact ⟨qt (by rw [← HHD2.out,← HHD.out,← HA4.out,← HA3.out,← HA2.out]),hB⟩
end
section
theorem Tryz.infoIntW:(Tryz.prog.info? 3).map (fun i=>(i.zero,i.size,i.bytes))=some (some (.int .i64 0),1,8):=by kernel_rfl
theorem YX (ps:List Nat) (n:Nat):zx (ps++[n])=zx ps++[.int .i64 (n:Int)]:=by simp [zx]
end
section
theorem NU (file:List UInt8):((⟨file.toArray⟩:ByteArray).extract 0 2).toList=file.take 2:=by rw [ByteArray.toList_eq];simp
theorem Nk (file:List UInt8):((⟨file.toArray⟩:ByteArray).extract (file.length - 2) file.length).toList=file.drop (file.length - 2):=by rw [ByteArray.toList_eq];simp;rw [List.take_of_length_le (by simp)]
theorem UY (file:List UInt8) (a b:Nat):(⟨file.toArray⟩:ByteArray).extract a b=⟨((file.drop a).take (b - a)).toArray⟩:=by
 apply ByteArray.ext
 rw [ByteArray.data_extract]
 simp
theorem xz {w w':World} {B p:Nat} (h:w.grownBy w' (some p)) (hp:B≤p) (hB:B≤w.heap.size):Below B w w' :=
 ⟨h.os,h.tape,h.output,h.size,fun i hi=>h.block i (Nat.lt_of_lt_of_le hi hB) (by intro e;injection e with e;omega)⟩
theorem qa {B:Nat} {w w':World} (h:Below B w w'):Below B w w'.drew:=⟨h.os,h.tape,h.output,h.size,h.block⟩
def TF (file:List UInt8):Prop:=¬ 65000 < file.length∧¬ file.length < 8∧file.take 2=[67,70]∧file.drop (file.length - 2)=[67,70]∧(file.getD 2 0=69∨file.getD 2 0=79)∧¬ (file.getD 3 0).toNat < 1∧¬ 9 < (file.getD 3 0).toNat
theorem Rf (file:List UInt8) (w:World) (hgood:TF file) (hfr:file.length < 8+Qe (file.drop (file.length - 4))) :
  Calls Tryz.prog 88 #[strB file] w (EJ file w):=by
 have HN:Hid (zR file=none):=by
  show _=_
  unfold zR
  rw [if_pos hfr]
  split<;>rfl
 have Hgood:=hid hgood
 obtain ⟨h1,h2,h3,h4,h5,h6,h7⟩:=hgood
 obtain ⟨hb0,hl0,_,ho0⟩:=qg w file0 169
 have HB0:=hid hb0
 have Ho0:=hid ho0
 clear hb0 ho0
 have h1i:(file.length:Int)≤65000:=by omega
 have h2i:(8:Int)≤(file.length:Int):=by omega
 have h1d:decide ((65000:Int) < (file.length:Int))=false:=decide_eq_false (by omega)
 have h2d:decide ((file.length:Int) < 8)=false:=decide_eq_false (by omega)
 have h3d:(((⟨file.toArray⟩:ByteArray).extract 0 2).toList == [67,70])=true:=by rw [NU];simpa using h3
 have h4d:(((⟨file.toArray⟩:ByteArray).extract (file.length - 2) file.length).toList == [67,70])=true:=by rw [Nk];simpa using h4
 have hl2:2 < (⟨file.toArray⟩:ByteArray).size:=by simp [ByteArray.size];omega
 have hl3:3 < (⟨file.toArray⟩:ByteArray).size:=by simp [ByteArray.size];omega
 obtain ⟨b2,hb2⟩:∃ b,file[2]?=some b:=⟨file[2],List.getElem?_eq_getElem (by omega)⟩
 obtain ⟨b3,hb3⟩:∃ b,file[3]?=some b:=⟨file[3],List.getElem?_eq_getElem (by omega)⟩
 have g2:file.getD 2 0=b2:=by simp [List.getD,hb2]
 have g3:file.getD 3 0=b3:=by simp [List.getD,hb3]
 have i2:((⟨file.toArray⟩:ByteArray)[2]'hl2).toNat=b2.toNat:=by
  have:=(List.getElem?_eq_some_iff.1 hb2).2
  rw [← this];rfl
 have i3:((⟨file.toArray⟩:ByteArray)[3]'hl3).toNat=b3.toNat:=by
  have:=(List.getElem?_eq_some_iff.1 hb3).2
  rw [← this];rfl
 rw [g3] at h6 h7
 rw [g2] at h5
 have Hg3:=hid g3
 have Hg2:=hid g2
 have h6d:decide ((b3.toNat:Int) < 1)=false:=decide_eq_false (by omega)
 have h7d:decide ((9:Int) < (b3.toNat:Int))=false:=decide_eq_false (by omega)
 obtain ⟨y0,hy0⟩:∃ b,file[file.length - 4]?=some b:=⟨file[file.length - 4]'(by omega),List.getElem?_eq_getElem (by omega)⟩
 obtain ⟨y1,hy1⟩:∃ b,file[file.length - 3]?=some b:=⟨file[file.length - 3]'(by omega),List.getElem?_eq_getElem (by omega)⟩
 have e0:∀ h,(⟨file.toArray⟩:ByteArray)[file.length - 4]'h=y0:=fun h=>(List.getElem?_eq_some_iff.1 hy0).2
 have e1:∀ h,(⟨file.toArray⟩:ByteArray)[file.length - 3]'h=y1:=fun h=>(List.getElem?_eq_some_iff.1 hy1).2
 have HTN:Hid (Qe (file.drop (file.length - 4))=y0.toNat+256*y1.toNat):=by
  show _=_
  obtain ⟨h0,h0'⟩:=List.getElem?_eq_some_iff.1 hy0
  obtain ⟨h1,h1'⟩:=List.getElem?_eq_some_iff.1 hy1
  rw [List.drop_eq_getElem_cons h0,h0',show file.length - 4+1=file.length - 3 by omega,List.drop_eq_getElem_cons h1,h1']
  rfl
 have l0:y0.toNat < 256:=y0.toNat_lt
 have l1:y1.toNat < 256:=y1.toNat_lt
 have l3:b3.toNat < 256:=b3.toNat_lt
 clear hy0 hy1 hb2 hb3 g2 g3 h1 h2 h3 h4 h6 h7
 have q0:(0:Int)≤(file.length:Int) - 4:=by omega
 have q1:(file.length:Int) - 4 < (file.length:Int):=by omega
 have q2:((file.length:Int) - 4).toNat=file.length - 4:=by omega
 have q3:(0:Int)≤(file.length:Int) - 3:=by omega
 have q4:(file.length:Int) - 3 < (file.length:Int):=by omega
 have q5:((file.length:Int) - 3).toNat=file.length - 3:=by omega
 have w0:IntKind.i64.wrap ((file.length:Int) - 4)=(file.length:Int) - 4:=IntWalk.i64_in _ ⟨by omega,by omega⟩
 have w1:IntKind.i64.wrap ((file.length:Int) - 3)=(file.length:Int) - 3:=IntWalk.i64_in _ ⟨by omega,by omega⟩
 have w2:IntKind.i64.wrap (y0.toNat:Int)=(y0.toNat:Int):=IntWalk.i64_in _ ⟨by omega,by omega⟩
 have w3:IntKind.i64.wrap (y1.toNat:Int)=(y1.toNat:Int):=IntWalk.i64_in _ ⟨by omega,by omega⟩
 have w4:IntKind.i64.wrap (256*(y1.toNat:Int))=256*(y1.toNat:Int):=IntWalk.i64_in _ ⟨by omega,by omega⟩
 have w5:IntKind.i64.wrap ((file.length:Int) - 4 - (y0.toNat:Int))=(file.length:Int) - 4 - (y0.toNat:Int):=IntWalk.i64_in _ ⟨by omega,by omega⟩
 have w6:IntKind.i64.wrap ((file.length:Int) - 4 - (y0.toNat:Int) - 256*(y1.toNat:Int))=(file.length:Int) - 4 - (y0.toNat:Int) - 256*(y1.toNat:Int):=IntWalk.i64_in _ ⟨by omega,by omega⟩
 have w7:IntKind.i64.wrap (b3.toNat:Int)=(b3.toNat:Int):=IntWalk.i64_in _ ⟨by omega,by omega⟩
 rw [HTN.out] at hfr
 have hfd:(file.length:Int) - 4 - (y0.toNat:Int) - 256*(y1.toNat:Int) < 4:=by omega
 clear hfr
 have h5a:(b2=69∧((b2.toNat:Int) != 69)=false)∨(b2=79∧((b2.toNat:Int) != 69)=true∧((b2.toNat:Int) != 79)=false):=by
  rcases h5 with rfl|rfl
  ·exact .inl ⟨rfl,rfl⟩
  ·exact .inr ⟨rfl,rfl,rfl⟩
 clear h5
 rcases h5a with ⟨_,h5b⟩|⟨_,h5b,h5c⟩
 all_goals
  go_enter Tryz.func88,Tryz.ntmps88
  go_wp2_with fail
  go_quiet (fail)
  have HoN:Hid (((w.alloc (.cells file0 169)).drewN nq).heap[w.heap.size]?=some (.cells file0 169 (0,0))):=Ho0.out
  have HBN:=hid (below_drewN HB0.out nq)
  generalize hWN:(w.alloc _).drewN nq=WN at *
  clear hWN
  go_wp2_with (refine wpList_store_row rfl 169 (.tmp 2) (.tmp 67) rfl w.heap.size file0 rfl rfl 169 file0 HoN.out (by kernel_rfl) rfl (by simp [Value.oneCell']) ?_)
  have HoX:=hid (setRow_heap WN w.heap.size _ file0 169 (0,0) HoN.out)
  have HBX:=hid (HBN.out.trans (xz (Qy WN w.heap.size file0) (Nat.le_refl _) HBN.out.size))
  generalize WN.setRow _ _=WX at *
  exact bodyPost_ret (v:=.tuple #[.agg file0,.bool false]) (ql (p:=2) (q:=3) rfl _ _ _ _ _ rfl rfl (run_loadVar_row (P:=Tryz.prog) WX w.heap.size 169 169 file0 (0,0) _ HoX.out Tryz.underlying169 rfl (by kernel_rfl))) rfl ⟨HBX.out,.inl ⟨HN.out,_,⟨by rfl,by simp [Value.oneCell']⟩,rfl⟩⟩
end
end Go.Proofs.YthhpbhpfagoapaaGreat
