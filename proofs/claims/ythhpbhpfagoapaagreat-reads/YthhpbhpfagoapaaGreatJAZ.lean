import Derived.Test.YthhpbhpfagoapaaGreatJAG
import Derived.Test.YthhpbhpfagoapaaGreatWFoot
import Derived.Test.YthhpbhpfagoapaaGreatYHeads
import Derived.Test.YthhpbhpfagoapaaGreatJBA
import Derived.Test.YthhpbhpfagoapaaGreatVSpots
import Derived.Test.YthhpbhpfagoapaaGreatJAH
import Derived.Test.YthhpbhpfagoapaaGreatJAX
import Derived.Test.YthhpbhpfagoapaaGreatJAR
import Derived.Test.YthhpbhpfagoapaaGreatRUnpage
namespace Go.Proofs.YthhpbhpfagoapaaGreat
set_option linter.unusedVariables false
set_option linter.unusedSimpArgs false
set_option maxRecDepth 100000
set_option maxHeartbeats 16000000
open Go.RowKit
section
theorem Ry {w:World} {q:Nat} {x y z u:Value} {t:TypeId} (h:w.heap[q]?=some (.cells #[x,y,z,u] t (0,0))):w.cell? ⟨q,0,none⟩=some x∧w.cell? ⟨q,1,none⟩=some y∧w.cell? ⟨q,2,none⟩=some z:=Bf h
theorem IP (rows G P F:Nat) (told:Bool) (a:Option Addr) (cap:Nat) (t:List ColB) (pa:Option Addr) (pc:Nat) (places:List Nat) (w:World)
  (hr:rows≤60) (hG:G≤60) (hP:P≤60) (hF:F≤9) (ht:t.length≤6) (hps:places.length≤360) (hpb:∀ x ∈ places,x≤80000000)
  (hcol:∀ c ∈ t,c.name.length≤8∧(0≤c.kind∧c.kind≤9)∧(0≤c.key∧c.key≤9)) (hl:LiesT w a t)
  (hpl:∀ j (hj:j < places.length),∃ g,pa=some ⟨g,0,none⟩∧g < w.heap.size∧w.cell? ⟨g,j,none⟩=some (.int .i64 ((places[j]:Nat):Int))) :
  Calls Tryz.prog 87 #[.int .i64 (rows:Int),.agg #[.int .i64 (G:Int),.int .i64 (P:Int),.int .i64 (F:Int),.bool told],.slice a t.length cap,.slice pa places.length pc] w
   fun e w'=>e=.returned (strB (uB rows++uB G++uB P++uB F++uB t.length++t.flatMap jT++places.flatMap uB))∧Below w.heap.size w w':=by
 have Hl:=hid hl
 have Hpl:=hid hpl
 have Hcol:=hid hcol
 have Hpb:=hid hpb
 clear hl hpl hcol hpb
 have hu1:=jN rows (by omega)
 have hu2:=jN G (by omega)
 have hu3:=jN P (by omega)
 have hu4:=jN F (by omega)
 have hu5:=jN t.length (by omega)
 have v1:IntKind.u64.wrap (rows:Int)=(rows:Int):=Jc (by omega) (by omega)
 have v2:IntKind.u64.wrap (G:Int)=(G:Int):=Jc (by omega) (by omega)
 have v3:IntKind.u64.wrap (P:Int)=(P:Int):=Jc (by omega) (by omega)
 have v4:IntKind.u64.wrap (F:Int)=(F:Int):=Jc (by omega) (by omega)
 have v5:IntKind.u64.wrap (t.length:Int)=(t.length:Int):=Jc (by omega) (by omega)
 have HU:Hid (∀ (n:Nat) w',n≤80000000→Calls Tryz.prog 147 #[.int .u64 (n:Int)] w' fun e w2=>e=.returned (strB (uB n))∧Below w'.heap.size w' w2):=fun n w' h=>DO n w' (by omega)
 have q1:¬ (9223372036854775807 < (uB rows).length+(uB G).length):=by omega
 have q2:¬ (9223372036854775807 < (uB rows).length+(uB G).length+(uB P).length):=by omega
 have q3:¬ (9223372036854775807 < (uB rows).length+(uB G).length+(uB P).length+(uB F).length):=by omega
 have q4:¬ (9223372036854775807 < (uB rows).length+(uB G).length+(uB P).length+(uB F).length+(uB t.length).length):=by omega
 go_enter Tryz.func87,Tryz.ntmps87
 go_wp2_with fail
 obtain ⟨hb0,hs0,_,hh0⟩:=qg w #[.int .i64 (G:Int),.int .i64 (P:Int),.int .i64 (F:Int),.bool told] 24
 have Hb0:=hid hb0
 clear hb0
 generalize w.alloc _=wb at *
 go_region_held3 (fun w'=>w'.cell? ⟨w.heap.size,0,none⟩=some (.int .i64 (G:Int))∧w'.cell? ⟨w.heap.size,1,none⟩=some (.int .i64 (P:Int))∧w'.cell? ⟨w.heap.size,2,none⟩=some (.int .i64 (F:Int)))
  (first|exact Ry Y5|exact Ry Y4|exact Ry Y3|exact Ry Y2|exact Ry Y1|exact Ry hh0)
  (first
   | (go_at_call_of 147 (Value.int IntKind.u64 (rows:Int));refine (HU.out rows _ (by omega)).mono ?_;rintro e w1 ⟨rfl,hb1⟩;replace hb1:=ji hb1;have Y1:=jb hb1 hh0)
   | (go_at_call_of 147 (Value.int IntKind.u64 (G:Int));refine (HU.out G _ (by omega)).mono ?_;rintro e w2 ⟨rfl,hb2⟩;have Y2:=jb hb2 Y1)
   | (go_at_call_of 147 (Value.int IntKind.u64 (P:Int));refine (HU.out P _ (by omega)).mono ?_;rintro e w3 ⟨rfl,hb3⟩;have Y3:=jb hb3 Y2)
   | (go_at_call_of 147 (Value.int IntKind.u64 (F:Int));refine (HU.out F _ (by omega)).mono ?_;rintro e w4 ⟨rfl,hb4⟩;have Y4:=jb hb4 Y3)
   | (go_at_call 147;refine (HU.out t.length _ (by omega)).mono ?_;rintro e w5 ⟨rfl,hb5⟩;have Y5:=jb hb5 Y4))
 have hB1:=Hb0.out.trans (hb1.mono Hb0.out.size)
 have hB2:=hB1.trans (hb2.mono hB1.size)
 have hB3:=hB2.trans (hb3.mono hB2.size)
 have hB4:=hB3.trans (hb4.mono hB3.size)
 have HB5:=hid (hB4.trans (hb5.mono hB4.size))
 have hHL:(uB rows++uB G++uB P++uB F++uB t.length).length≤50:=by simp only [List.length_append];omega
 clear Y1 Y2 Y3 Y4 Y5 hb1 hb2 hb3 hb4 hb5 hB1 hB2 hB3 hB4 v1 v2 v3 v4 v5 hu1 hu2 hu3 hu4 hu5 hh0 q1 q2 q3 q4
 go_simp
 simp only [xe]
 generalize hHD:uB rows++uB G++uB P++uB F++uB t.length=HD at *
 have HHD:=hid hHD
 clear hHD
 generalize hA4:uB rows++uB G++uB P++uB F=A4 at *
 have HA4:=hid hA4
 clear hA4
 generalize hA3:uB rows++uB G++uB P=A3 at *
 have HA3:=hid hA3
 clear hA3
 generalize hA2:uB rows++uB G=A2 at *
 have HA2:=hid hA2
 clear hA2
 go_wp2_with fail
 go_loopw [9,10] (fun v i wr=>∃ k:Nat,k≤t.length∧i=.int .i64 (k:Int)∧v=strB (HD++(t.take k).flatMap jT)∧Below w.heap.size w wr) (fun _ i _=>t.length - (intOf i).toNat)
 case atStart=>exact ⟨0,Nat.zero_le _,rfl,by simp,HB5.out⟩
 case round =>
  clear HB5
  obtain ⟨k,hkl,rfl,rfl,hB⟩:=hrel
  have hfl:=NY jT 38 (t.take k) (fun c hc=>by
   obtain ⟨h1,h2,h3⟩:=Hcol.out c (List.mem_of_mem_take hc)
   have a:=jN c.name.length (by omega)
   have b:=jN c.kind.toNat (by omega)
   have d:=jN c.key.toNat (by omega)
   simp only [jT,xB,List.length_append];omega)
  rw [List.length_take] at hfl
  have hsl:(HD++(t.take k).flatMap jT).length≤300:=by
   rw [List.length_append]
   have:38*min k t.length≤38*6:=Nat.mul_le_mul (Nat.le_refl _) (by omega)
   omega
  clear hfl
  by_cases hlt:k < t.length
  ·obtain ⟨b,off,rfl,hbw,hcell⟩:=(Hl.out.later hB).at_ (List.ne_nil_of_length_pos (by omega))
   obtain ⟨g1,g2,g3,v4,g4,ca,cap2,rfl,_⟩:=hcell k hlt
   clear hcell g4
   have hki:(k:Int) < (t.length:Int):=by omega
   obtain ⟨hcn,⟨hck0,hck9⟩,hcy0,hcy9⟩:=Hcol.out t[k] (List.getElem_mem hlt)
   have HFT:=hid (UK jT t k hlt)
   have HCF:Hid (jT t[k]=xB (t[k]).name++uB (t[k]).kind.toNat++uB (t[k]).key.toNat):=rfl
   obtain ⟨kd,hkd⟩:∃ kd:Nat,(t[k]).kind=(kd:Int):=⟨(t[k]).kind.toNat,by omega⟩
   obtain ⟨ky,hky⟩:∃ ky:Nat,(t[k]).key=(ky:Int):=⟨(t[k]).key.toNat,by omega⟩
   rw [hkd,hky] at HCF
   rw [hkd] at g2
   rw [hky] at g3
   have hkd9:kd≤9:=by omega
   have hky9:ky≤9:=by omega
   simp only [Int.toNat_natCast] at HCF
   clear hck0 hck9 hcy0 hcy9 hkd hky
   generalize (t[k]).name=nm at *
   have hxl:(xB nm).length≤20:=by have:=jN nm.length (by omega);simp only [xB,List.length_append];omega
   have hk1:=jN kd (by omega)
   have hk2:=jN ky (by omega)
   have v1:IntKind.u64.wrap (kd:Int)=(kd:Int):=Jc (by omega) (by omega)
   have v2:IntKind.u64.wrap (ky:Int)=(ky:Int):=Jc (by omega) (by omega)
   have HT:Hid (∀ w',Calls Tryz.prog 146 #[strB nm] w' fun e w2=>e=.returned (strB (xB nm))∧Below w'.heap.size w' w2):=fun w'=>Tu nm w' (by omega)
   have HAP:Hid (HD++(t.take (k+1)).flatMap jT=HD++(t.take k).flatMap jT++xB nm++uB kd++uB ky):=by show _=_;rw [HFT.out,HCF.out];simp
   generalize HD++(t.take k).flatMap jT=S0 at *
   have q1:¬ (9223372036854775807 < S0.length+(xB nm).length):=by omega
   have q2:¬ (9223372036854775807 < S0.length+(xB nm).length+(uB kd).length):=by omega
   have q3:¬ (9223372036854775807 < S0.length+(xB nm).length+(uB kd).length+(uB ky).length):=by omega
   go_wp2_with fail
   go_region_held3 (fun w'=>w'.cell? ⟨b,off+k*4,none⟩=some (strB nm)∧w'.cell? ⟨b,off+k*4+1,none⟩=some (.int .i64 (kd:Int))∧w'.cell? ⟨b,off+k*4+2,none⟩=some (.int .i64 (ky:Int)))
    (first|exact ⟨(hb8.cell (p:=⟨b,_,none⟩) hbw8).trans z1,(hb8.cell (p:=⟨b,_,none⟩) hbw8).trans z2,(hb8.cell (p:=⟨b,_,none⟩) hbw8).trans z3⟩|exact ⟨z1,z2,z3⟩|exact ⟨y1,y2,y3⟩|exact ⟨g1,g2,g3⟩)
    (first
     | (go_at_call 146;refine (HT.out _).mono ?_;rintro e w6 ⟨rfl,hb6⟩;replace hb6:=ji hb6;have y1:=(hb6.cell (p:=⟨b,_,none⟩) hbw).trans g1;have y2:=(hb6.cell (p:=⟨b,_,none⟩) hbw).trans g2;have y3:=(hb6.cell (p:=⟨b,_,none⟩) hbw).trans g3;have hbw7:=Nat.lt_of_lt_of_le hbw hb6.size)
     | (go_at_call_of 147 (Value.int IntKind.u64 (kd:Int));refine (HU.out kd _ (by omega)).mono ?_;rintro e w7 ⟨rfl,hb7⟩;have z1:=(hb7.cell (p:=⟨b,_,none⟩) hbw7).trans y1;have z2:=(hb7.cell (p:=⟨b,_,none⟩) hbw7).trans y2;have z3:=(hb7.cell (p:=⟨b,_,none⟩) hbw7).trans y3;have hbw8:=Nat.lt_of_lt_of_le hbw7 hb7.size)
     | (go_at_call_of 147 (Value.int IntKind.u64 (ky:Int));refine (HU.out ky _ (by omega)).mono ?_;rintro e w8 ⟨rfl,hb8⟩))
   have hB6:=hB.trans (hb6.mono hB.size)
   have hB7:=hB6.trans (hb7.mono hB6.size)
   have HB8:=hid (hB7.trans (hb8.mono hB7.size))
   clear g1 g2 g3 y1 y2 y3 z1 z2 z3 hb6 hb7 hb8 hB6 hB7 hB v1 v2
   simp only [xe]
   rw [← HAP.out]
   clear q1 q2 q3
   go_wp2
   go_roundw
   case rel=>exact ⟨k+1,by omega,by go_num,rfl,HB8.out⟩
   case measure=>simp [intOf];omega
  ·have hke:k=t.length:=by omega
   subst hke
   rw [List.take_length]
   rw [List.take_length] at hsl
   generalize hHD2:HD++t.flatMap jT=HD2 at *
   have HHD2:=hid hHD2
   have HB:=hid hB
   clear hHD2 hB
   go_wp2_with fail
   go_loopw [9,11] (fun v i wr=>∃ m:Nat,m≤places.length∧i=.int .i64 (m:Int)∧v=strB (HD2++(places.take m).flatMap uB)∧Below w.heap.size w wr) (fun _ i _=>places.length - (intOf i).toNat)
   case atStart=>exact ⟨0,Nat.zero_le _,rfl,by simp,HB.out⟩
   case round =>
    clear HB
    obtain ⟨m,hml,rfl,rfl,hB⟩:=hrel
    have hpl2:=NY uB 10 (places.take m) (fun x hx=>jN x (by have:=Hpb.out x (List.mem_of_mem_take hx);omega))
    have hsl2:(HD2++(places.take m).flatMap uB).length≤4000:=by
     rw [List.length_append]
     rw [List.length_take] at hpl2
     have:10*min m places.length≤10*360:=Nat.mul_le_mul (Nat.le_refl _) (by omega)
     omega
    clear hpl2
    by_cases hlm:m < places.length
    ·obtain ⟨g,rfl,hgw,hcm⟩:=Hpl.out m hlm
     have cm:=(hB.cell (p:=⟨g,m,none⟩) hgw).trans hcm
     have hmi:(m:Int) < (places.length:Int):=by omega
     have hpx:=Hpb.out places[m] (List.getElem_mem hlm)
     have HFT:=hid (UK uB places m hlm)
     generalize places[m]=pl at *
     have v1:IntKind.u64.wrap (pl:Int)=(pl:Int):=Jc (by omega) (by omega)
     have hul:=jN pl (by omega)
     have HAP:Hid (HD2++(places.take (m+1)).flatMap uB=HD2++(places.take m).flatMap uB++uB pl):=by show _=_;rw [HFT.out];simp
     generalize HD2++(places.take m).flatMap uB=S0 at *
     clear hcm
     go_wp2_with fail
     refine (HU.out pl _ (by omega)).mono ?_
     rintro e w6 ⟨rfl,hb6⟩
     have HB6:=hid (hB.trans (hb6.mono hB.size))
     clear hB hb6 cm v1
     go_wp2_with fail
     go_roundw
     case rel=>exact ⟨m+1,by omega,by go_num,by rw [HAP.out];simp [xe],HB6.out⟩
     case measure=>simp [intOf];omega
    ·have hme:m=places.length:=by omega
     subst hme
     rw [List.take_length]
     go_wp2
     go_ret
     exact ⟨qt (by rw [← HHD2.out,← HHD.out,← HA4.out,← HA3.out,← HA2.out]),hB⟩
end
section
def JU (M:List ModF):List Value:=M.map fun m=>strB m.plain
def zQ (M:List ModF):List Value:=M.flatMap fun m=>[strB m.nonce,strB m.body]
theorem UG (M:List ModF) (m:ModF):JU (M++[m])=JU M++[strB m.plain]:=by simp [JU]
theorem KQ (M:List ModF) (m:ModF):zQ (M++[m])=zQ M++[strB m.nonce,strB m.body]:=by simp [zQ]
theorem qL {w:World} {b s n T:Nat} {e t:TypeId} {v:Value} {xs:List Value} {cs:Array Value} {fr:Nat × Nat} (h:w.ownsRow b e s v n xs) (hT:w.heap[T]?=some (.cells cs t fr)) (hne:e≠t):v.ownBlock=none∨v.ownBlock≠some T:=by
 rcases h.2 with ⟨rfl,_⟩|⟨g,cap,cur,rfl,_,hg,_⟩
 ·exact .inl rfl
 ·right
  intro e'
  injection e' with e'
  subst e'
  rw [hT] at hg
  injection hg with hg
  injection hg with h1 h2 h3
  exact hne h2.symm
theorem UZ {w:World} {base n:Nat} {sa:Option Addr} {sc:Nat} {L:List SpotB} (h:w.ownsRow base 161 6 (.slice sa n sc) n (Jz L)) (k:Nat) (hk:k < L.length) :
  ∃ g,sa=some ⟨g,0,none⟩∧g < w.heap.size∧w.cell? ⟨g,k*6,none⟩=some (strB [(L[k]).sort])∧w.cell? ⟨g,k*6+1,none⟩=some (.int .i64 ((L[k]).g:Int))∧w.cell? ⟨g,k*6+2,none⟩=some (.int .i64 ((L[k]).c:Int))∧w.cell? ⟨g,k*6+3,none⟩=some (.int .i64 ((L[k]).p:Int))∧w.cell? ⟨g,k*6+4,none⟩=some (.int .i64 ((L[k]).start:Int))∧w.cell? ⟨g,k*6+5,none⟩=some (.int .i64 ((L[k]).many:Int)):=by
 have hl:(Jz L).length=L.length*6:=XZ Ks 6 (fun _=>rfl) L
 have hn:n=L.length:=by have:=h.1;omega
 have at_:∀ i,i < 6→(Jz L)[k*6+i]?=(Ks L[k])[i]?:=fun i hi=>Xj Ks 6 (fun _=>rfl) L k i hk hi
 rcases h.2 with ⟨h0,h1⟩|⟨g,cap,cur,hv,_⟩
 ·omega
 ·simp only [Value.slice.injEq] at hv
  obtain ⟨rfl,_,rfl⟩:=hv
  refine ⟨g,rfl,(h.lt g rfl).2,?_,?_,?_,?_,?_,?_⟩
  ·rw [h.cellAt _ (by omega)];exact at_ 0 (by decide)
  ·rw [h.cellAt _ (by omega)];exact at_ 1 (by decide)
  ·rw [h.cellAt _ (by omega)];exact at_ 2 (by decide)
  ·rw [h.cellAt _ (by omega)];exact at_ 3 (by decide)
  ·rw [h.cellAt _ (by omega)];exact at_ 4 (by decide)
  ·rw [h.cellAt _ (by omega)];exact at_ 5 (by decide)
theorem Yq {w:World} {base n:Nat} {ca:Option Addr} {cc:Nat} {t:List ColB} (h:w.ownsRow base 61 4 (.slice ca n cc) n (zK t)) (k:Nat) (hk:k < t.length) :
  ∃ g,ca=some ⟨g,0,none⟩∧g < w.heap.size∧w.cell? ⟨g,k*4,none⟩=some (strB (t[k]).name)∧w.cell? ⟨g,k*4+1,none⟩=some (.int .i64 (t[k]).kind)∧w.cell? ⟨g,k*4+2,none⟩=some (.int .i64 (t[k]).key)∧w.cell? ⟨g,k*4+3,none⟩=some nilV:=by
 have hl:(zK t).length=t.length*4:=XZ Ib 4 (fun _=>rfl) t
 have hn:n=t.length:=by have:=h.1;omega
 have at_:∀ i,i < 4→(zK t)[k*4+i]?=(Ib t[k])[i]?:=fun i hi=>Xj Ib 4 (fun _=>rfl) t k i hk hi
 rcases h.2 with ⟨h0,h1⟩|⟨g,cap,cur,hv,_⟩
 ·omega
 ·simp only [Value.slice.injEq] at hv
  obtain ⟨rfl,_,rfl⟩:=hv
  refine ⟨g,rfl,(h.lt g rfl).2,?_,?_,?_,?_⟩
  ·rw [h.cellAt _ (by omega)];exact at_ 0 (by decide)
  ·rw [h.cellAt _ (by omega)];exact at_ 1 (by decide)
  ·rw [h.cellAt _ (by omega)];exact at_ 2 (by decide)
  ·rw [h.cellAt _ (by omega)];exact at_ 3 (by decide)
structure LAt (x w:World) (T q:Nat) (H:Value→Value→Array Value) (t:List ColB) (L:List SpotB) (cv sv pv ev xv:Value) (np:Nat) (M:List Value) (ne:Nat) (E:List Value) (parts:List UInt8) (st:Option (List UInt8)) (pl:List Nat):Prop where
 told:x.heap[T]?=some (.cells (H pv ev) 179 (0,0))
 cols:x.ownsRow w.heap.size 61 4 cv t.length (zK t)
 spots:x.ownsRow w.heap.size 161 6 sv L.length (Jz L)
 plains:x.ownsRow w.heap.size 9 1 pv np M
 seals:x.ownsRow w.heap.size 167 2 ev ne E
 spot:jS x q parts st
 places:x.ownsRow w.heap.size 3 1 xv pl.length (zA pl)
 below:Below w.heap.size w x
 tlow:w.heap.size≤T
 qlow:w.heap.size≤q
 apart:T≠q
section
variable {x y w:World} {T q:Nat} {H:Value→Value→Array Value} {t:List ColB} {L:List SpotB} {cv sv pv ev xv:Value} {np:Nat} {M:List Value} {ne:Nat} {E:List Value} {parts:List UInt8} {st:Option (List UInt8)} {pl:List Nat}
theorem LAt.later (h:LAt x w T q H t L cv sv pv ev xv np M ne E parts st pl) (hb:Below x.heap.size x y):LAt y w T q H t L cv sv pv ev xv np M ne E parts st pl :=
 ⟨jb hb h.told,jw h.cols hb,jw h.spots hb,jw h.plains hb,jw h.seals hb,JI h.spot (JV h.spot) (Kh hb) (fun b hb=>by cases hb),jw h.places hb,h.below.trans (hb.mono h.below.size),h.tlow,h.qlow,h.apart⟩
theorem LAt.alloc (h:LAt x w T q H t L cv sv pv ev xv np M ne E parts st pl) (o:Obj):LAt (x.alloc o) w T q H t L cv sv pv ev xv np M ne E parts st pl :=
 h.later ((Below.refl x.heap.size x).alloc (Nat.le_refl _) o)
theorem LAt.drew (h:LAt x w T q H t L cv sv pv ev xv np M ne E parts st pl):LAt x.drew w T q H t L cv sv pv ev xv np M ne E parts st pl :=
 h.later (qb (Below.refl x.heap.size x))
theorem LAt.read (h:LAt x w T q H t L cv sv pv ev xv np M ne E parts st pl) {st':Option (List UInt8)} (hg:x.grownBy y (some q)) (hs:jS y q parts st'):LAt y w T q H t L cv sv pv ev xv np M ne E parts st' pl:=by
 obtain ⟨at_,bad,hrow,_⟩:=h.spot
 exact ⟨qi hg h.told h.apart,h.cols.kept hg (qL h.cols hrow (by decide)),h.spots.kept hg (qL h.spots hrow (by decide)),h.plains.kept hg (qL h.plains hrow (by decide)),h.seals.kept hg (qL h.seals hrow (by decide)),hs,h.places.kept hg (qL h.places hrow (by decide)),h.below.trans (jg hg h.qlow h.below.size),h.tlow,h.qlow,h.apart⟩
theorem Je {x y w:World} {b:Option Nat} (h:Below w.heap.size w x) (hg:x.grownBy y b) (hb:∀ k,b=some k→w.heap.size≤k):Below w.heap.size w y :=
 h.trans ⟨hg.os,hg.tape,hg.output,hg.size,fun k hk=>hg.block k (Nat.lt_of_lt_of_le hk h.size) (fun e=>by have:=hb k e.symm;omega)⟩
theorem Uv {x y:World} {b e s n q:Nat} {v:Value} {xs:List Value} {parts:List UInt8} {st:Option (List UInt8)} (h:jS x q parts st) (hg:x.grownBy y v.ownBlock) (ho:x.ownsRow b e s v n xs) (he:243≠e):jS y q parts st:=by
 obtain ⟨at_,bad,hrow,hat,hst⟩:=h
 exact ⟨at_,bad,jq hg ho hrow he,hat,hst⟩
theorem LAt.put (h:LAt x w T q H t L cv sv pv ev xv np M ne E parts st pl) {v:Value} {pl':List Nat} (hg:x.grownBy y xv.ownBlock) (ho:y.ownsRow w.heap.size 3 1 v pl'.length (zA pl')):LAt y w T q H t L cv sv pv ev v np M ne E parts st pl' :=
 ⟨jq hg h.places h.told (by decide),h.cols.kept hg (qc h.cols h.places (by decide)),h.spots.kept hg (qc h.spots h.places (by decide)),h.plains.kept hg (qc h.plains h.places (by decide)),h.seals.kept hg (qc h.seals h.places (by decide)),Uv h.spot hg h.places (by decide),ho,Je h.below hg (fun k hk=>(h.places.lt k hk).1),h.tlow,h.qlow,h.apart⟩
theorem LAt.plain (h:LAt x w T q H t L cv sv pv ev xv np M ne E parts st pl) {v:Value} {n':Nat} {M':List Value} (hg:x.grownBy y pv.ownBlock) (ho:y.ownsRow w.heap.size 9 1 v n' M') (hH:∀ a b v',(H a b).setIfInBounds 7 v'=H v' b):LAt (y.setCell ⟨T,7,none⟩ v) w T q H t L cv sv v ev xv n' M' ne E parts st pl:=by
 have hT:=jq hg h.plains h.told (by decide)
 have hc:=h.cols.kept hg (qc h.cols h.plains (by decide))
 have hs:=h.spots.kept hg (qc h.spots h.plains (by decide))
 have he:=h.seals.kept hg (qc h.seals h.plains (by decide))
 have hp:=h.places.kept hg (qc h.places h.plains (by decide))
 have hq:=Uv h.spot hg h.plains (by decide)
 have hB:=Je h.below hg (fun k hk=>(h.plains.lt k hk).1)
 have hset:=zS y T 7 v
 refine ⟨?_,hc.kept hset (qL hc hT (by decide)),hs.kept hset (qL hs hT (by decide)),ho.kept hset (qL ho hT (by decide)),he.kept hset (qL he hT (by decide)),xk hq hset (fun e=>h.apart e.symm),hp.kept hset (qL hp hT (by decide)),hB.trans (jg hset h.tlow hB.size),h.tlow,h.qlow,h.apart⟩
 rw [heap_setCell_same y T 7 _ _ v hT,hH]
theorem LAt.module (h:LAt x w T q H t L cv sv pv ev xv np M ne E parts st pl) {v:Value} {n':Nat} {E':List Value} (hg:x.grownBy y ev.ownBlock) (ho:y.ownsRow w.heap.size 167 2 v n' E') (hH:∀ a b v',(H a b).setIfInBounds 8 v'=H a v'):LAt (y.setCell ⟨T,8,none⟩ v) w T q H t L cv sv pv v xv np M n' E' parts st pl:=by
 have hT:=jq hg h.seals h.told (by decide)
 have hc:=h.cols.kept hg (qc h.cols h.seals (by decide))
 have hs:=h.spots.kept hg (qc h.spots h.seals (by decide))
 have he:=h.plains.kept hg (qc h.plains h.seals (by decide))
 have hp:=h.places.kept hg (qc h.places h.seals (by decide))
 have hq:=Uv h.spot hg h.seals (by decide)
 have hB:=Je h.below hg (fun k hk=>(h.seals.lt k hk).1)
 have hset:=zS y T 8 v
 refine ⟨?_,hc.kept hset (qL hc hT (by decide)),hs.kept hset (qL hs hT (by decide)),he.kept hset (qL he hT (by decide)),ho.kept hset (qL ho hT (by decide)),xk hq hset (fun e=>h.apart e.symm),hp.kept hset (qL hp hT (by decide)),hB.trans (jg hset h.tlow hB.size),h.tlow,h.qlow,h.apart⟩
 rw [heap_setCell_same y T 8 _ _ v hT,hH]
theorem zG {x:World} {b e s n B:Nat} {v:Value} {xs:List Value} (h:x.ownsRow b e s v n xs) (hB:x.heap.size≤B):v.ownBlock=none∨v.ownBlock≠some B:=by
 rcases hv:v.ownBlock with _|g
 ·exact .inl rfl
 ·refine .inr (fun e=>?_)
  have:=(h.lt g hv).2
  injection e with e
  omega
theorem LAt.later_row (h:LAt x w T q H t L cv sv pv ev xv np M ne E parts st pl) (B:Nat) (cs:Array Value) {old:Array Value} (hB:x.heap[B]?=some (.cells old 167 (0,0))) (hw:w.heap.size≤B) (hT:T≠B) (hq:q≠B) (he:ev.ownBlock=none∨ev.ownBlock≠some B):LAt (x.setRow B cs) w T q H t L cv sv pv ev xv np M ne E parts st pl:=by
 have hg:=Qy x B cs
 exact ⟨qi hg h.told hT,h.cols.kept hg (qL h.cols hB (by decide)),h.spots.kept hg (qL h.spots hB (by decide)),h.plains.kept hg (qL h.plains hB (by decide)),h.seals.kept hg he,xk h.spot hg hq,h.places.kept hg (qL h.places hB (by decide)),h.below.trans (jg hg hw h.below.size),h.tlow,h.qlow,h.apart⟩
theorem LAt.spotc {sg sc:Nat} (h:LAt x w T q H t L cv (.slice (some ⟨sg,0,none⟩) L.length sc) pv ev xv np M ne E parts st pl) (k:Nat) (hk:k < L.length):x.cell? ⟨sg,k*6,none⟩=some (strB [(L[k]).sort])∧x.cell? ⟨sg,k*6+2,none⟩=some (.int .i64 ((L[k]).c:Int)):=by
 obtain ⟨g,hg,_,h0,_,h2,_⟩:=UZ h.spots k hk
 simp only [Option.some.injEq,Addr.mk.injEq,and_true] at hg
 subst hg
 exact ⟨h0,h2⟩
theorem LAt.keyc {cg cc:Nat} (h:LAt x w T q H t L (.slice (some ⟨cg,0,none⟩) t.length cc) sv pv ev xv np M ne E parts st pl) (c:Nat) (hc:c < t.length):x.cell? ⟨cg,c*4+2,none⟩=some (.int .i64 (t[c]).key):=by
 obtain ⟨g,hg,_,_,_,h2,_⟩:=Yq h.cols c hc
 simp only [Option.some.injEq,Addr.mk.injEq,and_true] at hg
 subst hg
 exact h2
end
theorem Ye {t:List ColB} {parts:List UInt8} {L:List SpotB} {k at_:Nat} {bad:Bool} {s:SpotB} {pl:List Nat} {M:List ModF} {st st':Option (List UInt8)} {m:ModF} (hs:L[k]?=some s) (hM:qI t (some parts) (L.take k)=(M,st)) (hat:at_≤parts.length) (hst:st=if bad=true then none else some (parts.drop at_)) (hm:Kp (jk t s.c).key st=(m,st')) (h65:parts.length≤65000)
  (h1:pl.length=(jp t 4 true (L.take k) M).length) (h2:∀ x ∈ pl,x≤70000) (h3:∀ rest,st=some rest→pl=jp t 4 true (L.take k) M) :
  (pl++(if qE true (L.take k)=true then [4+at_] else [])).length=(jp t 4 true (L.take (k+1)) (M++[m])).length∧(∀ x ∈ pl++(if qE true (L.take k)=true then [4+at_] else []),x≤70000)∧∀ rest,st'=some rest→pl++(if qE true (L.take k)=true then [4+at_] else [])=jp t 4 true (L.take (k+1)) (M++[m]):=by
 have hk:k < L.length:=(List.getElem?_eq_some_iff.1 hs).1
 have hl:M.length=k:=by
  have:=RC t (some parts) (L.take k)
  rw [hM,List.length_take] at this
  simp only at this
  omega
 rw [Gr hs hl m]
 refine ⟨?_,?_,?_⟩
 ·rw [List.length_append,List.length_append,h1]
  split<;>rfl
 ·intro x hx
  rcases List.mem_append.1 hx with hx|hx
  ·exact h2 x hx
  ·split at hx
   ·simp at hx
    omega
   ·cases hx
 ·intro rest hr
  cases st with
  | none=>rw [RH] at hm;injection hm with _ hm;rw [hr] at hm;cases hm
  | some r =>
   rw [h3 r rfl]
   obtain ⟨_,hp,_⟩:=MC hM
   cases bad with
   | true=>cases hst
   | false =>
    simp at hst
    have hd:at_=(jl t (L.take k) M).length:=by
     have h4:=congrArg List.length hp
     rw [List.length_append,hst,List.length_drop] at h4
     omega
    rw [hd]
theorem Vn {t:List ColB}:∀ (L:List SpotB) (M:List ModF) (n:Nat) (b:Bool),(jp t n b L M).length≤L.length:=by
 intro L
 induction L with
 | nil=>intro M n b;simp [jp]
 | cons s L ih =>
  intro M n b
  cases M with
  | nil=>simp [jp]
  | cons m M =>
   have:=ih M (n+(qB (jk t s.c).key m).length) (decide (s.sort=77))
   simp only [jp,List.length_append,List.length_cons]
   split<;>simp<;>omega
theorem Eb {t:List ColB} {R C G P:Nat} {M:List ModF} (hM:M.length=(jC R C G P).length) (hG:1≤G) (hR:R≤60) (hC:C≤6):(jp t 4 true (jC R C G P) M).length≤360:=by
 rw [XB ⟨[],⟨0,0,0,false⟩,[],0⟩ [] _ _ _ _ ⟨[],[]⟩ hM]
 have h1:(zw ⟨[],⟨0,0,0,false⟩,[],0⟩ [] ⟨[],[]⟩ true (jC R C G P)).length=jW R G*C:=Zf _ _ _ _ _ _ _ _
 have h2:=Xg (n:=R) hG
 have h3:jW R G*C≤60*6:=Nat.mul_le_mul (by omega) hC
 omega
theorem RM {R C G P:Nat} (hG:1≤G) (hP:1≤P) (hG6:G≤60) (hR:R≤60) (hC:C≤6):(jC R C G P).length≤21960:=by
 have h1:=Ru R C G P (jW R G) hP hG6 hC
 have h2:=Xg (n:=R) hG
 unfold jC
 omega
def ToldAt (w:World) (T base:Nat) (S:SheetF):Prop :=
 ∃ cv sv pv ev,w.heap[T]?=some (.cells (toldC (S.rows:Int) S.plan.group S.plan.page S.plan.foot cv sv pv ev) 179 (0,0))∧w.ownsRow base 61 4 cv S.cols.length (zK S.cols)∧w.ownsRow base 161 6 sv (qy S).length (Jz (qy S))∧w.ownsRow base 9 1 pv S.mods.length (JU S.mods)∧w.ownsRow base 167 2 ev S.mods.length (zQ S.mods)
def LD (f:FormF) (footer:List UInt8) (w:World) (e:Ending) (w':World):Prop :=
 Below w.heap.size w w'∧((Gx f.foot f.parts footer=none∧∃ v,e=.returned (.tuple #[v,.bool false]))∨∃ S T,Gx f.foot f.parts footer=some S∧e=.returned (.tuple #[.pointer (some ⟨T,0,none⟩),.bool true])∧ToldAt w' T w.heap.size S)
theorem Tryz.infoModule:(Tryz.prog.info? 167).map (fun i=>(i.zero,i.size,i.bytes))=some (some (.agg #[.string ⟨#[]⟩,.string ⟨#[]⟩]),2,32):=by kernel_rfl
end
section
theorem ToldAt.later {w x:World} {T base:Nat} {S:SheetF} (h:ToldAt w T base S) (hb:Below w.heap.size w x):ToldAt x T base S:=by
 obtain ⟨cv,sv,pv,ev,h1,h2,h3,h4,h5⟩:=h
 exact ⟨cv,sv,pv,ev,jb hb h1,jw h2 hb,jw h3 hb,jw h4 hb,jw h5 hb⟩
theorem MP {w:World} {base n:Nat} {pa:Option Addr} {pc:Nat} {M:List ModF} (h:w.ownsRow base 9 1 (.slice pa n pc) n (JU M)) (k:Nat) (hk:k < M.length) :
  ∃ g,pa=some ⟨g,0,none⟩∧g < w.heap.size∧w.cell? ⟨g,k,none⟩=some (strB (M[k]).plain):=by
 have hl:(JU M).length=M.length:=by simp [JU]
 have hn:n=M.length:=by have:=h.1;omega
 rcases h.2 with ⟨h0,h1⟩|⟨g,cap,cur,hv,_⟩
 ·omega
 ·simp only [Value.slice.injEq] at hv
  obtain ⟨rfl,_,rfl⟩:=hv
  refine ⟨g,rfl,(h.lt g rfl).2,?_⟩
  rw [h.cellAt _ (by omega)]
  simp [JU,hk]
theorem Sj {w:World} {base n:Nat} {ea:Option Addr} {ec:Nat} {M:List ModF} (h:w.ownsRow base 167 2 (.slice ea n ec) n (zQ M)) (k:Nat) (hk:k < M.length) :
  ∃ g,ea=some ⟨g,0,none⟩∧g < w.heap.size∧w.cell? ⟨g,k*2,none⟩=some (strB (M[k]).nonce)∧w.cell? ⟨g,k*2+1,none⟩=some (strB (M[k]).body):=by
 have hl:(zQ M).length=M.length*2:=XZ (fun m:ModF=>[strB m.nonce,strB m.body]) 2 (fun _=>rfl) M
 have hn:n=M.length:=by have:=h.1;omega
 have at_:∀ i,i < 2→(zQ M)[k*2+i]?=([strB (M[k]).nonce,strB (M[k]).body]:List Value)[i]?:=fun i hi=>Xj (fun m:ModF=>[strB m.nonce,strB m.body]) 2 (fun _=>rfl) M k i hk hi
 rcases h.2 with ⟨h0,h1⟩|⟨g,cap,cur,hv,_⟩
 ·omega
 ·simp only [Value.slice.injEq] at hv
  obtain ⟨rfl,_,rfl⟩:=hv
  refine ⟨g,rfl,(h.lt g rfl).2,?_,?_⟩
  ·rw [h.cellAt _ (by omega)];exact at_ 0 (by decide)
  ·rw [h.cellAt _ (by omega)];exact at_ 1 (by decide)
theorem PV (w:World) (A B C:Array Value) (ta tb tc:TypeId) :
  Below w.heap.size w (((w.alloc (.cells A ta)).alloc (.cells B tb)).alloc (.cells C tc))∧(((w.alloc (.cells A ta)).alloc (.cells B tb)).alloc (.cells C tc)).heap[w.heap.size]?=some (.cells A ta (0,0))∧(((w.alloc (.cells A ta)).alloc (.cells B tb)).alloc (.cells C tc)).heap[w.heap.size+1]?=some (.cells B tb (0,0))∧(((w.alloc (.cells A ta)).alloc (.cells B tb)).alloc (.cells C tc)).heap[w.heap.size+2]?=some (.cells C tc (0,0)):=by
 obtain ⟨hb,_,h0,h1⟩:=JQ w A ta B tb
 obtain ⟨hb2,_,_,h2⟩:=qg ((w.alloc (.cells A ta)).alloc (.cells B tb)) C tc
 have hs:((w.alloc (.cells A ta)).alloc (.cells B tb)).heap.size=w.heap.size+2:=by simp
 rw [hs] at h2
 exact ⟨hb.trans (hb2.mono hb.size),jb hb2 h0,jb hb2 h1,h2⟩
theorem Ui {w:World} {q:Nat} {a b c d e:Value} {t:TypeId} (hh:w.heap[q]?=some (.cells #[a,b,c,d,e] t (0,0))) :
  w.cell? ⟨q,0,none⟩=some a∧w.cell? ⟨q,1,none⟩=some b∧w.cell? ⟨q,2,none⟩=some c∧w.cell? ⟨q,3,none⟩=some d∧w.cell? ⟨q,4,none⟩=some e:=by
 refine ⟨?_,?_,?_,?_,?_⟩<;>rw [cell_of_row w q _ _ _ (0,0) hh]<;>rfl
theorem JS {w:World} {q:Nat} {a b c d e f:Value} {t:TypeId} (hh:w.heap[q]?=some (.cells #[a,b,c,d,e,f] t (0,0))) :
  w.cell? ⟨q,0,none⟩=some a∧w.cell? ⟨q,1,none⟩=some b∧w.cell? ⟨q,2,none⟩=some c∧w.cell? ⟨q,3,none⟩=some d∧w.cell? ⟨q,4,none⟩=some e∧w.cell? ⟨q,5,none⟩=some f:=by
 refine ⟨?_,?_,?_,?_,?_,?_⟩<;>rw [cell_of_row w q _ _ _ (0,0) hh]<;>rfl
theorem KI {w:World} {q:Nat} {a b c d:Value} {t:TypeId} (hh:w.heap[q]?=some (.cells #[a,b,c,d] t (0,0))) :
  w.cell? ⟨q,0,none⟩=some a∧w.cell? ⟨q,1,none⟩=some b∧w.cell? ⟨q,2,none⟩=some c∧w.cell? ⟨q,3,none⟩=some d:=by
 refine ⟨?_,?_,?_,?_⟩<;>rw [cell_of_row w q _ _ _ (0,0) hh]<;>rfl
abbrev found0:Array Value:=#[Value.string { data:=#[] },.int .i64 0,.int .i64 0,.int .i64 0,nilV]
structure CAt (x w:World) (col fnd:Array Value) (cv:Value) (cells:List CellB) (sv:Value) (n:Nat) (xs:List Value):Prop where
 below:Below w.heap.size w x
 b0:x.heap[w.heap.size]?=some (.cells found0 91 (0,0))
 b1:x.heap[w.heap.size+1]?=some (.cells col 61 (0,0))
 b2:x.heap[w.heap.size+2]?=some (.cells fnd 91 (0,0))
 cellrow:x.ownsRow (w.heap.size+3) 58 3 cv cells.length (jG cells)
 sealrow:x.ownsRow (w.heap.size+3) 40 4 sv n xs
 one:∀ u ∈ xs,u.oneCell'=true
section
variable {x y w:World} {col fnd:Array Value} {cv:Value} {cells:List CellB} {sv:Value} {n:Nat} {xs:List Value}
theorem CAt.size (h:CAt x w col fnd cv cells sv n xs):w.heap.size+3≤x.heap.size:=Nat.succ_le_of_lt (Array.getElem?_eq_some_iff.1 h.b2).1
theorem CAt.later (h:CAt x w col fnd cv cells sv n xs) (hb:Below x.heap.size x y):CAt y w col fnd cv cells sv n xs :=
 ⟨h.below.trans (hb.mono h.below.size),jb hb h.b0,jb hb h.b1,jb hb h.b2,jw h.cellrow hb,jw h.sealrow hb,h.one⟩
theorem CAt.alloc (h:CAt x w col fnd cv cells sv n xs) (o:Obj):CAt (x.alloc o) w col fnd cv cells sv n xs :=
 h.later ((Below.refl x.heap.size x).alloc (Nat.le_refl _) o)
theorem qY {x y:World} {v:Value} {b e s m q:Nat} {zs:List Value} {o:Obj} (hg:x.grownBy y v.ownBlock) (ho:x.ownsRow b e s v m zs) (h:x.heap[q]?=some o) (hq:q < b):y.heap[q]?=some o:=by
 rw [hg.block q (Array.getElem?_eq_some_iff.1 h).1 (fun e=>by have:=(ho.lt q e.symm).1;omega)]
 exact h
theorem CAt.cellsUp (h:CAt x w col fnd cv cells sv n xs) {cv':Value} {cells':List CellB} (hg:x.grownBy y cv.ownBlock) (ho:y.ownsRow (w.heap.size+3) 58 3 cv' cells'.length (jG cells')):CAt y w col fnd cv' cells' sv n xs :=
 ⟨Je h.below hg (fun k hk=>by have:=(h.cellrow.lt k hk).1;omega),qY hg h.cellrow h.b0 (by omega),qY hg h.cellrow h.b1 (by omega),qY hg h.cellrow h.b2 (by omega),ho,h.sealrow.kept hg (qc h.sealrow h.cellrow (by decide)),h.one⟩
theorem CAt.sealUp (h:CAt x w col fnd cv cells sv n xs) {sv':Value} {n':Nat} {xs':List Value} (hg:x.grownBy y sv.ownBlock) (ho:y.ownsRow (w.heap.size+3) 40 4 sv' n' xs') (h1:∀ u ∈ xs',u.oneCell'=true):CAt y w col fnd cv cells sv' n' xs' :=
 ⟨Je h.below hg (fun k hk=>by have:=(h.sealrow.lt k hk).1;omega),qY hg h.sealrow h.b0 (by omega),qY hg h.sealrow h.b1 (by omega),qY hg h.sealrow h.b2 (by omega),h.cellrow.kept hg (qc h.cellrow h.sealrow (by decide)),ho,h1⟩
theorem Jk {x:World} {b e s m B:Nat} {v:Value} {zs:List Value} (h:x.ownsRow b e s v m zs) (hB:B < b):v.ownBlock=none∨v.ownBlock≠some B:=by
 rcases hv:v.ownBlock with _|g
 ·exact .inl rfl
 ·refine .inr (fun e=>?_)
  have:=(h.lt g hv).1
  injection e with e
  omega
theorem CAt.rowB (h:CAt x w col fnd cv cells sv n xs) (B:Nat) (cs:Array Value) (hw:w.heap.size+3≤B) (h1:cv.ownBlock=none∨cv.ownBlock≠some B) (h2:sv.ownBlock=none∨sv.ownBlock≠some B):CAt (x.setRow B cs) w col fnd cv cells sv n xs:=by
 have hg:=Qy x B cs
 exact ⟨h.below.trans (jg hg (by omega) h.below.size),qi hg h.b0 (by omega),qi hg h.b1 (by omega),qi hg h.b2 (by omega),h.cellrow.kept hg h1,h.sealrow.kept hg h2,h.one⟩
theorem CAt.setF (h:CAt x w col fnd cv cells sv n xs) (i:Nat) (v:Value):CAt (x.setCell ⟨w.heap.size+2,i,none⟩ v) w col (fnd.setIfInBounds i v) cv cells sv n xs:=by
 have hg:=zS x (w.heap.size+2) i v
 exact ⟨h.below.trans (jg hg (by omega) h.below.size),qi hg h.b0 (by omega),qi hg h.b1 (by omega),heap_setCell_same x _ i _ _ v h.b2,h.cellrow.kept hg (Jk h.cellrow (by omega)),h.sealrow.kept hg (Jk h.sealrow (by omega)),h.one⟩
end
theorem Au {pre:List UInt8} {r:List KeyB} {key:Int} {s:SpotB} {m:ModF} {p:List UInt8} (hm:xW key m) (h:Ja pre r key s m=some p):p.length≤65535:=by
 unfold Ja at h
 rcases hm with ⟨h0,_,_,h3⟩|⟨h0,_,_,_,h4⟩
 ·rw [if_pos h0] at h
  injection h with h
  subst h
  exact h3
 ·rw [if_neg h0] at h
  unfold qo at h
  split at h
  ·injection h with h
   subst h
   rw [zE,List.length_take]
   omega
  ·cases h
theorem Ag {t:List ColB}:∀ {L:List SpotB} {M:List ModF},ModsOk t L M→∀ k (hk:k < L.length) (hm:k < M.length),xW (jk t (L[k]).c).key M[k]:=by
 intro L M h
 induction h with
 | nil=>intro k hk;exact absurd hk (by simp)
 | cons h0 _ ih =>
  intro k hk hm
  cases k with
  | zero=>exact h0
  | succ k=>exact ih k (by simpa using hk) (by simpa using hm)
theorem Mv {foot:Nat} {parts footer:List UInt8} {S:SheetF} (h:SheetOk foot parts footer S) {c:Nat} (hc:c < S.cols.length):((S.cols[c]).kind=0∨(S.cols[c]).kind=1)∧0≤(S.cols[c]).key∧(S.cols[c]).key≤9:=by
 have hh:=h.heads
 simp only [jU,Bool.and_eq_true] at hh
 exact (QB (QP hh.1 (Nat.le_refl _) c hc).1).2
theorem EY {R C G P:Nat} (hC1:1≤C) (hr:R≤60) (hG:1≤G) (hP:1≤P) (hG6:G≤60) (hC:C≤6):∀ s ∈ jC R C G P,s.g < 60∧s.c < 60∧s.p < 60∧s.start < 60∧s.many≤60:=by
 intro s hs
 have hl:(List.replicate C (⟨[],0,0,List.replicate R ⟨true,0,[]⟩⟩:ColB)).length=C:=by simp
 have hR:R=Nk (List.replicate C (⟨[],0,0,List.replicate R ⟨true,0,[]⟩⟩:ColB)):=by
  obtain ⟨D,rfl⟩:∃ D,C=D+1:=⟨C - 1,by omega⟩
  simp [Nk,List.replicate_succ]
 have h:=TV (t:=List.replicate C (⟨[],0,0,List.replicate R ⟨true,0,[]⟩⟩:ColB)) hR hr hG hP hG6 (by simpa using hC) s (by rw [hl];exact hs)
 exact h.few
def LQ (F:FoundB) (w:World) (e:Ending) (w':World):Prop :=
 Below w.heap.size w w'∧∃ u sv n xs,e=.returned (.tuple #[.agg #[strB F.name,.int .i64 F.kind,.int .i64 F.key,.int .i64 F.state,u],sv])∧w'.ownsRow w.heap.size 58 3 u F.cells.length (jG F.cells)∧(∀ x ∈ F.cells,qw x)∧w'.ownsRow w.heap.size 40 4 sv n xs∧n≤21960∧∀ u ∈ xs,u.oneCell'=true
end
end Go.Proofs.YthhpbhpfagoapaaGreat
