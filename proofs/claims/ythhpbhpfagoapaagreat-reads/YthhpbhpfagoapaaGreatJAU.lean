import Derived.Test.YthhpbhpfagoapaaGreatJAA
import Derived.Test.YthhpbhpfagoapaaGreatJAR
import Derived.Test.YthhpbhpfagoapaaGreatJAY
import Derived.Test.YthhpbhpfagoapaaGreatJAZ
import Derived.Test.YthhpbhpfagoapaaGreatJAV
import Derived.Test.YthhpbhpfagoapaaGreatJAN
import Derived.Test.YthhpbhpfagoapaaGreatJAH
import Derived.Test.YthhpbhpfagoapaaGreatJBB
import Derived.Deep.RegionLaw
import Derived.Deep.RegionLawGrows
import Derived.Deep.CutBlock
namespace Go.Proofs.YthhpbhpfagoapaaGreat
set_option linter.unusedVariables false
set_option linter.unusedSimpArgs false
set_option maxRecDepth 100000
set_option maxHeartbeats 16000000
open Go.RowKit
section
theorem Yj {w:World} {q:Nat} {x y z u:Value} {t:TypeId} (h:w.heap[q]?=some (.cells #[x,y,z,u] t (0,0))):w.cell? ⟨q,0,none⟩=some x∧w.cell? ⟨q,1,none⟩=some y∧w.cell? ⟨q,2,none⟩=some z:=Ht h
theorem Is (rows G P F:Nat) (told:Bool) (a:Option Addr) (cap:Nat) (t:List ColB) (pa:Option Addr) (pc:Nat) (places:List Nat) (w:World)
  (hr:rows≤60) (hG:G≤60) (hP:P≤60) (hF:F≤9) (ht:t.length≤6) (hps:places.length≤360) (hpb:∀ x ∈ places,x≤80000000)
  (hcol:∀ c ∈ t,c.name.length≤8∧(0≤c.kind∧c.kind≤9)∧(0≤c.key∧c.key≤9)) (hl:LiesT w a t)
  (hpl:∀ j (hj:j < places.length),∃ g,pa=some ⟨g,0,none⟩∧g < w.heap.size∧w.cell? ⟨g,j,none⟩=some (.int .i64 ((places[j]:Nat):Int))) :
  Calls Tryz.prog 87 #[.int .i64 (rows:Int),.agg #[.int .i64 (G:Int),.int .i64 (P:Int),.int .i64 (F:Int),.bool told],.slice a t.length cap,.slice pa places.length pc] w
   fun e w'=>e=.returned (strB (uB rows++uB G++uB P++uB F++uB t.length++t.flatMap qa++places.flatMap uB))∧Below w.heap.size w w':=by
 have Hl:=hid hl
 have Hpl:=hid hpl
 have Hcol:=hid hcol
 have Hpb:=hid hpb
 clear hl hpl hcol hpb
 have hu1:=jM rows (by omega)
 have hu2:=jM G (by omega)
 have hu3:=jM P (by omega)
 have hu4:=jM F (by omega)
 have hu5:=jM t.length (by omega)
 have v1:IntKind.u64.wrap (rows:Int)=(rows:Int):=Jj (by omega) (by omega)
 have v2:IntKind.u64.wrap (G:Int)=(G:Int):=Jj (by omega) (by omega)
 have v3:IntKind.u64.wrap (P:Int)=(P:Int):=Jj (by omega) (by omega)
 have v4:IntKind.u64.wrap (F:Int)=(F:Int):=Jj (by omega) (by omega)
 have v5:IntKind.u64.wrap (t.length:Int)=(t.length:Int):=Jj (by omega) (by omega)
 have HU:Hid (∀ (n:Nat) w',n≤80000000→Calls Tryz.prog 147 #[.int .u64 (n:Int)] w' fun e w2=>e=.returned (strB (uB n))∧Below w'.heap.size w' w2):=fun n w' h=>MK n w' (by omega)
 have q1:¬ (9223372036854775807 < (uB rows).length+(uB G).length):=by omega
 have q2:¬ (9223372036854775807 < (uB rows).length+(uB G).length+(uB P).length):=by omega
 have q3:¬ (9223372036854775807 < (uB rows).length+(uB G).length+(uB P).length+(uB F).length):=by omega
 have q4:¬ (9223372036854775807 < (uB rows).length+(uB G).length+(uB P).length+(uB F).length+(uB t.length).length):=by omega
 go_enter Tryz.func87,Tryz.ntmps87
 go_wp2_with fail
 obtain ⟨hb0,hs0,_,hh0⟩:=qm w #[.int .i64 (G:Int),.int .i64 (P:Int),.int .i64 (F:Int),.bool told] 24
 have Hb0:=hid hb0
 clear hb0
 generalize w.alloc _=wb at *
 go_region_held3 (fun w'=>w'.cell? ⟨w.heap.size,0,none⟩=some (.int .i64 (G:Int))∧w'.cell? ⟨w.heap.size,1,none⟩=some (.int .i64 (P:Int))∧w'.cell? ⟨w.heap.size,2,none⟩=some (.int .i64 (F:Int)))
  (first|exact Yj Y5|exact Yj Y4|exact Yj Y3|exact Yj Y2|exact Yj Y1|exact Yj hh0)
  (first
   | (go_at_call_of 147 (Value.int IntKind.u64 (rows:Int));refine (HU.out rows _ (by omega)).mono ?_;rintro e w1 ⟨rfl,hb1⟩;replace hb1:=ji hb1;have Y1:=jb hb1 hh0)
   | (go_at_call_of 147 (Value.int IntKind.u64 (G:Int));refine (HU.out G _ (by omega)).mono ?_;rintro e w2 ⟨rfl,hb2⟩;have Y2:=jb hb2 Y1)
   | (go_at_call_of 147 (Value.int IntKind.u64 (P:Int));refine (HU.out P _ (by omega)).mono ?_;rintro e w3 ⟨rfl,hb3⟩;have Y3:=jb hb3 Y2)
   | (go_at_call_of 147 (Value.int IntKind.u64 (F:Int));refine (HU.out F _ (by omega)).mono ?_;rintro e w4 ⟨rfl,hb4⟩;have Y4:=jb hb4 Y3)
   | (go_at_call 147;refine (HU.out t.length _ (by omega)).mono ?_;rintro e w5 ⟨rfl,hb5⟩;have Y5:=jb hb5 Y4))
 have hB1:=Hb0.out.trans (hb1.mono Hb0.out.size)
 have hB2:=hB1.trans (hb2.mono hB1.size)
 have hB3:=hB2.trans (hb3.mono hB2.size)
 have hB4:=hB3.trans (hb4.mono hB3.size)
 have HB5:=hid (hB4.trans (hb5.mono hB4.size))
 have hHL:(uB rows++uB G++uB P++uB F++uB t.length).length≤50:=by simp only [ab];omega
 clear Y1 Y2 Y3 Y4 Y5 hb1 hb2 hb3 hb4 hb5 hB1 hB2 hB3 hB4 v1 v2 v3 v4 v5 hu1 hu2 hu3 hu4 hu5 hh0 q1 q2 q3 q4
 go_simp
 simp only [xo]
 generalize hHD:uB rows++uB G++uB P++uB F++uB t.length=HD at *
 have HHD:=hid hHD
 clear hHD
 generalize hA4:uB rows++uB G++uB P++uB F=A4 at *
 have HA4:=hid hA4
 clear hA4
 generalize hA3:uB rows++uB G++uB P=A3 at *
 have HA3:=hid hA3
 clear hA3
 generalize hA2:uB rows++uB G=A2 at *
 have HA2:=hid hA2
 clear hA2
 go_wp2_with fail
 go_loopw [9,10] (fun v i wr=>∃ k:Nat,k≤t.length∧i=.int .i64 (k:Int)∧v=strB (HD++(t.take k).flatMap qa)∧Below w.heap.size w wr) (fun _ i _=>t.length - (intOf i).toNat)
 case atStart=>exact ⟨0,ah _,rfl,by simp,HB5.out⟩
 case round =>
  clear HB5
  obtain ⟨k,hkl,rfl,rfl,hB⟩:=hrel
  have hfl:=KH qa 38 (t.take k) (fun c hc=>by
   obtain ⟨h1,h2,h3⟩:=Hcol.out c (bg hc)
   have a:=jM c.name.length (by omega)
   have b:=jM c.kind.toNat (by omega)
   have d:=jM c.key.toNat (by omega)
   simp only [qa,xB,ab];omega)
  rw [aq] at hfl
  have hsl:(HD++(t.take k).flatMap qa).length≤300:=by
   rw [ab]
   have:38*min k t.length≤38*6:=bx (ae _) (by omega)
   omega
  clear hfl
  by_cases hlt:k < t.length
  ·obtain ⟨b,off,rfl,hbw,hcell⟩:=(Hl.out.later hB).at_ (ai (by omega))
   obtain ⟨g1,g2,g3,v4,g4,ca,cap2,rfl,_⟩:=hcell k hlt
   clear hcell g4
   have hki:(k:Int) < (t.length:Int):=by omega
   obtain ⟨hcn,⟨hck0,hck9⟩,hcy0,hcy9⟩:=Hcol.out t[k] (al hlt)
   have HFT:=hid (Vm qa t k hlt)
   have HCF:Hid (qa t[k]=xB (t[k]).name++uB (t[k]).kind.toNat++uB (t[k]).key.toNat):=rfl
   obtain ⟨kd,hkd⟩:∃ kd:Nat,(t[k]).kind=(kd:Int):=⟨(t[k]).kind.toNat,by omega⟩
   obtain ⟨ky,hky⟩:∃ ky:Nat,(t[k]).key=(ky:Int):=⟨(t[k]).key.toNat,by omega⟩
   rw [hkd,hky] at HCF
   rw [hkd] at g2
   rw [hky] at g3
   have hkd9:kd≤9:=by omega
   have hky9:ky≤9:=by omega
   simp only [aY] at HCF
   clear hck0 hck9 hcy0 hcy9 hkd hky
   generalize (t[k]).name=nm at *
   have hxl:(xB nm).length≤20:=by have:=jM nm.length (by omega);simp only [xB,ab];omega
   have hk1:=jM kd (by omega)
   have hk2:=jM ky (by omega)
   have v1:IntKind.u64.wrap (kd:Int)=(kd:Int):=Jj (by omega) (by omega)
   have v2:IntKind.u64.wrap (ky:Int)=(ky:Int):=Jj (by omega) (by omega)
   have HT:Hid (∀ w',Calls Tryz.prog 146 #[strB nm] w' fun e w2=>e=.returned (strB (xB nm))∧Below w'.heap.size w' w2):=fun w'=>TL nm w' (by omega)
   have HAP:Hid (HD++(t.take (k+1)).flatMap qa=HD++(t.take k).flatMap qa++xB nm++uB kd++uB ky):=by show _=_;rw [HFT.out,HCF.out];simp
   generalize HD++(t.take k).flatMap qa=S0 at *
   have q1:¬ (9223372036854775807 < S0.length+(xB nm).length):=by omega
   have q2:¬ (9223372036854775807 < S0.length+(xB nm).length+(uB kd).length):=by omega
   have q3:¬ (9223372036854775807 < S0.length+(xB nm).length+(uB kd).length+(uB ky).length):=by omega
   go_wp2_with fail
   go_region_held3 (fun w'=>w'.cell? ⟨b,off+k*4,none⟩=some (strB nm)∧w'.cell? ⟨b,off+k*4+1,none⟩=some (.int .i64 (kd:Int))∧w'.cell? ⟨b,off+k*4+2,none⟩=some (.int .i64 (ky:Int)))
    (first|exact ⟨(hb8.cell (p:=⟨b,_,none⟩) hbw8).trans z1,(hb8.cell (p:=⟨b,_,none⟩) hbw8).trans z2,(hb8.cell (p:=⟨b,_,none⟩) hbw8).trans z3⟩|exact ⟨z1,z2,z3⟩|exact ⟨y1,y2,y3⟩|exact ⟨g1,g2,g3⟩)
    (first
     | (go_at_call 146;refine (HT.out _).mono ?_;rintro e w6 ⟨rfl,hb6⟩;replace hb6:=ji hb6;have y1:=(hb6.cell (p:=⟨b,_,none⟩) hbw).trans g1;have y2:=(hb6.cell (p:=⟨b,_,none⟩) hbw).trans g2;have y3:=(hb6.cell (p:=⟨b,_,none⟩) hbw).trans g3;have hbw7:=aa hbw hb6.size)
     | (go_at_call_of 147 (Value.int IntKind.u64 (kd:Int));refine (HU.out kd _ (by omega)).mono ?_;rintro e w7 ⟨rfl,hb7⟩;have z1:=(hb7.cell (p:=⟨b,_,none⟩) hbw7).trans y1;have z2:=(hb7.cell (p:=⟨b,_,none⟩) hbw7).trans y2;have z3:=(hb7.cell (p:=⟨b,_,none⟩) hbw7).trans y3;have hbw8:=aa hbw7 hb7.size)
     | (go_at_call_of 147 (Value.int IntKind.u64 (ky:Int));refine (HU.out ky _ (by omega)).mono ?_;rintro e w8 ⟨rfl,hb8⟩))
   have hB6:=hB.trans (hb6.mono hB.size)
   have hB7:=hB6.trans (hb7.mono hB6.size)
   have HB8:=hid (hB7.trans (hb8.mono hB7.size))
   clear g1 g2 g3 y1 y2 y3 z1 z2 z3 hb6 hb7 hb8 hB6 hB7 hB v1 v2
   simp only [xo]
   rw [← HAP.out]
   clear q1 q2 q3
   go_wp2
   go_roundw
   case rel=>exact ⟨k+1,by omega,by go_num,rfl,HB8.out⟩
   case measure=>simp [intOf];omega
  ·have hke:k=t.length:=by omega
   subst hke
   rw [aF]
   rw [aF] at hsl
   generalize hHD2:HD++t.flatMap qa=HD2 at *
   have HHD2:=hid hHD2
   have HB:=hid hB
   clear hHD2 hB
   go_wp2_with fail
   go_loopw [9,11] (fun v i wr=>∃ m:Nat,m≤places.length∧i=.int .i64 (m:Int)∧v=strB (HD2++(places.take m).flatMap uB)∧Below w.heap.size w wr) (fun _ i _=>places.length - (intOf i).toNat)
   case atStart=>exact ⟨0,ah _,rfl,by simp,HB.out⟩
   case round =>
    clear HB
    obtain ⟨m,hml,rfl,rfl,hB⟩:=hrel
    have hpl2:=KH uB 10 (places.take m) (fun x hx=>jM x (by have:=Hpb.out x (bg hx);omega))
    have hsl2:(HD2++(places.take m).flatMap uB).length≤4000:=by
     rw [ab]
     rw [aq] at hpl2
     have:10*min m places.length≤10*360:=bx (ae _) (by omega)
     omega
    clear hpl2
    by_cases hlm:m < places.length
    ·obtain ⟨g,rfl,hgw,hcm⟩:=Hpl.out m hlm
     have cm:=(hB.cell (p:=⟨g,m,none⟩) hgw).trans hcm
     have hmi:(m:Int) < (places.length:Int):=by omega
     have hpx:=Hpb.out places[m] (al hlm)
     have HFT:=hid (Vm uB places m hlm)
     generalize places[m]=pl at *
     have v1:IntKind.u64.wrap (pl:Int)=(pl:Int):=Jj (by omega) (by omega)
     have hul:=jM pl (by omega)
     have HAP:Hid (HD2++(places.take (m+1)).flatMap uB=HD2++(places.take m).flatMap uB++uB pl):=by show _=_;rw [HFT.out];simp
     generalize HD2++(places.take m).flatMap uB=S0 at *
     clear hcm
     go_wp2_with fail
     refine (HU.out pl _ (by omega)).mono ?_
     rintro e w6 ⟨rfl,hb6⟩
     have HB6:=hid (hB.trans (hb6.mono hB.size))
     clear hB hb6 cm v1
     go_wp2_with fail
     go_roundw
     case rel=>exact ⟨m+1,by omega,by go_num,by rw [HAP.out];simp [xo],HB6.out⟩
     case measure=>simp [intOf];omega
    ·have hme:m=places.length:=by omega
     subst hme
     rw [aF]
     go_wp2
     go_ret
     exact ⟨qC (by rw [← HHD2.out,← HHD.out,← HA4.out,← HA3.out,← HA2.out]),hB⟩
end
section
theorem TS (n size i:Nat) (w:World) (hn:n≤1000) (hs:size≤100) (hi:i≤100) :
  Calls Tryz.prog 144 #[.int .i64 (n:Int),.int .i64 (size:Int),.int .i64 (i:Int)] w fun e w'=>e=.returned (.int .i64 ((jv n size i:Nat):Int))∧w'=w:=by
 have hm:i*size≤100*100:=bx hi hs
 have HP:Hid (jv n size i=min size (n - i*size)):=rfl
 have hmul:IntKind.i64.wrap ((i:Int)*(size:Int))=((i*size:Nat):Int):=by rw [← Int.natCast_mul,IntKind.wrap_i64];omega
 generalize i*size=m at *
 have hsub:IntKind.i64.wrap ((n:Int) - (m:Int))=(n:Int) - (m:Int):=by rw [IntKind.wrap_i64];omega
 by_cases h1:n≤m
 ·have h1i:(n:Int) - (m:Int)≤0:=by omega
  go_enter Tryz.func144,Tryz.ntmps144
  go_wp2
  go_ret
  exact ⟨xm (by rw [HP.out];omega),rfl⟩
 ·have h1i:¬ (n:Int) - (m:Int)≤0:=by omega
  by_cases h2:size < n - m
  ·have h2i:(size:Int) < (n:Int) - (m:Int):=by omega
   go_enter Tryz.func144,Tryz.ntmps144
   go_wp2
   go_ret
   exact ⟨xm (by rw [HP.out];omega),rfl⟩
  ·have h2i:¬ (size:Int) < (n:Int) - (m:Int):=by omega
   go_enter Tryz.func144,Tryz.ntmps144
   go_wp2
   go_ret
   exact ⟨xm (by rw [HP.out];omega),rfl⟩
theorem Ss {w:World} {b b' e s n:Nat} {v:Value} {xs:List Value} (h:w.ownsRow b e s v n xs) (hb:b'≤b):w.ownsRow b' e s v n xs:=by
 obtain ⟨h1,h2⟩:=h
 refine ⟨h1,?_⟩
 rcases h2 with h2|⟨g,cap,cur,hv,hg,rest⟩
 ·exact .inl h2
 ·exact .inr ⟨g,cap,cur,hv,ar hb hg,rest⟩
def KJ (s:SpotB):List Value:=[strB [s.sort],.int .i64 (s.g:Int),.int .i64 (s.c:Int),.int .i64 (s.p:Int),.int .i64 (s.start:Int),.int .i64 (s.many:Int)]
def JB (l:List SpotB):List Value:=l.flatMap KJ
theorem GN (l:List SpotB) (s:SpotB):JB (l++[s])=JB l++KJ s:=by simp [JB]
theorem Tryz.infoSpot:(Tryz.prog.info? 161).map (fun i=>(i.zero,i.size,i.bytes))=some (some (.agg #[.string ⟨#[]⟩,.int .i64 0,.int .i64 0,.int .i64 0,.int .i64 0,.int .i64 0]),6,56):=by kernel_rfl
theorem MU (R C G P F:Nat) (told:Bool) (w:World) (hR:R≤60) (hC:C≤6) (hG1:1≤G) (hG6:G≤60) (hP1:1≤P) (hP6:P≤60) :
  Calls Tryz.prog 82 #[.int .i64 (R:Int),.int .i64 (C:Int),.agg #[.int .i64 (G:Int),.int .i64 (P:Int),.int .i64 (F:Int),.bool told]] w
   fun e w'=>∃ v,e=.returned v∧w'.ownsRow w.heap.size 161 6 v (jI R C G P).length (JB (jI R C G P))∧Below w.heap.size w w':=by
 obtain ⟨i0,hi,hz0,hz1,hz2⟩:=info_parts Tryz.infoSpot
 have HCL:=hid (fun k=>QE (n:=R) (size:=G) (i:=k) hG1)
 have hcle:=QH (n:=R) hG1
 have HSB:Hid (jI R C G P=jW R C G P (qb R G)):=rfl
 have Hpart:=hid TS
 go_enter Tryz.func82,Tryz.ntmps82
 go_wp2_with fail
 obtain ⟨hb0,hs0,hc0,hh0⟩:=qm w #[.int .i64 (G:Int),.int .i64 (P:Int),.int .i64 (F:Int),.bool told] 24
 have y0:=hc0 0
 have y1:=hc0 1
 simp only [bw,bm,bn] at y0 y1
 have Hb0:=hid hb0
 clear hc0 hh0 hb0
 generalize w.alloc _=w0 at *
 have Y0:=hid y0
 have Y1:=hid y1
 clear y0 y1
 go_loopw [7,8] (fun v i wr=>∃ g:Nat,g≤qb R G∧i=.int .i64 (g:Int)∧wr.ownsRow w0.heap.size 161 6 v (jW R C G P g).length (JB (jW R C G P g))∧Below w0.heap.size w0 wr) (fun _ i _=>qb R G - (intOf i).toNat)
 case atStart=>exact ⟨0,ah _,rfl,World.ownsRow_nil _ _ _ _,Below.refl _ _⟩
 case round =>
  obtain ⟨g,hgl,rfl,hown,hB⟩:=hrel
  have x0:=(hB.cell (p:=⟨w.heap.size,0,none⟩) hs0).trans Y0.out
  have x1:=(hB.cell (p:=⟨w.heap.size,1,none⟩) hs0).trans Y1.out
  have HPP:=hid (UY (n:=R) (size:=G) (i:=g) hG1)
  have hpl:=(Qf R G g).1
  have HSG:=hid (Qn R C G P g)
  have hsl:=VD R C G P g hP1 hG6 hC
  have hLt:=(HCL.out g)
  have HLt:=hid hLt
  clear hLt
  by_cases hlt:g < qb R G
  ·have hgp:0 < jv R G g:=HPP.out.2 (HLt.out.1 hlt)
   have hgG:g*G < R:=HLt.out.1 hlt
   have hmul:IntKind.i64.wrap ((g:Int)*(G:Int))=((g*G:Nat):Int):=by rw [← Int.natCast_mul,IntKind.wrap_i64];omega
   have hgpi:(0:Int) < ((jv R G g:Nat):Int):=by omega
   go_wp2_with fail
   refine (Hpart.out R G g _ (by omega) (by omega) (by omega)).mono ?_
   rintro e w1 ⟨rfl,rfl⟩
   go_wp2_with fail
   refine (Hpart.out R G g _ (by omega) (by omega) (by omega)).mono ?_
   rintro e w1 ⟨rfl,rfl⟩
   have Hown:=hid hown
   have HB:=hid hB
   clear hown hB x0 x1
   generalize hn0:jv R G g=n at *
   have Hn0:=hid hn0
   generalize hkG0:g*G=s0 at *
   have HkG0:=hid hkG0
   clear hn0 hkG0
   have hn6:n≤60:=by omega
   have hs60:s0 < 60:=by omega
   go_wp2_with fail
   go_loopw [7,10] (fun v i wr=>∃ c:Nat,c≤C∧i=.int .i64 (c:Int)∧wr.ownsRow w0.heap.size 161 6 v (jW R C G P g++ju R G P g c).length (JB (jW R C G P g++ju R G P g c))∧Below w0.heap.size w0 wr) (fun _ i _=>C - (intOf i).toNat)
   case atStart=>exact ⟨0,ah _,rfl,by simpa [ju] using Hown.out,HB.out⟩
   case round =>
    clear Hown HB
    obtain ⟨c,hcl,rfl,hown,hB⟩:=hrel
    have hgl2:=Ys R G P g c hP1 hG6
    have hlen0:(jW R C G P g++ju R G P g c).length≤366*60+366:=by rw [ab];omega
    by_cases hlc:c < C
    ·have hci:(c:Int) < (C:Int):=by omega
     have x0:=(hB.cell (p:=⟨w.heap.size,0,none⟩) hs0).trans Y0.out
     have HGS:Hid (jW R C G P g++ju R G P g (c+1)=(jW R C G P g++ju R G P g c)++(jo P g c s0 n (qb n P)++[⟨77,g,c,0,s0,n⟩])):=by
      show _=_
      rw [Qk,af]
      unfold jh
      rw [Hn0.out,HkG0.out]
     have Hown:=hid hown
     have HB:=hid hB
     have hwrap:IntKind.i64.wrap ((g:Int)*(G:Int))=(s0:Int):=hmul
     clear hown hB
     generalize jW R C G P g++ju R G P g c=L0 at *
     have hcle2:=QH (n:=n) hP1
     have HCL2:=hid (fun k=>QE (n:=n) (size:=P) (i:=k) hP1)
     go_wp2_with fail
     clear x0
     go_loopw [7,12] (fun v i wr=>∃ k:Nat,k≤qb n P∧i=.int .i64 (k:Int)∧wr.ownsRow w0.heap.size 161 6 v (L0++jo P g c s0 n k).length (JB (L0++jo P g c s0 n k))∧Below w0.heap.size w0 wr) (fun _ i _=>qb n P - (intOf i).toNat)
     case atStart=>exact ⟨0,ah _,rfl,by simpa [jo] using Hown.out,HB.out⟩
     case round =>
      clear Hown HB
      obtain ⟨k,hkl,rfl,hown,hB⟩:=hrel
      have x1:=(hB.cell (p:=⟨w.heap.size,1,none⟩) hs0).trans Y1.out
      have hLt2:=HCL2.out k
      have HPP2:=hid (UY (n:=n) (size:=P) (i:=k) hP1)
      have hpl2:=(Qf n P k).1
      have hpsl:(L0++jo P g c s0 n k).length≤L0.length+k:=by simp [jo]
      have HLt2:=hid hLt2
      clear hLt2
      by_cases hlk:k < qb n P
      ·have hkP:=HLt2.out.1 hlk
       have hpp:0 < jv n P k:=HPP2.out.2 hkP
       have hppi:(0:Int) < ((jv n P k:Nat):Int):=by omega
       have hmul2:IntKind.i64.wrap ((k:Int)*(P:Int))=((k*P:Nat):Int):=by rw [← Int.natCast_mul,IntKind.wrap_i64];omega
       have HSS:Hid (L0++jo P g c s0 n (k+1)=(L0++jo P g c s0 n k)++[⟨80,g,c,k,s0+k*P,jv n P k⟩]):=by
        show _=_
        rw [QZ,af]
       generalize L0++jo P g c s0 n k=L1 at *
       generalize hpn0:jv n P k=pn at *
       have Hpn0:=hid hpn0
       generalize hkp0:k*P=kP at *
       clear hpn0 hkp0
       have hadd:IntKind.i64.wrap ((s0:Int)+(kP:Int))=((s0+kP:Nat):Int):=by rw [IntKind.wrap_i64];omega
       go_wp2_with fail
       refine (Hpart.out n P k _ (by omega) (by omega) (by omega)).mono ?_
       rintro e w1 ⟨rfl,rfl⟩
       rw [Hpn0.out]
       go_wp2_with fail
       go_region_held3 (fun w'=>w'.cell? ⟨w.heap.size,1,none⟩=some (.int .i64 (P:Int)))
        (first|exact x3|exact jc _ x1|exact x1)
        (first
         | (go_at_call 144;refine (Hpart.out n P k _ (by omega) (by omega) (by omega)).mono ?_;rintro e w2 ⟨rfl,rfl⟩;rw [Hpn0.out])
         | (refine step_append_lies _ (by rfl) _ _ _ (by rfl) w0.heap.size 161 i0 _ 6 56 Tryz.underlying158 hi hz0 hz1 hz2 rfl (by omega) _ L1.length (JB L1) (by rfl) (World.ownsRow.drew (hown.alloc _)) ⟨w1.heap.size,0,none⟩ 1 1 (KJ ⟨80,g,c,k,s0+kP,pn⟩) (by rfl) (by rfl) (World.news_of_block (cs:=(KJ ⟨80,g,c,k,s0+kP,pn⟩).toArray) (t:=161) (fr:=(0,0)) (heap_alloc_new w1 _)) (by simp [KJ,Value.oneCell']) (by omega) (by unfold maxLen;omega) (by omega) (by have:=hB.size;simp;omega) _ rfl ?_;intro gg cc w3 hown3 hgr3 hat3 hlt3;have x3:=zm hgr3 (World.ownsRow.drew (hown.alloc _)) (jc _ x1) hs0))
       have HO3:Hid (w3.ownsRow w0.heap.size 161 6 (.slice (some ⟨gg,0,none⟩) (L1.length+1) cc) (L1++[(⟨80,g,c,k,s0+kP,pn⟩:SpotB)]).length (JB (L1++[(⟨80,g,c,k,s0+kP,pn⟩:SpotB)]))):=by
        show World.ownsRow _ _ _ _ _ _ _
        rw [GN,ab]
        exact hown3
       have HB3:=hid ((hB.alloc hB.size _).drew.grown hgr3 (by have:=hB.size;simp;omega) (fun k hk=>(hown.lt k hk).1))
       clear hown hown3 hgr3 hB x1 x3 hat3 hlt3
       go_wp2
       go_roundw
       case rel=>exact ⟨k+1,by omega,by go_num,by rw [HSS.out];exact HO3.out,HB3.out⟩
       case measure=>simp [intOf];omega
      ·have hke:k=qb n P:=by omega
       have hz:¬ (0:Int) < ((jv n P k:Nat):Int):=by
        have h9:¬ 0 < jv n P k:=fun h=>hlk (HLt2.out.2 (HPP2.out.1 h))
        omega
       subst hke
       go_wp2_with fail
       refine (Hpart.out n P (qb n P) _ (by omega) (by omega) (by omega)).mono ?_
       rintro e w1 ⟨rfl,rfl⟩
       generalize hL1:L0++jo P g c s0 n (qb n P)=L1 at *
       have HL1:=hid hL1
       clear hL1
       clear x1
       go_wp2_with (at_builtin;refine wpList_append_own _ rfl (.tmp 61) (.tmp 67) 158 rfl w0.heap.size 161 i0 (.agg #[.string ⟨#[]⟩,.int .i64 0,.int .i64 0,.int .i64 0,.int .i64 0,.int .i64 0]) 6 56 Tryz.underlying158 hi hz0 hz1 hz2 rfl (by decide) _ _ _ rfl (hown.alloc _) ⟨_,0,none⟩ 1 1 (KJ ⟨77,g,c,0,s0,n⟩) rfl rfl ?c1 ?c2 ?c3 ?c4 ?c5 ?_)
       case c1=>exact qq w1 (KJ ⟨77,g,c,0,s0,n⟩).toArray 161
       case c2=>intro u hu;simp [KJ] at hu;rcases hu with rfl|rfl|rfl|rfl|rfl|rfl<;>rfl
       case c3=>unfold maxLen;omega
       case c4=>omega
       case c5=>have:=hB.size;simp;omega
       intro v3 w3 hown3 hgr3 _
       have HO3:Hid (w3.ownsRow w0.heap.size 161 6 v3 (L1++[(⟨77,g,c,0,s0,n⟩:SpotB)]).length (JB (L1++[(⟨77,g,c,0,s0,n⟩:SpotB)]))):=by
        show World.ownsRow _ _ _ _ _ _ _
        rw [GN,ab]
        exact hown3
       have HB3:=hid ((hB.alloc hB.size _).grown hgr3 (by have:=hB.size;simp;omega) (fun k hk=>(hown.lt k hk).1))
       clear hown hown3 hgr3 hB
       go_wp2
       go_roundw
       case rel=>exact ⟨c+1,by omega,by go_num,by rw [HGS.out,← af,HL1.out];exact HO3.out,HB3.out⟩
       case measure=>simp [intOf];omega
    ·have hce:c=C:=by omega
     subst hce
     have HO:=hid hown
     have HB:=hid hB
     clear hown hB
     go_wp2
     go_roundw
     case rel=>exact ⟨g+1,by omega,by go_num,by rw [HSG.out];exact HO.out,HB.out⟩
     case measure=>simp [intOf];omega
  ·have hge:g=qb R G:=by omega
   have hz:¬ (0:Int) < ((jv R G g:Nat):Int):=by
    have h9:¬ 0 < jv R G g:=fun h=>hlt (HLt.out.2 (HPP.out.1 h))
    omega
   subst hge
   go_wp2_with fail
   refine (Hpart.out R G (qb R G) _ (by omega) (by omega) (by omega)).mono ?_
   rintro e w1 ⟨rfl,rfl⟩
   have HO:=hid (Ss hown (Nat.le_of_lt hs0))
   have HB:=hid (Hb0.out.trans (hB.mono (Nat.le_of_lt hs0)))
   clear hown hB x0 x1
   go_wp2
   go_ret
   exact ⟨_,rfl,by rw [HSB.out];exact HO.out,HB.out⟩
end
section
theorem Lies.part {w:World} {b off:Nat} {l:List CellB} (hok:∀ c ∈ l,okC c) (hb:b < w.heap.size) (h:∀ j (h:j < l.length),
  w.cell? ⟨b,off+j*3,none⟩=some (.bool (l[j]).null)∧w.cell? ⟨b,off+j*3+1,none⟩=some (.int .i64 (l[j]).int)∧w.cell? ⟨b,off+j*3+2,none⟩=some (strB (l[j]).text)) (s n:Nat) :
  Lies w (some ⟨b,off+s*3,none⟩) ((l.drop s).take n):=by
 refine ⟨fun c hc=>hok c (List.mem_of_mem_drop (bg hc)),fun hne=>⟨b,off+s*3,rfl,hb,fun j hj=>?_⟩⟩
 have hj2:s+j < l.length:=by rw [aq,an] at hj;omega
 have e:((l.drop s).take n)[j]=l[s+j]:=by simp
 obtain ⟨h1,h2,h3⟩:=h (s+j) hj2
 rw [e,show off+s*3+j*3=off+(s+j)*3 by omega]
 exact ⟨h1,h2,h3⟩
theorem Cz (n size m k:Nat) (hk:k < m):(QW n size m)[k*2]?=some (.int .i64 ((k*size:Nat):Int))∧(QW n size m)[k*2+1]?=some (.int .i64 ((min (k*size+size) n:Nat):Int)):=by
 have h1:=Xz (Rk n size) 2 (fun _=>rfl) (List.range m) k 0 (by simpa using hk) (by decide)
 have h2:=Xz (Rk n size) 2 (fun _=>rfl) (List.range m) k 1 (by simpa using hk) (by decide)
 simp only [List.getElem_range] at h1 h2
 exact ⟨h1,h2⟩
theorem Iy {w:World} {base n size m k:Nat} {sa:Option Addr} {sc:Nat} (h:w.ownsRow base 290 2 (.slice sa m sc) m (QW n size m)) (hk:k < m) :
  ∃ g,sa=some ⟨g,0,none⟩∧g < w.heap.size∧w.cell? ⟨g,k*2,none⟩=some (.int .i64 ((k*size:Nat):Int))∧w.cell? ⟨g,k*2+1,none⟩=some (.int .i64 ((min (k*size+size) n:Nat):Int)):=by
 obtain ⟨s1,s2⟩:=Cz n size m k hk
 rcases h.2 with ⟨h0,h1⟩|⟨g,cap,cur,hv,_⟩
 ·omega
 ·simp only [bF] at hv
  obtain ⟨rfl,_,rfl⟩:=hv
  exact ⟨g,rfl,(h.lt g rfl).2,by rw [h.cellAt _ (by omega)];exact s1,by rw [h.cellAt _ (by omega)];exact s2⟩
theorem Hj {w:World} {q:Nat} {x y:Value} {t:TypeId} (h:w.heap[q]?=some (.cells #[x,y] t (0,0))):w.cell? ⟨q,0,none⟩=some x∧w.cell? ⟨q,1,none⟩=some y :=
 ⟨by rw [jd h];rfl,by rw [jd h];rfl⟩
structure Laid (w0:World) (ta:Option Addr) (tcap:Nat) (ra:Option Addr) (rcap:Nat) (j:JobB) (r:List KeyB):Prop where
 table:LiesT w0 ta j.table
 ring:LiesK w0 ra r
 len:r.length≤maxLen
 good:GoodJ j r
 caps:j.table.length≤tcap
theorem Laid.secret {w0:World} {ta:Option Addr} {tcap:Nat} {ra:Option Addr} {rcap:Nat} {j:JobB} {r:List KeyB} (h:Laid w0 ta tcap ra rcap j r) (key:Int):(jl r key).length≤1000:=by
 by_cases hn:jy r key=true
 ·rw [Qq h.good.ring hn];decide
 ·have hf:jy r key=false:=by simpa using hn
  rw [(Xn h.good.ring).2 hf];decide
end
section
theorem Tryz.infoIntW:(Tryz.prog.info? 3).map (fun i=>(i.zero,i.size,i.bytes))=some (some (.int .i64 0),1,8):=by kernel_rfl
theorem Ea (ps:List Nat) (n:Nat):zI (ps++[n])=zI ps++[.int .i64 (n:Int)]:=by simp [zI]
end
end Go.Proofs.YthhpbhpfagoapaaGreat
