import Derived.Test.YthhpbhpfagoapaaGreatJAR
import Derived.Test.YthhpbhpfagoapaaGreatJAY
import Derived.Test.YthhpbhpfagoapaaGreatJAH
import Derived.Test.YthhpbhpfagoapaaGreatJAD
namespace Go.Proofs.YthhpbhpfagoapaaGreat
set_option linter.unusedVariables false
set_option linter.unusedSimpArgs false
set_option maxRecDepth 100000
set_option maxHeartbeats 16000000
open Go.RowKit
theorem Pt (n size i:Nat) (w:World) (hn:n≤1000) (hs:size≤100) (hi:i≤100) :
  Calls Tryz.prog 144 #[.int .i64 (n:Int),.int .i64 (size:Int),.int .i64 (i:Int)] w fun e w'=>e=.returned (.int .i64 ((jv n size i:Nat):Int))∧w'=w:=by
 have hm:i*size≤100*100:=Nat.mul_le_mul hi hs
 have HP:Hid (jv n size i=min size (n - i*size)):=rfl
 have hmul:IntKind.i64.wrap ((i:Int)*(size:Int))=((i*size:Nat):Int):=by rw [← Int.natCast_mul,IntKind.wrap_i64];omega
 generalize i*size=m at *
 have hsub:IntKind.i64.wrap ((n:Int) - (m:Int))=(n:Int) - (m:Int):=by rw [IntKind.wrap_i64];omega
 by_cases h1:n≤m
 ·have h1i:(n:Int) - (m:Int)≤0:=by omega
  go_enter Tryz.func144,Tryz.ntmps144
  go_wp2
  go_ret
  exact ⟨xe (by rw [HP.out];omega),rfl⟩
 ·have h1i:¬ (n:Int) - (m:Int)≤0:=by omega
  by_cases h2:size < n - m
  ·have h2i:(size:Int) < (n:Int) - (m:Int):=by omega
   go_enter Tryz.func144,Tryz.ntmps144
   go_wp2
   go_ret
   exact ⟨xe (by rw [HP.out];omega),rfl⟩
  ·have h2i:¬ (size:Int) < (n:Int) - (m:Int):=by omega
   go_enter Tryz.func144,Tryz.ntmps144
   go_wp2
   go_ret
   exact ⟨xe (by rw [HP.out];omega),rfl⟩
theorem TZ {w:World} {b b' e s n:Nat} {v:Value} {xs:List Value} (h:w.ownsRow b e s v n xs) (hb:b'≤b):w.ownsRow b' e s v n xs:=by
 obtain ⟨h1,h2⟩:=h
 refine ⟨h1,?_⟩
 rcases h2 with h2|⟨g,cap,cur,hv,hg,rest⟩
 ·exact .inl h2
 ·exact .inr ⟨g,cap,cur,hv,Nat.le_trans hb hg,rest⟩
def Ku (s:SpotB):List Value:=[strB [s.sort],.int .i64 (s.g:Int),.int .i64 (s.c:Int),.int .i64 (s.p:Int),.int .i64 (s.start:Int),.int .i64 (s.many:Int)]
def JA (l:List SpotB):List Value:=l.flatMap Ku
theorem Ge (l:List SpotB) (s:SpotB):JA (l++[s])=JA l++Ku s:=by simp [JA]
theorem Tryz.infoSpot:(Tryz.prog.info? 161).map (fun i=>(i.zero,i.size,i.bytes))=some (some (.agg #[.string ⟨#[]⟩,.int .i64 0,.int .i64 0,.int .i64 0,.int .i64 0,.int .i64 0]),6,56):=by kernel_rfl
theorem Cw (R C G P F:Nat) (told:Bool) (w:World) (hR:R≤60) (hC:C≤6) (hG1:1≤G) (hG6:G≤60) (hP1:1≤P) (hP6:P≤60) :
  Calls Tryz.prog 82 #[.int .i64 (R:Int),.int .i64 (C:Int),.agg #[.int .i64 (G:Int),.int .i64 (P:Int),.int .i64 (F:Int),.bool told]] w
   fun e w'=>∃ v,e=.returned v∧w'.ownsRow w.heap.size 161 6 v (jC R C G P).length (JA (jC R C G P))∧Below w.heap.size w w':=by
 obtain ⟨i0,hi,hz0,hz1,hz2⟩:=info_parts Tryz.infoSpot
 have HCL:=hid (fun k=>Qr (n:=R) (size:=G) (i:=k) hG1)
 have hcle:=Xe (n:=R) hG1
 have HSB:Hid (jC R C G P=jQ R C G P (jW R G)):=rfl
 have Hpart:=hid Pt
 go_enter Tryz.func82,Tryz.ntmps82
 go_wp2_with fail
 obtain ⟨hb0,hs0,hc0,hh0⟩:=qg w #[.int .i64 (G:Int),.int .i64 (P:Int),.int .i64 (F:Int),.bool told] 24
 have y0:=hc0 0
 have y1:=hc0 1
 simp only [List.getElem?_toArray,List.getElem?_cons_zero,List.getElem?_cons_succ] at y0 y1
 have Hb0:=hid hb0
 clear hc0 hh0 hb0
 generalize w.alloc _=w0 at *
 have Y0:=hid y0
 have Y1:=hid y1
 clear y0 y1
 go_loopw [7,8] (fun v i wr=>∃ g:Nat,g≤jW R G∧i=.int .i64 (g:Int)∧wr.ownsRow w0.heap.size 161 6 v (jQ R C G P g).length (JA (jQ R C G P g))∧Below w0.heap.size w0 wr) (fun _ i _=>jW R G - (intOf i).toNat)
 case atStart=>exact ⟨0,Nat.zero_le _,rfl,World.ownsRow_nil _ _ _ _,Below.refl _ _⟩
 case round =>
  obtain ⟨g,hgl,rfl,hown,hB⟩:=hrel
  have x0:=(hB.cell (p:=⟨w.heap.size,0,none⟩) hs0).trans Y0.out
  have x1:=(hB.cell (p:=⟨w.heap.size,1,none⟩) hs0).trans Y1.out
  have HPP:=hid (UW (n:=R) (size:=G) (i:=g) hG1)
  have hpl:=(JW R G g).1
  have HSG:=hid (JY R C G P g)
  have hsl:=Ry R C G P g hP1 hG6 hC
  have hLt:=(HCL.out g)
  have HLt:=hid hLt
  clear hLt
  by_cases hlt:g < jW R G
  ·have hgp:0 < jv R G g:=HPP.out.2 (HLt.out.1 hlt)
   have hgG:g*G < R:=HLt.out.1 hlt
   have hmul:IntKind.i64.wrap ((g:Int)*(G:Int))=((g*G:Nat):Int):=by rw [← Int.natCast_mul,IntKind.wrap_i64];omega
   have hgpi:(0:Int) < ((jv R G g:Nat):Int):=by omega
   go_wp2_with fail
   refine (Hpart.out R G g _ (by omega) (by omega) (by omega)).mono ?_
   rintro e w1 ⟨rfl,rfl⟩
   go_wp2_with fail
   refine (Hpart.out R G g _ (by omega) (by omega) (by omega)).mono ?_
   rintro e w1 ⟨rfl,rfl⟩
   have Hown:=hid hown
   have HB:=hid hB
   clear hown hB x0 x1
   generalize hn0:jv R G g=n at *
   have Hn0:=hid hn0
   generalize hkG0:g*G=s0 at *
   have HkG0:=hid hkG0
   clear hn0 hkG0
   have hn6:n≤60:=by omega
   have hs60:s0 < 60:=by omega
   go_wp2_with fail
   go_loopw [7,10] (fun v i wr=>∃ c:Nat,c≤C∧i=.int .i64 (c:Int)∧wr.ownsRow w0.heap.size 161 6 v (jQ R C G P g++ju R G P g c).length (JA (jQ R C G P g++ju R G P g c))∧Below w0.heap.size w0 wr) (fun _ i _=>C - (intOf i).toNat)
   case atStart=>exact ⟨0,Nat.zero_le _,rfl,by simpa [ju] using Hown.out,HB.out⟩
   case round =>
    clear Hown HB
    obtain ⟨c,hcl,rfl,hown,hB⟩:=hrel
    have hgl2:=RP R G P g c hP1 hG6
    have hlen0:(jQ R C G P g++ju R G P g c).length≤366*60+366:=by rw [List.length_append];omega
    by_cases hlc:c < C
    ·have hci:(c:Int) < (C:Int):=by omega
     have x0:=(hB.cell (p:=⟨w.heap.size,0,none⟩) hs0).trans Y0.out
     have HGS:Hid (jQ R C G P g++ju R G P g (c+1)=(jQ R C G P g++ju R G P g c)++(jo P g c s0 n (jW n P)++[⟨77,g,c,0,s0,n⟩])):=by
      show _=_
      rw [JX,List.append_assoc]
      unfold jh
      rw [Hn0.out,HkG0.out]
     have Hown:=hid hown
     have HB:=hid hB
     have hwrap:IntKind.i64.wrap ((g:Int)*(G:Int))=(s0:Int):=hmul
     clear hown hB
     generalize jQ R C G P g++ju R G P g c=L0 at *
     have hcle2:=Xe (n:=n) hP1
     have HCL2:=hid (fun k=>Qr (n:=n) (size:=P) (i:=k) hP1)
     go_wp2_with fail
     clear x0
     go_loopw [7,12] (fun v i wr=>∃ k:Nat,k≤jW n P∧i=.int .i64 (k:Int)∧wr.ownsRow w0.heap.size 161 6 v (L0++jo P g c s0 n k).length (JA (L0++jo P g c s0 n k))∧Below w0.heap.size w0 wr) (fun _ i _=>jW n P - (intOf i).toNat)
     case atStart=>exact ⟨0,Nat.zero_le _,rfl,by simpa [jo] using Hown.out,HB.out⟩
     case round =>
      clear Hown HB
      obtain ⟨k,hkl,rfl,hown,hB⟩:=hrel
      have x1:=(hB.cell (p:=⟨w.heap.size,1,none⟩) hs0).trans Y1.out
      have hLt2:=HCL2.out k
      have HPP2:=hid (UW (n:=n) (size:=P) (i:=k) hP1)
      have hpl2:=(JW n P k).1
      have hpsl:(L0++jo P g c s0 n k).length≤L0.length+k:=by simp [jo]
      have HLt2:=hid hLt2
      clear hLt2
      by_cases hlk:k < jW n P
      ·have hkP:=HLt2.out.1 hlk
       have hpp:0 < jv n P k:=HPP2.out.2 hkP
       have hppi:(0:Int) < ((jv n P k:Nat):Int):=by omega
       have hmul2:IntKind.i64.wrap ((k:Int)*(P:Int))=((k*P:Nat):Int):=by rw [← Int.natCast_mul,IntKind.wrap_i64];omega
       have HSS:Hid (L0++jo P g c s0 n (k+1)=(L0++jo P g c s0 n k)++[⟨80,g,c,k,s0+k*P,jv n P k⟩]):=by
        show _=_
        rw [QP,List.append_assoc]
       generalize L0++jo P g c s0 n k=L1 at *
       generalize hpn0:jv n P k=pn at *
       have Hpn0:=hid hpn0
       generalize hkp0:k*P=kP at *
       clear hpn0 hkp0
       have hadd:IntKind.i64.wrap ((s0:Int)+(kP:Int))=((s0+kP:Nat):Int):=by rw [IntKind.wrap_i64];omega
       go_wp2_with fail
       refine (Hpart.out n P k _ (by omega) (by omega) (by omega)).mono ?_
       rintro e w1 ⟨rfl,rfl⟩
       rw [Hpn0.out]
       go_wp2_with fail
       go_region_held3 (fun w'=>w'.cell? ⟨w.heap.size,1,none⟩=some (.int .i64 (P:Int)))
        (first|exact x3|exact jc _ x1|exact x1)
        (first
         | (go_at_call 144;refine (Hpart.out n P k _ (by omega) (by omega) (by omega)).mono ?_;rintro e w2 ⟨rfl,rfl⟩;rw [Hpn0.out])
         | (refine step_append_lies _ (by rfl) _ _ _ (by rfl) w0.heap.size 161 i0 _ 6 56 Tryz.underlying158 hi hz0 hz1 hz2 rfl (by omega) _ L1.length (JA L1) (by rfl) (World.ownsRow.drew (hown.alloc _)) ⟨w1.heap.size,0,none⟩ 1 1 (Ku ⟨80,g,c,k,s0+kP,pn⟩) (by rfl) (by rfl) (World.news_of_block (cs:=(Ku ⟨80,g,c,k,s0+kP,pn⟩).toArray) (t:=161) (fr:=(0,0)) (heap_alloc_new w1 _)) (by simp [Ku,Value.oneCell']) (by omega) (by unfold maxLen;omega) (by omega) (by have:=hB.size;simp;omega) _ rfl ?_;intro gg cc w3 hown3 hgr3 hat3 hlt3;have x3:=zf hgr3 (World.ownsRow.drew (hown.alloc _)) (jc _ x1) hs0))
       have HO3:Hid (w3.ownsRow w0.heap.size 161 6 (.slice (some ⟨gg,0,none⟩) (L1.length+1) cc) (L1++[(⟨80,g,c,k,s0+kP,pn⟩:SpotB)]).length (JA (L1++[(⟨80,g,c,k,s0+kP,pn⟩:SpotB)]))):=by
        show World.ownsRow _ _ _ _ _ _ _
        rw [Ge,List.length_append]
        exact hown3
       have HB3:=hid ((hB.alloc hB.size _).drew.grown hgr3 (by have:=hB.size;simp;omega) (fun k hk=>(hown.lt k hk).1))
       clear hown hown3 hgr3 hB x1 x3 hat3 hlt3
       go_wp2
       go_roundw
       case rel=>exact ⟨k+1,by omega,by go_num,by rw [HSS.out];exact HO3.out,HB3.out⟩
       case measure=>simp [intOf];omega
      ·have hke:k=jW n P:=by omega
       have hz:¬ (0:Int) < ((jv n P k:Nat):Int):=by
        have h9:¬ 0 < jv n P k:=fun h=>hlk (HLt2.out.2 (HPP2.out.1 h))
        omega
       subst hke
       go_wp2_with fail
       refine (Hpart.out n P (jW n P) _ (by omega) (by omega) (by omega)).mono ?_
       rintro e w1 ⟨rfl,rfl⟩
       generalize hL1:L0++jo P g c s0 n (jW n P)=L1 at *
       have HL1:=hid hL1
       clear hL1
       clear x1
       go_wp2_with (at_builtin;refine wpList_append_own _ rfl (.tmp 61) (.tmp 67) 158 rfl w0.heap.size 161 i0 (.agg #[.string ⟨#[]⟩,.int .i64 0,.int .i64 0,.int .i64 0,.int .i64 0,.int .i64 0]) 6 56 Tryz.underlying158 hi hz0 hz1 hz2 rfl (by decide) _ _ _ rfl (hown.alloc _) ⟨_,0,none⟩ 1 1 (Ku ⟨77,g,c,0,s0,n⟩) rfl rfl ?c1 ?c2 ?c3 ?c4 ?c5 ?_)
       case c1=>exact qj w1 (Ku ⟨77,g,c,0,s0,n⟩).toArray 161
       case c2=>intro u hu;simp [Ku] at hu;rcases hu with rfl|rfl|rfl|rfl|rfl|rfl<;>rfl
       case c3=>unfold maxLen;omega
       case c4=>omega
       case c5=>have:=hB.size;simp;omega
       intro v3 w3 hown3 hgr3 _
       have HO3:Hid (w3.ownsRow w0.heap.size 161 6 v3 (L1++[(⟨77,g,c,0,s0,n⟩:SpotB)]).length (JA (L1++[(⟨77,g,c,0,s0,n⟩:SpotB)]))):=by
        show World.ownsRow _ _ _ _ _ _ _
        rw [Ge,List.length_append]
        exact hown3
       have HB3:=hid ((hB.alloc hB.size _).grown hgr3 (by have:=hB.size;simp;omega) (fun k hk=>(hown.lt k hk).1))
       clear hown hown3 hgr3 hB
       go_wp2
       go_roundw
       case rel=>exact ⟨c+1,by omega,by go_num,by rw [HGS.out,← List.append_assoc,HL1.out];exact HO3.out,HB3.out⟩
       case measure=>simp [intOf];omega
    ·have hce:c=C:=by omega
     subst hce
     have HO:=hid hown
     have HB:=hid hB
     clear hown hB
     go_wp2
     go_roundw
     case rel=>exact ⟨g+1,by omega,by go_num,by rw [HSG.out];exact HO.out,HB.out⟩
     case measure=>simp [intOf];omega
  ·have hge:g=jW R G:=by omega
   have hz:¬ (0:Int) < ((jv R G g:Nat):Int):=by
    have h9:¬ 0 < jv R G g:=fun h=>hlt (HLt.out.2 (HPP.out.1 h))
    omega
   subst hge
   go_wp2_with fail
   refine (Hpart.out R G (jW R G) _ (by omega) (by omega) (by omega)).mono ?_
   rintro e w1 ⟨rfl,rfl⟩
   have HO:=hid (TZ hown (Nat.le_of_lt hs0))
   have HB:=hid (Hb0.out.trans (hB.mono (Nat.le_of_lt hs0)))
   clear hown hB x0 x1
   go_wp2
   go_ret
   exact ⟨_,rfl,by rw [HSB.out];exact HO.out,HB.out⟩
end Go.Proofs.YthhpbhpfagoapaaGreat
