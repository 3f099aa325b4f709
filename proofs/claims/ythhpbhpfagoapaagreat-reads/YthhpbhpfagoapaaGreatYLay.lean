import Derived.Test.YthhpbhpfagoapaaGreatJAA
import Derived.Test.YthhpbhpfagoapaaGreatRTk
import Derived.Test.YthhpbhpfagoapaaGreatJBR
namespace Go.Proofs.YthhpbhpfagoapaaGreat
set_option linter.unusedVariables false
set_option linter.unusedSimpArgs false
set_option maxRecDepth 100000
set_option maxHeartbeats 16000000
open Go.RowKit
theorem AZ (f:FormF) (footer:List UInt8) (w:World) (hf:f.foot≤255) (hparts:f.parts.length≤65000) (hs:footer.length≤maxLen) :
  Calls Tryz.prog 90 #[.agg (fileC f),strB footer] w (BD f footer w):=by
 obtain ⟨hb0,hl0,ho0,ho1⟩:=Qc w (fileC f) 169 #[strB footer,.int .i64 0,.bool false] 243
 have HS0:Hid (jY ((w.alloc (.cells (fileC f) 169)).alloc (.cells #[strB footer,.int .i64 0,.bool false] 243)) (w.heap.size+1) footer (some footer)):=⟨0,false,ho1,ah _,rfl⟩
 have HB0:=hid hb0
 have Ho0:=hid ho0
 have hl0':=hl0
 have HLN:Hid (Kj f.foot footer=false→Vj f.foot f.parts footer=none):=fun h=>by
  unfold Vj
  rw [aj (by rw [h];decide)]
 clear hb0 ho0 ho1
 go_enter Tryz.func90,Tryz.ntmps90
 go_upto_region 2 with fail
 generalize hW0:(w.alloc _).alloc _=W0 at *
 clear hW0
 have c1:W0.cell? ⟨w.heap.size,1,none⟩=some (.int .i64 (f.foot:Int)):=by rw [jd Ho0.out];rfl
 go_wp2_with fail
 clear c1
 refine (YX (w.heap.size+1) f.foot footer W0 hs HS0.out hf).mono ?_
 rintro e w1 ⟨hg1,T,cv,rfl,hT0,hT1,hown1⟩
 have Ho1:=hid (qp hg1 Ho0.out (by omega))
 have HB1:=hid (HB0.out.trans (jg hg1 (by omega) HB0.out.size))
 have HT1:=hid hT1
 have HO1:=hid hown1
 obtain ⟨ca,cc,rfl⟩:=jr hown1
 clear hg1 hT1 hown1 HS0 Ho0
 cases hh:Kj f.foot footer with
 | false =>
  have HN:=hid (HLN.out hh)
  clear hh
  go_wp2
  go_ret2
  exact ⟨HB1.out,.inl ⟨HN.out,_,rfl⟩⟩
 | true =>
  have HH:=hid hh
  clear hh HLN
  obtain ⟨G,P,F,hpl⟩:∃ G P F:Nat,zx footer=⟨(G:Int),(P:Int),(F:Int),false⟩:=⟨_,_,_,rfl⟩
  have hb:=HH.out
  unfold Kj at hb
  simp only [au] at hb
  obtain ⟨_,hb1,hb2,_⟩:=hb
  rw [hpl] at hb1
  simp only [qS,au,az] at hb1
  simp only [jZ,au,az] at hb2
  have hR60:qR footer≤60:=xO 60 _
  have hC6:(xV footer).1.length≤6:=by omega
  have hG1:1≤G:=by omega
  have hG6:G≤60:=by omega
  have hP1:1≤P:=by omega
  have hP6:P≤60:=by omega
  have hF9:F≤9:=by omega
  have HCS:Hid (∀ c ∈ (xV footer).1,c.name.length≤8∧(c.kind=0∨c.kind=1)∧0≤c.key∧c.key≤9):=GT _ _
  have HBA:Hid (∀ c ∈ (xV footer).1,c.cells=[]):=UD _ _
  have HSB:Hid (Kc footer=jI (qR footer) (xV footer).1.length G P):=by
   show jI _ _ (zx footer).group.toNat (zx footer).page.toNat=_
   rw [hpl]
   rfl
  have HSP:=hid (fun w'=>MU (qR footer) (xV footer).1.length G P F false w' hR60 hC6 hG1 hG6 hP1 hP6)
  have HLR:Hid (Vj f.foot f.parts footer=if (KP f.parts footer).2=some []∧qH (qR footer) (zx footer) (xV footer).1 (jp (xV footer).1 4 true (Kc footer) (KP f.parts footer).1)=footer then some ⟨qR footer,zx footer,(xV footer).1,(KP f.parts footer).1⟩ else none):=by
   show _=_
   unfold Vj
   rw [aw HH.out]
  have HMR:Hid (KP f.parts footer=qP (xV footer).1 (some f.parts) (Kc footer)):=rfl
  have HPL:=hid hpl
  rw [hpl] at HT1
  clear hb1 hb2 hpl HH
  go_upto_region 5 with fail
  obtain ⟨d0,d1,d2,d3,d4,d5,d6,_⟩:=xA HT1.out
  refine wp_region_held_drew (S:=fun w'=>w'.cell? ⟨T,0,none⟩=some (.int .i64 (qR footer:Int))∧w'.cell? ⟨T,1,none⟩=some (.int .i64 (G:Int))∧w'.cell? ⟨T,2,none⟩=some (.int .i64 (P:Int))∧w'.cell? ⟨T,3,none⟩=some (.int .i64 (F:Int))∧w'.cell? ⟨T,4,none⟩=some (.bool false)∧w'.cell? ⟨T,5,none⟩=some (.slice ca (xV footer).1.length cc)) (by kernel_rfl) ⟨d0,d1,d2,d3,d4,d5⟩ (fun hHeld=>?_)
  refine tk 0 (.pointer (some ⟨T,0,none⟩)) ?_
  refine tk 1 (.pointer (some ⟨T,0,none⟩)) ?_
  refine tk 2 (.pointer (some ⟨T,0,none⟩)) ?_
  refine tk 3 (.pointer (some ⟨T,0,none⟩)) ?_
  refine tk 4 (.int .i64 (qR footer:Int)) ?_
  refine tk 5 (.pointer (some ⟨T,0,none⟩)) ?_
  refine tk 6 (.pointer (some ⟨T,0,none⟩)) ?_
  refine tk 7 (.pointer (some ⟨T,5,none⟩)) ?_
  refine tk 8 (.slice ca (xV footer).1.length cc) ?_
  refine tk 9 (.int .i64 ((xV footer).1.length:Int)) ?_
  refine tk 10 (.pointer (some ⟨T,0,none⟩)) ?_
  refine tk 11 (.pointer (some ⟨T,0,none⟩)) ?_
  refine tk 12 (.pointer (some ⟨T,1,none⟩)) ?_
  refine tk 13 (.agg #[.int .i64 (G:Int),.int .i64 (P:Int),.int .i64 (F:Int),.bool false]) ?_
  simp only [jA,jB,jC,Act.put,jD,jE,jF]
  refine rd 14 (fun K hK=>?_)
  simp only [jA,jB,jC]
  go_simp
  go_at_call 82
  refine (HSP.out _).mono ?_
  rintro e w2 ⟨sv,rfl,hown2,hb2⟩
  have hb2':=ji hb2
  have HB2:=hid (HB1.out.trans (hb2'.mono HB1.out.size))
  have Ho2:=hid (jb hb2' Ho1.out)
  have HT2:=hid (jb hb2' HT1.out)
  have HO2:=hid (jx HO1.out hb2')
  have HV2:Hid (w2.ownsRow w1.heap.size 161 6 sv (jI (qR footer) (xV footer).1.length G P).length (JB (jI (qR footer) (xV footer).1.length G P))):=hown2
  obtain ⟨sa,sc,rfl⟩:=jr hown2
  have hTlt:T < w1.heap.size:=(ag.1 HT1.out).1
  clear hb2 hb2' HSP d0 d1 d2 d3 d4 d5 d6 HT1 HO1 Ho1 HB1 hown2
  obtain ⟨d0,d1,d2,d3,d4,d5,d6,_⟩:=xA HT2.out
  try go_wp2_with fail
  refine hK.out _ _ ⟨d0,d1,d2,d3,d4,d5⟩ (fun hHeld=>?_)
  clear hK K
  try simp only [jA,jB,jC,Act.put,jD,jE,jF]
  refine tk 15 (.pointer (some ⟨T,0,none⟩)) ?_
  refine tk 16 (.pointer (some ⟨T,6,none⟩)) ?_
  simp only [jA,jB,jC,Act.put,jD,jE,jF]
  refine rd 17 (fun K hK=>?_)
  simp only [jA,jB,jC]
  have f6:=frozen_of_row w2 T 6 _ _ HT2.out
  go_simp
  try go_wp2_with fail
  have hgs:=Jc w2 T 6 (.slice sa (jI (qR footer) (xV footer).1.length G P).length sc)
  have HT3:Hid ((w2.setCell ⟨T,6,none⟩ (.slice sa (jI (qR footer) (xV footer).1.length G P).length sc)).heap[T]?=some (.cells (toldC (qR footer:Int) (G:Int) (P:Int) (F:Int) (.slice ca (xV footer).1.length cc) (.slice sa (jI (qR footer) (xV footer).1.length G P).length sc) nilV nilV) 179 (0,0))):=heap_setCell_same w2 T 6 _ _ _ HT2.out
  have HO3:=hid (HO2.out.kept hgs (qT HO2.out HT2.out (by decide)))
  have HV3:=hid (HV2.out.kept hgs (qT HV2.out HT2.out (by decide)))
  have Ho3:=hid (qp hgs Ho2.out (by omega))
  have HB3:=hid (HB2.out.trans (jg hgs (by omega) HB2.out.size))
  have hz3:=HB2.out.size
  obtain ⟨e0,e1,e2,e3,e4,e5,_⟩:=xA HT3.out
  refine hK.out _ _ ⟨e0,e1,e2,e3,e4,e5⟩ (fun hHeld=>?_)
  clear hK K
  refine wpAnyH_done (by kernel_rfl) ?_ _
  clear hHeld hgs e0 e1 e2 e3 e4 e5 d0 d1 d2 d3 d4 d5 d6 f6 HT2 HO2 HV2 Ho2 HB2
  generalize hw3:w2.setCell _ _=w3 at *
  clear hw3
  go_upto_region 7 with fail
  have c2:w3.cell? ⟨w.heap.size,2,none⟩=some (strB f.parts):=by rw [jd Ho3.out];rfl
  go_upto_region 8 with fail
  clear c2
  have HS4:=hid (Vz w3 f.parts)
  have HT4:=hid (jt (.cells #[strB f.parts,.int .i64 0,.bool false] 243) HT3.out)
  have HO4:=hid (HO3.out.alloc (.cells #[strB f.parts,.int .i64 0,.bool false] 243))
  have HV4:=hid (HV3.out.alloc (.cells #[strB f.parts,.int .i64 0,.bool false] 243))
  have HB4:=hid (HB3.out.alloc HB3.out.size (.cells #[strB f.parts,.int .i64 0,.bool false] 243))
  have hTq:T < w3.heap.size:=(ag.1 HT3.out).1
  have hqw:w.heap.size≤w3.heap.size:=HB3.out.size
  clear HT3 HO3 HV3 Ho3 HB3
  generalize hw4:w3.alloc _=w4 at *
  clear hw4
  generalize hq:w3.heap.size=q at *
  clear hq
  generalize xV footer=CR at *
  obtain ⟨t,stc⟩:=CR
  simp only at *
  go_wp2
  go_loopw [9,11] (fun v i wr=>∃ (k:Nat) (pl:List Nat) (pv ev:Value),k≤(jI (qR footer) t.length G P).length∧i=.int .i64 (k:Int)∧LAt wr w T q (fun a b=>toldC (qR footer:Int) (G:Int) (P:Int) (F:Int) (.slice ca t.length cc) (.slice sa (jI (qR footer) t.length G P).length sc) a b) t (jI (qR footer) t.length G P) (.slice ca t.length cc) (.slice sa (jI (qR footer) t.length G P).length sc) pv ev v k (Qh (qP t (some f.parts) ((jI (qR footer) t.length G P).take k)).1) k (zX (qP t (some f.parts) ((jI (qR footer) t.length G P).take k)).1) f.parts (qP t (some f.parts) ((jI (qR footer) t.length G P).take k)).2 pl∧pl.length=(jp t 4 true ((jI (qR footer) t.length G P).take k) (qP t (some f.parts) ((jI (qR footer) t.length G P).take k)).1).length∧(∀ x ∈ pl,x≤70000)∧(∀ rest,(qP t (some f.parts) ((jI (qR footer) t.length G P).take k)).2=some rest→pl=jp t 4 true ((jI (qR footer) t.length G P).take k) (qP t (some f.parts) ((jI (qR footer) t.length G P).take k)).1)) (fun _ i _=>(jI (qR footer) t.length G P).length - (intOf i).toNat)
  case atStart=>exact ⟨0,[],nilV,nilV,ah _,rfl,⟨HT4.out,jw HO4.out (by omega),jw HV4.out (by omega),World.ownsRow_nil _ _ _ _,World.ownsRow_nil _ _ _ _,HS4.out,World.ownsRow_nil _ _ _ _,HB4.out,(by omega),(by omega),(by omega)⟩,rfl,(by intro x hx;cases hx),(fun rest _=>rfl)⟩
  case round =>
   have hLn:=Yo (C:=t.length) hG1 hP1 hG6 hR60 hC6
   have HLC:Hid (∀ s ∈ (jI (qR footer) t.length G P),s.c < t.length):=fun s hs=>(TK s hs).1
   have HLS:Hid (∀ s ∈ (jI (qR footer) t.length G P),s.sort=80∨s.sort=77):=ZZ
   have HCN:Hid (∀ M:List ModF,M.length=(jI (qR footer) t.length G P).length→(jp t 4 true (jI (qR footer) t.length G P) M).length≤360):=fun M hM=>Ej hM hG1 hR60 hC6
   generalize hL:(jI (qR footer) t.length G P)=L at *
   obtain ⟨k,pl,pv,ev,hkL,rfl,hA,hpk,hpx,hpq⟩:=hrel
   have HMM:Hid (qP t (some f.parts) (L.take k)=((qP t (some f.parts) (L.take k)).1,(qP t (some f.parts) (L.take k)).2)):=rfl
   have HML:=hid (Yu t (some f.parts) (L.take k))
   obtain ⟨xa,xc,rfl⟩:=jr hA.places
   obtain ⟨pa,pc,rfl⟩:=jr hA.plains
   obtain ⟨ea,ec,rfl⟩:=jr hA.seals
   have HA:=hid hA
   have HPK:=hid hpk
   have HPX:=hid hpx
   have HPQ:=hid hpq
   have HL:=hid hL
   clear hA hpk hpx hpq hL HT4 HO4 HV4 HS4 HB4
   have hwz:=HA.out.below.size
   obtain ⟨d0,d1,d2,d3,d4,d5,d6,d7,d8⟩:=xA HA.out.told
   by_cases hlt:k < L.length
   ·have hki:(k:Int) < (L.length:Int):=by omega
    obtain ⟨sg,rfl,hsg,s0,s1,s2,s3,s4,s5⟩:=VB HA.out.spots k hlt
    have hcl:=HLC.out L[k] (al hlt)
    obtain ⟨cg,rfl,hcg,t0,t1,t2,t3⟩:=Ez HA.out.cols (L[k]).c hcl
    have hgk:L[k]?=some L[k]:=ay hlt
    have HGK:=hid hgk
    have hca:=hid (Qd hcl)
    obtain ⟨at_,bad,hsrow,hat,hst⟩:=HA.out.spot
    have HST:=hid hst
    have HAT:=hid hat
    obtain ⟨m,st',hmr⟩:∃ m st',KA (jk t (L[k]).c).key (qP t (some f.parts) (L.take k)).2=(m,st'):=⟨_,_,rfl⟩
    have HNX:=hid (EA hgk HMM.out hat hst hmr hparts HPK.out HPX.out HPQ.out)
    have HMS:Hid (qP t (some f.parts) (L.take (k+1))=((qP t (some f.parts) (L.take k)).1++[m],st')):=by
     show _=_
     rw [Mb t (some f.parts) hgk,hmr]
    have HMR:=hid hmr
    have hpl6:pl.length≤21960:=by
     have h1:=VF (t:=t) (L.take k) (qP t (some f.parts) (L.take k)).1 4 true
     have h2:=HPK.out
     rw [aq] at h1
     omega
    clear hgk hmr hst HPK HPX HPQ HMM
    go_upto_region 11 with fail
    go_cut [71] (fun bv wd=>bv=.bool (qM true (L.take k))∧wr=wd)
    case first =>
     clear s0 s1 s2 s3 s4 s5 t0 t1 t2 t3 HNX HMS HMR
     by_cases hk0:k=0
     ·subst hk0
      go_wp2
      go_meet
      case rel=>exact ⟨rfl,rfl⟩
     ·obtain ⟨z,rfl⟩:∃ z,k=z+1:=⟨k - 1,by omega⟩
      obtain ⟨sg',hsg',_,z0,_⟩:=VB HA.out.spots z (by omega)
      simp only [aP,cy,cG] at hsg'
      subst hsg'
      have HMZ:=hid (IK (L:=L) (k:=z) true (ay (by omega)))
      have hk1:(((z:Int)+1) == 0)=false:=by simp;omega
      have hk2:IntKind.i64.wrap ((z:Int)+1 - 1)=(z:Int):=by rw [IntKind.wrap_i64];omega
      have hmi:(z:Int) < (L.length:Int):=by omega
      rcases HLS.out L[z] (al (by omega)) with hso|hso
      ·rw [hso] at z0 HMZ
       go_wp2
       go_meet
       case rel=>exact ⟨by rw [HMZ.out];simp,rfl⟩
      ·rw [hso] at z0 HMZ
       go_wp2
       go_meet
       case rel=>exact ⟨by rw [HMZ.out];simp,rfl⟩
    case rest =>
     obtain ⟨rfl,rfl⟩:=hcut
     go_upto_if 71 with fail
     go_cut [9,71] (fun xv _ wd=>LAt wd w T q (fun a b=>toldC (qR footer:Int) (G:Int) (P:Int) (F:Int) (.slice (some ⟨cg,0,none⟩) t.length cc) (.slice (some ⟨sg,0,none⟩) L.length sc) a b) t L (.slice (some ⟨cg,0,none⟩) t.length cc) (.slice (some ⟨sg,0,none⟩) L.length sc) (.slice pa k pc) (.slice ea k ec) xv k (Qh (qP t (some f.parts) (L.take k)).1) k (zX (qP t (some f.parts) (L.take k)).1) f.parts (qP t (some f.parts) (L.take k)).2 (pl++(if qM true (L.take k)=true then [4+at_] else [])))
     case first =>
      cases hml:qM true (L.take k) with
      | true =>
       have y1:wr.cell? ⟨q,1,none⟩=some (.int .i64 (at_:Int)):=by rw [jd hsrow];rfl
       have hw4:IntKind.i64.wrap (4+(at_:Int))=((4+at_:Nat):Int):=by rw [IntKind.wrap_i64];omega
       have hown:=HA.out.places
       obtain ⟨i0,hi,hz0,hz1,hz2⟩:=info_parts Tryz.infoIntW
       go_wp2_with (at_builtin;refine wpList_append_own _ rfl (.tmp 72) (.tmp 78) 82 rfl w.heap.size 3 i0 (.int .i64 0) 1 8 Tryz.underlying82 hi hz0 hz1 hz2 rfl (by decide) _ _ _ rfl (hown.alloc _) ⟨_,0,none⟩ 1 1 [.int .i64 ((4+at_:Nat):Int)] rfl rfl (qq wr #[.int .i64 ((4+at_:Nat):Int)] 3) (by intro u hu;simp at hu;subst hu;rfl) (by unfold maxLen;omega) (by omega) (by simp;omega) ?_;intro v3 w4 hown4 hgr4 _)
       have HA4:=hid ((HA.out.alloc (.cells #[.int .i64 ((4+at_:Nat):Int)] 3)).put (v:=v3) (pl':=pl++[4+at_]) hgr4 (by
        rw [Ea,ab]
        exact hown4))
       clear hown hown4 hgr4
       go_wp2
       go_meet
       case rel =>
        rw [aw hml]
        exact HA4.out
      | false =>
       go_wp2
       go_meet
       case rel =>
        rw [aj (by rw [hml];decide),aB]
        exact HA.out
     case rest =>
      have HA1:=hid hcut
      generalize hp2:(pl++(if qM true (L.take k)=true then [4+at_] else []))=pl2 at *
      clear hp2 hcut HA d0 d1 d2 d3 d4 d5 d6 d7 d8 s0 s1 s2 s3 s4 s5 t0 t1 t2 t3 hsrow
      obtain ⟨xb,xd,hxe⟩:=jr HA1.out.places
      subst hxe
      have Hbx:=hid (qm wc #[Value.string { data:=#[] },Value.string { data:=#[] }] 167).2.2.2
      have HA2:=hid (HA1.out.alloc (.cells #[Value.string { data:=#[] },Value.string { data:=#[] }] 167))
      have hBq:q < wc.heap.size:=Qe HA1.out.spot
      have hBT:T < wc.heap.size:=(ag.1 HA1.out.told).1
      have hBw:w.heap.size≤wc.heap.size:=HA1.out.below.size
      have HEB:=hid (zT HA1.out.seals (ae _))
      clear HA1
      go_upto_region 15 with fail
      generalize hw5:wc.alloc _=w5 at *
      clear hw5
      generalize hB:wc.heap.size=B at *
      clear hB
      have e2:=(HA2.out.spotc k hlt).2
      have e3:=HA2.out.keyc (L[k]).c hcl
      have hci:(((L[k]).c:Nat):Int) < (t.length:Int):=by omega
      rw [hca.out] at HMR
      generalize (t[(L[k]).c]).key=ky at *
      obtain ⟨d0,d1,d2,d3,d4,d5,d6,d7,d8⟩:=xA HA2.out.told
      go_quiet (fail)
      clear d0 d1 d2 d3 d4 d5 d6 d7 d8 e2 e3
      have hbn:=below_drewN (Below.refl w5.heap.size w5) nq
      have HA3:=hid (HA2.out.later hbn)
      have Hbx3:=hid (jb hbn Hbx.out)
      clear hbn HA2 Hbx
      generalize w5.drewN nq=w6 at *
      go_upto_if 96 with fail
      go_cut [12,96] (fun sv _ wd=>sv=strB m.plain∧LAt wd w T q (fun a b=>toldC (qR footer:Int) (G:Int) (P:Int) (F:Int) (.slice (some ⟨cg,0,none⟩) t.length cc) (.slice (some ⟨sg,0,none⟩) L.length sc) a b) t L (.slice (some ⟨cg,0,none⟩) t.length cc) (.slice (some ⟨sg,0,none⟩) L.length sc) (.slice pa k pc) (.slice ea k ec) (.slice xb pl2.length xd) k (Qh (qP t (some f.parts) (L.take k)).1) k (zX (qP t (some f.parts) (L.take k)).1) f.parts st' pl2∧wd.heap[B]?=some (.cells #[strB m.nonce,strB m.body] 167 (0,0)))
      case first =>
       by_cases hk0:ky=0
       ·subst hk0
        have hmr:=HMR.out
        unfold KA at hmr
        rw [aw rfl] at hmr
        injection hmr with h1 h2
        subst h1 h2
        have hn2:(xC (qP t (some f.parts) (L.take k)).2).1≤65535:=Nr _
        refine wp_cond_true rfl ?_
        go_wp2_with fail
        refine (Nu q f.parts (qP t (some f.parts) (L.take k)).2 w6 (by unfold maxLen;omega) HA3.out.spot).mono ?_
        rintro e w7 ⟨rfl,hsp7,hg7⟩
        have HA7:=hid (HA3.out.read hg7 hsp7)
        have Hb7:=hid (qp hg7 Hbx3.out (by omega))
        clear hsp7 hg7 HA3 Hbx3
        go_wp2_with fail
        refine (QJ q f.parts (xC (qP t (some f.parts) (L.take k)).2).2 ((xC (qP t (some f.parts) (L.take k)).2).1:Int) w7 (by unfold maxLen;omega) (by omega) (by omega) HA7.out.spot).mono ?_
        rintro e w8 ⟨rfl,hsp8,hg8⟩
        have HA8:=hid (HA7.out.read hg8 hsp8)
        have Hb8:=hid (qp hg8 Hb7.out (by omega))
        clear hsp8 hg8 HA7 Hb7
        go_wp2
        go_meet
        case rel=>exact ⟨rfl,HA8.out,Hb8.out⟩
       ·have hk1:(ky == 0)=false:=by simp [hk0]
        have hmr:=HMR.out
        unfold KA at hmr
        rw [aj hk0] at hmr
        injection hmr with h1 h2
        subst h1 h2
        refine wp_cond_false (aT Value.bool hk1) ?_
        go_wp2_with fail
        refine (Ky q f.parts (qP t (some f.parts) (L.take k)).2 w6 (by unfold maxLen;omega) HA3.out.spot).mono ?_
        rintro e w7 ⟨rfl,hsp7,hg7⟩
        have HA7:=hid (HA3.out.read hg7 hsp7)
        have Hb7:=hid (qp hg7 Hbx3.out (by omega))
        clear hsp7 hg7 HA3 Hbx3
        go_wp2_with (refine wpList_store_row rfl 167 (.tmp 13) (.tmp 103) rfl B #[strB (qv (qP t (some f.parts) (L.take k)).2).1.1,strB (qv (qP t (some f.parts) (L.take k)).2).1.2] rfl rfl 167 #[Value.string { data:=#[] },Value.string { data:=#[] }] Hb7.out (by kernel_rfl) rfl (by simp [Value.oneCell']) ?_)
        have HA8:=hid (HA7.out.later_row B #[strB (qv (qP t (some f.parts) (L.take k)).2).1.1,strB (qv (qP t (some f.parts) (L.take k)).2).1.2] Hb7.out (by omega) (by omega) (by omega) HEB.out)
        have Hb8:=hid (setRow_heap w7 B #[Value.string { data:=#[] },Value.string { data:=#[] }] #[strB (qv (qP t (some f.parts) (L.take k)).2).1.1,strB (qv (qP t (some f.parts) (L.take k)).2).1.2] 167 (0,0) Hb7.out)
        clear HA7 Hb7
        go_wp2
        go_meet
        case rel=>exact ⟨rfl,HA8.out,Hb8.out⟩
      case rest =>
       obtain ⟨hpe,hA,hbx⟩:=hcut
       subst hpe
       have HA4:=hid hA
       have Hb4:=hid hbx
       clear hA hbx HA3 Hbx3
       obtain ⟨d0,d1,d2,d3,d4,d5,d6,d7,d8⟩:=xA HA4.out.told
       obtain ⟨i0,hi,hz0,hz1,hz2⟩:=info_parts Tryz.infoString
       have hwc:=HA4.out.below.size
       go_upto_region 19 with fail
       go_upto_region 20 with (at_builtin;refine wpList_append_own _ rfl (.tmp 108) (.tmp 110) 71 rfl w.heap.size 9 i0 _ 1 16 Tryz.underlying71 hi hz0 hz1 hz2 rfl (by decide) _ _ _ rfl (HA4.out.plains.alloc _) ⟨_,0,none⟩ 1 1 [strB m.plain] rfl rfl (qq wc #[strB m.plain] 9) (by intro u hu;simp at hu;subst hu;rfl) (by unfold maxLen;omega) (by omega) (by simp;omega) ?_;intro v3 w4 hown4 hgr4 _;obtain ⟨ua,uc,hv3⟩:=jr hown4;subst hv3;have hT4:=jq hgr4 (HA4.out.plains.alloc _) (HA4.out.alloc _).told (by decide);have c7:=(xA hT4).2.2.2.2.2.2.2.1;have f7:=frozen_of_row w4 T 7 _ _ hT4)
       have HA5:=hid ((HA4.out.alloc (.cells #[strB m.plain] 9)).plain hgr4 hown4 (fun _ _ _=>rfl))
       have Hb5:=hid (qp (Jc w4 T 7 (.slice ua (k+1) uc)) (jq hgr4 (HA4.out.plains.alloc (.cells #[strB m.plain] 9)) (JK (.cells #[strB m.plain] 9) Hb4.out) (by decide)) (by omega))
       clear hown4 hgr4 hT4 c7 f7 HA4 Hb4 d0 d1 d2 d3 d4 d5 d6 d7 d8 hi hz0 hz1 hz2
       generalize hw5:w4.setCell _ _=w5 at *
       clear hw5
       obtain ⟨i1,hi1,hy0,hy1,hy2⟩:=info_parts Tryz.infoModule
       have d8:=(xA HA5.out.told).2.2.2.2.2.2.2.2
       refine wp_region_held_drew (S:=fun w'=>w'.heap[B]?=some (.cells #[strB m.nonce,strB m.body] 167 (0,0))) (by kernel_rfl) Hb5.out (fun hHeld=>?_)
       refine tk 0 (.pointer (some ⟨T,0,none⟩)) ?_
       refine tk 1 (.pointer (some ⟨T,0,none⟩)) ?_
       refine tk 2 (.pointer (some ⟨T,0,none⟩)) ?_
       refine tk 3 (.pointer (some ⟨T,8,none⟩)) ?_
       simp only [jA,jB,jC,Act.put,jD,jE,jF]
       refine wpAnyH_take (i:=5) (oi:=_) (v:=.agg #[strB m.nonce,strB m.body]) rfl (by kernel_rfl) (by kernel_rfl) (by kernel_rfl) (fun _ _ _ h=>h) (Or.inl ⟨by rfl,fun w hSw=>?_⟩) (by assumption) ?_
       ·have hrl:=run_loadVar_row (P:=Tryz.prog) w B 167 167 #[strB m.nonce,strB m.body] (0,0) _ hSw Tryz.underlying167 rfl (by kernel_rfl)
        unfold execOp
        simp [bj,aO,Act.eval,Instr.loadAt,Instr.sureAddr,bQ,bP,bu,hrl]
       simp only [jA,jB,jC,Act.put,jD,jE,jF]
       refine wpAnyH_ready (rs:=[4,6]) (by kernel_rfl) (by simp) ?_
       refine AllReadyH.cons (o:=_) rfl (fun K hK=>?_) (AllReadyH.cons (o:=_) rfl (fun K hK=>?_) AllReadyH.nil)
       ·simp only [jA,jB,jC]
        go_simp
        try go_wp2_with fail
        refine hK.out _ _ Hb5.out (fun hHeld=>?_)
        clear hK K
        try simp only [jA,jB,jC,Act.put,jD,jE,jF]
        refine rd 6 (fun K hK=>?_)
        simp only [jA,jB,jC]
        go_simp
        try go_wp2_with fail
        have HbW:Hid ((w5.alloc (.cells #[strB m.nonce,strB m.body] 167)).drew.heap[B]?=some (.cells #[strB m.nonce,strB m.body] 167 (0,0))):=JK _ Hb5.out
        have HAW:=hid (HA5.out.alloc (.cells #[strB m.nonce,strB m.body] 167)).drew
        have HNW:Hid (∀ j u,([strB m.nonce,strB m.body]:List Value)[j]?=some u→(w5.alloc (.cells #[strB m.nonce,strB m.body] 167)).drew.cell? ((⟨w5.heap.size,0,none⟩:Addr).add j)=some u):=xl w5 #[strB m.nonce,strB m.body] 167 (by simp)
        have d8W:=(xA HAW.out.told).2.2.2.2.2.2.2.2
        refine hK.out _ _ HbW.out (fun hHeld=>?_)
        clear hK K d8
        try simp only [jA,jB,jC,Act.put,jD,jE,jF]
        generalize hWX:(w5.alloc (.cells #[strB m.nonce,strB m.body] 167)).drew=WX at *
        clear hWX
        generalize hnb:w5.heap.size=nb at HNW ⊢
        clear hnb HA5 Hb5
        refine rd 7 (fun K hK=>?_)
        simp only [jA,jB,jC]
        rw [aw (by simp [Region.wanted])]
        refine wp_append_own _ (.tmp 118) (.tmp 120) 177 rfl w.heap.size 167 i1 _ 2 32 Tryz.underlying177 hi1 hy0 hy1 hy2 rfl (by decide) (.slice ea k ec) k (zX (qP t (some f.parts) (L.take k)).1) rfl HAW.out.seals ⟨nb,0,none⟩ 1 1 [strB m.nonce,strB m.body] rfl rfl HNW.out ?_ (by unfold maxLen;omega) (by omega) HAW.out.below.size ?_
        ·intro u hu
         simp at hu
         rcases hu with rfl|rfl<;>rfl
        intro v6 w6 hown6 hgr6 _
        have HBn:Hid (w6.heap[B]?=some (.cells #[strB m.nonce,strB m.body] 167 (0,0))):=by
         show _=_
         rw [hgr6.block B (ag.1 HbW.out).1 (by
          intro e
          rcases HEB.out with h|h
          ·rw [h] at e;cases e
          ·exact h e.symm)]
         exact HbW.out
        obtain ⟨va,vc,hv6⟩:=jr hown6
        subst hv6
        have HT6:=hid (jq hgr6 HAW.out.seals HAW.out.told (by decide))
        have HA6:=hid (HAW.out.module hgr6 hown6 (fun _ _ _=>rfl))
        clear hown6 hgr6 HNW HAW HbW d8W
        refine hK.out _ _ HBn.out (fun hHeld=>?_)
        clear hK K
        try simp only [jA,jB,jC,Act.put,jD,jE,jF]
        refine tk 8 (.pointer (some ⟨T,0,none⟩)) ?_
        refine tk 9 (.pointer (some ⟨T,8,none⟩)) ?_
        simp only [jA,jB,jC,Act.put,jD,jE,jF]
        refine rd 10 (fun K hK=>?_)
        simp only [jA,jB,jC]
        have c8:=(xA HT6.out).2.2.2.2.2.2.2.2
        have f8:=frozen_of_row w6 T 8 _ _ HT6.out
        go_simp
        try go_wp2_with fail
        have HBs:=qp (Jc w6 T 8 (.slice va (k+1) vc)) HBn.out (by omega)
        refine hK.out _ _ HBs (fun hHeld=>?_)
        clear hK K c8 f8
        refine wpAnyH_done (by kernel_rfl) ?_ _
        clear hHeld HBs HT6 HBn
        generalize hw7:w6.setCell _ _=w7 at *
        clear hw7
        go_wp2
        go_roundw
        case rel =>
         refine ⟨k+1,pl2,.slice ua (k+1) uc,.slice va (k+1) vc,by omega,by go_num,?_,?_,?_,?_⟩
         ·rw [HMS.out,Vl,Um]
          exact HA6.out
         ·rw [HMS.out]
          exact HNX.out.1
         ·exact HNX.out.2.1
         ·rw [HMS.out]
          exact HNX.out.2.2
        case measure=>simp [intOf];omega
       ·simp only [jA,jB,jC]
        go_simp
        try go_wp2_with fail
        have HbW:Hid ((w5.alloc (.cells #[strB m.nonce,strB m.body] 167)).drew.heap[B]?=some (.cells #[strB m.nonce,strB m.body] 167 (0,0))):=JK _ Hb5.out
        have HAW:=hid (HA5.out.alloc (.cells #[strB m.nonce,strB m.body] 167)).drew
        have HNW:Hid (∀ j u,([strB m.nonce,strB m.body]:List Value)[j]?=some u→(w5.alloc (.cells #[strB m.nonce,strB m.body] 167)).drew.cell? ((⟨w5.heap.size,0,none⟩:Addr).add j)=some u):=xl w5 #[strB m.nonce,strB m.body] 167 (by simp)
        have d8W:=(xA HAW.out.told).2.2.2.2.2.2.2.2
        refine hK.out _ _ HbW.out (fun hHeld=>?_)
        clear hK K d8
        try simp only [jA,jB,jC,Act.put,jD,jE,jF]
        generalize hWX:(w5.alloc (.cells #[strB m.nonce,strB m.body] 167)).drew=WX at *
        clear hWX
        generalize hnb:w5.heap.size=nb at HNW ⊢
        clear hnb HA5 Hb5
        refine rd 4 (fun K hK=>?_)
        simp only [jA,jB,jC]
        go_simp
        try go_wp2_with fail
        refine hK.out _ _ HbW.out (fun hHeld=>?_)
        clear hK K
        try simp only [jA,jB,jC,Act.put,jD,jE,jF]
        refine rd 7 (fun K hK=>?_)
        simp only [jA,jB,jC]
        rw [aw (by simp [Region.wanted])]
        refine wp_append_own _ (.tmp 118) (.tmp 120) 177 rfl w.heap.size 167 i1 _ 2 32 Tryz.underlying177 hi1 hy0 hy1 hy2 rfl (by decide) (.slice ea k ec) k (zX (qP t (some f.parts) (L.take k)).1) rfl HAW.out.seals ⟨nb,0,none⟩ 1 1 [strB m.nonce,strB m.body] rfl rfl HNW.out ?_ (by unfold maxLen;omega) (by omega) HAW.out.below.size ?_
        ·intro u hu
         simp at hu
         rcases hu with rfl|rfl<;>rfl
        intro v6 w6 hown6 hgr6 _
        have HBn:Hid (w6.heap[B]?=some (.cells #[strB m.nonce,strB m.body] 167 (0,0))):=by
         show _=_
         rw [hgr6.block B (ag.1 HbW.out).1 (by
          intro e
          rcases HEB.out with h|h
          ·rw [h] at e;cases e
          ·exact h e.symm)]
         exact HbW.out
        obtain ⟨va,vc,hv6⟩:=jr hown6
        subst hv6
        have HT6:=hid (jq hgr6 HAW.out.seals HAW.out.told (by decide))
        have HA6:=hid (HAW.out.module hgr6 hown6 (fun _ _ _=>rfl))
        clear hown6 hgr6 HNW HAW HbW d8W
        refine hK.out _ _ HBn.out (fun hHeld=>?_)
        clear hK K
        try simp only [jA,jB,jC,Act.put,jD,jE,jF]
        refine tk 8 (.pointer (some ⟨T,0,none⟩)) ?_
        refine tk 9 (.pointer (some ⟨T,8,none⟩)) ?_
        simp only [jA,jB,jC,Act.put,jD,jE,jF]
        refine rd 10 (fun K hK=>?_)
        simp only [jA,jB,jC]
        have c8:=(xA HT6.out).2.2.2.2.2.2.2.2
        have f8:=frozen_of_row w6 T 8 _ _ HT6.out
        go_simp
        try go_wp2_with fail
        have HBs:=qp (Jc w6 T 8 (.slice va (k+1) vc)) HBn.out (by omega)
        refine hK.out _ _ HBs (fun hHeld=>?_)
        clear hK K c8 f8
        refine wpAnyH_done (by kernel_rfl) ?_ _
        clear hHeld HBs HT6 HBn
        generalize hw7:w6.setCell _ _=w7 at *
        clear hw7
        go_wp2
        go_roundw
        case rel =>
         refine ⟨k+1,pl2,.slice ua (k+1) uc,.slice va (k+1) vc,by omega,by go_num,?_,?_,?_,?_⟩
         ·rw [HMS.out,Vl,Um]
          exact HA6.out
         ·rw [HMS.out]
          exact HNX.out.1
         ·exact HNX.out.2.1
         ·rw [HMS.out]
          exact HNX.out.2.2
        case measure=>simp [intOf];omega
   ·have hke:k=L.length:=by omega
    subst hke
    rw [aF] at HA HPK HPQ HML
    have hki:¬ (L.length:Int) < (L.length:Int):=by omega
    obtain ⟨at_,bad,hsrow,hat,hst⟩:=HA.out.spot
    have HST:=hid hst
    have HSR:=hid hsrow
    have hsm:∀ c ∈ t,SmallC c:=fun c hc=>by
     obtain ⟨h1,h2,h3,h4⟩:=HCS.out c hc
     exact ⟨h1,h2,⟨h3,h4⟩,HBA.out c hc⟩
    obtain ⟨_,_,hcv,_,hli⟩:=Ga HA.out.cols rfl hsm
    injection hcv with hcv1 hcv2 hcv3
    subst hcv1 hcv3
    clear hcv2
    have HLI:=hid hli
    obtain ⟨_,_,hxv,hpc⟩:=Tl HA.out.places
    injection hxv with hxv1 hxv2 hxv3
    subst hxv1 hxv3
    clear hxv2
    have HPC:=hid hpc
    have hpl3:pl.length≤360:=by
     rw [HPK.out]
     exact HCN.out _ HML.out
    obtain ⟨FB,hFB⟩:∃ FB,FB=qH (qR footer) (zx footer) t pl:=⟨_,rfl⟩
    have HFT:Hid (∀ w',Below wr.heap.size wr w'→Calls Tryz.prog 87 #[.int .i64 (qR footer:Int),.agg #[.int .i64 (G:Int),.int .i64 (P:Int),.int .i64 (F:Int),.bool false],.slice ca t.length cc,.slice xa pl.length xc] w'
      fun e w2=>e=.returned (strB FB)∧Below w'.heap.size w' w2):=by
     intro w' hw'
     have h:=Is (qR footer) G P F false ca cc t xa xc pl w' hR60 hG6 hP6 hF9 hC6 hpl3 (fun x hx=>by have:=HPX.out x hx;omega) (fun c hc=>by
      obtain ⟨h1,h2,h3,h4⟩:=HCS.out c hc
      exact ⟨h1,by omega,h3,h4⟩) (HLI.out.later hw') (by
      intro i hi2
      obtain ⟨g,h1,h2,h3⟩:=HPC.out i hi2
      exact ⟨g,h1,aa h2 hw'.size,(hw'.cell (p:=⟨g,i,none⟩) h2).trans h3⟩)
     rw [hFB,HPL.out]
     exact h
    have HLN:Hid (¬ ((qP t (some f.parts) L).2=some []∧FB=footer)→Vj f.foot f.parts footer=none):=by
     intro hn
     rw [HLR.out,HMR.out,HSB.out,aj]
     rintro ⟨h1,h2⟩
     refine hn ⟨h1,?_⟩
     rw [hFB,HPQ.out _ h1]
     exact h2
    have HLY:Hid ((qP t (some f.parts) L).2=some []→FB=footer→Vj f.foot f.parts footer=some ⟨qR footer,zx footer,t,(qP t (some f.parts) L).1⟩):=by
     intro h1 h2
     rw [HLR.out,HMR.out,HSB.out,aw]
     refine ⟨h1,?_⟩
     rw [← HPQ.out _ h1,← hFB]
     exact h2
    clear hsm hli hpc hst hsrow hFB HPK HPX HPC HLI HCN HCS HBA
    go_upto_region 21 with fail
    refine wp_region_held_drew (S:=fun w'=>w'.cell? ⟨T,0,none⟩=some (.int .i64 (qR footer:Int))∧w'.cell? ⟨T,1,none⟩=some (.int .i64 (G:Int))∧w'.cell? ⟨T,2,none⟩=some (.int .i64 (P:Int))∧w'.cell? ⟨T,3,none⟩=some (.int .i64 (F:Int))∧w'.cell? ⟨T,4,none⟩=some (.bool false)∧w'.cell? ⟨T,5,none⟩=some (.slice ca t.length cc)) (by kernel_rfl) ⟨d0,d1,d2,d3,d4,d5⟩ (fun hHeld=>?_)
    refine tk 0 (.pointer (some ⟨T,0,none⟩)) ?_
    refine tk 1 (.pointer (some ⟨T,0,none⟩)) ?_
    refine tk 2 (.pointer (some ⟨T,0,none⟩)) ?_
    refine tk 3 (.int .i64 (qR footer:Int)) ?_
    refine tk 4 (.pointer (some ⟨T,0,none⟩)) ?_
    refine tk 5 (.pointer (some ⟨T,0,none⟩)) ?_
    refine tk 6 (.pointer (some ⟨T,1,none⟩)) ?_
    refine tk 7 (.agg #[.int .i64 (G:Int),.int .i64 (P:Int),.int .i64 (F:Int),.bool false]) ?_
    refine tk 8 (.pointer (some ⟨T,0,none⟩)) ?_
    refine tk 9 (.pointer (some ⟨T,0,none⟩)) ?_
    refine tk 10 (.pointer (some ⟨T,5,none⟩)) ?_
    refine tk 11 (.slice ca t.length cc) ?_
    refine tk 12 (.slice xa pl.length xc) ?_
    simp only [jA,jB,jC,Act.put,jD,jE,jF]
    refine rd 13 (fun K hK=>?_)
    simp only [jA,jB,jC]
    go_simp
    go_at_call 87
    refine (HFT.out _ (qe (Below.refl _ _))).mono ?_
    rintro e w2 ⟨rfl,hb2⟩
    have hb2':=ji hb2
    have HA2:=hid (HA.out.later hb2')
    have HSR2:=hid (jb hb2' HSR.out)
    clear hb2 hb2' HFT d0 d1 d2 d3 d4 d5 d6 d7 d8 HA HSR
    obtain ⟨d0,d1,d2,d3,d4,d5,_⟩:=xA HA2.out.told
    try go_wp2_with fail
    refine hK.out _ _ ⟨d0,d1,d2,d3,d4,d5⟩ (fun hHeld=>?_)
    clear hK K
    try simp only [jA,jB,jC,Act.put,jD,jE,jF]
    refine tk 14 (strB FB) ?_
    simp only [jA,jB,jC,Act.put,jD,jE,jF]
    refine wpAnyH_done (by kernel_rfl) ?_ _
    clear hHeld d0 d1 d2 d3 d4 d5
    obtain ⟨⟨k0,k1,k2⟩,_⟩:=xt HSR2.out
    go_upto_region 22 with fail
    cases bad with
    | true =>
     have HLZ:=hid (HLN.out (by rw [HST.out];simp))
     clear HLN HLY
     refine wp_region_held_drew (S:=fun w'=>w'.cell? ⟨q,0,none⟩=some (strB f.parts)∧w'.cell? ⟨q,1,none⟩=some (.int .i64 (at_:Int))∧w'.cell? ⟨q,2,none⟩=some (.bool true)) (by kernel_rfl) ⟨k0,k1,k2⟩ (fun hHeld=>?_)
     refine tk 0 (.pointer (some ⟨T,0,none⟩)) ?_
     refine tk 1 (.pointer (some ⟨q,0,none⟩)) ?_
     refine tk 2 (.pointer (some ⟨q,0,none⟩)) ?_
     refine tk 3 (.pointer (some ⟨q,2,none⟩)) ?_
     refine tk 4 (.bool true) ?_
     refine tk 5 (.bool false) ?_
     refine tk 6 (.bool false) ?_
     refine tu 7 ?_
     refine tu 8 ?_
     refine tu 9 ?_
     refine tu 10 ?_
     refine tu 11 ?_
     refine tu 12 ?_
     refine tu 13 ?_
     refine tu 14 ?_
     refine tu 15 ?_
     refine tu 16 ?_
     refine tk 17 (.bool false) ?_
     refine tk 18 (.bool false) ?_
     refine tu 19 ?_
     refine tu 20 ?_
     refine tu 21 ?_
     refine tk 22 (.bool false) ?_
     refine tk 23 (.pointer (some ⟨T,0,none⟩)) ?_
     refine tk 24 (.bool false) ?_
     simp only [jA,jB,jC,Act.put,jD,jE,jF]
     refine wpAnyH_done (by kernel_rfl) ?_ _
     clear hHeld
     go_wp2
     go_ret2
     exact ⟨qe HA2.out.below,.inl ⟨HLZ.out,_,rfl⟩⟩
    | false =>
     by_cases hae:at_=f.parts.length
     ·have hbq:((at_:Int) == (f.parts.length:Int))=true:=by rw [cI];omega
      by_cases hfe:FB=footer
      ·have HLZ:=hid (HLY.out (by rw [HST.out];simp [hae]) hfe)
       have hfq:(FB == footer)=true:=by rw [hfe];simp
       have HTE:Hid (w2.drew.heap[T]?=some (.cells (toldC (qR footer:Int) (zx footer).group (zx footer).page (zx footer).foot (.slice ca t.length cc) (.slice sa L.length sc) (.slice pa L.length pc) (.slice ea L.length ec)) 179 (0,0))):=by
        show _=_
        rw [HPL.out]
        exact HA2.out.told
       have HSE:Hid (qB ⟨qR footer,zx footer,t,(qP t (some f.parts) L).1⟩=L):=by
        show jI (qR footer) t.length (zx footer).group.toNat (zx footer).page.toNat=L
        rw [HPL.out]
        exact HL.out
       have HCE:Hid (w2.drew.ownsRow w.heap.size 161 6 (.slice sa L.length sc) (qB ⟨qR footer,zx footer,t,(qP t (some f.parts) L).1⟩).length (JB (qB ⟨qR footer,zx footer,t,(qP t (some f.parts) L).1⟩))):=by
        show World.ownsRow _ _ _ _ _ _ _
        rw [HSE.out]
        exact HA2.out.drew.spots
       have HPE:Hid (w2.drew.ownsRow w.heap.size 9 1 (.slice pa L.length pc) (qP t (some f.parts) L).1.length (Qh (qP t (some f.parts) L).1)):=by
        show World.ownsRow _ _ _ _ _ _ _
        rw [HML.out]
        exact HA2.out.drew.plains
       have HEE:Hid (w2.drew.ownsRow w.heap.size 167 2 (.slice ea L.length ec) (qP t (some f.parts) L).1.length (zX (qP t (some f.parts) L).1)):=by
        show World.ownsRow _ _ _ _ _ _ _
        rw [HML.out]
        exact HA2.out.drew.seals
       clear HLN HLY hae hfe
       refine wp_region_held_drew (S:=fun w'=>w'.cell? ⟨q,0,none⟩=some (strB f.parts)∧w'.cell? ⟨q,1,none⟩=some (.int .i64 (at_:Int))∧w'.cell? ⟨q,2,none⟩=some (.bool false)) (by kernel_rfl) ⟨k0,k1,k2⟩ (fun hHeld=>?_)
       refine tk 0 (.pointer (some ⟨T,0,none⟩)) ?_
       refine tk 1 (.pointer (some ⟨q,0,none⟩)) ?_
       refine tk 2 (.pointer (some ⟨q,0,none⟩)) ?_
       refine tk 3 (.pointer (some ⟨q,2,none⟩)) ?_
       refine tk 4 (.bool false) ?_
       refine tk 5 (.bool true) ?_
       refine tk 6 (.bool true) ?_
       refine tk 7 (.pointer (some ⟨q,0,none⟩)) ?_
       refine tk 8 (.pointer (some ⟨q,0,none⟩)) ?_
       refine tk 9 (.pointer (some ⟨q,1,none⟩)) ?_
       refine tk 10 (.int .i64 (at_:Int)) ?_
       refine tk 11 (.pointer (some ⟨q,0,none⟩)) ?_
       refine tk 12 (.pointer (some ⟨q,0,none⟩)) ?_
       refine tk 13 (.pointer (some ⟨q,0,none⟩)) ?_
       refine tk 14 (strB f.parts) ?_
       refine tk 15 (.int .i64 (f.parts.length:Int)) ?_
       refine tk 16 (.bool true) ?_
       refine tk 17 (.bool true) ?_
       refine tk 18 (.bool true) ?_
       refine tk 19 (strB FB) ?_
       refine tk 20 (strB footer) ?_
       refine tk 21 (.bool true) ?_
       refine tk 22 (.bool true) ?_
       refine tk 23 (.pointer (some ⟨T,0,none⟩)) ?_
       refine tk 24 (.bool true) ?_
       simp only [jA,jB,jC,Act.put,jD,jE,jF]
       refine wpAnyH_done (by kernel_rfl) ?_ _
       clear hHeld
       go_wp2
       go_ret2
       refine ⟨qe HA2.out.below,.inr ⟨_,T,HLZ.out,rfl,_,_,_,_,HTE.out,HA2.out.drew.cols,HCE.out,HPE.out,HEE.out⟩⟩
      ·have HLZ:=hid (HLN.out (fun h=>hfe h.2))
       have hfq:(FB == footer)=false:=by simp [hfe]
       clear HLN HLY hae
       refine wp_region_held_drew (S:=fun w'=>w'.cell? ⟨q,0,none⟩=some (strB f.parts)∧w'.cell? ⟨q,1,none⟩=some (.int .i64 (at_:Int))∧w'.cell? ⟨q,2,none⟩=some (.bool false)) (by kernel_rfl) ⟨k0,k1,k2⟩ (fun hHeld=>?_)
       refine tk 0 (.pointer (some ⟨T,0,none⟩)) ?_
       refine tk 1 (.pointer (some ⟨q,0,none⟩)) ?_
       refine tk 2 (.pointer (some ⟨q,0,none⟩)) ?_
       refine tk 3 (.pointer (some ⟨q,2,none⟩)) ?_
       refine tk 4 (.bool false) ?_
       refine tk 5 (.bool true) ?_
       refine tk 6 (.bool true) ?_
       refine tk 7 (.pointer (some ⟨q,0,none⟩)) ?_
       refine tk 8 (.pointer (some ⟨q,0,none⟩)) ?_
       refine tk 9 (.pointer (some ⟨q,1,none⟩)) ?_
       refine tk 10 (.int .i64 (at_:Int)) ?_
       refine tk 11 (.pointer (some ⟨q,0,none⟩)) ?_
       refine tk 12 (.pointer (some ⟨q,0,none⟩)) ?_
       refine tk 13 (.pointer (some ⟨q,0,none⟩)) ?_
       refine tk 14 (strB f.parts) ?_
       refine tk 15 (.int .i64 (f.parts.length:Int)) ?_
       refine tk 16 (.bool true) ?_
       refine tk 17 (.bool true) ?_
       refine tk 18 (.bool true) ?_
       refine tk 19 (strB FB) ?_
       refine tk 20 (strB footer) ?_
       refine tk 21 (.bool false) ?_
       refine tk 22 (.bool false) ?_
       refine tk 23 (.pointer (some ⟨T,0,none⟩)) ?_
       refine tk 24 (.bool false) ?_
       simp only [jA,jB,jC,Act.put,jD,jE,jF]
       refine wpAnyH_done (by kernel_rfl) ?_ _
       clear hHeld
       go_wp2
       go_ret2
       exact ⟨qe HA2.out.below,.inl ⟨HLZ.out,_,rfl⟩⟩
     ·have hbq:((at_:Int) == (f.parts.length:Int))=false:=by rw [aQ];omega
      have HLZ:=hid (HLN.out (fun h=>by
       rw [HST.out] at h
       have h1:=h.1
       simp at h1
       omega))
      clear HLN HLY hae
      refine wp_region_held_drew (S:=fun w'=>w'.cell? ⟨q,0,none⟩=some (strB f.parts)∧w'.cell? ⟨q,1,none⟩=some (.int .i64 (at_:Int))∧w'.cell? ⟨q,2,none⟩=some (.bool false)) (by kernel_rfl) ⟨k0,k1,k2⟩ (fun hHeld=>?_)
      refine tk 0 (.pointer (some ⟨T,0,none⟩)) ?_
      refine tk 1 (.pointer (some ⟨q,0,none⟩)) ?_
      refine tk 2 (.pointer (some ⟨q,0,none⟩)) ?_
      refine tk 3 (.pointer (some ⟨q,2,none⟩)) ?_
      refine tk 4 (.bool false) ?_
      refine tk 5 (.bool true) ?_
      refine tk 6 (.bool true) ?_
      refine tk 7 (.pointer (some ⟨q,0,none⟩)) ?_
      refine tk 8 (.pointer (some ⟨q,0,none⟩)) ?_
      refine tk 9 (.pointer (some ⟨q,1,none⟩)) ?_
      refine tk 10 (.int .i64 (at_:Int)) ?_
      refine tk 11 (.pointer (some ⟨q,0,none⟩)) ?_
      refine tk 12 (.pointer (some ⟨q,0,none⟩)) ?_
      refine tk 13 (.pointer (some ⟨q,0,none⟩)) ?_
      refine tk 14 (strB f.parts) ?_
      refine tk 15 (.int .i64 (f.parts.length:Int)) ?_
      refine tk 16 (.bool false) ?_
      refine tk 17 (.bool false) ?_
      refine tk 18 (.bool false) ?_
      refine tu 19 ?_
      refine tu 20 ?_
      refine tu 21 ?_
      refine tk 22 (.bool false) ?_
      refine tk 23 (.pointer (some ⟨T,0,none⟩)) ?_
      refine tk 24 (.bool false) ?_
      simp only [jA,jB,jC,Act.put,jD,jE,jF]
      refine wpAnyH_done (by kernel_rfl) ?_ _
      clear hHeld
      go_wp2
      go_ret2
      exact ⟨qe HA2.out.below,.inl ⟨HLZ.out,_,rfl⟩⟩
end Go.Proofs.YthhpbhpfagoapaaGreat
