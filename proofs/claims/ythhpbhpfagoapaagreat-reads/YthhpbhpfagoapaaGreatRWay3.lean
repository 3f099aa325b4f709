import Derived.Test.YthhpbhpfagoapaaGreatJAO
namespace Go.Proofs.YthhpbhpfagoapaaGreat
set_option linter.unusedVariables false
set_option linter.unusedSimpArgs false
set_option maxRecDepth 100000
set_option maxHeartbeats 16000000
open Go.RowKit
set_option maxRecDepth 100000 in
theorem Bi (a:Option Addr) (cap:Nat) (l:List CellB) (w:World) (hv:Vals w a l) :
  Calls Tryz.prog 117 #[.int .i64 3,.slice a l.length cap] w fun e w'=>e=.returned (strB (qp 3 l))∧Below w.heap.size w w':=by
 have Hv:=hid hv
 have hn:=hv.few
 clear hv
 go_enter Tryz.func117,Tryz.ntmps117
 go_wp2_with fail
 refine (Jj a cap l _ (by omega) Hv.out.lies).mono ?_
 rintro e w1 ⟨dv,rfl,hdown,hb1⟩
 obtain ⟨da,dcap,rfl,_,hLd⟩:=Jz hdown (fun c hc=>Pu (Hv.out.small c (JZ l l.length (Nat.le_refl _) c hc)))
 have HLd:=hid hLd
 have hsd:∀ c ∈ qb l,qz c:=fun c hc=>Hv.out.small c (JZ l l.length (Nat.le_refl _) c hc)
 have Hsd:=hid hsd
 have hdn:(qb l).length≤60:=Nat.le_trans (zp l l.length) hn
 clear hdown hLd hsd
 go_wp2_with fail
 refine (GZ _ _ (by omega) (by omega)).mono ?_
 rintro e w2 ⟨rfl,hb2⟩
 rw [Int.toNat_natCast]
 go_wp2_with fail
 go_loopw [5,7] (fun s i wr=>∃ k:Nat,k≤(qb l).length∧i=.int .i64 (k:Int)∧s=strB (zD (qb l) k)∧Below w1.heap.size w1 wr) (fun _ i _=>(qb l).length - (intOf i).toNat)
 case atStart=>exact ⟨0,Nat.zero_le _,rfl,rfl,hb2⟩
 case round =>
  clear hb2
  obtain ⟨k,hkl,rfl,rfl,hB⟩:=hrel
  by_cases hlt:k < (qb l).length
  ·have hlen:=KA (qb l) Hsd.out hdn k
   have HS:Hid (zD (qb l) (k+1)=zD (qb l) k++xB ((qb l)[k]).text):=by
    show zD (qb l) k++xB (xP (qb l) k).text=_
    rw [jY _ k hlt]
   obtain ⟨_,_,s3⟩:=Hsd.out (qb l)[k] (List.getElem_mem hlt)
   obtain ⟨b,off,ha,hbw,hcell⟩:=(HLd.out.later hB).at_ (List.ne_nil_of_length_pos (by omega))
   obtain ⟨g1,g2,g3⟩:=hcell k hlt
   subst ha
   clear hcell
   have hbl:=Ur _ s3
   generalize zD (qb l) k=acc at *
   generalize ((qb l)[k]).text=tx at *
   go_wp2_with fail
   refine (DT _ _ (by rw [jK];omega)).mono ?_
   rintro e w4 ⟨rfl,hb4⟩
   rw [UQ]
   clear g1 g2 g3
   go_wp2
   go_roundw
   case rel=>exact ⟨k+1,by omega,by go_num,by rw [HS.out,xg],hB.trans (hb4.mono hB.size)⟩
   case measure=>simp [intOf];omega
  ·have hke:k=(qb l).length:=by omega
   subst hke
   have hwl:=KA (qb l) Hsd.out hdn (qb l).length
   generalize hW:zD (qb l) (qb l).length=words at *
   have HW:=hid hW
   clear hW
   go_wp2_with fail
   go_loopw [5,8] (fun s i wr=>∃ k:Nat,k≤l.length∧i=.int .i64 (k:Int)∧s=strB (words++js 3 l k)∧Below w1.heap.size w1 wr) (fun _ i _=>l.length - (intOf i).toNat)
   case atStart=>exact ⟨0,Nat.zero_le _,rfl,by simp [js],hB⟩
   case round =>
    clear hB
    obtain ⟨k,hkl,rfl,rfl,hB0⟩:=hrel
    have hB:=hb1.trans (hB0.mono hb1.size)
    have hz1:=hB0.size
    by_cases hlt:k < l.length
    ·have hlies:=(Hv.out.later hB).lies
     have hlen:=xm 3 l Hv.out.small hn k
     have hstep:=QD 3 l Hv.out.small hn k
     have HS:Hid (js 3 l (k+1)=js 3 l k++qG 3 l k):=rfl
     have hsm:=Hv.out.small l[k] (List.getElem_mem hlt)
     have hpr:=Je l Hv.out.small k
     have HT:Hid (qG 3 l k=uB (jP (qb l) (l[k]).text)):=by show uB (jP (qb l) (xP l k).text)=_;rw [jY l k hlt]
     have hfl:=ZF (qb l) (l[k]).text
     have hdl:=zp l l.length
     have hdl2:(qb l).length≤60:=Nat.le_trans hdl hn
     have Hex:=hid (Zt l k hlt)
     clear hdl
     obtain ⟨b,off,ha,hbw,hcell⟩:=hlies.at_ (List.ne_nil_of_length_pos (by omega))
     subst ha
     have Hcell:=hid hcell
     clear hlies
     obtain ⟨g1,g2,g3⟩:=hcell k hlt
     clear hcell
     generalize js 3 l k=acc at *
     have hz0:=hB.size
     go_upto_if 47 with fail
     go_cut [10] (fun p wc=>p=.pointer (some ⟨wr.heap.size+1,0,none⟩)∧Qo wc wr.heap.size l[k]∧Qo wc (wr.heap.size+1) (jR l k)∧Below wr.heap.size wr wc∧wc.heap.size=wr.heap.size+2)
     case first =>
      by_cases hk0:k=0
      ·subst hk0
       go_wp2
       go_meet
       case rel=>exact ⟨rfl,zg wr l[0] qy⟩
      ·obtain ⟨m,rfl⟩:∃ m,k=m+1:=⟨k - 1,by omega⟩
       obtain ⟨f1,f2,f3⟩:=Hcell.out m (by omega)
       have hpm:jR l (m+1)=l[m]:=by unfold jR;rw [if_neg (by omega)];exact jY l m (by omega)
       have Hpm:=hid hpm
       clear hpm
       go_wp2
       go_meet
       case rel=>exact ⟨rfl,by rw [Hpm.out];exact zg wr l[m+1] l[m]⟩
     case rest =>
      obtain ⟨rfl,hh1,hh2,hb3,hsz⟩:=hcut
      obtain ⟨v1,v2,v3⟩:=hh1
      obtain ⟨q1,q2,q3⟩:=hh2
      have hB3:=hB.trans (hb3.mono hz0)
      have hz3:=hB3.size
      obtain ⟨s1,s2,s3⟩:=hsm
      obtain ⟨r1,r2,r3⟩:=hpr
      have HB3:=hid hb3
      clear g1 g2 g3 hb3 hB
      have hLd:=(HLd.out.later hB0).later HB3.out
      have HLd2:=hid hLd
      clear hLd
      have hbl:=jN (jP (qb l) (l[k]).text) (by omega)
      go_wp2_with fail
      refine (Rz da dcap (qb l) (l[k]).text _ (by omega) HLd2.out Hex.out).mono ?_
      rintro e wc ⟨rfl,rfl⟩
      generalize jP (qb l) (l[k]).text=ff at *
      go_wp2_with fail
      refine (GZ _ _ (by omega) (by omega)).mono ?_
      rintro e w4 ⟨rfl,hb4⟩
      rw [Int.toNat_natCast]
      have HB4:=hid ((hB0.trans (HB3.out.mono hz1)).trans (hb4.mono (Nat.le_trans hz1 HB3.out.size)))
      go_wp2
      go_roundw
      case rel=>exact ⟨k+1,by omega,by go_num,by rw [HS.out,HT.out,← List.append_assoc,xg],HB4.out⟩
      case measure=>simp [intOf];omega
    ·have hke:k=l.length:=by omega
     subst hke
     go_wp2
     go_ret
     exact ⟨qt (by unfold qp;rw [if_pos rfl,HW.out]),hB⟩
end Go.Proofs.YthhpbhpfagoapaaGreat
