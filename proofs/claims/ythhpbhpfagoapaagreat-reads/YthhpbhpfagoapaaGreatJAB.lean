import Derived.Test.YthhpbhpfagoapaaGreatJAO
import Derived.Lib.Strings
import Derived.Test.YthhpbhpfagoapaaGreatJAJ
namespace Go.Proofs.YthhpbhpfagoapaaGreat
set_option linter.unusedVariables false
set_option linter.unusedSimpArgs false
set_option maxRecDepth 100000
set_option maxHeartbeats 16000000
open Go.RowKit
section
theorem EA (tx:List UInt8) (m:Nat):((⟨tx.toArray⟩:ByteArray).extract m tx.length).data.toList=tx.drop m:=by
 rw [Lib.extract_data,UQ,List.take_of_length_le (by rw [List.length_drop];omega)]
theorem SS (tx:List UInt8) (m:Nat) (h:tx.length≤12):((⟨tx.toArray⟩:ByteArray).extract m tx.length).size≤1000000:=by
 rw [Lib.size_eq,EA,List.length_drop];omega
theorem Xj (tx:List UInt8) (m:Nat) (h:m < tx.length) (h2:m < (⟨tx.toArray⟩:ByteArray).size):(⟨tx.toArray⟩:ByteArray)[m]'h2=tx[m]:=rfl
set_option maxRecDepth 100000 in
theorem Bf (a:Option Addr) (cap:Nat) (l:List CellB) (w:World) (hv:Vals w a l) :
  Calls Tryz.prog 117 #[.int .i64 4,.slice a l.length cap] w fun e w'=>e=.returned (strB (qp 4 l))∧Below w.heap.size w w':=by
 have Hv:=hid hv
 have hn:=hv.few
 clear hv
 go_enter Tryz.func117,Tryz.ntmps117
 go_wp2_with fail
 refine (Jj a cap l _ (by omega) Hv.out.lies).mono ?_
 rintro e w1 ⟨dv,rfl,hdown,hb1⟩
 clear hdown
 go_wp2_with fail
 go_loopw [5,8] (fun s i wr=>∃ k:Nat,k≤l.length∧i=.int .i64 (k:Int)∧s=strB (js 4 l k)∧Below w.heap.size w wr) (fun _ i _=>l.length - (intOf i).toNat)
 case atStart=>exact ⟨0,Nat.zero_le _,rfl,rfl,hb1⟩
 case round =>
  clear hb1
  obtain ⟨k,hkl,rfl,rfl,hB⟩:=hrel
  by_cases hlt:k < l.length
  ·have hlies:=(Hv.out.later hB).lies
   have hlen:=xm 4 l Hv.out.small hn k
   have hstep:=QD 4 l Hv.out.small hn k
   have HS:Hid (js 4 l (k+1)=js 4 l k++qG 4 l k):=rfl
   have hsm:=Hv.out.small l[k] (List.getElem_mem hlt)
   have hpr:=Je l Hv.out.small k
   have HT:Hid (qG 4 l k=uB (jF (l[k]).text (jR l k).text)++xB ((l[k]).text.drop (jF (l[k]).text (jR l k).text))):=by
    show qG 4 l k=_
    simp only [qG,jY l k hlt]
   obtain ⟨hs1,hs2⟩:=Jb (l[k]).text (jR l k).text
   have HSL:=hid (Uu (l[k]).text (jR l k).text)
   have HSE:=hid (VT (l[k]).text (jR l k).text)
   obtain ⟨b,off,ha,hbw,hcell⟩:=hlies.at_ (List.ne_nil_of_length_pos (by omega))
   subst ha
   have Hcell:=hid hcell
   clear hlies
   obtain ⟨g1,g2,g3⟩:=hcell k hlt
   clear hcell
   generalize js 4 l k=acc at *
   have hz0:=hB.size
   go_upto_if 47 with fail
   go_cut [10] (fun p wc=>p=.pointer (some ⟨wr.heap.size+1,0,none⟩)∧Qo wc wr.heap.size l[k]∧Qo wc (wr.heap.size+1) (jR l k)∧Below wr.heap.size wr wc∧wc.heap.size=wr.heap.size+2)
   case first =>
    by_cases hk0:k=0
    ·subst hk0
     go_wp2
     go_meet
     case rel=>exact ⟨rfl,zg wr l[0] qy⟩
    ·obtain ⟨m,rfl⟩:∃ m,k=m+1:=⟨k - 1,by omega⟩
     obtain ⟨f1,f2,f3⟩:=Hcell.out m (by omega)
     have hpm:jR l (m+1)=l[m]:=by unfold jR;rw [if_neg (by omega)];exact jY l m (by omega)
     have Hpm:=hid hpm
     clear hpm
     go_wp2
     go_meet
     case rel=>exact ⟨rfl,by rw [Hpm.out];exact zg wr l[m+1] l[m]⟩
   case rest =>
    obtain ⟨rfl,hh1,hh2,hb3,hsz⟩:=hcut
    obtain ⟨v1,v2,v3⟩:=hh1
    obtain ⟨q1,q2,q3⟩:=hh2
    have hB3:=hB.trans (hb3.mono hz0)
    have hz3:=hB3.size
    obtain ⟨s1,s2,s3⟩:=hsm
    obtain ⟨r1,r2,r3⟩:=hpr
    have HB3:=hid hb3
    clear g1 g2 g3 hb3 hB
    generalize hGe:wr.heap.size=G at *
    have HGe:=hid hGe
    clear hGe
    have hbu:=jN (jF (l[k]).text (jR l k).text) (by omega)
    have hbx:=Ur ((l[k]).text.drop (jF (l[k]).text (jR l k).text)) (by rw [List.length_drop];omega)
    generalize jF (l[k]).text (jR l k).text=sh at *
    generalize (l[k]).text=tx at *
    generalize (jR l k).text=py at *
    clear v1 v2 q1 q2 r1 r2 s1 s2
    go_wp2_with fail
    go_loopw [12] (fun t wi=>∃ m:Nat,m≤sh∧t=.int .i64 (m:Int)∧Below wc.heap.size wc wi) (fun t _=>100 - (intOf t).toNat)
    case atStart=>exact ⟨0,Nat.zero_le _,rfl,Below.refl _ _⟩
    case round =>
     obtain ⟨m,hm,rfl,hBi⟩:=hrel
     have x3:=(hBi.cell (p:=⟨G,2,none⟩) (by show G < wc.heap.size;omega)).trans v3
     have p3:=(hBi.cell (p:=⟨G+1,2,none⟩) (by show G+1 < wc.heap.size;omega)).trans q3
     by_cases hmr:m < sh
     ·have l1:m < tx.length:=by omega
      have l2:m < py.length:=by omega
      have m1:m < (⟨tx.toArray⟩:ByteArray).size:=by rw [jK];exact l1
      have m2:m < (⟨py.toArray⟩:ByteArray).size:=by rw [jK];exact l2
      have he:(((((⟨tx.toArray⟩:ByteArray)[m]'m1).toNat:Int)) == ((((⟨py.toArray⟩:ByteArray)[m]'m2).toNat:Int)))=true:=by
       rw [Xj tx m l1,Xj py m l2,HSL.out m hmr l1 l2];simp
      have i1:(m:Int) < (tx.length:Int):=by omega
      have i2:(m:Int) < (py.length:Int):=by omega
      clear v3 q3
      go_wp2_with fail
      go_quiet (fail)
      go_wp2
      go_roundw
      case rel=>exact ⟨m+1,by omega,by go_num,below_drewN hBi nq⟩
      case measure=>simp [intOf];omega
     ·have hme:m=sh:=by omega
      subst hme
      go_upto_region 32 with fail
      go_cut [150] (fun t wd=>t=.bool false∧Below wc.heap.size wc wd)
      case first =>
       by_cases l1:m < tx.length
       ·have i1:(m:Int) < (tx.length:Int):=by omega
        by_cases l2:m < py.length
        ·have i2:(m:Int) < (py.length:Int):=by omega
         have hne:=HSE.out l1 l2
         have m1:m < (⟨tx.toArray⟩:ByteArray).size:=by rw [jK];exact l1
         have m2:m < (⟨py.toArray⟩:ByteArray).size:=by rw [jK];exact l2
         have hne2:(((((⟨tx.toArray⟩:ByteArray)[m]'m1).toNat:Int)) == ((((⟨py.toArray⟩:ByteArray)[m]'m2).toNat:Int)))=false:=by
          rw [Xj tx m l1,Xj py m l2]
          have:¬ (tx[m]'l1).toNat=(py[m]'l2).toNat:=fun h=>hne (UInt8.toNat_inj.1 h)
          simp;omega
         clear hne v3 q3
         go_quiet (fail)
         go_wp2_with fail
         go_meet
         case rel=>exact ⟨rfl,below_drewN hBi nq⟩
        ·have i2:decide ((m:Int) < (py.length:Int))=false:=by simp;omega
         clear v3 q3
         go_quiet (fail)
         go_wp2_with fail
         go_meet
         case rel=>exact ⟨rfl,below_drewN hBi nq⟩
       ·have i1:decide ((m:Int) < (tx.length:Int))=false:=by simp;omega
        clear v3 q3
        go_quiet (fail)
        go_wp2_with fail
        go_meet
        case rel=>exact ⟨rfl,below_drewN hBi nq⟩
      case rest =>
       obtain ⟨rfl,hBj⟩:=hcut
       have x4:=(hBj.cell (p:=⟨G,2,none⟩) (by show G < _;omega)).trans v3
       have hzj:=hBj.size
       clear x3 p3 v3 q3 hBi
       have j1:(m:Int)≤(tx.length:Int):=by omega
       have hq1:¬ (9223372036854775807 < acc.length+(uB m).length):=by omega
       have hq2:¬ (9223372036854775807 < acc.length+(uB m).length+(xB (tx.drop m)).length):=by omega
       go_wp2_with fail
       go_region_held3 (fun w'=>w'.cell? ⟨G,2,none⟩=some (strB tx)) (first|assumption|simp [*])
        (first
         | (go_at_call 147;refine (Pr (m:Int) _ ?_ ?_).mono ?_;omega;omega;rintro e w5 ⟨rfl,hb5⟩;rw [Int.toNat_natCast];have x5:=(hb5.cell (p:=⟨G,2,none⟩) (show G < wc.heap.size by omega)).trans x4)
         | (go_at_call 146;refine (DT _ _ (SS tx m s3)).mono ?_;rintro e w6 ⟨rfl,hb6⟩;rw [EA];have x6:=(hb6.cell (p:=⟨G,2,none⟩) (Nat.lt_of_lt_of_le (show G < wc.heap.size by omega) hb5.size)).trans x5))
       have hB6:Below w.heap.size w w6:=hB3.trans ((hBj.trans ((ji hb5).mono hzj)).trans (hb6.mono (Nat.le_trans hzj hb5.size)) |>.mono hz3)
       have HB6:=hid hB6
       clear hB6 x4 x5 x6 hb5 hb6 hq1 hq2
       go_wp2
       go_roundw
       case rel=>exact ⟨k+1,by omega,by go_num,by rw [HS.out,HT.out,← List.append_assoc,xg,xg],HB6.out⟩
       case measure=>simp [intOf];omega
  ·have hke:k=l.length:=by omega
   subst hke
   go_wp2
   go_ret
   exact ⟨qt (by simp [qp]),hB⟩
end
section
theorem AY (s t:List UInt8) (w:World) (h1:s.length≤12) (h2:t.length≤12) :
  Calls Tryz.prog 248 #[strB s,strB t] w fun e w'=>e=.returned (.int .i64 (jF s t:Int))∧Below w.heap.size w w':=by
 have hs:=jK s
 have ht:=jK t
 have hle:=Jb s t
 have HSL:=hid (Uu s t)
 have HSE:=hid (VT s t)
 obtain ⟨hle1,hle2⟩:=hle
 generalize jF s t=sh at *
 go_enter Tryz.func248,Tryz.ntmps248
 go_wp2
 go_loopw [5] (fun i wr=>∃ k:Nat,k≤sh∧i=.int .i64 (k:Int)∧Below w.heap.size w wr) (fun i _=>sh - (intOf i).toNat)
 case atStart=>exact ⟨0,Nat.zero_le _,rfl,Below.refl _ _⟩
 case round =>
  obtain ⟨m,hm,rfl,hB⟩:=hrel
  by_cases hmr:m < sh
  ·have l1:m < s.length:=by omega
   have l2:m < t.length:=by omega
   have m1:m < (⟨s.toArray⟩:ByteArray).size:=by rw [jK];exact l1
   have m2:m < (⟨t.toArray⟩:ByteArray).size:=by rw [jK];exact l2
   have he:(((((⟨s.toArray⟩:ByteArray)[m]'m1).toNat:Int)) == ((((⟨t.toArray⟩:ByteArray)[m]'m2).toNat:Int)))=true:=by
    rw [Xj s m l1,Xj t m l2,HSL.out m hmr l1 l2];simp
   have i1:(m:Int) < (s.length:Int):=by omega
   have i2:(m:Int) < (t.length:Int):=by omega
   go_wp2_with fail
   go_quiet (fail)
   go_wp2
   go_roundw
   case rel=>exact ⟨m+1,by omega,by go_num,below_drewN hB nq⟩
   case measure=>simp [intOf];omega
  ·have hme:m=sh:=by omega
   subst hme
   by_cases l1:m < s.length
   ·have i1:(m:Int) < (s.length:Int):=by omega
    by_cases l2:m < t.length
    ·have i2:(m:Int) < (t.length:Int):=by omega
     have hne:=HSE.out l1 l2
     have m1:m < (⟨s.toArray⟩:ByteArray).size:=by rw [jK];exact l1
     have m2:m < (⟨t.toArray⟩:ByteArray).size:=by rw [jK];exact l2
     have hne2:(((((⟨s.toArray⟩:ByteArray)[m]'m1).toNat:Int)) == ((((⟨t.toArray⟩:ByteArray)[m]'m2).toNat:Int)))=false:=by
      rw [Xj s m l1,Xj t m l2]
      have:¬ (s[m]'l1).toNat=(t[m]'l2).toNat:=fun h=>hne (UInt8.toNat_inj.1 h)
      simp;omega
     clear hne
     go_wp2_with fail
     go_quiet (fail)
     go_wp2
     go_ret
     exact ⟨rfl,below_drewN hB nq⟩
    ·have i2:decide ((m:Int) < (t.length:Int))=false:=by simp;omega
     go_wp2_with fail
     go_quiet (fail)
     go_wp2
     go_ret
     exact ⟨rfl,below_drewN hB nq⟩
   ·have i1:decide ((m:Int) < (s.length:Int))=false:=by simp;omega
    go_wp2_with fail
    go_quiet (fail)
    go_wp2
    go_ret
    exact ⟨rfl,below_drewN hB nq⟩
theorem Tl (kind:Int) (w:World) :
  Calls Tryz.prog 65 #[.int .i64 kind] w fun e w'=>e=.returned (.bool (decide (kind=0) || decide (kind=1)))∧w'=w:=by
 by_cases h0:kind=0
 ·subst h0
  go_enter Tryz.func65,Tryz.ntmps65
  go_wp2
  go_ret
  exact ⟨rfl,rfl⟩
 ·have k0:(kind == 0)=false:=by simp [h0]
  by_cases h1:kind=1
  ·subst h1
   go_enter Tryz.func65,Tryz.ntmps65
   go_wp2
   go_ret
   exact ⟨rfl,rfl⟩
  ·have k1:(kind == 1)=false:=by simp [h1]
   have HK:Hid ((decide (kind=0) || decide (kind=1))=false):=by simp [Hid,h0,h1]
   clear h0 h1
   go_enter Tryz.func65,Tryz.ntmps65
   go_wp2
   go_ret
   exact ⟨jI HK.out.symm,rfl⟩
end
section
theorem Tryz.infoStr:(Tryz.prog.info? 9).map (fun i=>(i.zero,i.size,i.bytes))=some (some (.string ⟨#[]⟩),1,16):=by kernel_rfl
theorem jH {W W':World} {base e size n:Nat} {v:Value} {xs:List Value} (h:W.ownsRow base e size v n xs) (hb:Below W.heap.size W W'):W'.ownsRow base e size v n xs :=
 h.kept (YQ hb) (Classical.em _)
theorem Gn (a b:List (List UInt8)):zw (a++b)=zw a++zw b:=by simp [zw]
theorem Xv {w wr w2:World} {v v2:Value} {n k:Nat} {ps qs:List (List UInt8)} (o:Obj) (hk:k=n+qs.length) (hB:Below w.heap.size w wr) (hown:wr.ownsRow w.heap.size 9 1 v n (zw ps))
  (h2:w2.ownsRow w.heap.size 9 1 v2 k (zw ps++zw qs)) (hg:(wr.alloc o).grownBy w2 v.ownBlock) :
  w2.ownsRow w.heap.size 9 1 v2 k (zw (ps++qs))∧Below w.heap.size w w2:=by
 rw [Gn]
 exact ⟨h2,(hB.alloc hB.size o).grown hg (by have:=hB.size;simp;omega) (fun k hk=>(hown.lt k hk).1)⟩
theorem EF (n:Int) (m:Nat) (w:World) (h:n=(m:Int)) (hn:m≤9223372036854775807) :
  Calls Tryz.prog 241 #[.int .i64 n] w fun e w'=>e=.returned (strB (uB m))∧Below w.heap.size w w':=by
 subst h
 exact Ji m w hn
theorem Tn (s:List UInt8) (k:Nat):(⟨s.toArray⟩:ByteArray).extract k s.length=⟨(s.drop k).toArray⟩:=by
 rw [ByteArray.extract_mk]
 congr 1
 simp [List.take_of_length_le]
def Tj:Value→Nat
 | .bool true=>0
 | _=>1
theorem KW {w w1 w2 w3 w4:World} (hb1:Below w.heap.size w w1) (hb2:Below w1.drew.heap.size w1.drew w2) (hb3:Below w2.heap.size w2 w3) (hb4:Below w3.heap.size w3 w4):Below w.heap.size w w4:=by
 have h2:Below w1.heap.size w1 w2:=ji hb2
 have h12:=hb1.trans (h2.mono hb1.size)
 have h13:=h12.trans (hb3.mono h12.size)
 exact h13.trans (hb4.mono h13.size)
theorem Ea (s t:List UInt8) (w:World) (h1:s.length≤12) (h2:t.length≤12) :
  Calls Tryz.prog 206 #[strB s,strB t] w fun e w'=>e=.returned (strB (uB (jF s t)++xB (t.drop (jF s t))))∧Below w.heap.size w w':=by
 have hs:=jK s
 have ht:=jK t
 obtain ⟨hle1,hle2⟩:=Jb s t
 go_enter Tryz.func206,Tryz.ntmps206
 go_wp2_with fail
 refine (AY s t _ h1 h2).mono ?_
 rintro e w1 ⟨rfl,hb1⟩
 generalize hsh:jF s t=sh at *
 have Hsh:=hid hsh
 clear hsh
 have hd:=Tn t sh
 have hx:(xB (t.drop sh)).length≤22:=Ur _ (by rw [List.length_drop];omega)
 have hu:=jN sh (by omega)
 go_wp2_with fail
 go_region_with (first
  | (go_at_call 241;refine (Ji sh _ (by omega)).mono ?_;rintro e w2 ⟨rfl,hb2⟩)
  | (go_at_call 204;refine (GX (t.drop sh) _ (by rw [List.length_drop];omega)).mono ?_;rintro e w3 ⟨rfl,hb3⟩)
  | (go_at_call 194;refine (XB [uB sh,xB (t.drop sh)] _ 2 _ rfl rfl (by decide) (by simp;omega)).mono ?_;rintro e w4 ⟨rfl,hb4⟩))
 all_goals
  go_wp2
  go_ret
  exact ⟨qt (by rw [Hsh.out]),KW hb1 hb2 hb3 hb4⟩
theorem UG (a:Option Addr) (cap:Nat) (l:List CellB) (w:World) (hn:l.length≤60) (hl:Lies w a l) :
  Calls Tryz.prog 193 #[.slice a l.length cap] w fun e w'=>e=.returned (strB (zr l))∧Below w.heap.size w w':=by
 obtain ⟨i0,hi,hz0,hz1,hz2⟩:=info_parts Tryz.infoStr
 have Hl:=hid hl
 have hni:(l.length:Int)≤60:=by omega
 have hlen:=Zq l hn
 clear hl
 go_enter Tryz.func193,Tryz.ntmps193
 go_wp2_with fail
 refine (Ji l.length _ (by omega)).mono ?_
 rintro e w1 ⟨rfl,hb1⟩
 go_wp2_with fail
 go_loopw [3,4,5] (fun v b i wr=>∃ (ps:List (List UInt8)) (nb:Bool) (k:Nat),b=.bool nb∧i=.int .i64 (k:Int)∧k≤l.length∧wr.ownsRow w.heap.size 9 1 v ps.length (zw ps)∧ps≠[]∧ps.flatten++qO nb (l.drop k)=zr l∧((k=0∧nb=false∧ps.length=1)∨((∀ h:k < l.length,(l[k]).null=nb)∧ps.length≤k+2))∧Below w.heap.size w wr)
  (fun _ b i _=>2*(l.length - (intOf i).toNat)+Tj b)
 case atStart =>
  exact ⟨[uB l.length],false,0,rfl,rfl,Nat.zero_le _,⟨by simp [zw],.inr ⟨w1.heap.size,1,_,rfl,hb1.size,heap_alloc_new w1 _,Nat.le_refl _,by decide,rfl,rfl⟩⟩,by simp,by simp [zr],.inl ⟨rfl,rfl,rfl⟩,hb1.alloc hb1.size _⟩
 case round =>
  clear hb1
  obtain ⟨ps,nb,k,rfl,rfl,hkl,hown,hps,hfl,hinv,hB⟩:=hrel
  have Hps:=hid hps
  have Hfl:=hid hfl
  clear hps
  have hfl2:ps.flatten.length≤1000:=by
   have:=congrArg List.length hfl
   rw [List.length_append] at this
   omega
  clear hfl
  have hpl:ps.length≤k+2:=by rcases hinv with ⟨h,_,h2⟩|⟨_,h2⟩<;>omega
  have Hinv:=hid hinv
  clear hinv
  by_cases hlt:k < l.length
  ·have hrl:=ZT nb (l.drop k)
   rw [List.length_drop] at hrl
   have HRL:=hid (GC nb (l.drop k))
   have HRE:=hid (Nz nb (l.drop k))
   have HST:Hid (qO nb (l.drop k)=uB (rowB nb (l.drop k))++qO (!nb) (l.drop (k+rowB nb (l.drop k)))):=by
    show qO nb (l.drop k)=_
    rw [QT nb (l.drop k) (by simp;omega),List.drop_drop]
   generalize rowB nb (l.drop k)=r at *
   have hki:(k:Int) < (l.length:Int):=by omega
   obtain ⟨b,off,rfl,hbw,hcell⟩:=(Hl.out.later hB).at_ (List.ne_nil_of_length_pos (by omega))
   have Hcell:=hid hcell
   clear hcell
   go_wp2_with fail
   go_loopw [6] (fun i wi=>∃ m:Nat,m≤r∧i=.int .i64 ((k+m:Nat):Int)∧wi=wr) (fun i _=>100 - (intOf i).toNat)
   case atStart=>exact ⟨0,Nat.zero_le _,rfl,rfl⟩
   case round =>
    obtain ⟨m,hm,rfl,rfl⟩:=hrel
    by_cases hmr:m < r
    ·have hkm:k+m < l.length:=by omega
     obtain ⟨g1,_,_⟩:=Hcell.out (k+m) hkm
     have hnb:(l[k+m]).null=nb:=by
      obtain ⟨_,h2⟩:=HRL.out m hmr
      rw [List.getElem_drop] at h2
      exact h2
     rw [hnb] at g1
     have hkmi:((k+m:Nat):Int) < (l.length:Int):=by omega
     generalize hkm2:k+m=q at *
     have Hkm2:=hid hkm2
     clear hkm2 hnb
     go_wp2
     go_roundw
     case rel=>exact ⟨m+1,by omega,by rw [← Nat.add_assoc,Hkm2.out];go_num,trivial⟩
     case measure=>simp [intOf];omega
    ·have hmr2:m=r:=by omega
     subst hmr2
     go_upto_region 7 with fail
     go_cut [30] (fun t wd=>t=.bool false∧wd=wr)
     case first =>
      by_cases hend:k+m < l.length
      ·obtain ⟨g1,_,_⟩:=Hcell.out (k+m) hend
       have hnb:(l[k+m]).null=!nb:=by
        have h2:=HRE.out (by rw [List.length_drop];omega)
        rw [List.getElem_drop] at h2
        exact h2
       rw [hnb] at g1
       have hkmi:((k+m:Nat):Int) < (l.length:Int):=by omega
       generalize k+m=q at *
       have hbb:((!nb) == nb)=false:=by cases nb<;>rfl
       go_wp2
       go_meet
       case rel=>exact ⟨rfl,rfl⟩
      ·have hkmi:decide (((k+m:Nat):Int) < (l.length:Int))=false:=by simp;omega
       generalize k+m=q at *
       go_wp2
       go_meet
       case rel=>exact ⟨rfl,rfl⟩
     case rest =>
      obtain ⟨rfl,rfl⟩:=hcut
      go_wp2_with fail
      refine (EF _ m _ (by omega) (by omega)).mono ?_
      rintro e w2 ⟨rfl,hb2⟩
      have hown2:=jH hown hb2
      have hB2:=hB.trans (hb2.mono hB.size)
      have hu:=jN m (by omega)
      clear hown hb2 hB
      have HX:Hid (ps.flatten++uB m++qO (!nb) (l.drop (k+m))=zr l):=by
       show _=_
       rw [← Hfl.out,HST.out,List.append_assoc]
      go_wp2_with (at_builtin;refine wpList_append_own _ rfl (.tmp 33) (.tmp 38) 71 rfl w.heap.size 9 i0 (.string ⟨#[]⟩) 1 16 Tryz.underlying71 hi hz0 hz1 hz2 rfl (by decide) _ _ _ rfl (hown2.alloc _) ⟨_,0,none⟩ 1 1 [strB (uB m)] rfl rfl ?c1 ?c2 ?c3 ?c4 ?c5 ?_)
      case c1=>exact qj w2 #[strB (uB m)] 9
      case c2=>intro u hu;simp at hu;subst hu;rfl
      case c3=>unfold maxLen;omega
      case c4=>omega
      case c5=>have:=hB2.size;simp;omega
      intro v3 w3 hown3 hgr3 _
      have HR:=hid (Xv (qs:=[uB m]) _ rfl hB2 hown2 hown3 hgr3)
      clear hown2 hown3 hgr3 hB2
      go_wp2
      go_roundw
      case rel =>
       refine ⟨ps++[uB m],!nb,k+m,rfl,rfl,by omega,by simpa using HR.out.1,by simp,?_,.inr ⟨?_,?_⟩,HR.out.2⟩
       ·rw [List.flatten_append];simpa using HX.out
       ·intro h
        have h2:=HRE.out (by rw [List.length_drop];omega)
        rw [List.getElem_drop] at h2
        exact h2
       ·rcases Hinv.out with ⟨h,h1,h2⟩|⟨h1,h2⟩
        ·simp;omega
        ·have:0 < m:=by
          rcases Nat.eq_zero_or_pos m with h0|h0
          ·subst h0
           have h3:=HRE.out (by rw [List.length_drop];omega)
           rw [List.getElem_drop] at h3
           have h4:=h1 hlt
           simp only [Nat.add_zero] at h3
           rw [h4] at h3
           cases nb<;>simp at h3
          ·exact h0
         simp;omega
      case measure =>
       rcases Nat.eq_zero_or_pos m with h0|h0
       ·subst h0
        have hnbf:nb=false:=by
         rcases Hinv.out with ⟨h,h1,h2⟩|⟨h1,h2⟩
         ·exact h1
         ·exfalso
          have h3:=HRE.out (by rw [List.length_drop];omega)
          rw [List.getElem_drop] at h3
          have h4:=h1 hlt
          simp only [Nat.add_zero] at h3
          rw [h4] at h3
          cases nb<;>simp at h3
        subst hnbf
        simp [intOf,Tj]
       ·cases nb<;>simp [intOf,Tj]<;>omega
  ·have hke:k=l.length:=by omega
   subst hke
   have HF:Hid (ps.flatten=zr l):=by
    show ps.flatten=zr l
    have:=Hfl.out
    rw [List.drop_length] at this
    simpa [qO] using this
   have hki:decide ((l.length:Int) < (l.length:Int))=false:=by simp
   go_wp2_with fail
   refine (Xw ps w.heap.size ps.length _ _ hown Hps.out (by omega) (by omega)).mono ?_
   rintro e w2 ⟨rfl,hb2⟩
   go_wp2
   go_ret
   exact ⟨qt HF.out,hB.trans (hb2.mono hB.size)⟩
end
end Go.Proofs.YthhpbhpfagoapaaGreat
