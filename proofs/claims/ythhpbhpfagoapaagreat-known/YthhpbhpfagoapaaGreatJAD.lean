import Derived.Test.YthhpbhpfagoapaaGreatDBytes
import Derived.Test.YthhpbhpfagoapaaGreatRWay4
import Derived.Laws.EntriesVeiled
namespace Go.Proofs.YthhpbhpfagoapaaGreat
set_option linter.unusedVariables false
set_option linter.unusedSimpArgs false
set_option maxRecDepth 100000
set_option maxHeartbeats 16000000
open Go.RowKit
section
theorem AP (s t:List UInt8) (w:World) (h1:s.length≤12) (h2:t.length≤12) :
  Calls Tryz.prog 248 #[strB s,strB t] w fun e w'=>e=.returned (.int .i64 (jJ s t:Int))∧Below w.heap.size w w':=by
 have hs:=jP s
 have ht:=jP t
 have hle:=Jg s t
 have HSL:=hid (Gz s t)
 have HSE:=hid (Iw s t)
 obtain ⟨hle1,hle2⟩:=hle
 generalize jJ s t=sh at *
 go_enter Tryz.func248,Tryz.ntmps248
 go_wp2
 go_loopw [5] (fun i wr=>∃ k:Nat,k≤sh∧i=.int .i64 (k:Int)∧Below w.heap.size w wr) (fun i _=>sh - (intOf i).toNat)
 case atStart=>exact ⟨0,Nat.zero_le _,rfl,Below.refl _ _⟩
 case round =>
  obtain ⟨m,hm,rfl,hB⟩:=hrel
  by_cases hmr:m < sh
  ·have l1:m < s.length:=by omega
   have l2:m < t.length:=by omega
   have m1:m < (⟨s.toArray⟩:ByteArray).size:=by rw [jP];exact l1
   have m2:m < (⟨t.toArray⟩:ByteArray).size:=by rw [jP];exact l2
   have he:(((((⟨s.toArray⟩:ByteArray)[m]'m1).toNat:Int)) == ((((⟨t.toArray⟩:ByteArray)[m]'m2).toNat:Int)))=true:=by
    rw [UJ s m l1,UJ t m l2,HSL.out m hmr l1 l2];simp
   have i1:(m:Int) < (s.length:Int):=by omega
   have i2:(m:Int) < (t.length:Int):=by omega
   go_wp2_with fail
   go_quiet (fail)
   go_wp2
   go_roundw
   case rel=>exact ⟨m+1,by omega,by go_num,below_drewN hB nq⟩
   case measure=>simp [intOf];omega
  ·have hme:m=sh:=by omega
   subst hme
   by_cases l1:m < s.length
   ·have i1:(m:Int) < (s.length:Int):=by omega
    by_cases l2:m < t.length
    ·have i2:(m:Int) < (t.length:Int):=by omega
     have hne:=HSE.out l1 l2
     have m1:m < (⟨s.toArray⟩:ByteArray).size:=by rw [jP];exact l1
     have m2:m < (⟨t.toArray⟩:ByteArray).size:=by rw [jP];exact l2
     have hne2:(((((⟨s.toArray⟩:ByteArray)[m]'m1).toNat:Int)) == ((((⟨t.toArray⟩:ByteArray)[m]'m2).toNat:Int)))=false:=by
      rw [UJ s m l1,UJ t m l2]
      have:¬ (s[m]'l1).toNat=(t[m]'l2).toNat:=fun h=>hne (UInt8.toNat_inj.1 h)
      simp;omega
     clear hne
     go_wp2_with fail
     go_quiet (fail)
     go_wp2
     go_ret
     exact ⟨rfl,below_drewN hB nq⟩
    ·have i2:decide ((m:Int) < (t.length:Int))=false:=by simp;omega
     go_wp2_with fail
     go_quiet (fail)
     go_wp2
     go_ret
     exact ⟨rfl,below_drewN hB nq⟩
   ·have i1:decide ((m:Int) < (s.length:Int))=false:=by simp;omega
    go_wp2_with fail
    go_quiet (fail)
    go_wp2
    go_ret
    exact ⟨rfl,below_drewN hB nq⟩
theorem Zy (kind:Int) (w:World) :
  Calls Tryz.prog 65 #[.int .i64 kind] w fun e w'=>e=.returned (.bool (decide (kind=0) || decide (kind=1)))∧w'=w:=by
 by_cases h0:kind=0
 ·subst h0
  go_enter Tryz.func65,Tryz.ntmps65
  go_wp2
  go_ret
  exact ⟨rfl,rfl⟩
 ·have k0:(kind == 0)=false:=by simp [h0]
  by_cases h1:kind=1
  ·subst h1
   go_enter Tryz.func65,Tryz.ntmps65
   go_wp2
   go_ret
   exact ⟨rfl,rfl⟩
  ·have k1:(kind == 1)=false:=by simp [h1]
   have HK:Hid ((decide (kind=0) || decide (kind=1))=false):=by simp [Hid,h0,h1]
   clear h0 h1
   go_enter Tryz.func65,Tryz.ntmps65
   go_wp2
   go_ret
   exact ⟨jU HK.out.symm,rfl⟩
theorem Ad (kind:Int) (c:CellB) (w:World) (hc:okC c) :
  Calls Tryz.prog 124 #[.int .i64 kind,cellV c] w fun e w'=>e=.returned (.bool (qM kind c))∧Below w.heap.size w w':=by
 obtain ⟨h0,h1,h2⟩:=hc
 unfold maxLen at h2
 obtain ⟨nl,it,tx⟩:=c
 simp only at h0 h1 h2
 cases nl with
 | true =>
  by_cases hi:it=0
  ·subst hi
   have HF:Hid (qM kind ⟨true,0,tx⟩=tx.isEmpty):=by simp [Hid,qM]
   go_enter Tryz.func124,Tryz.ntmps124
   go_wp2
   go_ret
   exact ⟨jU HF.out.symm,(Below.refl _ _).alloc (Nat.le_refl _) _⟩
  ·have hi2:(it == 0)=false:=by simp [hi]
   have HF:Hid (qM kind ⟨true,it,tx⟩=false):=by simp [Hid,qM,hi]
   go_enter Tryz.func124,Tryz.ntmps124
   go_wp2
   go_ret
   exact ⟨jU HF.out.symm,(Below.refl _ _).alloc (Nat.le_refl _) _⟩
 | false =>
  by_cases hk:kind=0
  ·subst hk
   have HF:Hid (qM 0 ⟨false,it,tx⟩=tx.isEmpty):=by simp [Hid,qM]
   go_enter Tryz.func124,Tryz.ntmps124
   go_wp2
   go_ret
   exact ⟨jU HF.out.symm,(Below.refl _ _).alloc (Nat.le_refl _) _⟩
  ·have hk2:(kind == 0)=false:=by simp [hk]
   by_cases hi:it=0
   ·subst hi
    by_cases ht:tx.length≤12
    ·have HF:Hid (qM kind ⟨false,0,tx⟩=true):=by simp [Hid,qM,hk,ht]
     clear hk
     go_enter Tryz.func124,Tryz.ntmps124
     go_wp2
     go_ret
     exact ⟨jU (by rw [HF.out];simp;omega),(Below.refl _ _).alloc (Nat.le_refl _) _⟩
    ·have HF:Hid (qM kind ⟨false,0,tx⟩=false):=by simp [Hid,qM,hk,ht]
     clear hk
     go_enter Tryz.func124,Tryz.ntmps124
     go_wp2
     go_ret
     exact ⟨jU (by rw [HF.out];simp;omega),(Below.refl _ _).alloc (Nat.le_refl _) _⟩
   ·have hi2:(it == 0)=false:=by simp [hi]
    have HF:Hid (qM kind ⟨false,it,tx⟩=false):=by simp [Hid,qM,hi,hk]
    clear hk hi
    go_enter Tryz.func124,Tryz.ntmps124
    go_wp2
    go_ret
    exact ⟨jU HF.out.symm,(Below.refl _ _).alloc (Nat.le_refl _) _⟩
theorem ZN (kind:Int) (a:Option Addr) (cap:Nat) (l:List CellB) (w:World) (hm:l.length≤140737488351232) (hl:Lies w a l) :
  Calls Tryz.prog 66 #[.int .i64 kind,.slice a l.length cap] w fun e w'=>e=.returned (.bool (decide (l.length≤60) && l.all (qM kind)))∧Below w.heap.size w w':=by
 have Hl:=hid hl
 clear hl
 by_cases hn:l.length≤60
 ·have hni:(l.length:Int)≤60:=by omega
  have HD:Hid ((decide (l.length≤60) && l.all (qM kind))=l.all (qM kind)):=by simp [Hid,hn]
  go_enter Tryz.func66,Tryz.ntmps66
  go_wp2
  go_loopw [12] (fun i wr=>∃ k:Nat,k≤l.length∧i=.int .i64 k∧(l.take k).all (qM kind)=true∧Below w.heap.size w wr) (fun i _=>l.length - (intOf i).toNat)
  case atStart=>exact ⟨0,Nat.zero_le _,rfl,rfl,Below.refl _ _⟩
  case round =>
   obtain ⟨k,hkl,rfl,hall,hB⟩:=hrel
   have Hall:=hid hall
   clear hall
   by_cases hlt:k < l.length
   ·obtain ⟨b,off,rfl,hbw,hcell⟩:=(Hl.out.later hB).at_ (List.ne_nil_of_length_pos (by omega))
    obtain ⟨g1,g2,g3⟩:=hcell k hlt
    clear hcell
    have hokc:=Hl.out.ok l[k] (List.getElem_mem hlt)
    have Hok:=hid hokc
    clear hokc
    have HT:Hid ((l.take (k+1)).all (qM kind)=qM kind l[k]):=by
     show (l.take (k+1)).all (qM kind)=qM kind l[k]
     rw [List.take_succ_eq_append_getElem hlt,List.all_append,Hall.out]
     simp
    have HA:Hid (qM kind l[k]=false→l.all (qM kind)=false):=by
     intro hf
     rw [List.all_eq_false]
     exact ⟨l[k],List.getElem_mem hlt,by simp [hf]⟩
    go_wp2_with fail
    refine (Ad kind l[k] _ Hok.out).mono ?_
    rintro e w1 ⟨rfl,hb1⟩
    clear g1 g2 g3
    have hB1:=(hB.alloc hB.size _).trans (hb1.mono (by have:=hB.size;simp;omega))
    clear hb1
    cases hf:qM kind l[k] with
    | false =>
     have Hf:=hid hf
     clear hf
     go_wp2
     go_ret
     exact ⟨jU (by rw [HD.out];exact (HA.out Hf.out).symm),hB1⟩
    | true =>
     have Hf:=hid hf
     clear hf
     go_wp2
     go_roundw
     case rel=>exact ⟨k+1,by omega,by go_num,by rw [HT.out];exact Hf.out,hB1⟩
     case measure=>simp [intOf];omega
   ·go_wp2
    go_ret
    exact ⟨jU (by rw [HD.out,← Hall.out,List.take_of_length_le (by omega)]),hB⟩
 ·have hni:(60:Int) < (l.length:Int):=by omega
  have HD:Hid ((decide (l.length≤60) && l.all (qM kind))=false):=by simp [Hid,hn]
  go_enter Tryz.func66,Tryz.ntmps66
  go_wp2
  go_ret
  exact ⟨jU HD.out.symm,Below.refl _ _⟩
end
section
theorem Tryz.infoStr:(Tryz.prog.info? 9).map (fun i=>(i.zero,i.size,i.bytes))=some (some (.string ⟨#[]⟩),1,16):=by kernel_rfl
theorem jm {W W':World} {base e size n:Nat} {v:Value} {xs:List Value} (h:W.ownsRow base e size v n xs) (hb:Below W.heap.size W W'):W'.ownsRow base e size v n xs :=
 h.kept (AY hb) (Classical.em _)
theorem Gb (a b:List (List UInt8)):xT (a++b)=xT a++xT b:=by simp [xT]
theorem JJ {w wr w2:World} {v v2:Value} {n k:Nat} {ps qs:List (List UInt8)} (o:Obj) (hk:k=n+qs.length) (hB:Below w.heap.size w wr) (hown:wr.ownsRow w.heap.size 9 1 v n (xT ps))
  (h2:w2.ownsRow w.heap.size 9 1 v2 k (xT ps++xT qs)) (hg:(wr.alloc o).grownBy w2 v.ownBlock) :
  w2.ownsRow w.heap.size 9 1 v2 k (xT (ps++qs))∧Below w.heap.size w w2:=by
 rw [Gb]
 exact ⟨h2,(hB.alloc hB.size o).grown hg (by have:=hB.size;simp;omega) (fun k hk=>(hown.lt k hk).1)⟩
theorem ID (n:Int) (m:Nat) (w:World) (h:n=(m:Int)) (hn:m≤9223372036854775807) :
  Calls Tryz.prog 241 #[.int .i64 n] w fun e w'=>e=.returned (strB (uB m))∧Below w.heap.size w w':=by
 subst h
 exact zb m w hn
theorem Ph (s:List UInt8) (k:Nat):(⟨s.toArray⟩:ByteArray).extract k s.length=⟨(s.drop k).toArray⟩:=by
 rw [ByteArray.extract_mk]
 congr 1
 simp [List.take_of_length_le]
def Pl:Value→Nat
 | .bool true=>0
 | _=>1
theorem KY {w w1 w2 w3 w4:World} (hb1:Below w.heap.size w w1) (hb2:Below w1.drew.heap.size w1.drew w2) (hb3:Below w2.heap.size w2 w3) (hb4:Below w3.heap.size w3 w4):Below w.heap.size w w4:=by
 have h2:Below w1.heap.size w1 w2:=ji hb2
 have h12:=hb1.trans (h2.mono hb1.size)
 have h13:=h12.trans (hb3.mono h12.size)
 exact h13.trans (hb4.mono h13.size)
theorem YL (s t:List UInt8) (w:World) (h1:s.length≤12) (h2:t.length≤12) :
  Calls Tryz.prog 206 #[strB s,strB t] w fun e w'=>e=.returned (strB (uB (jJ s t)++xB (t.drop (jJ s t))))∧Below w.heap.size w w':=by
 have hs:=jP s
 have ht:=jP t
 obtain ⟨hle1,hle2⟩:=Jg s t
 go_enter Tryz.func206,Tryz.ntmps206
 go_wp2_with fail
 refine (AP s t _ h1 h2).mono ?_
 rintro e w1 ⟨rfl,hb1⟩
 generalize hsh:jJ s t=sh at *
 have Hsh:=hid hsh
 clear hsh
 have hd:=Ph t sh
 have hx:(xB (t.drop sh)).length≤22:=Ya _ (by rw [List.length_drop];omega)
 have hu:=jS sh (by omega)
 go_wp2_with fail
 go_region_with (first
  | (go_at_call 241;refine (zb sh _ (by omega)).mono ?_;rintro e w2 ⟨rfl,hb2⟩)
  | (go_at_call 204;refine (UE (t.drop sh) _ (by rw [List.length_drop];omega)).mono ?_;rintro e w3 ⟨rfl,hb3⟩)
  | (go_at_call 194;refine (JY [uB sh,xB (t.drop sh)] _ 2 _ rfl rfl (by decide) (by simp;omega)).mono ?_;rintro e w4 ⟨rfl,hb4⟩))
 all_goals
  go_wp2
  go_ret
  exact ⟨qT (by rw [Hsh.out]),KY hb1 hb2 hb3 hb4⟩
theorem UN (a:Option Addr) (cap:Nat) (l:List CellB) (w:World) (hn:l.length≤60) (hl:Lies w a l) :
  Calls Tryz.prog 193 #[.slice a l.length cap] w fun e w'=>e=.returned (strB (zz l))∧Below w.heap.size w w':=by
 obtain ⟨i0,hi,hz0,hz1,hz2⟩:=info_parts Tryz.infoStr
 have Hl:=hid hl
 have hni:(l.length:Int)≤60:=by omega
 have hlen:=KS l hn
 clear hl
 go_enter Tryz.func193,Tryz.ntmps193
 go_wp2_with fail
 refine (zb l.length _ (by omega)).mono ?_
 rintro e w1 ⟨rfl,hb1⟩
 go_wp2_with fail
 go_loopw [3,4,5] (fun v b i wr=>∃ (ps:List (List UInt8)) (nb:Bool) (k:Nat),b=.bool nb∧i=.int .i64 (k:Int)∧k≤l.length∧wr.ownsRow w.heap.size 9 1 v ps.length (xT ps)∧ps≠[]∧ps.flatten++qQ nb (l.drop k)=zz l∧((k=0∧nb=false∧ps.length=1)∨((∀ h:k < l.length,(l[k]).null=nb)∧ps.length≤k+2))∧Below w.heap.size w wr)
  (fun _ b i _=>2*(l.length - (intOf i).toNat)+Pl b)
 case atStart =>
  exact ⟨[uB l.length],false,0,rfl,rfl,Nat.zero_le _,⟨by simp [xT],.inr ⟨w1.heap.size,1,_,rfl,hb1.size,heap_alloc_new w1 _,Nat.le_refl _,by decide,rfl,rfl⟩⟩,by simp,by simp [zz],.inl ⟨rfl,rfl,rfl⟩,hb1.alloc hb1.size _⟩
 case round =>
  clear hb1
  obtain ⟨ps,nb,k,rfl,rfl,hkl,hown,hps,hfl,hinv,hB⟩:=hrel
  have Hps:=hid hps
  have Hfl:=hid hfl
  clear hps
  have hfl2:ps.flatten.length≤1000:=by
   have:=congrArg List.length hfl
   rw [List.length_append] at this
   omega
  clear hfl
  have hpl:ps.length≤k+2:=by rcases hinv with ⟨h,_,h2⟩|⟨_,h2⟩<;>omega
  have Hinv:=hid hinv
  clear hinv
  by_cases hlt:k < l.length
  ·have hrl:=Gl nb (l.drop k)
   rw [List.length_drop] at hrl
   have HRL:=hid (YF nb (l.drop k))
   have HRE:=hid (EG nb (l.drop k))
   have HST:Hid (qQ nb (l.drop k)=uB (zG nb (l.drop k))++qQ (!nb) (l.drop (k+zG nb (l.drop k)))):=by
    show qQ nb (l.drop k)=_
    rw [Zn nb (l.drop k) (by simp;omega),List.drop_drop]
   generalize zG nb (l.drop k)=r at *
   have hki:(k:Int) < (l.length:Int):=by omega
   obtain ⟨b,off,rfl,hbw,hcell⟩:=(Hl.out.later hB).at_ (List.ne_nil_of_length_pos (by omega))
   have Hcell:=hid hcell
   clear hcell
   go_wp2_with fail
   go_loopw [6] (fun i wi=>∃ m:Nat,m≤r∧i=.int .i64 ((k+m:Nat):Int)∧wi=wr) (fun i _=>100 - (intOf i).toNat)
   case atStart=>exact ⟨0,Nat.zero_le _,rfl,rfl⟩
   case round =>
    obtain ⟨m,hm,rfl,rfl⟩:=hrel
    by_cases hmr:m < r
    ·have hkm:k+m < l.length:=by omega
     obtain ⟨g1,_,_⟩:=Hcell.out (k+m) hkm
     have hnb:(l[k+m]).null=nb:=by
      obtain ⟨_,h2⟩:=HRL.out m hmr
      rw [List.getElem_drop] at h2
      exact h2
     rw [hnb] at g1
     have hkmi:((k+m:Nat):Int) < (l.length:Int):=by omega
     generalize hkm2:k+m=q at *
     have Hkm2:=hid hkm2
     clear hkm2 hnb
     go_wp2
     go_roundw
     case rel=>exact ⟨m+1,by omega,by rw [← Nat.add_assoc,Hkm2.out];go_num,trivial⟩
     case measure=>simp [intOf];omega
    ·have hmr2:m=r:=by omega
     subst hmr2
     go_upto_region 7 with fail
     go_cut [30] (fun t wd=>t=.bool false∧wd=wr)
     case first =>
      by_cases hend:k+m < l.length
      ·obtain ⟨g1,_,_⟩:=Hcell.out (k+m) hend
       have hnb:(l[k+m]).null=!nb:=by
        have h2:=HRE.out (by rw [List.length_drop];omega)
        rw [List.getElem_drop] at h2
        exact h2
       rw [hnb] at g1
       have hkmi:((k+m:Nat):Int) < (l.length:Int):=by omega
       generalize k+m=q at *
       have hbb:((!nb) == nb)=false:=by cases nb<;>rfl
       go_wp2
       go_meet
       case rel=>exact ⟨rfl,rfl⟩
      ·have hkmi:decide (((k+m:Nat):Int) < (l.length:Int))=false:=by simp;omega
       generalize k+m=q at *
       go_wp2
       go_meet
       case rel=>exact ⟨rfl,rfl⟩
     case rest =>
      obtain ⟨rfl,rfl⟩:=hcut
      go_wp2_with fail
      refine (ID _ m _ (by omega) (by omega)).mono ?_
      rintro e w2 ⟨rfl,hb2⟩
      have hown2:=jm hown hb2
      have hB2:=hB.trans (hb2.mono hB.size)
      have hu:=jS m (by omega)
      clear hown hb2 hB
      have HX:Hid (ps.flatten++uB m++qQ (!nb) (l.drop (k+m))=zz l):=by
       show _=_
       rw [← Hfl.out,HST.out,List.append_assoc]
      go_wp2_with (at_builtin;refine wpList_append_own _ rfl (.tmp 33) (.tmp 38) 71 rfl w.heap.size 9 i0 (.string ⟨#[]⟩) 1 16 Tryz.underlying71 hi hz0 hz1 hz2 rfl (by decide) _ _ _ rfl (hown2.alloc _) ⟨_,0,none⟩ 1 1 [strB (uB m)] rfl rfl ?c1 ?c2 ?c3 ?c4 ?c5 ?_)
      case c1=>exact qx w2 #[strB (uB m)] 9
      case c2=>intro u hu;simp at hu;subst hu;rfl
      case c3=>unfold maxLen;omega
      case c4=>omega
      case c5=>have:=hB2.size;simp;omega
      intro v3 w3 hown3 hgr3 _
      have HR:=hid (JJ (qs:=[uB m]) _ rfl hB2 hown2 hown3 hgr3)
      clear hown2 hown3 hgr3 hB2
      go_wp2
      go_roundw
      case rel =>
       refine ⟨ps++[uB m],!nb,k+m,rfl,rfl,by omega,by simpa using HR.out.1,by simp,?_,.inr ⟨?_,?_⟩,HR.out.2⟩
       ·rw [List.flatten_append];simpa using HX.out
       ·intro h
        have h2:=HRE.out (by rw [List.length_drop];omega)
        rw [List.getElem_drop] at h2
        exact h2
       ·rcases Hinv.out with ⟨h,h1,h2⟩|⟨h1,h2⟩
        ·simp;omega
        ·have:0 < m:=by
          rcases Nat.eq_zero_or_pos m with h0|h0
          ·subst h0
           have h3:=HRE.out (by rw [List.length_drop];omega)
           rw [List.getElem_drop] at h3
           have h4:=h1 hlt
           simp only [Nat.add_zero] at h3
           rw [h4] at h3
           cases nb<;>simp at h3
          ·exact h0
         simp;omega
      case measure =>
       rcases Nat.eq_zero_or_pos m with h0|h0
       ·subst h0
        have hnbf:nb=false:=by
         rcases Hinv.out with ⟨h,h1,h2⟩|⟨h1,h2⟩
         ·exact h1
         ·exfalso
          have h3:=HRE.out (by rw [List.length_drop];omega)
          rw [List.getElem_drop] at h3
          have h4:=h1 hlt
          simp only [Nat.add_zero] at h3
          rw [h4] at h3
          cases nb<;>simp at h3
        subst hnbf
        simp [intOf,Pl]
       ·cases nb<;>simp [intOf,Pl]<;>omega
  ·have hke:k=l.length:=by omega
   subst hke
   have HF:Hid (ps.flatten=zz l):=by
    show ps.flatten=zz l
    have:=Hfl.out
    rw [List.drop_length] at this
    simpa [qQ] using this
   have hki:decide ((l.length:Int) < (l.length:Int))=false:=by simp
   go_wp2_with fail
   refine (QI ps w.heap.size ps.length _ _ hown Hps.out (by omega) (by omega)).mono ?_
   rintro e w2 ⟨rfl,hb2⟩
   go_wp2
   go_ret
   exact ⟨qT HF.out,hB.trans (hb2.mono hB.size)⟩
end
section
abbrev fnV (k:Nat):Value:=.func (.func k) #[] #[]
abbrev numC (g:Nat):Value:=.agg #[.slice (some ⟨g,0,none⟩) 3 3,fnV 187,fnV 188,fnV 189,fnV 190,fnV 191,fnV 192]
abbrev txtC (g:Nat):Value:=.agg #[.slice (some ⟨g,0,none⟩) 3 3,fnV 202,fnV 203,fnV 204,fnV 205,fnV 206,fnV 207]
def NumW (w:World) (g:Nat):Prop:=w.heap[g]?=some (.cells #[.int .u8 0,fnV 181,fnV 182,.int .u8 1,fnV 183,fnV 184,.int .u8 2,fnV 185,fnV 186] 274 (0,0))
def TxtW (w:World) (g:Nat):Prop:=w.heap[g]?=some (.cells #[.int .u8 0,fnV 196,fnV 197,.int .u8 3,fnV 198,fnV 199,.int .u8 4,fnV 200,fnV 201] 281 (0,0))
theorem NumW.later {w w':World} {g:Nat} (h:NumW w g) (hg:g < w.heap.size) (hb:Below w.heap.size w w'):NumW w' g:=(hb.block g hg).trans h
theorem TxtW.later {w w':World} {g:Nat} (h:TxtW w g) (hg:g < w.heap.size) (hb:Below w.heap.size w w'):TxtW w' g:=(hb.block g hg).trans h
theorem VT (w:World) :
  Calls Tryz.prog 125 #[] w fun e w'=>∃ g,e=.returned (numC g)∧g < w'.heap.size∧NumW w' g∧Below w.heap.size w w':=by
 go_enter Tryz.func125,Tryz.ntmps125
 go_wp2
 refine bodyPost_ret (v:=numC (w.heap.size+1)) (by simp [results,Tryz.results125,go_sem]) rfl ⟨w.heap.size+1,rfl,by simp,?_,((Below.refl _ _).alloc (Nat.le_refl _) _).alloc (by simp) _⟩
 have:=heap_alloc_new (w.alloc (Obj.cells #[Value.slice (some ⟨w.heap.size+1,0,none⟩) 3 3,fnV 187,fnV 188,fnV 189,fnV 190,fnV 191,fnV 192] 215)) (Obj.cells #[.int .u8 0,fnV 181,fnV 182,.int .u8 1,fnV 183,fnV 184,.int .u8 2,fnV 185,fnV 186] 274)
 simpa [NumW] using this
theorem RH (w:World) :
  Calls Tryz.prog 127 #[] w fun e w'=>∃ g,e=.returned (txtC g)∧g < w'.heap.size∧TxtW w' g∧Below w.heap.size w w':=by
 go_enter Tryz.func127,Tryz.ntmps127
 go_wp2
 refine bodyPost_ret (v:=txtC (w.heap.size+1)) (by simp [results,Tryz.results127,go_sem]) rfl ⟨w.heap.size+1,rfl,by simp,?_,((Below.refl _ _).alloc (Nat.le_refl _) _).alloc (by simp) _⟩
 have:=heap_alloc_new (w.alloc (Obj.cells #[Value.slice (some ⟨w.heap.size+1,0,none⟩) 3 3,fnV 202,fnV 203,fnV 204,fnV 205,fnV 206,fnV 207] 225)) (Obj.cells #[.int .u8 0,fnV 196,fnV 197,.int .u8 3,fnV 198,fnV 199,.int .u8 4,fnV 200,fnV 201] 281)
 simpa [TxtW] using this
structure Small (l:List CellB):Prop where
 small:∀ c ∈ l,qt c
 few:l.length≤60
 some_:l≠[]
structure IntsLie (w:World) (b:Nat) (l:List CellB):Prop where
 lt:b < w.heap.size
 cell:∀ j (h:j < l.length),w.cell? ⟨b,j,none⟩=some (.int .i64 (l[j]).int)
structure TextsLie (w:World) (b:Nat) (l:List CellB):Prop where
 lt:b < w.heap.size
 cell:∀ j (h:j < l.length),w.cell? ⟨b,j,none⟩=some (strB (l[j]).text)
theorem IntsLie.later {w w':World} {b:Nat} {l:List CellB} (h:IntsLie w b l) (hb:Below w.heap.size w w'):IntsLie w' b l :=
 ⟨Nat.lt_of_lt_of_le h.lt hb.size,fun j hj=>(hb.cell (p:=⟨b,j,none⟩) h.lt).trans (h.cell j hj)⟩
theorem TextsLie.later {w w':World} {b:Nat} {l:List CellB} (h:TextsLie w b l) (hb:Below w.heap.size w w'):TextsLie w' b l :=
 ⟨Nat.lt_of_lt_of_le h.lt hb.size,fun j hj=>(hb.cell (p:=⟨b,j,none⟩) h.lt).trans (h.cell j hj)⟩
theorem zx (w:World) (C:Array Value) (t:TypeId):Below w.heap.size w (w.alloc (.cells C t))∧(w.alloc (.cells C t)).heap.size=w.heap.size+1∧∀ j,(w.alloc (.cells C t)).cell? ⟨w.heap.size,j,none⟩=C[j]? :=
 ⟨(Below.refl _ _).alloc (Nat.le_refl _) _,by simp,fun j=>World.cell?_alloc_mark ..⟩
end
end Go.Proofs.YthhpbhpfagoapaaGreat
