import Derived.Test.YthhpbhpfagoapabGreatRWay
import Derived.Deep.QuietTactic
import Derived.BigQuiet
import Derived.WalkSmall
import Derived.Deep.RegionHeld3
import Derived.Lib.Strings
import Derived.Test.YthhpbhpfagoapabGreatDBytes
import Derived.Laws.EntriesVeiled
import Derived.Deep.AppendLies
import Derived.Test.YthhpbhpfagoapabGreatJAN
namespace Go.Proofs.YthhpbhpfagoapabGreat
set_option linter.unusedVariables false
set_option linter.unusedSimpArgs false
set_option maxRecDepth 100000
set_option maxHeartbeats 16000000
open Go.RowKit
section
theorem VI (tx:List UInt8) (m:Nat) (h:m < tx.length) (h2:m < (⟨tx.toArray⟩:ByteArray).size):(⟨tx.toArray⟩:ByteArray)[m]'h2=tx[m]:=rfl
end
section
theorem Cy (s t:List UInt8) (w:World) (h1:s.length≤12) (h2:t.length≤12) :
  Calls Tryz.prog 180 #[strB s,strB t] w fun e w'=>e=.returned (.int .i64 (jT s t:Int))∧Below w.heap.size w w':=by
 have hs:=jM s
 have ht:=jM t
 have hle:=JB s t
 have HSL:=hid (Ya s t)
 have HSE:=hid (Dy s t)
 obtain ⟨hle1,hle2⟩:=hle
 generalize jT s t=sh at *
 go_enter Tryz.func180,Tryz.ntmps180
 go_wp2
 go_loopw [5] (fun i wr=>∃ k:Nat,k≤sh∧i=.int .i64 (k:Int)∧Below w.heap.size w wr) (fun i _=>sh - (intOf i).toNat)
 case atStart=>exact ⟨0,Nat.zero_le _,rfl,Below.refl _ _⟩
 case round =>
  obtain ⟨m,hm,rfl,hB⟩:=hrel
  by_cases hmr:m < sh
  ·have l1:m < s.length:=by omega
   have l2:m < t.length:=by omega
   have m1:m < (⟨s.toArray⟩:ByteArray).size:=by rw [jM];exact l1
   have m2:m < (⟨t.toArray⟩:ByteArray).size:=by rw [jM];exact l2
   have he:(((((⟨s.toArray⟩:ByteArray)[m]'m1).toNat:Int)) == ((((⟨t.toArray⟩:ByteArray)[m]'m2).toNat:Int)))=true:=by
    rw [VI s m l1,VI t m l2,HSL.out m hmr l1 l2];simp
   have i1:(m:Int) < (s.length:Int):=by omega
   have i2:(m:Int) < (t.length:Int):=by omega
   go_wp2_with fail
   go_quiet (fail)
   go_wp2
   go_roundw
   case rel=>exact ⟨m+1,by omega,by go_num,below_drewN hB nq⟩
   case measure=>simp [intOf];omega
  ·have hme:m=sh:=by omega
   subst hme
   by_cases l1:m < s.length
   ·have i1:(m:Int) < (s.length:Int):=by omega
    by_cases l2:m < t.length
    ·have i2:(m:Int) < (t.length:Int):=by omega
     have hne:=HSE.out l1 l2
     have m1:m < (⟨s.toArray⟩:ByteArray).size:=by rw [jM];exact l1
     have m2:m < (⟨t.toArray⟩:ByteArray).size:=by rw [jM];exact l2
     have hne2:(((((⟨s.toArray⟩:ByteArray)[m]'m1).toNat:Int)) == ((((⟨t.toArray⟩:ByteArray)[m]'m2).toNat:Int)))=false:=by
      rw [VI s m l1,VI t m l2]
      have:¬ (s[m]'l1).toNat=(t[m]'l2).toNat:=fun h=>hne (UInt8.toNat_inj.1 h)
      simp;omega
     clear hne
     go_wp2_with fail
     go_quiet (fail)
     go_wp2
     go_ret
     exact ⟨rfl,below_drewN hB nq⟩
    ·have i2:decide ((m:Int) < (t.length:Int))=false:=by simp;omega
     go_wp2_with fail
     go_quiet (fail)
     go_wp2
     go_ret
     exact ⟨rfl,below_drewN hB nq⟩
   ·have i1:decide ((m:Int) < (s.length:Int))=false:=by simp;omega
    go_wp2_with fail
    go_quiet (fail)
    go_wp2
    go_ret
    exact ⟨rfl,below_drewN hB nq⟩
theorem LJ (kind:Int) (w:World) :
  Calls Tryz.prog 133 #[.int .i64 kind] w fun e w'=>e=.returned (.bool (decide (kind=0) || decide (kind=1)))∧w'=w:=by
 by_cases h0:kind=0
 ·subst h0
  go_enter Tryz.func133,Tryz.ntmps133
  go_wp2
  go_ret
  exact ⟨rfl,rfl⟩
 ·have k0:(kind == 0)=false:=by simp [h0]
  by_cases h1:kind=1
  ·subst h1
   go_enter Tryz.func133,Tryz.ntmps133
   go_wp2
   go_ret
   exact ⟨rfl,rfl⟩
  ·have k1:(kind == 1)=false:=by simp [h1]
   have HK:Hid ((decide (kind=0) || decide (kind=1))=false):=by simp [Hid,h0,h1]
   clear h0 h1
   go_enter Tryz.func133,Tryz.ntmps133
   go_wp2
   go_ret
   exact ⟨qc HK.out.symm,rfl⟩
theorem DO (kind:Int) (c:CellB) (w:World) (hc:okC c) :
  Calls Tryz.prog 120 #[.int .i64 kind,cellV c] w fun e w'=>e=.returned (.bool (xh kind c))∧Below w.heap.size w w':=by
 obtain ⟨h0,h1,h2⟩:=hc
 unfold maxLen at h2
 obtain ⟨nl,it,tx⟩:=c
 simp only at h0 h1 h2
 cases nl with
 | true =>
  by_cases hi:it=0
  ·subst hi
   have HF:Hid (xh kind ⟨true,0,tx⟩=tx.isEmpty):=by simp [Hid,xh]
   go_enter Tryz.func120,Tryz.ntmps120
   go_wp2
   go_ret
   exact ⟨qc HF.out.symm,(Below.refl _ _).alloc (Nat.le_refl _) _⟩
  ·have hi2:(it == 0)=false:=by simp [hi]
   have HF:Hid (xh kind ⟨true,it,tx⟩=false):=by simp [Hid,xh,hi]
   go_enter Tryz.func120,Tryz.ntmps120
   go_wp2
   go_ret
   exact ⟨qc HF.out.symm,(Below.refl _ _).alloc (Nat.le_refl _) _⟩
 | false =>
  by_cases hk:kind=0
  ·subst hk
   have HF:Hid (xh 0 ⟨false,it,tx⟩=tx.isEmpty):=by simp [Hid,xh]
   go_enter Tryz.func120,Tryz.ntmps120
   go_wp2
   go_ret
   exact ⟨qc HF.out.symm,(Below.refl _ _).alloc (Nat.le_refl _) _⟩
  ·have hk2:(kind == 0)=false:=by simp [hk]
   by_cases hi:it=0
   ·subst hi
    by_cases ht:tx.length≤12
    ·have HF:Hid (xh kind ⟨false,0,tx⟩=true):=by simp [Hid,xh,hk,ht]
     clear hk
     go_enter Tryz.func120,Tryz.ntmps120
     go_wp2
     go_ret
     exact ⟨qc (by rw [HF.out];simp;omega),(Below.refl _ _).alloc (Nat.le_refl _) _⟩
    ·have HF:Hid (xh kind ⟨false,0,tx⟩=false):=by simp [Hid,xh,hk,ht]
     clear hk
     go_enter Tryz.func120,Tryz.ntmps120
     go_wp2
     go_ret
     exact ⟨qc (by rw [HF.out];simp;omega),(Below.refl _ _).alloc (Nat.le_refl _) _⟩
   ·have hi2:(it == 0)=false:=by simp [hi]
    have HF:Hid (xh kind ⟨false,it,tx⟩=false):=by simp [Hid,xh,hi,hk]
    clear hk hi
    go_enter Tryz.func120,Tryz.ntmps120
    go_wp2
    go_ret
    exact ⟨qc HF.out.symm,(Below.refl _ _).alloc (Nat.le_refl _) _⟩
theorem EU (kind:Int) (a:Option Addr) (cap:Nat) (l:List CellB) (w:World) (hm:l.length≤140737488351232) (hl:Lies w a l) :
  Calls Tryz.prog 91 #[.int .i64 kind,.slice a l.length cap] w fun e w'=>e=.returned (.bool (decide (l.length≤60) && l.all (xh kind)))∧Below w.heap.size w w':=by
 have Hl:=hid hl
 clear hl
 by_cases hn:l.length≤60
 ·have hni:(l.length:Int)≤60:=by omega
  have HD:Hid ((decide (l.length≤60) && l.all (xh kind))=l.all (xh kind)):=by simp [Hid,hn]
  go_enter Tryz.func91,Tryz.ntmps91
  go_wp2
  go_loopw [12] (fun i wr=>∃ k:Nat,k≤l.length∧i=.int .i64 k∧(l.take k).all (xh kind)=true∧Below w.heap.size w wr) (fun i _=>l.length - (intOf i).toNat)
  case atStart=>exact ⟨0,Nat.zero_le _,rfl,rfl,Below.refl _ _⟩
  case round =>
   obtain ⟨k,hkl,rfl,hall,hB⟩:=hrel
   have Hall:=hid hall
   clear hall
   by_cases hlt:k < l.length
   ·obtain ⟨b,off,rfl,hbw,hcell⟩:=(Hl.out.later hB).at_ (List.ne_nil_of_length_pos (by omega))
    obtain ⟨g1,g2,g3⟩:=hcell k hlt
    clear hcell
    have hokc:=Hl.out.ok l[k] (List.getElem_mem hlt)
    have Hok:=hid hokc
    clear hokc
    have HT:Hid ((l.take (k+1)).all (xh kind)=xh kind l[k]):=by
     show (l.take (k+1)).all (xh kind)=xh kind l[k]
     rw [List.take_succ_eq_append_getElem hlt,List.all_append,Hall.out]
     simp
    have HA:Hid (xh kind l[k]=false→l.all (xh kind)=false):=by
     intro hf
     rw [List.all_eq_false]
     exact ⟨l[k],List.getElem_mem hlt,by simp [hf]⟩
    go_wp2_with fail
    refine (DO kind l[k] _ Hok.out).mono ?_
    rintro e w1 ⟨rfl,hb1⟩
    clear g1 g2 g3
    have hB1:=(hB.alloc hB.size _).trans (hb1.mono (by have:=hB.size;simp;omega))
    clear hb1
    cases hf:xh kind l[k] with
    | false =>
     have Hf:=hid hf
     clear hf
     go_wp2
     go_ret
     exact ⟨qc (by rw [HD.out];exact (HA.out Hf.out).symm),hB1⟩
    | true =>
     have Hf:=hid hf
     clear hf
     go_wp2
     go_roundw
     case rel=>exact ⟨k+1,by omega,by go_num,by rw [HT.out];exact Hf.out,hB1⟩
     case measure=>simp [intOf];omega
   ·go_wp2
    go_ret
    exact ⟨qc (by rw [HD.out,← Hall.out,List.take_of_length_le (by omega)]),hB⟩
 ·have hni:(60:Int) < (l.length:Int):=by omega
  have HD:Hid ((decide (l.length≤60) && l.all (xh kind))=false):=by simp [Hid,hn]
  go_enter Tryz.func91,Tryz.ntmps91
  go_wp2
  go_ret
  exact ⟨qc HD.out.symm,Below.refl _ _⟩
end
section
theorem Tryz.infoStr:(Tryz.prog.info? 9).map (fun i=>(i.zero,i.size,i.bytes))=some (some (.string ⟨#[]⟩),1,16):=by kernel_rfl
theorem ju {W W':World} {base e size n:Nat} {v:Value} {xs:List Value} (h:W.ownsRow base e size v n xs) (hb:Below W.heap.size W W'):W'.ownsRow base e size v n xs :=
 h.kept (DW hb) (Classical.em _)
theorem GY (a b:List (List UInt8)):zl (a++b)=zl a++zl b:=by simp [zl]
theorem Qr {w wr w2:World} {v v2:Value} {n k:Nat} {ps qs:List (List UInt8)} (o:Obj) (hk:k=n+qs.length) (hB:Below w.heap.size w wr) (hown:wr.ownsRow w.heap.size 9 1 v n (zl ps))
  (h2:w2.ownsRow w.heap.size 9 1 v2 k (zl ps++zl qs)) (hg:(wr.alloc o).grownBy w2 v.ownBlock) :
  w2.ownsRow w.heap.size 9 1 v2 k (zl (ps++qs))∧Below w.heap.size w w2:=by
 rw [GY]
 exact ⟨h2,(hB.alloc hB.size o).grown hg (by have:=hB.size;simp;omega) (fun k hk=>(hown.lt k hk).1)⟩
theorem As (n:Int) (m:Nat) (w:World) (h:n=(m:Int)) (hn:m≤9223372036854775807) :
  Calls Tryz.prog 123 #[.int .i64 n] w fun e w'=>e=.returned (strB (uB m))∧Below w.heap.size w w':=by
 subst h
 exact zy m w hn
theorem Dd (s:List UInt8) (k:Nat):(⟨s.toArray⟩:ByteArray).extract k s.length=⟨(s.drop k).toArray⟩:=by
 rw [ByteArray.extract_mk]
 congr 1
 simp [List.take_of_length_le]
def SV:Value→Nat
 | .bool true=>0
 | _=>1
theorem UX {w w1 w2 w3 w4:World} (hb1:Below w.heap.size w w1) (hb2:Below w1.drew.heap.size w1.drew w2) (hb3:Below w2.heap.size w2 w3) (hb4:Below w3.heap.size w3 w4):Below w.heap.size w w4:=by
 have h2:Below w1.heap.size w1 w2:=jl hb2
 have h12:=hb1.trans (h2.mono hb1.size)
 have h13:=h12.trans (hb3.mono h12.size)
 exact h13.trans (hb4.mono h13.size)
theorem EJ (s t:List UInt8) (w:World) (h1:s.length≤12) (h2:t.length≤12) :
  Calls Tryz.prog 168 #[strB s,strB t] w fun e w'=>e=.returned (strB (uB (jT s t)++xB (t.drop (jT s t))))∧Below w.heap.size w w':=by
 have hs:=jM s
 have ht:=jM t
 obtain ⟨hle1,hle2⟩:=JB s t
 go_enter Tryz.func168,Tryz.ntmps168
 go_wp2_with fail
 refine (Cy s t _ h1 h2).mono ?_
 rintro e w1 ⟨rfl,hb1⟩
 generalize hsh:jT s t=sh at *
 have Hsh:=hid hsh
 clear hsh
 have hd:=Dd t sh
 have hx:(xB (t.drop sh)).length≤22:=It _ (by rw [List.length_drop];omega)
 have hu:=qa sh (by omega)
 go_wp2_with fail
 go_region_with (first
  | (go_at_call 123;refine (zy sh _ (by omega)).mono ?_;rintro e w2 ⟨rfl,hb2⟩)
  | (go_at_call 115;refine (VE (t.drop sh) _ (by rw [List.length_drop];omega)).mono ?_;rintro e w3 ⟨rfl,hb3⟩)
  | (go_at_call 93;refine (QF [uB sh,xB (t.drop sh)] _ 2 _ rfl rfl (by decide) (by simp;omega)).mono ?_;rintro e w4 ⟨rfl,hb4⟩))
 all_goals
  go_wp2
  go_ret
  exact ⟨xj (by rw [Hsh.out]),UX hb1 hb2 hb3 hb4⟩
theorem Vz (a:Option Addr) (cap:Nat) (l:List CellB) (w:World) (hn:l.length≤60) (hl:Lies w a l) :
  Calls Tryz.prog 157 #[.slice a l.length cap] w fun e w'=>e=.returned (strB (zZ l))∧Below w.heap.size w w':=by
 obtain ⟨i0,hi,hz0,hz1,hz2⟩:=info_parts Tryz.infoStr
 have Hl:=hid hl
 have hni:(l.length:Int)≤60:=by omega
 have hlen:=UM l hn
 clear hl
 go_enter Tryz.func157,Tryz.ntmps157
 go_wp2_with fail
 refine (zy l.length _ (by omega)).mono ?_
 rintro e w1 ⟨rfl,hb1⟩
 go_wp2_with fail
 go_loopw [3,4,5] (fun v b i wr=>∃ (ps:List (List UInt8)) (nb:Bool) (k:Nat),b=.bool nb∧i=.int .i64 (k:Int)∧k≤l.length∧wr.ownsRow w.heap.size 9 1 v ps.length (zl ps)∧ps≠[]∧ps.flatten++qZ nb (l.drop k)=zZ l∧((k=0∧nb=false∧ps.length=1)∨((∀ h:k < l.length,(l[k]).null=nb)∧ps.length≤k+2))∧Below w.heap.size w wr)
  (fun _ b i _=>2*(l.length - (intOf i).toNat)+SV b)
 case atStart =>
  exact ⟨[uB l.length],false,0,rfl,rfl,Nat.zero_le _,⟨by simp [zl],.inr ⟨w1.heap.size,1,_,rfl,hb1.size,heap_alloc_new w1 _,Nat.le_refl _,by decide,rfl,rfl⟩⟩,by simp,by simp [zZ],.inl ⟨rfl,rfl,rfl⟩,hb1.alloc hb1.size _⟩
 case round =>
  clear hb1
  obtain ⟨ps,nb,k,rfl,rfl,hkl,hown,hps,hfl,hinv,hB⟩:=hrel
  have Hps:=hid hps
  have Hfl:=hid hfl
  clear hps
  have hfl2:ps.flatten.length≤1000:=by
   have:=congrArg List.length hfl
   rw [List.length_append] at this
   omega
  clear hfl
  have hpl:ps.length≤k+2:=by rcases hinv with ⟨h,_,h2⟩|⟨_,h2⟩<;>omega
  have Hinv:=hid hinv
  clear hinv
  by_cases hlt:k < l.length
  ·have hrl:=Nv nb (l.drop k)
   rw [List.length_drop] at hrl
   have HRL:=hid (EF nb (l.drop k))
   have HRE:=hid (Db nb (l.drop k))
   have HST:Hid (qZ nb (l.drop k)=uB (Jk nb (l.drop k))++qZ (!nb) (l.drop (k+Jk nb (l.drop k)))):=by
    show qZ nb (l.drop k)=_
    rw [ZV nb (l.drop k) (by simp;omega),List.drop_drop]
   generalize Jk nb (l.drop k)=r at *
   have hki:(k:Int) < (l.length:Int):=by omega
   obtain ⟨b,off,rfl,hbw,hcell⟩:=(Hl.out.later hB).at_ (List.ne_nil_of_length_pos (by omega))
   have Hcell:=hid hcell
   clear hcell
   go_wp2_with fail
   go_loopw [6] (fun i wi=>∃ m:Nat,m≤r∧i=.int .i64 ((k+m:Nat):Int)∧wi=wr) (fun i _=>100 - (intOf i).toNat)
   case atStart=>exact ⟨0,Nat.zero_le _,rfl,rfl⟩
   case round =>
    obtain ⟨m,hm,rfl,rfl⟩:=hrel
    by_cases hmr:m < r
    ·have hkm:k+m < l.length:=by omega
     obtain ⟨g1,_,_⟩:=Hcell.out (k+m) hkm
     have hnb:(l[k+m]).null=nb:=by
      obtain ⟨_,h2⟩:=HRL.out m hmr
      rw [List.getElem_drop] at h2
      exact h2
     rw [hnb] at g1
     have hkmi:((k+m:Nat):Int) < (l.length:Int):=by omega
     generalize hkm2:k+m=q at *
     have Hkm2:=hid hkm2
     clear hkm2 hnb
     go_wp2
     go_roundw
     case rel=>exact ⟨m+1,by omega,by rw [← Nat.add_assoc,Hkm2.out];go_num,trivial⟩
     case measure=>simp [intOf];omega
    ·have hmr2:m=r:=by omega
     subst hmr2
     go_upto_region 7 with fail
     go_cut [30] (fun t wd=>t=.bool false∧wd=wr)
     case first =>
      by_cases hend:k+m < l.length
      ·obtain ⟨g1,_,_⟩:=Hcell.out (k+m) hend
       have hnb:(l[k+m]).null=!nb:=by
        have h2:=HRE.out (by rw [List.length_drop];omega)
        rw [List.getElem_drop] at h2
        exact h2
       rw [hnb] at g1
       have hkmi:((k+m:Nat):Int) < (l.length:Int):=by omega
       generalize k+m=q at *
       have hbb:((!nb) == nb)=false:=by cases nb<;>rfl
       go_wp2
       go_meet
       case rel=>exact ⟨rfl,rfl⟩
      ·have hkmi:decide (((k+m:Nat):Int) < (l.length:Int))=false:=by simp;omega
       generalize k+m=q at *
       go_wp2
       go_meet
       case rel=>exact ⟨rfl,rfl⟩
     case rest =>
      obtain ⟨rfl,rfl⟩:=hcut
      go_wp2_with fail
      refine (As _ m _ (by omega) (by omega)).mono ?_
      rintro e w2 ⟨rfl,hb2⟩
      have hown2:=ju hown hb2
      have hB2:=hB.trans (hb2.mono hB.size)
      have hu:=qa m (by omega)
      clear hown hb2 hB
      have HX:Hid (ps.flatten++uB m++qZ (!nb) (l.drop (k+m))=zZ l):=by
       show _=_
       rw [← Hfl.out,HST.out,List.append_assoc]
      go_wp2_with (at_builtin;refine wpList_append_own _ rfl (.tmp 33) (.tmp 38) 163 rfl w.heap.size 9 i0 (.string ⟨#[]⟩) 1 16 Tryz.underlying163 hi hz0 hz1 hz2 rfl (by decide) _ _ _ rfl (hown2.alloc _) ⟨_,0,none⟩ 1 1 [strB (uB m)] rfl rfl ?c1 ?c2 ?c3 ?c4 ?c5 ?_)
      case c1=>exact qE w2 #[strB (uB m)] 9
      case c2=>intro u hu;simp at hu;subst hu;rfl
      case c3=>unfold maxLen;omega
      case c4=>omega
      case c5=>have:=hB2.size;simp;omega
      intro v3 w3 hown3 hgr3 _
      have HR:=hid (Qr (qs:=[uB m]) _ rfl hB2 hown2 hown3 hgr3)
      clear hown2 hown3 hgr3 hB2
      go_wp2
      go_roundw
      case rel =>
       refine ⟨ps++[uB m],!nb,k+m,rfl,rfl,by omega,by simpa using HR.out.1,by simp,?_,.inr ⟨?_,?_⟩,HR.out.2⟩
       ·rw [List.flatten_append];simpa using HX.out
       ·intro h
        have h2:=HRE.out (by rw [List.length_drop];omega)
        rw [List.getElem_drop] at h2
        exact h2
       ·rcases Hinv.out with ⟨h,h1,h2⟩|⟨h1,h2⟩
        ·simp;omega
        ·have:0 < m:=by
          rcases Nat.eq_zero_or_pos m with h0|h0
          ·subst h0
           have h3:=HRE.out (by rw [List.length_drop];omega)
           rw [List.getElem_drop] at h3
           have h4:=h1 hlt
           simp only [Nat.add_zero] at h3
           rw [h4] at h3
           cases nb<;>simp at h3
          ·exact h0
         simp;omega
      case measure =>
       rcases Nat.eq_zero_or_pos m with h0|h0
       ·subst h0
        have hnbf:nb=false:=by
         rcases Hinv.out with ⟨h,h1,h2⟩|⟨h1,h2⟩
         ·exact h1
         ·exfalso
          have h3:=HRE.out (by rw [List.length_drop];omega)
          rw [List.getElem_drop] at h3
          have h4:=h1 hlt
          simp only [Nat.add_zero] at h3
          rw [h4] at h3
          cases nb<;>simp at h3
        subst hnbf
        simp [intOf,SV]
       ·cases nb<;>simp [intOf,SV]<;>omega
  ·have hke:k=l.length:=by omega
   subst hke
   have HF:Hid (ps.flatten=zZ l):=by
    show ps.flatten=zZ l
    have:=Hfl.out
    rw [List.drop_length] at this
    simpa [qZ] using this
   have hki:decide ((l.length:Int) < (l.length:Int))=false:=by simp
   go_wp2_with fail
   refine (Xx ps w.heap.size ps.length _ _ hown Hps.out (by omega) (by omega)).mono ?_
   rintro e w2 ⟨rfl,hb2⟩
   go_wp2
   go_ret
   exact ⟨xj HF.out,hB.trans (hb2.mono hB.size)⟩
end
section
abbrev fnV (k:Nat):Value:=.func (.func k) #[] #[]
abbrev numC (g:Nat):Value:=.agg #[.slice (some ⟨g,0,none⟩) 3 3,fnV 151,fnV 152,fnV 153,fnV 154,fnV 155,fnV 156]
abbrev txtC (g:Nat):Value:=.agg #[.slice (some ⟨g,0,none⟩) 3 3,fnV 165,fnV 166,fnV 115,fnV 167,fnV 168,fnV 169]
def NumW (w:World) (g:Nat):Prop:=w.heap[g]?=some (.cells #[.int .u8 0,fnV 145,fnV 146,.int .u8 1,fnV 147,fnV 148,.int .u8 2,fnV 149,fnV 150] 228 (0,0))
def TxtW (w:World) (g:Nat):Prop:=w.heap[g]?=some (.cells #[.int .u8 0,fnV 159,fnV 160,.int .u8 3,fnV 161,fnV 162,.int .u8 4,fnV 163,fnV 164] 234 (0,0))
theorem NumW.later {w w':World} {g:Nat} (h:NumW w g) (hg:g < w.heap.size) (hb:Below w.heap.size w w'):NumW w' g:=(hb.block g hg).trans h
theorem TxtW.later {w w':World} {g:Nat} (h:TxtW w g) (hg:g < w.heap.size) (hb:Below w.heap.size w w'):TxtW w' g:=(hb.block g hg).trans h
theorem GV (w:World) :
  Calls Tryz.prog 134 #[] w fun e w'=>∃ g,e=.returned (numC g)∧g < w'.heap.size∧NumW w' g∧Below w.heap.size w w':=by
 go_enter Tryz.func134,Tryz.ntmps134
 go_wp2
 refine bodyPost_ret (v:=numC (w.heap.size+1)) (by simp [results,Tryz.results134,go_sem]) rfl ⟨w.heap.size+1,rfl,by simp,?_,((Below.refl _ _).alloc (Nat.le_refl _) _).alloc (by simp) _⟩
 have:=heap_alloc_new (w.alloc (Obj.cells #[Value.slice (some ⟨w.heap.size+1,0,none⟩) 3 3,fnV 151,fnV 152,fnV 153,fnV 154,fnV 155,fnV 156] 205)) (Obj.cells #[.int .u8 0,fnV 145,fnV 146,.int .u8 1,fnV 147,fnV 148,.int .u8 2,fnV 149,fnV 150] 228)
 simpa [NumW] using this
theorem Ec (w:World) :
  Calls Tryz.prog 136 #[] w fun e w'=>∃ g,e=.returned (txtC g)∧g < w'.heap.size∧TxtW w' g∧Below w.heap.size w w':=by
 go_enter Tryz.func136,Tryz.ntmps136
 go_wp2
 refine bodyPost_ret (v:=txtC (w.heap.size+1)) (by simp [results,Tryz.results136,go_sem]) rfl ⟨w.heap.size+1,rfl,by simp,?_,((Below.refl _ _).alloc (Nat.le_refl _) _).alloc (by simp) _⟩
 have:=heap_alloc_new (w.alloc (Obj.cells #[Value.slice (some ⟨w.heap.size+1,0,none⟩) 3 3,fnV 165,fnV 166,fnV 115,fnV 167,fnV 168,fnV 169] 214)) (Obj.cells #[.int .u8 0,fnV 159,fnV 160,.int .u8 3,fnV 161,fnV 162,.int .u8 4,fnV 163,fnV 164] 234)
 simpa [TxtW] using this
structure Small (l:List CellB):Prop where
 small:∀ c ∈ l,qF c
 few:l.length≤60
 some_:l≠[]
structure IntsLie (w:World) (b:Nat) (l:List CellB):Prop where
 lt:b < w.heap.size
 cell:∀ j (h:j < l.length),w.cell? ⟨b,j,none⟩=some (.int .i64 (l[j]).int)
structure TextsLie (w:World) (b:Nat) (l:List CellB):Prop where
 lt:b < w.heap.size
 cell:∀ j (h:j < l.length),w.cell? ⟨b,j,none⟩=some (strB (l[j]).text)
theorem IntsLie.later {w w':World} {b:Nat} {l:List CellB} (h:IntsLie w b l) (hb:Below w.heap.size w w'):IntsLie w' b l :=
 ⟨Nat.lt_of_lt_of_le h.lt hb.size,fun j hj=>(hb.cell (p:=⟨b,j,none⟩) h.lt).trans (h.cell j hj)⟩
theorem TextsLie.later {w w':World} {b:Nat} {l:List CellB} (h:TextsLie w b l) (hb:Below w.heap.size w w'):TextsLie w' b l :=
 ⟨Nat.lt_of_lt_of_le h.lt hb.size,fun j hj=>(hb.cell (p:=⟨b,j,none⟩) h.lt).trans (h.cell j hj)⟩
theorem Ja (w:World) (C:Array Value) (t:TypeId):Below w.heap.size w (w.alloc (.cells C t))∧(w.alloc (.cells C t)).heap.size=w.heap.size+1∧∀ j,(w.alloc (.cells C t)).cell? ⟨w.heap.size,j,none⟩=C[j]? :=
 ⟨(Below.refl _ _).alloc (Nat.le_refl _) _,by simp,fun j=>World.cell?_alloc_mark ..⟩
end
section
theorem Kx (s t:List UInt8):jT s t=jT t s:=by
 induction s generalizing t with
 | nil=>cases t<;>rfl
 | cons a s ih =>
  cases t with
  | nil=>rfl
  | cons b t =>
   simp only [jT]
   rw [ih t]
   by_cases h:a=b
   ·simp [h]
   ·rw [if_neg h,if_neg (fun h2=>h h2.symm)]
theorem Wa (g b cap:Nat) (l:List CellB) (w:World) (hs:Small l) (hl:IntsLie w b l) :
  Calls Tryz.prog 145 #[numC g,.slice (some ⟨b,0,none⟩) l.length cap] w fun e w'=>e=.returned (strB (qL 0 l))∧Below w.heap.size w w':=by
 obtain ⟨i0,hi,hz0,hz1,hz2⟩:=info_parts Tryz.infoStr
 have Hs:=hid hs
 have Hl:=hid hl
 have hn:=hs.few
 clear hs hl
 go_enter Tryz.func145,Tryz.ntmps145
 go_wp2
 obtain ⟨hb0,hs0,hc0⟩:=Ja w #[.slice (some ⟨g,0,none⟩) 3 3,fnV 151,fnV 152,fnV 153,fnV 154,fnV 155,fnV 156] 205
 have hc:_=some (fnV 153):=hc0 3
 have Hl0:=hid (Hl.out.later hb0)
 have Hb0:=hid hb0
 have Hc:=hid hc
 have hs1:=Nat.lt_of_lt_of_eq (Nat.lt_succ_self w.heap.size) hs0.symm
 clear hc0 hc hb0 hs0
 generalize w.alloc _=w0 at *
 go_loopw [5,10] (fun v i wr=>∃ (ps:List (List UInt8)) (k:Nat),k≤l.length∧i=.int .i64 (k:Int)∧ps.length=k∧wr.ownsRow w0.heap.size 9 1 v k (zl ps)∧ps.flatten=jW 0 l k∧Below w0.heap.size w0 wr)
  (fun _ i _=>l.length - (intOf i).toNat)
 case atStart=>exact ⟨[],0,Nat.zero_le _,rfl,rfl,World.ownsRow_nil _ _ _ _,rfl,Below.refl _ _⟩
 case round =>
  obtain ⟨ps,k,hkl,rfl,hpl,hown,hfl,hB⟩:=hrel
  have Hfl:=hid hfl
  clear hfl
  have hst:=zD 0 l Hs.out.small hn k
  by_cases hlt:k < l.length
  ·have hck:=(Hl0.out.later hB).cell k hlt
   have hcf:=(hB.cell (p:=⟨w.heap.size,3,none⟩) hs1).trans Hc.out
   have hsm:=Hs.out.small l[k] (List.getElem_mem hlt)
   have HT:Hid (xM 0 l k=bB (l[k]).int):=by
    show xM 0 l k=_
    simp only [xM,qN l k hlt]
   go_wp2_with fail
   refine (Sb (l[k]).int _ hsm.1 hsm.2.1).mono ?_
   rintro e w2 ⟨rfl,hb2⟩
   have hown2:=ju hown hb2
   have hB2:=hB.trans (hb2.mono hB.size)
   clear hown hb2 hB hck hcf
   generalize bB (l[k]).int=q at *
   go_wp2_with (at_builtin;refine wpList_append_own _ rfl (.tmp 14) (.tmp 19) 163 rfl w0.heap.size 9 i0 (.string ⟨#[]⟩) 1 16 Tryz.underlying163 hi hz0 hz1 hz2 rfl (by decide) _ _ _ rfl (hown2.alloc _) ⟨_,0,none⟩ 1 1 [strB q] rfl rfl ?c1 ?c2 ?c3 ?c4 ?c5 ?_)
   case c1=>exact qE w2 #[strB q] 9
   case c2=>intro u hu;simp at hu;subst hu;rfl
   case c3=>unfold maxLen;omega
   case c4=>omega
   case c5=>have:=hB2.size;simp;omega
   intro v3 w3 hown3 hgr3 _
   have HR:=hid (Qr (qs:=[q]) _ rfl hB2 hown2 hown3 hgr3)
   clear hown2 hown3 hgr3 hB2
   go_wp2
   go_roundw
   case rel=>exact ⟨ps++[q],k+1,by omega,by go_num,by simp;omega,HR.out.1,by rw [List.flatten_append,Hfl.out,jW,HT.out];simp,HR.out.2⟩
   case measure=>simp [intOf];omega
  ·have hke:k=l.length:=by omega
   subst hke
   have hps:ps≠[]:=by
    intro h
    subst h
    exact Hs.out.some_ (List.eq_nil_of_length_eq_zero hpl.symm)
   have HF:Hid (ps.flatten=qL 0 l):=by
    show ps.flatten=qL 0 l
    rw [Hfl.out];simp [qL]
   have hfl2:ps.flatten.length≤1000000:=by rw [Hfl.out];omega
   have Hps:=hid hps
   clear hps
   go_wp2_with fail
   refine (Xx ps w0.heap.size l.length _ _ hown Hps.out (by omega) hfl2).mono ?_
   rintro e w2 ⟨rfl,hb2⟩
   go_wp2
   go_ret
   have hz:=Hb0.out.size
   have hBB:=Hb0.out.trans (hB.mono hz)
   exact ⟨xj HF.out,hBB.trans (hb2.mono hBB.size)⟩
theorem BW (g b cap:Nat) (l:List CellB) (w:World) (hs:Small l) (hl:TextsLie w b l) :
  Calls Tryz.prog 159 #[txtC g,.slice (some ⟨b,0,none⟩) l.length cap] w fun e w'=>e=.returned (strB (qL 5 l))∧Below w.heap.size w w':=by
 obtain ⟨i0,hi,hz0,hz1,hz2⟩:=info_parts Tryz.infoStr
 have Hs:=hid hs
 have Hl:=hid hl
 have hn:=hs.few
 clear hs hl
 go_enter Tryz.func159,Tryz.ntmps159
 go_wp2
 obtain ⟨hb0,hs0,hc0⟩:=Ja w #[.slice (some ⟨g,0,none⟩) 3 3,fnV 165,fnV 166,fnV 115,fnV 167,fnV 168,fnV 169] 214
 have hc:_=some (fnV 115):=hc0 3
 have Hl0:=hid (Hl.out.later hb0)
 have Hb0:=hid hb0
 have Hc:=hid hc
 have hs1:=Nat.lt_of_lt_of_eq (Nat.lt_succ_self w.heap.size) hs0.symm
 clear hc0 hc hb0 hs0
 generalize w.alloc _=w0 at *
 go_loopw [5,10] (fun v i wr=>∃ (ps:List (List UInt8)) (k:Nat),k≤l.length∧i=.int .i64 (k:Int)∧ps.length=k∧wr.ownsRow w0.heap.size 9 1 v k (zl ps)∧ps.flatten=jW 5 l k∧Below w0.heap.size w0 wr)
  (fun _ i _=>l.length - (intOf i).toNat)
 case atStart=>exact ⟨[],0,Nat.zero_le _,rfl,rfl,World.ownsRow_nil _ _ _ _,rfl,Below.refl _ _⟩
 case round =>
  obtain ⟨ps,k,hkl,rfl,hpl,hown,hfl,hB⟩:=hrel
  have Hfl:=hid hfl
  clear hfl
  have hst:=zD 5 l Hs.out.small hn k
  by_cases hlt:k < l.length
  ·have hck:=(Hl0.out.later hB).cell k hlt
   have hcf:=(hB.cell (p:=⟨w.heap.size,3,none⟩) hs1).trans Hc.out
   have hsm:=Hs.out.small l[k] (List.getElem_mem hlt)
   have HT:Hid (xM 5 l k=xB (l[k]).text):=by
    show xM 5 l k=_
    simp only [xM,qN l k hlt]
   go_wp2_with fail
   refine (VE (l[k]).text _ (by have:=hsm.2.2;omega)).mono ?_
   rintro e w2 ⟨rfl,hb2⟩
   have hown2:=ju hown hb2
   have hB2:=hB.trans (hb2.mono hB.size)
   clear hown hb2 hB hck hcf
   generalize xB (l[k]).text=q at *
   go_wp2_with (at_builtin;refine wpList_append_own _ rfl (.tmp 14) (.tmp 19) 163 rfl w0.heap.size 9 i0 (.string ⟨#[]⟩) 1 16 Tryz.underlying163 hi hz0 hz1 hz2 rfl (by decide) _ _ _ rfl (hown2.alloc _) ⟨_,0,none⟩ 1 1 [strB q] rfl rfl ?c1 ?c2 ?c3 ?c4 ?c5 ?_)
   case c1=>exact qE w2 #[strB q] 9
   case c2=>intro u hu;simp at hu;subst hu;rfl
   case c3=>unfold maxLen;omega
   case c4=>omega
   case c5=>have:=hB2.size;simp;omega
   intro v3 w3 hown3 hgr3 _
   have HR:=hid (Qr (qs:=[q]) _ rfl hB2 hown2 hown3 hgr3)
   clear hown2 hown3 hgr3 hB2
   go_wp2
   go_roundw
   case rel=>exact ⟨ps++[q],k+1,by omega,by go_num,by simp;omega,HR.out.1,by rw [List.flatten_append,Hfl.out,jW,HT.out];simp,HR.out.2⟩
   case measure=>simp [intOf];omega
  ·have hke:k=l.length:=by omega
   subst hke
   have hps:ps≠[]:=by
    intro h
    subst h
    exact Hs.out.some_ (List.eq_nil_of_length_eq_zero hpl.symm)
   have HF:Hid (ps.flatten=qL 5 l):=by
    show ps.flatten=qL 5 l
    rw [Hfl.out];simp [qL]
   have hfl2:ps.flatten.length≤1000000:=by rw [Hfl.out];omega
   have Hps:=hid hps
   clear hps
   go_wp2_with fail
   refine (Xx ps w0.heap.size l.length _ _ hown Hps.out (by omega) hfl2).mono ?_
   rintro e w2 ⟨rfl,hb2⟩
   go_wp2
   go_ret
   have hz:=Hb0.out.size
   have hBB:=Hb0.out.trans (hB.mono hz)
   exact ⟨xj HF.out,hBB.trans (hb2.mono hBB.size)⟩
theorem Fl (g b cap:Nat) (l:List CellB) (w:World) (hs:Small l) (hl:IntsLie w b l) :
  Calls Tryz.prog 147 #[numC g,.slice (some ⟨b,0,none⟩) l.length cap] w fun e w'=>e=.returned (strB (qL 1 l))∧Below w.heap.size w w':=by
 obtain ⟨i0,hi,hz0,hz1,hz2⟩:=info_parts Tryz.infoStr
 have Hs:=hid hs
 have Hl:=hid hl
 have hn:=hs.few
 clear hs hl
 go_enter Tryz.func147,Tryz.ntmps147
 go_wp2
 obtain ⟨hb0,hs0,hc0⟩:=Ja w #[.slice (some ⟨g,0,none⟩) 3 3,fnV 151,fnV 152,fnV 153,fnV 154,fnV 155,fnV 156] 205
 have hc:_=some (fnV 155):=hc0 5
 have Hl0:=hid (Hl.out.later hb0)
 have Hb0:=hid hb0
 have Hc:=hid hc
 have hs1:=Nat.lt_of_lt_of_eq (Nat.lt_succ_self w.heap.size) hs0.symm
 clear hc0 hc hb0 hs0
 generalize w.alloc _=w0 at *
 go_loopw [5,6,11] (fun v u i wr=>∃ (ps:List (List UInt8)) (k:Nat),k≤l.length∧i=.int .i64 (k:Int)∧u=.int .i64 (qQ l k).int∧ps.length=k∧wr.ownsRow w0.heap.size 9 1 v k (zl ps)∧ps.flatten=jW 1 l k∧Below w0.heap.size w0 wr)
  (fun _ _ i _=>l.length - (intOf i).toNat)
 case atStart=>exact ⟨[],0,Nat.zero_le _,rfl,rfl,rfl,World.ownsRow_nil _ _ _ _,rfl,Below.refl _ _⟩
 case round =>
  obtain ⟨ps,k,hkl,rfl,rfl,hpl,hown,hfl,hB⟩:=hrel
  have Hfl:=hid hfl
  clear hfl
  have hst:=zD 1 l Hs.out.small hn k
  by_cases hlt:k < l.length
  ·have hck:=(Hl0.out.later hB).cell k hlt
   have hcf:=(hB.cell (p:=⟨w.heap.size,5,none⟩) hs1).trans Hc.out
   have hsm:=Hs.out.small l[k] (List.getElem_mem hlt)
   have hpr:=Vn l Hs.out.small k
   have HP:Hid (qQ l (k+1)=l[k]):=by
    show qQ l (k+1)=l[k]
    unfold qQ
    rw [if_neg (by omega)]
    exact qN l k hlt
   have HT:Hid (xM 1 l k=zB (wrap64 ((l[k]).int - (qQ l k).int))):=by
    show xM 1 l k=_
    simp only [xM,qN l k hlt]
   go_wp2_with fail
   refine (Nd (qQ l k).int (l[k]).int _ hpr.1 hpr.2.1 hsm.1 hsm.2.1).mono ?_
   rintro e w2 ⟨rfl,hb2⟩
   have hown2:=ju hown hb2
   have hB2:=hB.trans (hb2.mono hB.size)
   clear hown hb2 hB hck hcf
   generalize zB (wrap64 ((l[k]).int - (qQ l k).int))=q at *
   go_wp2_with (at_builtin;refine wpList_append_own _ rfl (.tmp 15) (.tmp 21) 163 rfl w0.heap.size 9 i0 (.string ⟨#[]⟩) 1 16 Tryz.underlying163 hi hz0 hz1 hz2 rfl (by decide) _ _ _ rfl (hown2.alloc _) ⟨_,0,none⟩ 1 1 [strB q] rfl rfl ?c1 ?c2 ?c3 ?c4 ?c5 ?_)
   case c1=>exact qE w2 #[strB q] 9
   case c2=>intro u hu;simp at hu;subst hu;rfl
   case c3=>unfold maxLen;omega
   case c4=>omega
   case c5=>have:=hB2.size;simp;omega
   intro v3 w3 hown3 hgr3 _
   have HR:=hid (Qr (qs:=[q]) _ rfl hB2 hown2 hown3 hgr3)
   clear hown2 hown3 hgr3 hB2
   go_wp2
   go_roundw
   case rel=>exact ⟨ps++[q],k+1,by omega,by go_num,by rw [HP.out],by simp;omega,HR.out.1,by rw [List.flatten_append,Hfl.out,jW,HT.out];simp,HR.out.2⟩
   case measure=>simp [intOf];omega
  ·have hke:k=l.length:=by omega
   subst hke
   have hps:ps≠[]:=by
    intro h
    subst h
    exact Hs.out.some_ (List.eq_nil_of_length_eq_zero hpl.symm)
   have HF:Hid (ps.flatten=qL 1 l):=by
    show ps.flatten=qL 1 l
    rw [Hfl.out];simp [qL]
   have hfl2:ps.flatten.length≤1000000:=by rw [Hfl.out];omega
   have Hps:=hid hps
   clear hps
   go_wp2_with fail
   refine (Xx ps w0.heap.size l.length _ _ hown Hps.out (by omega) hfl2).mono ?_
   rintro e w2 ⟨rfl,hb2⟩
   go_wp2
   go_ret
   have hz:=Hb0.out.size
   have hBB:=Hb0.out.trans (hB.mono hz)
   exact ⟨xj HF.out,hBB.trans (hb2.mono hBB.size)⟩
theorem Fm (g b cap:Nat) (l:List CellB) (w:World) (hs:Small l) (hl:TextsLie w b l) :
  Calls Tryz.prog 163 #[txtC g,.slice (some ⟨b,0,none⟩) l.length cap] w fun e w'=>e=.returned (strB (qL 4 l))∧Below w.heap.size w w':=by
 obtain ⟨i0,hi,hz0,hz1,hz2⟩:=info_parts Tryz.infoStr
 have Hs:=hid hs
 have Hl:=hid hl
 have hn:=hs.few
 clear hs hl
 go_enter Tryz.func163,Tryz.ntmps163
 go_wp2
 obtain ⟨hb0,hs0,hc0⟩:=Ja w #[.slice (some ⟨g,0,none⟩) 3 3,fnV 165,fnV 166,fnV 115,fnV 167,fnV 168,fnV 169] 214
 have hc:_=some (fnV 168):=hc0 5
 have Hl0:=hid (Hl.out.later hb0)
 have Hb0:=hid hb0
 have Hc:=hid hc
 have hs1:=Nat.lt_of_lt_of_eq (Nat.lt_succ_self w.heap.size) hs0.symm
 clear hc0 hc hb0 hs0
 generalize w.alloc _=w0 at *
 go_loopw [5,6,11] (fun v u i wr=>∃ (ps:List (List UInt8)) (k:Nat),k≤l.length∧i=.int .i64 (k:Int)∧u=strB (qQ l k).text∧ps.length=k∧wr.ownsRow w0.heap.size 9 1 v k (zl ps)∧ps.flatten=jW 4 l k∧Below w0.heap.size w0 wr)
  (fun _ _ i _=>l.length - (intOf i).toNat)
 case atStart=>exact ⟨[],0,Nat.zero_le _,rfl,rfl,rfl,World.ownsRow_nil _ _ _ _,rfl,Below.refl _ _⟩
 case round =>
  obtain ⟨ps,k,hkl,rfl,rfl,hpl,hown,hfl,hB⟩:=hrel
  have Hfl:=hid hfl
  clear hfl
  have hst:=zD 4 l Hs.out.small hn k
  by_cases hlt:k < l.length
  ·have hck:=(Hl0.out.later hB).cell k hlt
   have hcf:=(hB.cell (p:=⟨w.heap.size,5,none⟩) hs1).trans Hc.out
   have hsm:=Hs.out.small l[k] (List.getElem_mem hlt)
   have hpr:=Vn l Hs.out.small k
   have HP:Hid (qQ l (k+1)=l[k]):=by
    show qQ l (k+1)=l[k]
    unfold qQ
    rw [if_neg (by omega)]
    exact qN l k hlt
   have HT:Hid (xM 4 l k=uB (jT (qQ l k).text (l[k]).text)++xB ((l[k]).text.drop (jT (qQ l k).text (l[k]).text))):=by
    show xM 4 l k=_
    simp only [xM,qN l k hlt,Kx (qQ l k).text]
   go_wp2_with fail
   refine (EJ (qQ l k).text (l[k]).text _ hpr.2.2 hsm.2.2).mono ?_
   rintro e w2 ⟨rfl,hb2⟩
   have hown2:=ju hown hb2
   have hB2:=hB.trans (hb2.mono hB.size)
   clear hown hb2 hB hck hcf
   generalize uB (jT (qQ l k).text (l[k]).text)++xB ((l[k]).text.drop (jT (qQ l k).text (l[k]).text))=q at *
   go_wp2_with (at_builtin;refine wpList_append_own _ rfl (.tmp 15) (.tmp 21) 163 rfl w0.heap.size 9 i0 (.string ⟨#[]⟩) 1 16 Tryz.underlying163 hi hz0 hz1 hz2 rfl (by decide) _ _ _ rfl (hown2.alloc _) ⟨_,0,none⟩ 1 1 [strB q] rfl rfl ?c1 ?c2 ?c3 ?c4 ?c5 ?_)
   case c1=>exact qE w2 #[strB q] 9
   case c2=>intro u hu;simp at hu;subst hu;rfl
   case c3=>unfold maxLen;omega
   case c4=>omega
   case c5=>have:=hB2.size;simp;omega
   intro v3 w3 hown3 hgr3 _
   have HR:=hid (Qr (qs:=[q]) _ rfl hB2 hown2 hown3 hgr3)
   clear hown2 hown3 hgr3 hB2
   go_wp2
   go_roundw
   case rel=>exact ⟨ps++[q],k+1,by omega,by go_num,by rw [HP.out],by simp;omega,HR.out.1,by rw [List.flatten_append,Hfl.out,jW,HT.out];simp,HR.out.2⟩
   case measure=>simp [intOf];omega
  ·have hke:k=l.length:=by omega
   subst hke
   have hps:ps≠[]:=by
    intro h
    subst h
    exact Hs.out.some_ (List.eq_nil_of_length_eq_zero hpl.symm)
   have HF:Hid (ps.flatten=qL 4 l):=by
    show ps.flatten=qL 4 l
    rw [Hfl.out];simp [qL]
   have hfl2:ps.flatten.length≤1000000:=by rw [Hfl.out];omega
   have Hps:=hid hps
   clear hps
   go_wp2_with fail
   refine (Xx ps w0.heap.size l.length _ _ hown Hps.out (by omega) hfl2).mono ?_
   rintro e w2 ⟨rfl,hb2⟩
   go_wp2
   go_ret
   have hz:=Hb0.out.size
   have hBB:=Hb0.out.trans (hB.mono hz)
   exact ⟨xj HF.out,hBB.trans (hb2.mono hBB.size)⟩
end
section
def AN (l:List CellB) (k:Nat):Prop:=k=0∨l.length≤k∨(zv l k).int≠(qQ l k).int
theorem Ns (l:List CellB) (k:Nat) (h:k < l.length):Jz (l[k]).int (l.drop k)=Jz (l[k]).int (l.drop (k+1))+1:=by
 rw [List.drop_eq_getElem_cons h]
 simp [Jz]
theorem ND (l:List CellB) (k j:Nat) (h:k < l.length) (hj:j < Jz (l[k]).int (l.drop k)):(zv l (k+j)).int=(l[k]).int:=by
 obtain ⟨h1,h2⟩:=EX _ _ j hj
 rw [List.getElem_drop] at h2
 rw [List.length_drop] at h1
 rw [qN l (k+j) (by omega)]
 exact h2
theorem Yj (l:List CellB) (k:Nat) (h:k < l.length) (hr:AN l k):∀ j,0 < j→j≤Jz (l[k]).int (l.drop k) →
  jW 2 l (k+j)=jW 2 l k++(uB (Jz (l[k]).int (l.drop k))++zB (l[k]).int):=by
 intro j
 induction j with
 | zero=>intro h0;omega
 | succ j ih =>
  intro _ hj
  rcases Nat.eq_zero_or_pos j with h0|h0
  ·subst h0
   rw [Nat.zero_add,jW]
   congr 1
   have:k=0∨(zv l k).int≠(qQ l k).int:=by
    rcases hr with h1|h1|h1
    ·exact .inl h1
    ·omega
    ·exact .inr h1
   simp only [xM]
   rw [if_pos this,qN l k h,Ns l k h]
  ·have e1:=ND l k j h (by omega)
   have e2:=ND l k (j - 1) h (by omega)
   have e3:qQ l (k+j)=zv l (k+(j - 1)):=by
    unfold qQ
    rw [if_neg (by omega)]
    congr 1
    omega
   rw [← Nat.add_assoc,jW,ih h0 (by omega)]
   have:xM 2 l (k+j)=[]:=by
    simp only [xM]
    rw [if_neg]
    intro hc
    rcases hc with hc|hc
    ·omega
    ·apply hc;rw [e1,e3,e2]
   rw [this,List.append_nil]
theorem DJ (l:List CellB) (k:Nat) (h:k < l.length):AN l (k+Jz (l[k]).int (l.drop k)):=by
 by_cases hl:l.length≤k+Jz (l[k]).int (l.drop k)
 ·exact .inr (.inl hl)
 ·have h2:=Rx (l[k]).int (l.drop k) (by rw [List.length_drop];omega)
  rw [List.getElem_drop] at h2
  have hp:=Ns l k h
  have e2:=ND l k (Jz (l[k]).int (l.drop k) - 1) h (by omega)
  refine .inr (.inr ?_)
  have e3:qQ l (k+Jz (l[k]).int (l.drop k))=zv l (k+(Jz (l[k]).int (l.drop k) - 1)):=by
   unfold qQ
   rw [if_neg (by omega)]
   congr 1
   omega
  rw [e3,e2,qN l _ (by omega)]
  exact h2
theorem Ge (n:Int) (h0:-9223372036854775808≤n) (h1:n≤9223372036854775807):wrap64 (n - 0)=n:=by
 unfold wrap64;omega
theorem Su (v:Int) (w:World) (h2:-9223372036854775808≤v) (h3:v≤9223372036854775807) :
  Calls Tryz.prog 155 #[.int .i64 0,.int .i64 v] w fun e w'=>e=.returned (strB (zB v))∧Below w.heap.size w w':=by
 have:=Nd 0 v w (by decide) (by decide) h2 h3
 rw [Ge v h2 h3] at this
 exact this
theorem je {w:World} {a:Addr} {v:Value} (o:Obj) (h:w.cell? a=some v):(w.alloc o).cell? a=some v:=by
 exact (World.cell?_alloc_lt w o a (World.block_lt_of_cell? w _ h)).trans h
theorem zz {w w':World} {u v:Value} {base e size n:Nat} {xs:List Value} {a:Addr} (hg:w.grownBy w' u.ownBlock) (ho:w.ownsRow base e size u n xs) (h:w.cell? a=some v) (hb:a.block < base):w'.cell? a=some v:=by
 have hne:some a.block≠u.ownBlock:=by
  intro he
  have:=(ho.lt a.block he.symm).1
  omega
 exact (hg.cell_far a (World.block_lt_of_cell? w _ h) hne).trans h
theorem FS (g b cap:Nat) (l:List CellB) (w:World) (hs:Small l) (hl:IntsLie w b l) :
  Calls Tryz.prog 149 #[numC g,.slice (some ⟨b,0,none⟩) l.length cap] w fun e w'=>e=.returned (strB (qL 2 l))∧Below w.heap.size w w':=by
 obtain ⟨i0,hi,hz0,hz1,hz2⟩:=info_parts Tryz.infoStr
 have Hs:=hid hs
 have Hl:=hid hl
 have hn:=hs.few
 clear hs hl
 go_enter Tryz.func149,Tryz.ntmps149
 go_wp2
 obtain ⟨hb0,hs0,hc0⟩:=Ja w #[.slice (some ⟨g,0,none⟩) 3 3,fnV 151,fnV 152,fnV 153,fnV 154,fnV 155,fnV 156] 205
 have hc:_=some (fnV 155):=hc0 5
 have Hl0:=hid (Hl.out.later hb0)
 have Hb0:=hid hb0
 have Hc:=hid hc
 have hs1:=Nat.lt_of_lt_of_eq (Nat.lt_succ_self w.heap.size) hs0.symm
 clear hc0 hc hb0 hs0
 generalize w.alloc _=w0 at *
 go_loopw [5,7] (fun v i wr=>∃ (ps:List (List UInt8)) (k:Nat),k≤l.length∧i=.int .i64 (k:Int)∧ps.length≤2*k∧(0 < k→ps≠[])∧wr.ownsRow w0.heap.size 9 1 v ps.length (zl ps)∧ps.flatten=jW 2 l k∧AN l k∧Below w0.heap.size w0 wr)
  (fun _ i _=>l.length - (intOf i).toNat)
 case atStart=>exact ⟨[],0,Nat.zero_le _,rfl,Nat.zero_le _,fun h=>absurd h (Nat.lt_irrefl _),World.ownsRow_nil _ _ _ _,rfl,.inl rfl,Below.refl _ _⟩
 case round =>
  obtain ⟨ps,k,hkl,rfl,hpl,hps,hown,hfl,hra,hB⟩:=hrel
  have Hfl:=hid hfl
  have Hps:=hid hps
  have Hra:=hid hra
  clear hfl hps hra
  have hst:=zD 2 l Hs.out.small hn k
  by_cases hlt:k < l.length
  ·obtain ⟨W1,rfl⟩:∃ W1,W1=wr:=⟨_,rfl⟩
   have hki:(k:Int) < (l.length:Int):=by omega
   have Hcell:=hid (Hl0.out.later hB).cell
   have hck:=(Hl0.out.later hB).cell k hlt
   have hbw:=(Hl0.out.later hB).lt
   have Hbl:=hid Hl0.out.lt
   have hcf:=(hB.cell (p:=⟨w.heap.size,5,none⟩) hs1).trans Hc.out
   have hsm:=Hs.out.small l[k] (List.getElem_mem hlt)
   obtain ⟨hv0,hv1,_⟩:=hsm
   have HST:=hid (Yj l k hlt Hra.out)
   have HRE:=hid (DJ l k hlt)
   have HRL:=hid (EX (l[k]).int (l.drop k))
   have HRX:=hid (Rx (l[k]).int (l.drop k))
   have hrp:=Ns l k hlt
   have hrp2:0 < Jz (l[k]).int (l.drop k):=by omega
   have hrl:=NG (l[k]).int (l.drop k)
   rw [List.length_drop] at hrl
   clear hrp
   generalize Jz (l[k]).int (l.drop k)=r at *
   generalize (l[k]).int=vv at *
   go_wp2_with fail
   go_loopw [8] (fun i wi=>∃ m:Nat,m≤r∧i=.int .i64 ((k+m:Nat):Int)∧Below W1.heap.size W1 wi) (fun i _=>100 - (intOf i).toNat)
   case atStart=>exact ⟨0,Nat.zero_le _,rfl,Below.refl _ _⟩
   case round =>
    obtain ⟨m,hm,rfl,hBi⟩:=hrel
    have hck2:=(hBi.cell (p:=⟨b,k,none⟩) hbw).trans hck
    by_cases hmr:m < r
    ·have hkm:k+m < l.length:=by omega
     have g1:=(hBi.cell (p:=⟨b,k+m,none⟩) hbw).trans (Hcell.out (k+m) hkm)
     have hnb:(l[k+m]).int=vv:=by
      obtain ⟨_,h2⟩:=HRL.out m hmr
      rw [List.getElem_drop] at h2
      exact h2
     rw [hnb] at g1
     have hkmi:((k+m:Nat):Int) < (l.length:Int):=by omega
     generalize hkm2:k+m=q at *
     have Hkm2:=hid hkm2
     clear hkm2 hnb
     have hee:(vv == vv)=true:=by simp
     go_wp2_with fail
     go_quiet (fail)
     go_wp2
     go_roundw
     case rel=>exact ⟨m+1,by omega,by rw [← Nat.add_assoc,Hkm2.out];go_num,below_drewN hBi nq⟩
     case measure=>simp [intOf];omega
    ·have hmr2:m=r:=by omega
     subst hmr2
     go_upto_region 6 with fail
     go_cut [28] (fun t wd=>t=.bool false∧Below W1.heap.size W1 wd)
     case first =>
      by_cases hend:k+m < l.length
      ·have g1:=(hBi.cell (p:=⟨b,k+m,none⟩) hbw).trans (Hcell.out (k+m) hend)
       have hnb:((l[k+m]).int == vv)=false:=by
        have h2:=HRX.out (by rw [List.length_drop];omega)
        rw [List.getElem_drop] at h2
        simpa using h2
       have hkmi:((k+m:Nat):Int) < (l.length:Int):=by omega
       generalize (l[k+m]).int=v2 at *
       generalize k+m=q at *
       go_quiet (fail)
       go_wp2_with fail
       go_meet
       case rel=>exact ⟨rfl,below_drewN hBi nq⟩
      ·have hkmi:decide (((k+m:Nat):Int) < (l.length:Int))=false:=by simp;omega
       generalize k+m=q at *
       go_quiet (fail)
       go_wp2_with fail
       go_meet
       case rel=>exact ⟨rfl,below_drewN hBi nq⟩
     case rest =>
      obtain ⟨rfl,hBj⟩:=hcut
      have hck3:=(hBj.cell (p:=⟨b,k,none⟩) hbw).trans hck
      have hcf3:=(hBj.cell (p:=⟨w.heap.size,5,none⟩) (Nat.lt_of_lt_of_le hs1 hB.size)).trans hcf
      have hownc:=ju hown hBj
      have hBc:=hB.trans (hBj.mono hB.size)
      have hbc:b < wc.heap.size:=Nat.lt_of_lt_of_le hbw hBj.size
      have hwc:w.heap.size < wc.heap.size:=Nat.lt_of_lt_of_le (Nat.lt_of_lt_of_le hs1 hB.size) hBj.size
      have HX:Hid (ps.flatten++(uB m++zB vv)=jW 2 l (k+m)):=by
       show _=_
       rw [Hfl.out];exact (HST.out m hrp2 (Nat.le_refl _)).symm
      clear hck hcf hck2 hown hBj hBi hB
      have hk0:(0:Int)≤(k:Int):=by omega
      go_wp2_with fail
      go_region_held3 (fun w'=>w'.cell? ⟨w.heap.size,5,none⟩=some (fnV 155)∧w'.cell? ⟨b,k,none⟩=some (.int .i64 vv)) (first|(exact ⟨hcf3,hck3⟩)|(exact ⟨x1,y1⟩)|(exact ⟨x2,y2⟩)|(exact ⟨je _ x2,je _ y2⟩)|(exact ⟨x3,y3⟩))
       (first
        | (go_at_call 123;refine (As _ m _ ?_ ?_).mono ?_;(rw [IntKind.wrap_i64];omega);omega;rintro e w5 ⟨rfl,hb5⟩;have x1:=(hb5.cell (p:=⟨w.heap.size,5,none⟩) hwc).trans hcf3;have y1:=(hb5.cell (p:=⟨b,k,none⟩) hbc).trans hck3)
        | (go_at_call 155;refine (Su vv _ hv0 hv1).mono ?_;rintro e w6 ⟨rfl,hb6⟩;have x2:=(hb6.cell (p:=⟨w.heap.size,5,none⟩) (Nat.lt_of_lt_of_le hwc hb5.size)).trans x1;have y2:=(hb6.cell (p:=⟨b,k,none⟩) (Nat.lt_of_lt_of_le hbc hb5.size)).trans y1)
        | (refine step_append_lies _ (by rfl) _ _ _ (by rfl) w0.heap.size 9 i0 _ 1 16 Tryz.underlying163 hi hz0 hz1 hz2 rfl (by omega) _ ps.length (zl ps) (by rfl) ((ju (ju hownc (jl hb5)) hb6).alloc _) ⟨w6.heap.size,0,none⟩ 2 2 [strB (uB m),strB (zB vv)] (by rfl) (by rfl) (World.news_of_block (cs:=#[strB (uB m),strB (zB vv)]) (t:=9) (fr:=(0,0)) (heap_alloc_new w6 _)) (by simp [Value.oneCell']) (by omega) (by unfold maxLen;omega) (by omega) (by have:=hBc.size;have:=hb5.size;have:=hb6.size;simp at *;omega) _ rfl ?_;intro gg cc w7 hown7 hgr7 hat7 hlt7;have x3:=zz hgr7 ((ju (ju hownc (jl hb5)) hb6).alloc _) (je _ x2) hs1;have y3:=zz hgr7 ((ju (ju hownc (jl hb5)) hb6).alloc _) (je _ y2) Hbl.out))
      have hb5':=jl hb5
      have hB5:=hBc.trans (hb5'.mono hBc.size)
      have hB6:=hB5.trans (hb6.mono hB5.size)
      have HR:=hid (Qr (qs:=[uB m,zB vv]) _ rfl hB6 (ju (ju hownc hb5') hb6) hown7 hgr7)
      clear x1 x2 x3 y1 y2 y3 hcf3 hck3 hownc hBc hb5 hb5' hb6 hB5 hB6 hown7 hgr7 hat7 hlt7
      go_wp2
      go_roundw
      case rel=>exact ⟨ps++[uB m,zB vv],k+m,by omega,rfl,by simp;omega,fun _=>by simp,by simpa using HR.out.1,by rw [List.flatten_append,← HX.out];simp,HRE.out,HR.out.2⟩
      case measure=>simp [intOf];omega
  ·have hke:k=l.length:=by omega
   subst hke
   have hpn:ps≠[]:=Hps.out (List.length_pos_iff.2 Hs.out.some_)
   have HF:Hid (ps.flatten=qL 2 l):=by
    show ps.flatten=qL 2 l
    rw [Hfl.out];simp [qL]
   have hfl2:ps.flatten.length≤1000000:=by rw [Hfl.out];omega
   have Hpn:=hid hpn
   clear hpn
   have hki:decide ((l.length:Int) < (l.length:Int))=false:=by simp
   go_wp2_with fail
   refine (Xx ps w0.heap.size ps.length _ _ hown Hpn.out (by omega) hfl2).mono ?_
   rintro e w2 ⟨rfl,hb2⟩
   go_wp2
   go_ret
   have hz:=Hb0.out.size
   have hBB:=Hb0.out.trans (hB.mono hz)
   exact ⟨xj HF.out,hBB.trans (hb2.mono hBB.size)⟩
end
section
def Zs (D:List CellB):List (List UInt8):=D.map (·.text)
theorem UT (A B:List CellB) (t:List UInt8):qk (A++B) t=if qk A t < A.length then qk A t else A.length+qk B t:=by
 induction A with
 | nil=>simp
 | cons c A ih =>
  simp only [List.cons_append,qk,List.length_cons]
  by_cases h:c.text=t
  ·simp [h]
  ·simp only [if_neg h,ih]
   by_cases h2:qk A t < A.length
   ·simp [h2]
   ·simp [h2];omega
theorem KN (A:List CellB) (t:List UInt8):qk A t < A.length ↔ ∃ c ∈ A,c.text=t:=by
 constructor
 ·intro h
  induction A with
  | nil=>simp at h
  | cons c A ih =>
   by_cases hc:c.text=t
   ·exact ⟨c,by simp,hc⟩
   ·simp only [qk,if_neg hc,List.length_cons] at h
    obtain ⟨d,hd,ht⟩:=ih (by omega)
    exact ⟨d,by simp [hd],ht⟩
 ·intro h
  exact (XU A t h).1
theorem Ay (l:List CellB) (k:Nat) (hk:k≤l.length):∀ c ∈ qt l k,∃ j,∃ h:j < l.length,j < k∧c=l[j]:=by
 induction k with
 | zero=>intro c hc;simp [qt] at hc
 | succ k ih =>
  intro c hc
  simp only [qt,List.mem_append] at hc
  rcases hc with hc|hc
  ·obtain ⟨j,h,h1,h2⟩:=ih (by omega) c hc
   exact ⟨j,h,by omega,h2⟩
  ·split at hc
   ·simp only [List.mem_cons,List.not_mem_nil,or_false] at hc
    exact ⟨k,by omega,by omega,by rw [hc,qN l k (by omega)]⟩
   ·cases hc
theorem Mu (l:List CellB) (k:Nat) (hk:k < l.length):qk (qt l k) (l[k]).text < (qt l k).length ↔ qk l (l[k]).text≠k:=by
 rw [KN]
 constructor
 ·rintro ⟨c,hc,ht⟩ he
  obtain ⟨j,hj,hjk,rfl⟩:=Ay l k (by omega) c hc
  have:=YK l j hj
  rw [ht,he] at this
  omega
 ·intro hne
  have hle:=YK l k hk
  obtain ⟨h1,h2⟩:=XU l (l[k]).text ⟨l[k],List.getElem_mem hk,rfl⟩
  exact ⟨_,RP l _ h1 (by rw [h2]) k (by omega) (by omega),h2⟩
theorem GO (l:List CellB) (k:Nat) (hk:k < l.length):qt l (k+1)=if qk (qt l k) (l[k]).text < (qt l k).length then qt l k else qt l k++[l[k]]:=by
 have h:=Mu l k hk
 simp only [qt,qN l k hk]
 by_cases hf:qk l (l[k]).text=k
 ·rw [if_pos hf,if_neg (fun h2=>h.1 h2 hf)]
 ·rw [if_neg hf,if_pos (h.2 hf),List.append_nil]
theorem YC (l:List CellB) (k j:Nat):∃ B,qt l (k+j)=qt l k++B:=by
 induction j with
 | zero=>exact ⟨[],by simp⟩
 | succ j ih =>
  obtain ⟨B,hB⟩:=ih
  rw [← Nat.add_assoc,qt,hB]
  exact ⟨_,by rw [List.append_assoc]⟩
theorem LT (l:List CellB) (k:Nat) (hk:k < l.length):qk (qW l) (l[k]).text=if qk (qt l k) (l[k]).text < (qt l k).length then qk (qt l k) (l[k]).text else (qt l k).length:=by
 obtain ⟨B,hB⟩:=YC l (k+1) (l.length - (k+1))
 rw [show k+1+(l.length - (k+1))=l.length by omega] at hB
 unfold qW
 rw [hB,GO l k hk]
 by_cases hf:qk (qt l k) (l[k]).text < (qt l k).length
 ·rw [if_pos hf,if_pos hf,UT,if_pos hf]
 ·have hfe:qk (qt l k) (l[k]).text=(qt l k).length:=by have:=Vm (qt l k) (l[k]).text;omega
  rw [if_neg hf,if_neg hf,List.append_assoc,UT,if_neg hf]
  simp [qk]
theorem Nh (D:List CellB) (k:Nat):QJ D k=uB D.length++jW 5 D k:=by
 induction k with
 | zero=>simp [QJ,jW]
 | succ k ih=>simp only [QJ,jW,ih,xM,List.append_assoc]
theorem TD (D:List CellB) (t:List UInt8) (base:Nat) (v:Value) (w:World) (hn:D.length≤1000) (h:w.ownsRow base 9 1 v D.length (zl (Zs D))) :
  Calls Tryz.prog 179 #[v,strB t] w fun e w'=>e=.returned (.int .i64 (if qk D t < D.length then (qk D t:Int) else -1))∧w'=w:=by
 have HL:=hid (YI D t)
 have HF:=hid (KN D t)
 have hle:=Vm D t
 have HA:Hid (∀ h:qk D t < D.length,(D[qk D t]).text=t):=by
  intro h
  exact (XU D t ((KN D t).1 h)).2
 generalize qk D t=q at *
 rcases h.2 with ⟨rfl,h0⟩|⟨gd,cap,cur,rfl,_⟩
 ·have hq:¬ q < D.length:=by omega
  rw [if_neg hq]
  go_enter Tryz.func179,Tryz.ntmps179
  go_wp2
  go_loopw [8] (fun i wr=>i=.int .i64 0∧wr=w) (fun i _=>0)
  case atStart=>exact ⟨rfl,rfl⟩
  case round =>
   obtain ⟨rfl,rfl⟩:=hrel
   go_wp2
   go_ret
   exact ⟨rfl,rfl⟩
 ·have HC:Hid (∀ j (h:j < D.length),w.cell? ⟨gd,j,none⟩=some (strB (D[j]).text)):=by
   intro j hj
   rw [h.cellAt j (by omega)]
   simp [zl,Zs,hj]
  clear h
  go_enter Tryz.func179,Tryz.ntmps179
  go_wp2
  go_loopw [8] (fun i wr=>∃ k:Nat,k≤q∧i=.int .i64 (k:Int)∧wr=w) (fun i _=>q - (intOf i).toNat)
  case atStart=>exact ⟨0,Nat.zero_le _,rfl,rfl⟩
  case round =>
   obtain ⟨k,hk,rfl,rfl⟩:=hrel
   by_cases hkq:k < q
   ·have hlt:k < D.length:=by omega
    have hck:=HC.out k hlt
    have hne:(t == (D[k]).text)=false:=by
     simpa using fun h2:t=(D[k]).text=>HL.out k hkq hlt h2.symm
    go_wp2
    go_roundw
    case rel=>exact ⟨k+1,by omega,by go_num,trivial⟩
    case measure=>simp [intOf];omega
   ·have hke:k=q:=by omega
    subst hke
    by_cases hlt:k < D.length
    ·have hck:=HC.out k hlt
     rw [HA.out hlt] at hck
     go_wp2
     go_ret
     exact ⟨rfl,rfl⟩
    ·go_wp2
     go_ret
     exact ⟨rfl,rfl⟩
theorem EL {w:World} {base n:Nat} {v:Value} {xs:List Value} (h:w.ownsRow base 9 1 v n xs) (w':World) :
  Sem.run Tryz.prog (Builtin.len_ #[163] 3 #[v]) w'=.ok (.int .i64 (n:Int)) w':=by
 rcases h.2 with ⟨rfl,rfl⟩|⟨g,cap,cur,rfl,_⟩
 ·exact run_len_slice (P:=Tryz.prog) w' 163 3 _ _ _ (by rw [Tryz.underlying163];rfl)
 ·exact run_len_slice (P:=Tryz.prog) w' 163 3 _ _ _ (by rw [Tryz.underlying163];rfl)
def Apart (d p:Value):Prop:=∀ k,d.ownBlock=some k→p.ownBlock≠some k
theorem Rp {w wr w2:World} {d p:Value} {n np g cc k H:Nat} {ps qs pp:List (List UInt8)} (o:Obj) (hH:H=wr.heap.size+1) (hB:Below w.heap.size w wr) (hd:wr.ownsRow w.heap.size 9 1 d n (zl ps))
  (hp:wr.ownsRow w.heap.size 9 1 p np (zl pp)) (hap:Apart d p) (h2:w2.ownsRow w.heap.size 9 1 (.slice (some ⟨g,0,none⟩) k cc) k (zl ps++zl qs))
  (hg:(wr.alloc o).grownBy w2 d.ownBlock) (hat:d.ownBlock=some g∨g=H) :
  w2.ownsRow w.heap.size 9 1 (.slice (some ⟨g,0,none⟩) k cc) k (zl (ps++qs))∧w2.ownsRow w.heap.size 9 1 p np (zl pp)∧Apart (.slice (some ⟨g,0,none⟩) k cc) p∧Below w.heap.size w w2:=by
 refine ⟨by rw [GY];exact h2,(hp.alloc o).kept hg ?_,?_,(hB.alloc hB.size o).grown hg (by have:=hB.size;simp;omega) (fun k hk=>(hd.lt k hk).1)⟩
 ·cases hpo:p.ownBlock with
  | none=>exact .inl rfl
  | some x=>exact .inr fun he=>hap x he.symm hpo
 ·intro k' hk' hpk
  have hgk:g=k':=by simpa [Value.ownBlock] using hk'
  subst hgk
  rcases hat with h|h
  ·exact hap g h hpk
  ·have:=(hp.lt g hpk).2
   omega
theorem Apart.symm {d p:Value} (h:Apart d p):Apart p d:=fun k hp hd=>h k hd hp
abbrev BoxT (w:World) (g B:Nat):Prop:=w.cell? ⟨B,0,none⟩=some (.slice (some ⟨g,0,none⟩) 3 3)∧w.cell? ⟨B,1,none⟩=some (fnV 165)∧w.cell? ⟨B,2,none⟩=some (fnV 166)∧w.cell? ⟨B,3,none⟩=some (fnV 115)∧w.cell? ⟨B,4,none⟩=some (fnV 167)∧w.cell? ⟨B,5,none⟩=some (fnV 168)∧w.cell? ⟨B,6,none⟩=some (fnV 169)
abbrev BoxI (w:World) (g B:Nat):Prop:=w.cell? ⟨B,0,none⟩=some (.slice (some ⟨g,0,none⟩) 3 3)∧w.cell? ⟨B,1,none⟩=some (fnV 151)∧w.cell? ⟨B,2,none⟩=some (fnV 152)∧w.cell? ⟨B,3,none⟩=some (fnV 153)∧w.cell? ⟨B,4,none⟩=some (fnV 154)∧w.cell? ⟨B,5,none⟩=some (fnV 155)∧w.cell? ⟨B,6,none⟩=some (fnV 156)
theorem xm {w w':World} {g B b:Nat} (h:BoxT w g B) (hb:Below b w w') (hl:B < b):BoxT w' g B:=by
 obtain ⟨h0,h1,h2,h3,h4,h5,h6⟩:=h
 exact ⟨(hb.cell (p:=⟨B,0,none⟩) hl).trans h0,(hb.cell (p:=⟨B,1,none⟩) hl).trans h1,(hb.cell (p:=⟨B,2,none⟩) hl).trans h2,(hb.cell (p:=⟨B,3,none⟩) hl).trans h3,(hb.cell (p:=⟨B,4,none⟩) hl).trans h4,(hb.cell (p:=⟨B,5,none⟩) hl).trans h5,(hb.cell (p:=⟨B,6,none⟩) hl).trans h6⟩
theorem zk {w w':World} {g B b:Nat} (h:BoxI w g B) (hb:Below b w w') (hl:B < b):BoxI w' g B:=by
 obtain ⟨h0,h1,h2,h3,h4,h5,h6⟩:=h
 exact ⟨(hb.cell (p:=⟨B,0,none⟩) hl).trans h0,(hb.cell (p:=⟨B,1,none⟩) hl).trans h1,(hb.cell (p:=⟨B,2,none⟩) hl).trans h2,(hb.cell (p:=⟨B,3,none⟩) hl).trans h3,(hb.cell (p:=⟨B,4,none⟩) hl).trans h4,(hb.cell (p:=⟨B,5,none⟩) hl).trans h5,(hb.cell (p:=⟨B,6,none⟩) hl).trans h6⟩
theorem Vh {w:World} {g B:Nat} (o:Obj) (h:BoxT w g B):BoxT (w.alloc o) g B:=by
 obtain ⟨h0,h1,h2,h3,h4,h5,h6⟩:=h
 exact ⟨je o h0,je o h1,je o h2,je o h3,je o h4,je o h5,je o h6⟩
theorem Ym {w:World} {g B:Nat} (o:Obj) (h:BoxI w g B):BoxI (w.alloc o) g B:=by
 obtain ⟨h0,h1,h2,h3,h4,h5,h6⟩:=h
 exact ⟨je o h0,je o h1,je o h2,je o h3,je o h4,je o h5,je o h6⟩
theorem Gs {w:World} {base n:Nat} {v:Value} {D:List CellB} (h:w.ownsRow base 9 1 v n (zl (Zs D))) (hD:D≠[]):∃ b cap,v=.slice (some ⟨b,0,none⟩) D.length cap∧TextsLie w b D:=by
 have hl:D.length=n:=by simpa [zl,Zs] using h.1
 rcases h.2 with ⟨rfl,rfl⟩|⟨g,cap,cur,rfl,_⟩
 ·exact absurd (List.eq_nil_of_length_eq_zero hl) hD
 ·refine ⟨g,cap,by rw [hl],(h.lt g rfl).2,fun j hj=>?_⟩
  rw [h.cellAt j (by omega)]
  simp [zl,Zs,hj]
theorem Yv {w w1 w2 w3 w4 w5:World} (hb1:Below w.heap.size w w1) (hb2:Below w1.drew.heap.size w1.drew w2) (hb3:Below w2.heap.size w2 w3) (hb4:Below w3.heap.size w3 w4) (hb5:Below w4.heap.size w4 w5):Below w.heap.size w w5:=by
 have h:=UX hb1 hb2 hb3 hb4
 exact h.trans (hb5.mono h.size)
theorem BG (g b cap:Nat) (l:List CellB) (w:World) (hs:Small l) (hl:TextsLie w b l) :
  Calls Tryz.prog 161 #[txtC g,.slice (some ⟨b,0,none⟩) l.length cap] w fun e w'=>e=.returned (strB (qL 3 l))∧Below w.heap.size w w':=by
 obtain ⟨i0,hi,hz0,hz1,hz2⟩:=info_parts Tryz.infoStr
 have Hs:=hid hs
 have Hl:=hid hl
 have hn:=hs.few
 clear hs hl
 go_enter Tryz.func161,Tryz.ntmps161
 go_wp2
 obtain ⟨hb0,hs0,hc0⟩:=Ja w #[.slice (some ⟨g,0,none⟩) 3 3,fnV 165,fnV 166,fnV 115,fnV 167,fnV 168,fnV 169] 214
 have Hc:Hid (BoxT _ g w.heap.size):=⟨hc0 0,hc0 1,hc0 2,hc0 3,hc0 4,hc0 5,hc0 6⟩
 have Hl0:=hid (Hl.out.later hb0)
 have Hb0:=hid hb0
 have hs1:=Nat.lt_of_lt_of_eq (Nat.lt_succ_self w.heap.size) hs0.symm
 clear hc0 hb0 hs0
 generalize w.alloc _=w0 at *
 go_loopw [5,6,12] (fun d v i wr=>∃ (ps:List (List UInt8)) (k:Nat),k≤l.length∧i=.int .i64 (k:Int)∧ps.length=k∧wr.ownsRow w0.heap.size 9 1 d (qt l k).length (zl (Zs (qt l k)))∧wr.ownsRow w0.heap.size 9 1 v ps.length (zl ps)∧Apart d v∧ps.flatten=jW 3 l k∧Below w0.heap.size w0 wr)
  (fun _ _ i _=>l.length - (intOf i).toNat)
 case atStart=>exact ⟨[],0,Nat.zero_le _,rfl,rfl,World.ownsRow_nil _ _ _ _,World.ownsRow_nil _ _ _ _,fun k h=>by simp [Value.ownBlock] at h,rfl,Below.refl _ _⟩
 case round =>
  obtain ⟨ps,k,hkl,rfl,hpl,hd,hp,hap,hfl,hB⟩:=hrel
  have Hfl:=hid hfl
  have Hap:=hid hap
  clear hfl hap
  have hst:=zD 3 l Hs.out.small hn k
  have hdl:=JC l k
  by_cases hlt:k < l.length
  ·have hck:=(Hl0.out.later hB).cell k hlt
   have HT:Hid (xM 3 l k=uB (qk (qW l) (l[k]).text)):=by
    show xM 3 l k=_
    simp only [xM,qN l k hlt]
   have HP:=hid (LT l k hlt)
   have HD:=hid (GO l k hlt)
   have hpn:ps.length≤60:=by omega
   go_wp2_with fail
   refine (TD (qt l k) (l[k]).text w0.heap.size _ _ (by omega) hd).mono ?_
   rintro e w2 ⟨rfl,rfl⟩
   by_cases hf:qk (qt l k) (l[k]).text < (qt l k).length
   ·have HP2:Hid (qk (qW l) (l[k]).text=qk (qt l k) (l[k]).text):=by
     have:=HP.out;rw [if_pos hf] at this;exact this
    have HD2:Hid (qt l (k+1)=qt l k):=by
     have:=HD.out;rw [if_pos hf] at this;exact this
    rw [if_pos hf]
    generalize qt l k=D at *
    generalize qk D (l[k]).text=q at *
    go_wp2_with fail
    refine (zy q _ (by omega)).mono ?_
    rintro e w3 ⟨rfl,hb3⟩
    have hd3:=ju hd hb3
    have hp3:=ju hp hb3
    have hB3:=hB.trans (hb3.mono hB.size)
    clear hd hp hB hb3 hck
    go_wp2_with (at_builtin;refine wpList_append_lies _ rfl (.tmp 27) (.tmp 30) 163 rfl w0.heap.size 9 i0 (.string ⟨#[]⟩) 1 16 Tryz.underlying163 hi hz0 hz1 hz2 rfl (by decide) _ _ _ rfl (hp3.alloc _) ⟨_,0,none⟩ 1 1 [strB (uB q)] rfl rfl ?c1 ?c2 (by decide) ?c3 ?c4 ?c5 (w3.heap.size+1) ?c6 ?_)
    case c1=>exact qE w3 #[strB (uB q)] 9
    case c2=>intro u hu;simp at hu;subst hu;rfl
    case c3=>unfold maxLen;omega
    case c4=>omega
    case c5=>have:=hB3.size;simp;omega
    case c6=>simp
    intro gg cc w4 hown4 hgr4 hat4 hlt4
    have HR:=hid (Rp (qs:=[uB q]) _ rfl hB3 hp3 hd3 Hap.out.symm hown4 hgr4 hat4)
    clear hd3 hp3 hB3 hown4 hgr4 hat4 hlt4
    go_wp2
    go_roundw
    case rel=>exact ⟨ps++[uB q],k+1,by omega,by go_num,by simp;omega,by rw [HD2.out];exact HR.out.2.1,by rw [show (ps++[uB q]).length=k+1 by simp [hpl]];exact HR.out.1,HR.out.2.2.1.symm,by rw [List.flatten_append,Hfl.out,jW,HT.out,HP2.out];simp,HR.out.2.2.2⟩
    case measure=>simp [intOf];omega
   ·have HP2:Hid (qk (qW l) (l[k]).text=(qt l k).length):=by
     have:=HP.out;rw [if_neg hf] at this;exact this
    have HD2:Hid (qt l (k+1)=qt l k++[l[k]]):=by
     have:=HD.out;rw [if_neg hf] at this;exact this
    rw [if_neg hf]
    clear hf HP HD
    generalize qt l k=D at *
    generalize hlk:l[k]=c at *
    have Hlk:=hid hlk
    clear hlk
    have hln:=EL hd w2
    go_wp2_with (at_builtin;refine wpList_append_lies _ rfl (.tmp 23) (.tmp 25) 163 rfl w0.heap.size 9 i0 (.string ⟨#[]⟩) 1 16 Tryz.underlying163 hi hz0 hz1 hz2 rfl (by decide) _ _ _ rfl (hd.alloc _) ⟨_,0,none⟩ 1 1 [strB c.text] rfl rfl ?d1 ?d2 (by decide) ?d3 ?d4 ?d5 _ rfl ?_)
    case d1=>exact qE _ #[strB c.text] 9
    case d2=>intro u hu;simp at hu;subst hu;rfl
    case d3=>unfold maxLen;omega
    case d4=>omega
    case d5=>have:=hB.size;simp;omega
    intro gd cd w5 hown5 hgr5 hat5 hlt5
    obtain ⟨hd5,hp5,hap5,hB5⟩:=Rp (qs:=[c.text]) _ (by simp) hB hd hp Hap.out hown5 hgr5 hat5
    have Hap5:=hid hap5
    clear hd hp hB hown5 hgr5 hat5 hlt5 hap5 hck
    go_wp2_with fail
    refine (zy D.length _ (by omega)).mono ?_
    rintro e w3 ⟨rfl,hb3⟩
    have hd3:=ju hd5 hb3
    have hp3:=ju hp5 hb3
    have hB3:=hB5.trans (hb3.mono hB5.size)
    clear hd5 hp5 hB5 hb3
    go_wp2_with (at_builtin;refine wpList_append_lies _ rfl (.tmp 27) (.tmp 30) 163 rfl w0.heap.size 9 i0 (.string ⟨#[]⟩) 1 16 Tryz.underlying163 hi hz0 hz1 hz2 rfl (by decide) _ _ _ rfl (hp3.alloc _) ⟨_,0,none⟩ 1 1 [strB (uB D.length)] rfl rfl ?c1 ?c2 (by decide) ?c3 ?c4 ?c5 (w3.heap.size+1) ?c6 ?_)
    case c1=>exact qE w3 #[strB (uB D.length)] 9
    case c2=>intro u hu;simp at hu;subst hu;rfl
    case c3=>unfold maxLen;omega
    case c4=>omega
    case c5=>have:=hB3.size;simp;omega
    case c6=>simp
    intro gg cc w4 hown4 hgr4 hat4 hlt4
    have HR:=hid (Rp (qs:=[uB D.length]) _ rfl hB3 hp3 hd3 Hap5.out.symm hown4 hgr4 hat4)
    clear hd3 hp3 hB3 hown4 hgr4 hat4 hlt4
    have HTX:Hid (Zs (D++[c])=Zs D++[c.text]):=by simp [Hid,Zs]
    go_wp2
    go_roundw
    case rel=>exact ⟨ps++[uB D.length],k+1,by omega,by go_num,by simp;omega,by rw [HD2.out,HTX.out,show (D++[c]).length=D.length+1 by simp];exact HR.out.2.1,by rw [show (ps++[uB D.length]).length=k+1 by simp [hpl]];exact HR.out.1,HR.out.2.2.1.symm,by rw [List.flatten_append,Hfl.out,jW,HT.out,HP2.out];simp,HR.out.2.2.2⟩
    case measure=>simp [intOf];omega
  ·have hke:k=l.length:=by omega
   subst hke
   have hDn:qt l l.length≠[]:=by
    intro h0
    have h1:=Hs.out.some_
    cases l with
    | nil=>exact h1 rfl
    | cons c l =>
     obtain ⟨d,hd,_⟩:=Uy (c :: l) 0 (by simp)
     unfold qW at hd
     rw [h0] at hd
     cases hd
   have HW:Hid (qL 3 l=uB (qt l l.length).length++(qL 5 (qt l l.length)++jW 3 l l.length)):=by
    show qL 3 l=_
    simp only [qL,qW,if_true,Nh]
    simp
   have HDs:Hid (Small (qt l l.length)):=⟨fun c hc=>Hs.out.small c (Zq l l.length (Nat.le_refl _) c hc),by omega,hDn⟩
   have hw5:=VA 5 (qt l l.length) HDs.out.small HDs.out.few
   have hbx:=xm Hc.out hB hs1
   have hwr:w.heap.size < wr.heap.size:=Nat.lt_of_lt_of_le hs1 hB.size
   obtain ⟨bd,cd,rfl,htl⟩:=Gs hd hDn
   have Htl:=hid htl
   have Hbx:=hid hbx
   obtain ⟨x0,x1,x2,x3,x4,x5,x6⟩:=hbx
   have hps:ps≠[]:=by
    intro h
    subst h
    exact Hs.out.some_ (List.eq_nil_of_length_eq_zero hpl.symm)
   have hfl2:ps.flatten.length≤10000:=by rw [Hfl.out];omega
   have Hps:=hid hps
   have hu:=qa (qt l l.length).length (by omega)
   have HU0:Hid (∀ w',Calls Tryz.prog 123 #[.int .i64 ((qt l l.length).length:Int)] w' fun e w2=>e=.returned (strB (uB (qt l l.length).length))∧Below w'.heap.size w' w2):=fun w'=>zy _ w' (by omega)
   clear hd htl hps hDn
   generalize qt l l.length=D at *
   have HE:Hid (∀ w',TextsLie w' bd D→Calls Tryz.prog 159 #[txtC g,.slice (some ⟨bd,0,none⟩) D.length cd] w' fun e w2=>e=.returned (strB (qL 5 D))∧Below w'.heap.size w' w2):=fun w' h=>BW g bd cd D w' HDs.out h
   have HJ:Hid (∀ w',w'.ownsRow w0.heap.size 9 1 u6 ps.length (zl ps)→Calls Tryz.prog 93 #[u6] w' fun e w2=>e=.returned (strB ps.flatten)∧Below w'.heap.size w' w2):=fun w' h=>Xx ps w0.heap.size ps.length u6 w' h Hps.out (by omega) (by omega)
   have HRes:Hid (uB D.length++(qL 5 D++ps.flatten)=qL 3 l):=by
    show _=_
    rw [HW.out,Hfl.out]
   clear HW Hfl HDs
   generalize qL 5 D=W5 at *
   generalize ps.flatten=F at *
   generalize uB D.length=U at *
   have HU:Hid (∀ w',Calls Tryz.prog 123 #[.int .i64 (D.length:Int)] w' fun e w2=>e=.returned (strB U)∧Below w'.heap.size w' w2):=HU0
   go_wp2_with fail
   go_region_held3 (fun w'=>w'.cell? ⟨w.heap.size,0,none⟩=some (.slice (some ⟨g,0,none⟩) 3 3)∧w'.cell? ⟨w.heap.size,1,none⟩=some (fnV 165)∧w'.cell? ⟨w.heap.size,2,none⟩=some (fnV 166)∧w'.cell? ⟨w.heap.size,3,none⟩=some (fnV 115)∧w'.cell? ⟨w.heap.size,4,none⟩=some (fnV 167)∧w'.cell? ⟨w.heap.size,5,none⟩=some (fnV 168)∧w'.cell? ⟨w.heap.size,6,none⟩=some (fnV 169)) (first|exact Hbx.out|exact X1|exact X2|exact X3|exact Vh _ X3|exact X4)
    (first
     | (go_at_call 123;refine (HU.out _).mono ?_;rintro e w3 ⟨rfl,hb3⟩;have X1:=xm Hbx.out (jl hb3) hwr)
     | (go_at_call 159;refine (HE.out _ (Htl.out.later (jl hb3))).mono ?_;rintro e w4 ⟨rfl,hb4⟩;have X2:=xm X1 hb4 (Nat.lt_of_lt_of_le hwr hb3.size))
     | (go_at_call 93;have Z5:=hb5.size;refine (QF [U,W5,F] #[strB U,strB W5,strB F] 3 _ rfl rfl ?_ ?_).mono ?_;decide;(simp;omega);rintro e w6 ⟨rfl,hb6⟩;have X4:=xm X3 hb6 (Nat.lt_of_lt_of_le hwr (Nat.le_trans hb3.size (Nat.le_trans hb4.size hb5.size))))
     | (go_at_call 93;refine (HJ.out _ (ju (ju hp (jl hb3)) hb4)).mono ?_;rintro e w5 ⟨rfl,hb5⟩;have X3:=xm X2 hb5 (Nat.lt_of_lt_of_le hwr (Nat.le_trans hb3.size hb4.size))))
   have hz:=Hb0.out.size
   have hBB:=Hb0.out.trans (hB.mono hz)
   have HB6:=hid (Yv hBB hb3 hb4 hb5 hb6)
   clear X1 X2 X3 X4 x0 x1 x2 x3 x4 x5 x6 hb3 hb4 hb5 hb6 hB hp hz hBB
   go_wp2
   go_ret
   exact ⟨xj HRes.out,HB6.out⟩
end
section
theorem qe {w:World} {g:Nat} {C:Array Value} {t:TypeId} (h:w.heap[g]?=some (.cells C t (0,0))) (j:Nat) {v:Value} (hv:C[j]?=some v):w.cell? ⟨g,j,none⟩=some v:=by
 rw [cell_of_row w g j C t (0,0) h]
 exact hv
theorem Pn (w:World) (q:Nat) (a:Int) (h0:0≤a) (h1:a≤255) (h:w.cell? ⟨q,0,none⟩=some (.int .u8 a)) :
  Sem.run Tryz.prog (convert 64 9 (.slice (some ⟨q,0,none⟩) 1 1)) w=.ok (strB [byB a]) w:=by
 refine run_convert_bytes_back (P:=Tryz.prog) _ 64 9 5 ⟨q,0,none⟩ 1 [byB a] Tryz.underlying64 Tryz.underlying5 Tryz.underlying9 ?_
 intro j hj
 match j,hj with
 | 0,_=>simpa [Addr.add,xY a h0 h1] using h
theorem zR (a:Int) (w:World) (h0:0≤a) (h1:a≤255) :
  Calls Tryz.prog 94 #[.int .u8 a] w fun e w'=>e=.returned (strB [byB a])∧Below w.heap.size w w':=by
 have hc:=Pn (w.alloc (.cells #[.int .u8 a] 5)) w.heap.size a h0 h1 (World.cell?_alloc_mark ..)
 go_enter Tryz.func94,Tryz.ntmps94
 go_wp2
 go_ret
 exact ⟨rfl,(Below.refl _ _).alloc (Nat.le_refl _) _⟩
theorem Xk (ps:List (List UInt8)) (C:Array Value) (n:Nat) (w:World) (G:Nat) (hG:w.heap.size=G) (hC:C=(zl ps).toArray) (hl:ps.length=n) (hn:n≤1000) (hs:ps.flatten.length≤1000000) :
  Calls Tryz.prog 93 #[.slice (some ⟨G,0,none⟩) n n] (w.alloc (.cells C 9)) fun e w'=>e=.returned (strB ps.flatten)∧Below w.heap.size w w':=by
 subst hG
 exact QF ps C n w hC hl hn hs
theorem UP (kind:Int) (l:List CellB) (k:Nat):jQ kind l (k+1)≠[]:=by
 induction k with
 | zero=>simp [jQ,Xz]
 | succ k ih =>
  rw [jQ]
  split
  ·simp [Xz]
  ·exact ih
theorem Qd (w:World):Below w.heap.size w w.drew:=jl (Below.refl _ _)
theorem IntsLie.drew {w:World} {b:Nat} {l:List CellB} (h:IntsLie w b l):IntsLie w.drew b l:=h.later (Qd w)
theorem TextsLie.drew {w:World} {b:Nat} {l:List CellB} (h:TextsLie w b l):TextsLie w.drew b l:=h.later (Qd w)
theorem IntsLie.alloc {w:World} {b:Nat} {l:List CellB} (h:IntsLie w b l) (o:Obj):IntsLie (w.alloc o) b l:=h.later ((Below.refl _ _).alloc (Nat.le_refl _) _)
theorem TextsLie.alloc {w:World} {b:Nat} {l:List CellB} (h:TextsLie w b l) (o:Obj):TextsLie (w.alloc o) b l:=h.later ((Below.refl _ _).alloc (Nat.le_refl _) _)
theorem xG {w w':World} {o:Obj} (h:Below (w.alloc o).heap.size (w.alloc o) w'):Below w.heap.size w w' :=
 ((Below.refl _ _).alloc (Nat.le_refl _) _).trans (h.mono (by simp))
abbrev SI (w:World) (G:Nat) (e:Int) (F g B:Nat):Prop:=w.cell? ⟨G,0,none⟩=some (.int .u8 e)∧w.cell? ⟨G,1,none⟩=some (fnV F)∧BoxI w g B
abbrev ST (w:World) (G:Nat) (e:Int) (F g B:Nat):Prop:=w.cell? ⟨G,0,none⟩=some (.int .u8 e)∧w.cell? ⟨G,1,none⟩=some (fnV F)∧BoxT w g B
theorem QK {w w':World} {G F g B b:Nat} {e:Int} (h:SI w G e F g B) (hb:Below b w w') (hG:G < b) (hl:B < b):SI w' G e F g B :=
 ⟨(hb.cell (p:=⟨G,0,none⟩) hG).trans h.1,(hb.cell (p:=⟨G,1,none⟩) hG).trans h.2.1,zk h.2.2 hb hl⟩
theorem QE {w w':World} {G F g B b:Nat} {e:Int} (h:ST w G e F g B) (hb:Below b w w') (hG:G < b) (hl:B < b):ST w' G e F g B :=
 ⟨(hb.cell (p:=⟨G,0,none⟩) hG).trans h.1,(hb.cell (p:=⟨G,1,none⟩) hG).trans h.2.1,xm h.2.2 hb hl⟩
theorem Rc {w:World} {G F g B:Nat} {e:Int} (o:Obj) (h:SI w G e F g B):SI (w.alloc o) G e F g B:=⟨je o h.1,je o h.2.1,Ym o h.2.2⟩
theorem RH {w:World} {G F g B:Nat} {e:Int} (o:Obj) (h:ST w G e F g B):ST (w.alloc o) G e F g B:=⟨je o h.1,je o h.2.1,Vh o h.2.2⟩
end
end Go.Proofs.YthhpbhpfagoapabGreat
