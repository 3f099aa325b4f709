import Derived.Test.YthhpbhpfagoapaaGreatDBytes
import Derived.Test.YthhpbhpfagoapaaGreatRWay4
import Derived.Laws.EntriesVeiled
namespace Go.Proofs.YthhpbhpfagoapaaGreat
set_option linter.unusedVariables false
set_option linter.unusedSimpArgs false
set_option maxRecDepth 100000
set_option maxHeartbeats 16000000
open Go.RowKit
section
theorem common_any (s t:List UInt8) (w:World) (h1:s.length≤12) (h2:t.length≤12) :
  Calls Tryz.prog 248 #[strB s,strB t] w fun e w'=>e=.returned (.int .i64 (sharedB s t:Int))∧Below w.heap.size w w':=by
 have hs:=strB_size s
 have ht:=strB_size t
 have hle:=sharedB_le s t
 have HSL:=hid (sharedB_lt s t)
 have HSE:=hid (sharedB_end s t)
 obtain ⟨hle1,hle2⟩:=hle
 generalize sharedB s t=sh at *
 go_enter Tryz.func248,Tryz.ntmps248
 go_wp2
 go_loopw [5] (fun i wr=>∃ k:Nat,k≤sh∧i=.int .i64 (k:Int)∧Below w.heap.size w wr) (fun i _=>sh - (intOf i).toNat)
 case atStart=>exact ⟨0,Nat.zero_le _,rfl,Below.refl _ _⟩
 case round =>
  obtain ⟨m,hm,rfl,hB⟩:=hrel
  by_cases hmr:m < sh
  ·have l1:m < s.length:=by omega
   have l2:m < t.length:=by omega
   have m1:m < (⟨s.toArray⟩:ByteArray).size:=by rw [strB_size];exact l1
   have m2:m < (⟨t.toArray⟩:ByteArray).size:=by rw [strB_size];exact l2
   have he:(((((⟨s.toArray⟩:ByteArray)[m]'m1).toNat:Int)) == ((((⟨t.toArray⟩:ByteArray)[m]'m2).toNat:Int)))=true:=by
    rw [byte_mk s m l1,byte_mk t m l2,HSL.out m hmr l1 l2];simp
   have i1:(m:Int) < (s.length:Int):=by omega
   have i2:(m:Int) < (t.length:Int):=by omega
   go_wp2_with fail
   go_quiet (fail)
   go_wp2
   go_roundw
   case rel=>exact ⟨m+1,by omega,by go_num,below_drewN hB nq⟩
   case measure=>simp [intOf];omega
  ·have hme:m=sh:=by omega
   subst hme
   by_cases l1:m < s.length
   ·have i1:(m:Int) < (s.length:Int):=by omega
    by_cases l2:m < t.length
    ·have i2:(m:Int) < (t.length:Int):=by omega
     have hne:=HSE.out l1 l2
     have m1:m < (⟨s.toArray⟩:ByteArray).size:=by rw [strB_size];exact l1
     have m2:m < (⟨t.toArray⟩:ByteArray).size:=by rw [strB_size];exact l2
     have hne2:(((((⟨s.toArray⟩:ByteArray)[m]'m1).toNat:Int)) == ((((⟨t.toArray⟩:ByteArray)[m]'m2).toNat:Int)))=false:=by
      rw [byte_mk s m l1,byte_mk t m l2]
      have:¬ (s[m]'l1).toNat=(t[m]'l2).toNat:=fun h=>hne (UInt8.toNat_inj.1 h)
      simp;omega
     clear hne
     go_wp2_with fail
     go_quiet (fail)
     go_wp2
     go_ret
     exact ⟨rfl,below_drewN hB nq⟩
    ·have i2:decide ((m:Int) < (t.length:Int))=false:=by simp;omega
     go_wp2_with fail
     go_quiet (fail)
     go_wp2
     go_ret
     exact ⟨rfl,below_drewN hB nq⟩
   ·have i1:decide ((m:Int) < (s.length:Int))=false:=by simp;omega
    go_wp2_with fail
    go_quiet (fail)
    go_wp2
    go_ret
    exact ⟨rfl,below_drewN hB nq⟩
theorem kind_any (kind:Int) (w:World) :
  Calls Tryz.prog 65 #[.int .i64 kind] w fun e w'=>e=.returned (.bool (decide (kind=0) || decide (kind=1)))∧w'=w:=by
 by_cases h0:kind=0
 ·subst h0
  go_enter Tryz.func65,Tryz.ntmps65
  go_wp2
  go_ret
  exact ⟨rfl,rfl⟩
 ·have k0:(kind == 0)=false:=by simp [h0]
  by_cases h1:kind=1
  ·subst h1
   go_enter Tryz.func65,Tryz.ntmps65
   go_wp2
   go_ret
   exact ⟨rfl,rfl⟩
  ·have k1:(kind == 1)=false:=by simp [h1]
   have HK:Hid ((decide (kind=0) || decide (kind=1))=false):=by simp [Hid,h0,h1]
   clear h0 h1
   go_enter Tryz.func65,Tryz.ntmps65
   go_wp2
   go_ret
   exact ⟨ret_bool HK.out.symm,rfl⟩
theorem isCell_any (kind:Int) (c:CellB) (w:World) (hc:okC c) :
  Calls Tryz.prog 124 #[.int .i64 kind,cellV c] w fun e w'=>e=.returned (.bool (fitsB kind c))∧Below w.heap.size w w':=by
 obtain ⟨h0,h1,h2⟩:=hc
 unfold maxLen at h2
 obtain ⟨nl,it,tx⟩:=c
 simp only at h0 h1 h2
 cases nl with
 | true =>
  by_cases hi:it=0
  ·subst hi
   have HF:Hid (fitsB kind ⟨true,0,tx⟩=tx.isEmpty):=by simp [Hid,fitsB]
   go_enter Tryz.func124,Tryz.ntmps124
   go_wp2
   go_ret
   exact ⟨ret_bool HF.out.symm,(Below.refl _ _).alloc (Nat.le_refl _) _⟩
  ·have hi2:(it == 0)=false:=by simp [hi]
   have HF:Hid (fitsB kind ⟨true,it,tx⟩=false):=by simp [Hid,fitsB,hi]
   go_enter Tryz.func124,Tryz.ntmps124
   go_wp2
   go_ret
   exact ⟨ret_bool HF.out.symm,(Below.refl _ _).alloc (Nat.le_refl _) _⟩
 | false =>
  by_cases hk:kind=0
  ·subst hk
   have HF:Hid (fitsB 0 ⟨false,it,tx⟩=tx.isEmpty):=by simp [Hid,fitsB]
   go_enter Tryz.func124,Tryz.ntmps124
   go_wp2
   go_ret
   exact ⟨ret_bool HF.out.symm,(Below.refl _ _).alloc (Nat.le_refl _) _⟩
  ·have hk2:(kind == 0)=false:=by simp [hk]
   by_cases hi:it=0
   ·subst hi
    by_cases ht:tx.length≤12
    ·have HF:Hid (fitsB kind ⟨false,0,tx⟩=true):=by simp [Hid,fitsB,hk,ht]
     clear hk
     go_enter Tryz.func124,Tryz.ntmps124
     go_wp2
     go_ret
     exact ⟨ret_bool (by rw [HF.out];simp;omega),(Below.refl _ _).alloc (Nat.le_refl _) _⟩
    ·have HF:Hid (fitsB kind ⟨false,0,tx⟩=false):=by simp [Hid,fitsB,hk,ht]
     clear hk
     go_enter Tryz.func124,Tryz.ntmps124
     go_wp2
     go_ret
     exact ⟨ret_bool (by rw [HF.out];simp;omega),(Below.refl _ _).alloc (Nat.le_refl _) _⟩
   ·have hi2:(it == 0)=false:=by simp [hi]
    have HF:Hid (fitsB kind ⟨false,it,tx⟩=false):=by simp [Hid,fitsB,hi,hk]
    clear hk hi
    go_enter Tryz.func124,Tryz.ntmps124
    go_wp2
    go_ret
    exact ⟨ret_bool HF.out.symm,(Below.refl _ _).alloc (Nat.le_refl _) _⟩
theorem areCells_any (kind:Int) (a:Option Addr) (cap:Nat) (l:List CellB) (w:World) (hm:l.length≤140737488351232) (hl:Lies w a l) :
  Calls Tryz.prog 66 #[.int .i64 kind,.slice a l.length cap] w fun e w'=>e=.returned (.bool (decide (l.length≤60) && l.all (fitsB kind)))∧Below w.heap.size w w':=by
 have Hl:=hid hl
 clear hl
 by_cases hn:l.length≤60
 ·have hni:(l.length:Int)≤60:=by omega
  have HD:Hid ((decide (l.length≤60) && l.all (fitsB kind))=l.all (fitsB kind)):=by simp [Hid,hn]
  go_enter Tryz.func66,Tryz.ntmps66
  go_wp2
  go_loopw [12] (fun i wr=>∃ k:Nat,k≤l.length∧i=.int .i64 k∧(l.take k).all (fitsB kind)=true∧Below w.heap.size w wr) (fun i _=>l.length - (intOf i).toNat)
  case atStart=>exact ⟨0,Nat.zero_le _,rfl,rfl,Below.refl _ _⟩
  case round =>
   obtain ⟨k,hkl,rfl,hall,hB⟩:=hrel
   have Hall:=hid hall
   clear hall
   by_cases hlt:k < l.length
   ·obtain ⟨b,off,rfl,hbw,hcell⟩:=(Hl.out.later hB).at_ (List.ne_nil_of_length_pos (by omega))
    obtain ⟨g1,g2,g3⟩:=hcell k hlt
    clear hcell
    have hokc:=Hl.out.ok l[k] (List.getElem_mem hlt)
    have Hok:=hid hokc
    clear hokc
    have HT:Hid ((l.take (k+1)).all (fitsB kind)=fitsB kind l[k]):=by
     show (l.take (k+1)).all (fitsB kind)=fitsB kind l[k]
     rw [List.take_succ_eq_append_getElem hlt,List.all_append,Hall.out]
     simp
    have HA:Hid (fitsB kind l[k]=false→l.all (fitsB kind)=false):=by
     intro hf
     rw [List.all_eq_false]
     exact ⟨l[k],List.getElem_mem hlt,by simp [hf]⟩
    go_wp2_with fail
    refine (isCell_any kind l[k] _ Hok.out).mono ?_
    rintro e w1 ⟨rfl,hb1⟩
    clear g1 g2 g3
    have hB1:=(hB.alloc hB.size _).trans (hb1.mono (by have:=hB.size;simp;omega))
    clear hb1
    cases hf:fitsB kind l[k] with
    | false =>
     have Hf:=hid hf
     clear hf
     go_wp2
     go_ret
     exact ⟨ret_bool (by rw [HD.out];exact (HA.out Hf.out).symm),hB1⟩
    | true =>
     have Hf:=hid hf
     clear hf
     go_wp2
     go_roundw
     case rel=>exact ⟨k+1,by omega,by go_num,by rw [HT.out];exact Hf.out,hB1⟩
     case measure=>simp [intOf];omega
   ·go_wp2
    go_ret
    exact ⟨ret_bool (by rw [HD.out,← Hall.out,List.take_of_length_le (by omega)]),hB⟩
 ·have hni:(60:Int) < (l.length:Int):=by omega
  have HD:Hid ((decide (l.length≤60) && l.all (fitsB kind))=false):=by simp [Hid,hn]
  go_enter Tryz.func66,Tryz.ntmps66
  go_wp2
  go_ret
  exact ⟨ret_bool HD.out.symm,Below.refl _ _⟩
end
section
theorem Tryz.infoStr:(Tryz.prog.info? 9).map (fun i=>(i.zero,i.size,i.bytes))=some (some (.string ⟨#[]⟩),1,16):=by kernel_rfl
theorem own_after {W W':World} {base e size n:Nat} {v:Value} {xs:List Value} (h:W.ownsRow base e size v n xs) (hb:Below W.heap.size W W'):W'.ownsRow base e size v n xs :=
 h.kept (bgrown hb) (Classical.em _)
theorem strs_append (a b:List (List UInt8)):strs (a++b)=strs a++strs b:=by simp [strs]
theorem strs_push {w wr w2:World} {v v2:Value} {n k:Nat} {ps qs:List (List UInt8)} (o:Obj) (hk:k=n+qs.length) (hB:Below w.heap.size w wr) (hown:wr.ownsRow w.heap.size 9 1 v n (strs ps))
  (h2:w2.ownsRow w.heap.size 9 1 v2 k (strs ps++strs qs)) (hg:(wr.alloc o).grownBy w2 v.ownBlock) :
  w2.ownsRow w.heap.size 9 1 v2 k (strs (ps++qs))∧Below w.heap.size w w2:=by
 rw [strs_append]
 exact ⟨h2,(hB.alloc hB.size o).grown hg (by have:=hB.size;simp;omega) (fun k hk=>(hown.lt k hk).1)⟩
theorem count_eq (n:Int) (m:Nat) (w:World) (h:n=(m:Int)) (hn:m≤9223372036854775807) :
  Calls Tryz.prog 241 #[.int .i64 n] w fun e w'=>e=.returned (strB (uB m))∧Below w.heap.size w w':=by
 subst h
 exact count_any m w hn
theorem str_drop (s:List UInt8) (k:Nat):(⟨s.toArray⟩:ByteArray).extract k s.length=⟨(s.drop k).toArray⟩:=by
 rw [ByteArray.extract_mk]
 congr 1
 simp [List.take_of_length_le]
def bitOf:Value→Nat
 | .bool true=>0
 | _=>1
theorem below_undrew4 {w w1 w2 w3 w4:World} (hb1:Below w.heap.size w w1) (hb2:Below w1.drew.heap.size w1.drew w2) (hb3:Below w2.heap.size w2 w3) (hb4:Below w3.heap.size w3 w4):Below w.heap.size w w4:=by
 have h2:Below w1.heap.size w1 w2:=below_undrew hb2
 have h12:=hb1.trans (h2.mono hb1.size)
 have h13:=h12.trans (hb3.mono h12.size)
 exact h13.trans (hb4.mono h13.size)
theorem textStep_any (s t:List UInt8) (w:World) (h1:s.length≤12) (h2:t.length≤12) :
  Calls Tryz.prog 206 #[strB s,strB t] w fun e w'=>e=.returned (strB (uB (sharedB s t)++xB (t.drop (sharedB s t))))∧Below w.heap.size w w':=by
 have hs:=strB_size s
 have ht:=strB_size t
 obtain ⟨hle1,hle2⟩:=sharedB_le s t
 go_enter Tryz.func206,Tryz.ntmps206
 go_wp2_with fail
 refine (common_any s t _ h1 h2).mono ?_
 rintro e w1 ⟨rfl,hb1⟩
 generalize hsh:sharedB s t=sh at *
 have Hsh:=hid hsh
 clear hsh
 have hd:=str_drop t sh
 have hx:(xB (t.drop sh)).length≤22:=xB_len _ (by rw [List.length_drop];omega)
 have hu:=uB_len10 sh (by omega)
 go_wp2_with fail
 go_region_with (first
  | (go_at_call 241;refine (count_any sh _ (by omega)).mono ?_;rintro e w2 ⟨rfl,hb2⟩)
  | (go_at_call 204;refine (text_any (t.drop sh) _ (by rw [List.length_drop];omega)).mono ?_;rintro e w3 ⟨rfl,hb3⟩)
  | (go_at_call 194;refine (join_lit [uB sh,xB (t.drop sh)] _ 2 _ rfl rfl (by decide) (by simp;omega)).mono ?_;rintro e w4 ⟨rfl,hb4⟩))
 all_goals
  go_wp2
  go_ret
  exact ⟨ret_str (by rw [Hsh.out]),below_undrew4 hb1 hb2 hb3 hb4⟩
theorem runs_any (a:Option Addr) (cap:Nat) (l:List CellB) (w:World) (hn:l.length≤60) (hl:Lies w a l) :
  Calls Tryz.prog 193 #[.slice a l.length cap] w fun e w'=>e=.returned (strB (headB l))∧Below w.heap.size w w':=by
 obtain ⟨i0,hi,hz0,hz1,hz2⟩:=info_parts Tryz.infoStr
 have Hl:=hid hl
 have hni:(l.length:Int)≤60:=by omega
 have hlen:=headB_len l hn
 clear hl
 go_enter Tryz.func193,Tryz.ntmps193
 go_wp2_with fail
 refine (count_any l.length _ (by omega)).mono ?_
 rintro e w1 ⟨rfl,hb1⟩
 go_wp2_with fail
 go_loopw [3,4,5] (fun v b i wr=>∃ (ps:List (List UInt8)) (nb:Bool) (k:Nat),b=.bool nb∧i=.int .i64 (k:Int)∧k≤l.length∧wr.ownsRow w.heap.size 9 1 v ps.length (strs ps)∧ps≠[]∧ps.flatten++restRuns nb (l.drop k)=headB l∧((k=0∧nb=false∧ps.length=1)∨((∀ h:k < l.length,(l[k]).null=nb)∧ps.length≤k+2))∧Below w.heap.size w wr)
  (fun _ b i _=>2*(l.length - (intOf i).toNat)+bitOf b)
 case atStart =>
  exact ⟨[uB l.length],false,0,rfl,rfl,Nat.zero_le _,⟨by simp [strs],.inr ⟨w1.heap.size,1,_,rfl,hb1.size,heap_alloc_new w1 _,Nat.le_refl _,by decide,rfl,rfl⟩⟩,by simp,by simp [headB],.inl ⟨rfl,rfl,rfl⟩,hb1.alloc hb1.size _⟩
 case round =>
  clear hb1
  obtain ⟨ps,nb,k,rfl,rfl,hkl,hown,hps,hfl,hinv,hB⟩:=hrel
  have Hps:=hid hps
  have Hfl:=hid hfl
  clear hps
  have hfl2:ps.flatten.length≤1000:=by
   have:=congrArg List.length hfl
   rw [List.length_append] at this
   omega
  clear hfl
  have hpl:ps.length≤k+2:=by rcases hinv with ⟨h,_,h2⟩|⟨_,h2⟩<;>omega
  have Hinv:=hid hinv
  clear hinv
  by_cases hlt:k < l.length
  ·have hrl:=rowB_le nb (l.drop k)
   rw [List.length_drop] at hrl
   have HRL:=hid (rowB_lt nb (l.drop k))
   have HRE:=hid (rowB_end nb (l.drop k))
   have HST:Hid (restRuns nb (l.drop k)=uB (rowB nb (l.drop k))++restRuns (!nb) (l.drop (k+rowB nb (l.drop k)))):=by
    show restRuns nb (l.drop k)=_
    rw [restRuns_step nb (l.drop k) (by simp;omega),List.drop_drop]
   generalize rowB nb (l.drop k)=r at *
   have hki:(k:Int) < (l.length:Int):=by omega
   obtain ⟨b,off,rfl,hbw,hcell⟩:=(Hl.out.later hB).at_ (List.ne_nil_of_length_pos (by omega))
   have Hcell:=hid hcell
   clear hcell
   go_wp2_with fail
   go_loopw [6] (fun i wi=>∃ m:Nat,m≤r∧i=.int .i64 ((k+m:Nat):Int)∧wi=wr) (fun i _=>100 - (intOf i).toNat)
   case atStart=>exact ⟨0,Nat.zero_le _,rfl,rfl⟩
   case round =>
    obtain ⟨m,hm,rfl,rfl⟩:=hrel
    by_cases hmr:m < r
    ·have hkm:k+m < l.length:=by omega
     obtain ⟨g1,_,_⟩:=Hcell.out (k+m) hkm
     have hnb:(l[k+m]).null=nb:=by
      obtain ⟨_,h2⟩:=HRL.out m hmr
      rw [List.getElem_drop] at h2
      exact h2
     rw [hnb] at g1
     have hkmi:((k+m:Nat):Int) < (l.length:Int):=by omega
     generalize hkm2:k+m=q at *
     have Hkm2:=hid hkm2
     clear hkm2 hnb
     go_wp2
     go_roundw
     case rel=>exact ⟨m+1,by omega,by rw [← Nat.add_assoc,Hkm2.out];go_num,trivial⟩
     case measure=>simp [intOf];omega
    ·have hmr2:m=r:=by omega
     subst hmr2
     go_upto_region 7 with fail
     go_cut [30] (fun t wd=>t=.bool false∧wd=wr)
     case first =>
      by_cases hend:k+m < l.length
      ·obtain ⟨g1,_,_⟩:=Hcell.out (k+m) hend
       have hnb:(l[k+m]).null=!nb:=by
        have h2:=HRE.out (by rw [List.length_drop];omega)
        rw [List.getElem_drop] at h2
        exact h2
       rw [hnb] at g1
       have hkmi:((k+m:Nat):Int) < (l.length:Int):=by omega
       generalize k+m=q at *
       have hbb:((!nb) == nb)=false:=by cases nb<;>rfl
       go_wp2
       go_meet
       case rel=>exact ⟨rfl,rfl⟩
      ·have hkmi:decide (((k+m:Nat):Int) < (l.length:Int))=false:=by simp;omega
       generalize k+m=q at *
       go_wp2
       go_meet
       case rel=>exact ⟨rfl,rfl⟩
     case rest =>
      obtain ⟨rfl,rfl⟩:=hcut
      go_wp2_with fail
      refine (count_eq _ m _ (by omega) (by omega)).mono ?_
      rintro e w2 ⟨rfl,hb2⟩
      have hown2:=own_after hown hb2
      have hB2:=hB.trans (hb2.mono hB.size)
      have hu:=uB_len10 m (by omega)
      clear hown hb2 hB
      have HX:Hid (ps.flatten++uB m++restRuns (!nb) (l.drop (k+m))=headB l):=by
       show _=_
       rw [← Hfl.out,HST.out,List.append_assoc]
      go_wp2_with (at_builtin;refine wpList_append_own _ rfl (.tmp 33) (.tmp 38) 71 rfl w.heap.size 9 i0 (.string ⟨#[]⟩) 1 16 Tryz.underlying71 hi hz0 hz1 hz2 rfl (by decide) _ _ _ rfl (hown2.alloc _) ⟨_,0,none⟩ 1 1 [strB (uB m)] rfl rfl ?c1 ?c2 ?c3 ?c4 ?c5 ?_)
      case c1=>exact cell_laid w2 #[strB (uB m)] 9
      case c2=>intro u hu;simp at hu;subst hu;rfl
      case c3=>unfold maxLen;omega
      case c4=>omega
      case c5=>have:=hB2.size;simp;omega
      intro v3 w3 hown3 hgr3 _
      have HR:=hid (strs_push (qs:=[uB m]) _ rfl hB2 hown2 hown3 hgr3)
      clear hown2 hown3 hgr3 hB2
      go_wp2
      go_roundw
      case rel =>
       refine ⟨ps++[uB m],!nb,k+m,rfl,rfl,by omega,by simpa using HR.out.1,by simp,?_,.inr ⟨?_,?_⟩,HR.out.2⟩
       ·rw [List.flatten_append];simpa using HX.out
       ·intro h
        have h2:=HRE.out (by rw [List.length_drop];omega)
        rw [List.getElem_drop] at h2
        exact h2
       ·rcases Hinv.out with ⟨h,h1,h2⟩|⟨h1,h2⟩
        ·simp;omega
        ·have:0 < m:=by
          rcases Nat.eq_zero_or_pos m with h0|h0
          ·subst h0
           have h3:=HRE.out (by rw [List.length_drop];omega)
           rw [List.getElem_drop] at h3
           have h4:=h1 hlt
           simp only [Nat.add_zero] at h3
           rw [h4] at h3
           cases nb<;>simp at h3
          ·exact h0
         simp;omega
      case measure =>
       rcases Nat.eq_zero_or_pos m with h0|h0
       ·subst h0
        have hnbf:nb=false:=by
         rcases Hinv.out with ⟨h,h1,h2⟩|⟨h1,h2⟩
         ·exact h1
         ·exfalso
          have h3:=HRE.out (by rw [List.length_drop];omega)
          rw [List.getElem_drop] at h3
          have h4:=h1 hlt
          simp only [Nat.add_zero] at h3
          rw [h4] at h3
          cases nb<;>simp at h3
        subst hnbf
        simp [intOf,bitOf]
       ·cases nb<;>simp [intOf,bitOf]<;>omega
  ·have hke:k=l.length:=by omega
   subst hke
   have HF:Hid (ps.flatten=headB l):=by
    show ps.flatten=headB l
    have:=Hfl.out
    rw [List.drop_length] at this
    simpa [restRuns] using this
   have hki:decide ((l.length:Int) < (l.length:Int))=false:=by simp
   go_wp2_with fail
   refine (join_own ps w.heap.size ps.length _ _ hown Hps.out (by omega) (by omega)).mono ?_
   rintro e w2 ⟨rfl,hb2⟩
   go_wp2
   go_ret
   exact ⟨ret_str HF.out,hB.trans (hb2.mono hB.size)⟩
end
section
abbrev fnV (k:Nat):Value:=.func (.func k) #[] #[]
abbrev numC (g:Nat):Value:=.agg #[.slice (some ⟨g,0,none⟩) 3 3,fnV 187,fnV 188,fnV 189,fnV 190,fnV 191,fnV 192]
abbrev txtC (g:Nat):Value:=.agg #[.slice (some ⟨g,0,none⟩) 3 3,fnV 202,fnV 203,fnV 204,fnV 205,fnV 206,fnV 207]
def NumW (w:World) (g:Nat):Prop:=w.heap[g]?=some (.cells #[.int .u8 0,fnV 181,fnV 182,.int .u8 1,fnV 183,fnV 184,.int .u8 2,fnV 185,fnV 186] 274 (0,0))
def TxtW (w:World) (g:Nat):Prop:=w.heap[g]?=some (.cells #[.int .u8 0,fnV 196,fnV 197,.int .u8 3,fnV 198,fnV 199,.int .u8 4,fnV 200,fnV 201] 281 (0,0))
theorem NumW.later {w w':World} {g:Nat} (h:NumW w g) (hg:g < w.heap.size) (hb:Below w.heap.size w w'):NumW w' g:=(hb.block g hg).trans h
theorem TxtW.later {w w':World} {g:Nat} (h:TxtW w g) (hg:g < w.heap.size) (hb:Below w.heap.size w w'):TxtW w' g:=(hb.block g hg).trans h
theorem numbers_any (w:World) :
  Calls Tryz.prog 125 #[] w fun e w'=>∃ g,e=.returned (numC g)∧g < w'.heap.size∧NumW w' g∧Below w.heap.size w w':=by
 go_enter Tryz.func125,Tryz.ntmps125
 go_wp2
 refine bodyPost_ret (v:=numC (w.heap.size+1)) (by simp [results,Tryz.results125,go_sem]) rfl ⟨w.heap.size+1,rfl,by simp,?_,((Below.refl _ _).alloc (Nat.le_refl _) _).alloc (by simp) _⟩
 have:=heap_alloc_new (w.alloc (Obj.cells #[Value.slice (some ⟨w.heap.size+1,0,none⟩) 3 3,fnV 187,fnV 188,fnV 189,fnV 190,fnV 191,fnV 192] 215)) (Obj.cells #[.int .u8 0,fnV 181,fnV 182,.int .u8 1,fnV 183,fnV 184,.int .u8 2,fnV 185,fnV 186] 274)
 simpa [NumW] using this
theorem texts_any (w:World) :
  Calls Tryz.prog 127 #[] w fun e w'=>∃ g,e=.returned (txtC g)∧g < w'.heap.size∧TxtW w' g∧Below w.heap.size w w':=by
 go_enter Tryz.func127,Tryz.ntmps127
 go_wp2
 refine bodyPost_ret (v:=txtC (w.heap.size+1)) (by simp [results,Tryz.results127,go_sem]) rfl ⟨w.heap.size+1,rfl,by simp,?_,((Below.refl _ _).alloc (Nat.le_refl _) _).alloc (by simp) _⟩
 have:=heap_alloc_new (w.alloc (Obj.cells #[Value.slice (some ⟨w.heap.size+1,0,none⟩) 3 3,fnV 202,fnV 203,fnV 204,fnV 205,fnV 206,fnV 207] 225)) (Obj.cells #[.int .u8 0,fnV 196,fnV 197,.int .u8 3,fnV 198,fnV 199,.int .u8 4,fnV 200,fnV 201] 281)
 simpa [TxtW] using this
structure Small (l:List CellB):Prop where
 small:∀ c ∈ l,smallC c
 few:l.length≤60
 some_:l≠[]
structure IntsLie (w:World) (b:Nat) (l:List CellB):Prop where
 lt:b < w.heap.size
 cell:∀ j (h:j < l.length),w.cell? ⟨b,j,none⟩=some (.int .i64 (l[j]).int)
structure TextsLie (w:World) (b:Nat) (l:List CellB):Prop where
 lt:b < w.heap.size
 cell:∀ j (h:j < l.length),w.cell? ⟨b,j,none⟩=some (strB (l[j]).text)
theorem IntsLie.later {w w':World} {b:Nat} {l:List CellB} (h:IntsLie w b l) (hb:Below w.heap.size w w'):IntsLie w' b l :=
 ⟨Nat.lt_of_lt_of_le h.lt hb.size,fun j hj=>(hb.cell (p:=⟨b,j,none⟩) h.lt).trans (h.cell j hj)⟩
theorem TextsLie.later {w w':World} {b:Nat} {l:List CellB} (h:TextsLie w b l) (hb:Below w.heap.size w w'):TextsLie w' b l :=
 ⟨Nat.lt_of_lt_of_le h.lt hb.size,fun j hj=>(hb.cell (p:=⟨b,j,none⟩) h.lt).trans (h.cell j hj)⟩
theorem boxed (w:World) (C:Array Value) (t:TypeId):Below w.heap.size w (w.alloc (.cells C t))∧(w.alloc (.cells C t)).heap.size=w.heap.size+1∧∀ j,(w.alloc (.cells C t)).cell? ⟨w.heap.size,j,none⟩=C[j]? :=
 ⟨(Below.refl _ _).alloc (Nat.le_refl _) _,by simp,fun j=>World.cell?_alloc_mark ..⟩
end
section
theorem sharedB_comm (s t:List UInt8):sharedB s t=sharedB t s:=by
 induction s generalizing t with
 | nil=>cases t<;>rfl
 | cons a s ih =>
  cases t with
  | nil=>rfl
  | cons b t =>
   simp only [sharedB]
   rw [ih t]
   by_cases h:a=b
   ·simp [h]
   ·rw [if_neg h,if_neg (fun h2=>h h2.symm)]
theorem eachI (g b cap:Nat) (l:List CellB) (w:World) (hs:Small l) (hl:IntsLie w b l) :
  Calls Tryz.prog 181 #[numC g,.slice (some ⟨b,0,none⟩) l.length cap] w fun e w'=>e=.returned (strB (wayB 0 l))∧Below w.heap.size w w':=by
 obtain ⟨i0,hi,hz0,hz1,hz2⟩:=info_parts Tryz.infoStr
 have Hs:=hid hs
 have Hl:=hid hl
 have hn:=hs.few
 clear hs hl
 go_enter Tryz.func181,Tryz.ntmps181
 go_wp2
 obtain ⟨hb0,hs0,hc0⟩:=boxed w #[.slice (some ⟨g,0,none⟩) 3 3,fnV 187,fnV 188,fnV 189,fnV 190,fnV 191,fnV 192] 215
 have hc:_=some (fnV 189):=hc0 3
 have Hl0:=hid (Hl.out.later hb0)
 have Hb0:=hid hb0
 have Hc:=hid hc
 have hs1:=Nat.lt_of_lt_of_eq (Nat.lt_succ_self w.heap.size) hs0.symm
 clear hc0 hc hb0 hs0
 generalize w.alloc _=w0 at *
 go_loopw [5,10] (fun v i wr=>∃ (ps:List (List UInt8)) (k:Nat),k≤l.length∧i=.int .i64 (k:Int)∧ps.length=k∧wr.ownsRow w0.heap.size 9 1 v k (strs ps)∧ps.flatten=stepsTo 0 l k∧Below w0.heap.size w0 wr)
  (fun _ i _=>l.length - (intOf i).toNat)
 case atStart=>exact ⟨[],0,Nat.zero_le _,rfl,rfl,World.ownsRow_nil _ _ _ _,rfl,Below.refl _ _⟩
 case round =>
  obtain ⟨ps,k,hkl,rfl,hpl,hown,hfl,hB⟩:=hrel
  have Hfl:=hid hfl
  clear hfl
  have hst:=stepsTo_len 0 l Hs.out.small hn k
  by_cases hlt:k < l.length
  ·have hck:=(Hl0.out.later hB).cell k hlt
   have hcf:=(hB.cell (p:=⟨w.heap.size,3,none⟩) hs1).trans Hc.out
   have hsm:=Hs.out.small l[k] (List.getElem_mem hlt)
   have HT:Hid (stepB 0 l k=bB (l[k]).int):=by
    show stepB 0 l k=_
    simp only [stepB,nthB_at l k hlt]
   go_wp2_with fail
   refine (eight_any (l[k]).int _ hsm.1 hsm.2.1).mono ?_
   rintro e w2 ⟨rfl,hb2⟩
   have hown2:=own_after hown hb2
   have hB2:=hB.trans (hb2.mono hB.size)
   clear hown hb2 hB hck hcf
   generalize bB (l[k]).int=q at *
   go_wp2_with (at_builtin;refine wpList_append_own _ rfl (.tmp 14) (.tmp 19) 71 rfl w0.heap.size 9 i0 (.string ⟨#[]⟩) 1 16 Tryz.underlying71 hi hz0 hz1 hz2 rfl (by decide) _ _ _ rfl (hown2.alloc _) ⟨_,0,none⟩ 1 1 [strB q] rfl rfl ?c1 ?c2 ?c3 ?c4 ?c5 ?_)
   case c1=>exact cell_laid w2 #[strB q] 9
   case c2=>intro u hu;simp at hu;subst hu;rfl
   case c3=>unfold maxLen;omega
   case c4=>omega
   case c5=>have:=hB2.size;simp;omega
   intro v3 w3 hown3 hgr3 _
   have HR:=hid (strs_push (qs:=[q]) _ rfl hB2 hown2 hown3 hgr3)
   clear hown2 hown3 hgr3 hB2
   go_wp2
   go_roundw
   case rel=>exact ⟨ps++[q],k+1,by omega,by go_num,by simp;omega,HR.out.1,by rw [List.flatten_append,Hfl.out,stepsTo,HT.out];simp,HR.out.2⟩
   case measure=>simp [intOf];omega
  ·have hke:k=l.length:=by omega
   subst hke
   have hps:ps≠[]:=by
    intro h
    subst h
    exact Hs.out.some_ (List.eq_nil_of_length_eq_zero hpl.symm)
   have HF:Hid (ps.flatten=wayB 0 l):=by
    show ps.flatten=wayB 0 l
    rw [Hfl.out];simp [wayB]
   have hfl2:ps.flatten.length≤1000000:=by rw [Hfl.out];omega
   have Hps:=hid hps
   clear hps
   go_wp2_with fail
   refine (join_own ps w0.heap.size l.length _ _ hown Hps.out (by omega) hfl2).mono ?_
   rintro e w2 ⟨rfl,hb2⟩
   go_wp2
   go_ret
   have hz:=Hb0.out.size
   have hBB:=Hb0.out.trans (hB.mono hz)
   exact ⟨ret_str HF.out,hBB.trans (hb2.mono hBB.size)⟩
theorem eachT (g b cap:Nat) (l:List CellB) (w:World) (hs:Small l) (hl:TextsLie w b l) :
  Calls Tryz.prog 196 #[txtC g,.slice (some ⟨b,0,none⟩) l.length cap] w fun e w'=>e=.returned (strB (wayB 5 l))∧Below w.heap.size w w':=by
 obtain ⟨i0,hi,hz0,hz1,hz2⟩:=info_parts Tryz.infoStr
 have Hs:=hid hs
 have Hl:=hid hl
 have hn:=hs.few
 clear hs hl
 go_enter Tryz.func196,Tryz.ntmps196
 go_wp2
 obtain ⟨hb0,hs0,hc0⟩:=boxed w #[.slice (some ⟨g,0,none⟩) 3 3,fnV 202,fnV 203,fnV 204,fnV 205,fnV 206,fnV 207] 225
 have hc:_=some (fnV 204):=hc0 3
 have Hl0:=hid (Hl.out.later hb0)
 have Hb0:=hid hb0
 have Hc:=hid hc
 have hs1:=Nat.lt_of_lt_of_eq (Nat.lt_succ_self w.heap.size) hs0.symm
 clear hc0 hc hb0 hs0
 generalize w.alloc _=w0 at *
 go_loopw [5,10] (fun v i wr=>∃ (ps:List (List UInt8)) (k:Nat),k≤l.length∧i=.int .i64 (k:Int)∧ps.length=k∧wr.ownsRow w0.heap.size 9 1 v k (strs ps)∧ps.flatten=stepsTo 5 l k∧Below w0.heap.size w0 wr)
  (fun _ i _=>l.length - (intOf i).toNat)
 case atStart=>exact ⟨[],0,Nat.zero_le _,rfl,rfl,World.ownsRow_nil _ _ _ _,rfl,Below.refl _ _⟩
 case round =>
  obtain ⟨ps,k,hkl,rfl,hpl,hown,hfl,hB⟩:=hrel
  have Hfl:=hid hfl
  clear hfl
  have hst:=stepsTo_len 5 l Hs.out.small hn k
  by_cases hlt:k < l.length
  ·have hck:=(Hl0.out.later hB).cell k hlt
   have hcf:=(hB.cell (p:=⟨w.heap.size,3,none⟩) hs1).trans Hc.out
   have hsm:=Hs.out.small l[k] (List.getElem_mem hlt)
   have HT:Hid (stepB 5 l k=xB (l[k]).text):=by
    show stepB 5 l k=_
    simp only [stepB,nthB_at l k hlt]
   go_wp2_with fail
   refine (text_any (l[k]).text _ (by have:=hsm.2.2;omega)).mono ?_
   rintro e w2 ⟨rfl,hb2⟩
   have hown2:=own_after hown hb2
   have hB2:=hB.trans (hb2.mono hB.size)
   clear hown hb2 hB hck hcf
   generalize xB (l[k]).text=q at *
   go_wp2_with (at_builtin;refine wpList_append_own _ rfl (.tmp 14) (.tmp 19) 71 rfl w0.heap.size 9 i0 (.string ⟨#[]⟩) 1 16 Tryz.underlying71 hi hz0 hz1 hz2 rfl (by decide) _ _ _ rfl (hown2.alloc _) ⟨_,0,none⟩ 1 1 [strB q] rfl rfl ?c1 ?c2 ?c3 ?c4 ?c5 ?_)
   case c1=>exact cell_laid w2 #[strB q] 9
   case c2=>intro u hu;simp at hu;subst hu;rfl
   case c3=>unfold maxLen;omega
   case c4=>omega
   case c5=>have:=hB2.size;simp;omega
   intro v3 w3 hown3 hgr3 _
   have HR:=hid (strs_push (qs:=[q]) _ rfl hB2 hown2 hown3 hgr3)
   clear hown2 hown3 hgr3 hB2
   go_wp2
   go_roundw
   case rel=>exact ⟨ps++[q],k+1,by omega,by go_num,by simp;omega,HR.out.1,by rw [List.flatten_append,Hfl.out,stepsTo,HT.out];simp,HR.out.2⟩
   case measure=>simp [intOf];omega
  ·have hke:k=l.length:=by omega
   subst hke
   have hps:ps≠[]:=by
    intro h
    subst h
    exact Hs.out.some_ (List.eq_nil_of_length_eq_zero hpl.symm)
   have HF:Hid (ps.flatten=wayB 5 l):=by
    show ps.flatten=wayB 5 l
    rw [Hfl.out];simp [wayB]
   have hfl2:ps.flatten.length≤1000000:=by rw [Hfl.out];omega
   have Hps:=hid hps
   clear hps
   go_wp2_with fail
   refine (join_own ps w0.heap.size l.length _ _ hown Hps.out (by omega) hfl2).mono ?_
   rintro e w2 ⟨rfl,hb2⟩
   go_wp2
   go_ret
   have hz:=Hb0.out.size
   have hBB:=Hb0.out.trans (hB.mono hz)
   exact ⟨ret_str HF.out,hBB.trans (hb2.mono hBB.size)⟩
theorem stepsI (g b cap:Nat) (l:List CellB) (w:World) (hs:Small l) (hl:IntsLie w b l) :
  Calls Tryz.prog 183 #[numC g,.slice (some ⟨b,0,none⟩) l.length cap] w fun e w'=>e=.returned (strB (wayB 1 l))∧Below w.heap.size w w':=by
 obtain ⟨i0,hi,hz0,hz1,hz2⟩:=info_parts Tryz.infoStr
 have Hs:=hid hs
 have Hl:=hid hl
 have hn:=hs.few
 clear hs hl
 go_enter Tryz.func183,Tryz.ntmps183
 go_wp2
 obtain ⟨hb0,hs0,hc0⟩:=boxed w #[.slice (some ⟨g,0,none⟩) 3 3,fnV 187,fnV 188,fnV 189,fnV 190,fnV 191,fnV 192] 215
 have hc:_=some (fnV 191):=hc0 5
 have Hl0:=hid (Hl.out.later hb0)
 have Hb0:=hid hb0
 have Hc:=hid hc
 have hs1:=Nat.lt_of_lt_of_eq (Nat.lt_succ_self w.heap.size) hs0.symm
 clear hc0 hc hb0 hs0
 generalize w.alloc _=w0 at *
 go_loopw [5,6,11] (fun v u i wr=>∃ (ps:List (List UInt8)) (k:Nat),k≤l.length∧i=.int .i64 (k:Int)∧u=.int .i64 (prevB l k).int∧ps.length=k∧wr.ownsRow w0.heap.size 9 1 v k (strs ps)∧ps.flatten=stepsTo 1 l k∧Below w0.heap.size w0 wr)
  (fun _ _ i _=>l.length - (intOf i).toNat)
 case atStart=>exact ⟨[],0,Nat.zero_le _,rfl,rfl,rfl,World.ownsRow_nil _ _ _ _,rfl,Below.refl _ _⟩
 case round =>
  obtain ⟨ps,k,hkl,rfl,rfl,hpl,hown,hfl,hB⟩:=hrel
  have Hfl:=hid hfl
  clear hfl
  have hst:=stepsTo_len 1 l Hs.out.small hn k
  by_cases hlt:k < l.length
  ·have hck:=(Hl0.out.later hB).cell k hlt
   have hcf:=(hB.cell (p:=⟨w.heap.size,5,none⟩) hs1).trans Hc.out
   have hsm:=Hs.out.small l[k] (List.getElem_mem hlt)
   have hpr:=small_prev l Hs.out.small k
   have HP:Hid (prevB l (k+1)=l[k]):=by
    show prevB l (k+1)=l[k]
    unfold prevB
    rw [if_neg (by omega)]
    exact nthB_at l k hlt
   have HT:Hid (stepB 1 l k=zB (wrap64 ((l[k]).int - (prevB l k).int))):=by
    show stepB 1 l k=_
    simp only [stepB,nthB_at l k hlt]
   go_wp2_with fail
   refine (numStep_any (prevB l k).int (l[k]).int _ hpr.1 hpr.2.1 hsm.1 hsm.2.1).mono ?_
   rintro e w2 ⟨rfl,hb2⟩
   have hown2:=own_after hown hb2
   have hB2:=hB.trans (hb2.mono hB.size)
   clear hown hb2 hB hck hcf
   generalize zB (wrap64 ((l[k]).int - (prevB l k).int))=q at *
   go_wp2_with (at_builtin;refine wpList_append_own _ rfl (.tmp 15) (.tmp 21) 71 rfl w0.heap.size 9 i0 (.string ⟨#[]⟩) 1 16 Tryz.underlying71 hi hz0 hz1 hz2 rfl (by decide) _ _ _ rfl (hown2.alloc _) ⟨_,0,none⟩ 1 1 [strB q] rfl rfl ?c1 ?c2 ?c3 ?c4 ?c5 ?_)
   case c1=>exact cell_laid w2 #[strB q] 9
   case c2=>intro u hu;simp at hu;subst hu;rfl
   case c3=>unfold maxLen;omega
   case c4=>omega
   case c5=>have:=hB2.size;simp;omega
   intro v3 w3 hown3 hgr3 _
   have HR:=hid (strs_push (qs:=[q]) _ rfl hB2 hown2 hown3 hgr3)
   clear hown2 hown3 hgr3 hB2
   go_wp2
   go_roundw
   case rel=>exact ⟨ps++[q],k+1,by omega,by go_num,by rw [HP.out],by simp;omega,HR.out.1,by rw [List.flatten_append,Hfl.out,stepsTo,HT.out];simp,HR.out.2⟩
   case measure=>simp [intOf];omega
  ·have hke:k=l.length:=by omega
   subst hke
   have hps:ps≠[]:=by
    intro h
    subst h
    exact Hs.out.some_ (List.eq_nil_of_length_eq_zero hpl.symm)
   have HF:Hid (ps.flatten=wayB 1 l):=by
    show ps.flatten=wayB 1 l
    rw [Hfl.out];simp [wayB]
   have hfl2:ps.flatten.length≤1000000:=by rw [Hfl.out];omega
   have Hps:=hid hps
   clear hps
   go_wp2_with fail
   refine (join_own ps w0.heap.size l.length _ _ hown Hps.out (by omega) hfl2).mono ?_
   rintro e w2 ⟨rfl,hb2⟩
   go_wp2
   go_ret
   have hz:=Hb0.out.size
   have hBB:=Hb0.out.trans (hB.mono hz)
   exact ⟨ret_str HF.out,hBB.trans (hb2.mono hBB.size)⟩
theorem stepsT (g b cap:Nat) (l:List CellB) (w:World) (hs:Small l) (hl:TextsLie w b l) :
  Calls Tryz.prog 200 #[txtC g,.slice (some ⟨b,0,none⟩) l.length cap] w fun e w'=>e=.returned (strB (wayB 4 l))∧Below w.heap.size w w':=by
 obtain ⟨i0,hi,hz0,hz1,hz2⟩:=info_parts Tryz.infoStr
 have Hs:=hid hs
 have Hl:=hid hl
 have hn:=hs.few
 clear hs hl
 go_enter Tryz.func200,Tryz.ntmps200
 go_wp2
 obtain ⟨hb0,hs0,hc0⟩:=boxed w #[.slice (some ⟨g,0,none⟩) 3 3,fnV 202,fnV 203,fnV 204,fnV 205,fnV 206,fnV 207] 225
 have hc:_=some (fnV 206):=hc0 5
 have Hl0:=hid (Hl.out.later hb0)
 have Hb0:=hid hb0
 have Hc:=hid hc
 have hs1:=Nat.lt_of_lt_of_eq (Nat.lt_succ_self w.heap.size) hs0.symm
 clear hc0 hc hb0 hs0
 generalize w.alloc _=w0 at *
 go_loopw [5,6,11] (fun v u i wr=>∃ (ps:List (List UInt8)) (k:Nat),k≤l.length∧i=.int .i64 (k:Int)∧u=strB (prevB l k).text∧ps.length=k∧wr.ownsRow w0.heap.size 9 1 v k (strs ps)∧ps.flatten=stepsTo 4 l k∧Below w0.heap.size w0 wr)
  (fun _ _ i _=>l.length - (intOf i).toNat)
 case atStart=>exact ⟨[],0,Nat.zero_le _,rfl,rfl,rfl,World.ownsRow_nil _ _ _ _,rfl,Below.refl _ _⟩
 case round =>
  obtain ⟨ps,k,hkl,rfl,rfl,hpl,hown,hfl,hB⟩:=hrel
  have Hfl:=hid hfl
  clear hfl
  have hst:=stepsTo_len 4 l Hs.out.small hn k
  by_cases hlt:k < l.length
  ·have hck:=(Hl0.out.later hB).cell k hlt
   have hcf:=(hB.cell (p:=⟨w.heap.size,5,none⟩) hs1).trans Hc.out
   have hsm:=Hs.out.small l[k] (List.getElem_mem hlt)
   have hpr:=small_prev l Hs.out.small k
   have HP:Hid (prevB l (k+1)=l[k]):=by
    show prevB l (k+1)=l[k]
    unfold prevB
    rw [if_neg (by omega)]
    exact nthB_at l k hlt
   have HT:Hid (stepB 4 l k=uB (sharedB (prevB l k).text (l[k]).text)++xB ((l[k]).text.drop (sharedB (prevB l k).text (l[k]).text))):=by
    show stepB 4 l k=_
    simp only [stepB,nthB_at l k hlt,sharedB_comm (prevB l k).text]
   go_wp2_with fail
   refine (textStep_any (prevB l k).text (l[k]).text _ hpr.2.2 hsm.2.2).mono ?_
   rintro e w2 ⟨rfl,hb2⟩
   have hown2:=own_after hown hb2
   have hB2:=hB.trans (hb2.mono hB.size)
   clear hown hb2 hB hck hcf
   generalize uB (sharedB (prevB l k).text (l[k]).text)++xB ((l[k]).text.drop (sharedB (prevB l k).text (l[k]).text))=q at *
   go_wp2_with (at_builtin;refine wpList_append_own _ rfl (.tmp 15) (.tmp 21) 71 rfl w0.heap.size 9 i0 (.string ⟨#[]⟩) 1 16 Tryz.underlying71 hi hz0 hz1 hz2 rfl (by decide) _ _ _ rfl (hown2.alloc _) ⟨_,0,none⟩ 1 1 [strB q] rfl rfl ?c1 ?c2 ?c3 ?c4 ?c5 ?_)
   case c1=>exact cell_laid w2 #[strB q] 9
   case c2=>intro u hu;simp at hu;subst hu;rfl
   case c3=>unfold maxLen;omega
   case c4=>omega
   case c5=>have:=hB2.size;simp;omega
   intro v3 w3 hown3 hgr3 _
   have HR:=hid (strs_push (qs:=[q]) _ rfl hB2 hown2 hown3 hgr3)
   clear hown2 hown3 hgr3 hB2
   go_wp2
   go_roundw
   case rel=>exact ⟨ps++[q],k+1,by omega,by go_num,by rw [HP.out],by simp;omega,HR.out.1,by rw [List.flatten_append,Hfl.out,stepsTo,HT.out];simp,HR.out.2⟩
   case measure=>simp [intOf];omega
  ·have hke:k=l.length:=by omega
   subst hke
   have hps:ps≠[]:=by
    intro h
    subst h
    exact Hs.out.some_ (List.eq_nil_of_length_eq_zero hpl.symm)
   have HF:Hid (ps.flatten=wayB 4 l):=by
    show ps.flatten=wayB 4 l
    rw [Hfl.out];simp [wayB]
   have hfl2:ps.flatten.length≤1000000:=by rw [Hfl.out];omega
   have Hps:=hid hps
   clear hps
   go_wp2_with fail
   refine (join_own ps w0.heap.size l.length _ _ hown Hps.out (by omega) hfl2).mono ?_
   rintro e w2 ⟨rfl,hb2⟩
   go_wp2
   go_ret
   have hz:=Hb0.out.size
   have hBB:=Hb0.out.trans (hB.mono hz)
   exact ⟨ret_str HF.out,hBB.trans (hb2.mono hBB.size)⟩
end
end Go.Proofs.YthhpbhpfagoapaaGreat
