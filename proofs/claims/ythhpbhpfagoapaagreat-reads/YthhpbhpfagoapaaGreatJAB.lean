import Derived.Test.YthhpbhpfagoapaaGreatJAP
import Derived.Laws.EntriesVeiled
namespace Go.Proofs.YthhpbhpfagoapaaGreat
set_option linter.unusedVariables false
set_option linter.unusedSimpArgs false
set_option maxRecDepth 100000
set_option maxHeartbeats 16000000
open Go.RowKit
section
theorem Tryz.infoStr:(Tryz.prog.info? 9).map (fun i=>(i.zero,i.size,i.bytes))=some (some (.string ⟨#[]⟩),1,16):=by kernel_rfl
theorem jH {W W':World} {base e size n:Nat} {v:Value} {xs:List Value} (h:W.ownsRow base e size v n xs) (hb:Below W.heap.size W W'):W'.ownsRow base e size v n xs :=
 h.kept (Yv hb) (Classical.em _)
theorem VL (a b:List (List UInt8)):zz (a++b)=zz a++zz b:=by simp [zz]
theorem Xr {w wr w2:World} {v v2:Value} {n k:Nat} {ps qs:List (List UInt8)} (o:Obj) (hk:k=n+qs.length) (hB:Below w.heap.size w wr) (hown:wr.ownsRow w.heap.size 9 1 v n (zz ps))
  (h2:w2.ownsRow w.heap.size 9 1 v2 k (zz ps++zz qs)) (hg:(wr.alloc o).grownBy w2 v.ownBlock) :
  w2.ownsRow w.heap.size 9 1 v2 k (zz (ps++qs))∧Below w.heap.size w w2:=by
 rw [VL]
 exact ⟨h2,(hB.alloc hB.size o).grown hg (by have:=hB.size;simp;omega) (fun k hk=>(hown.lt k hk).1)⟩
theorem Io (n:Int) (m:Nat) (w:World) (h:n=(m:Int)) (hn:m≤9223372036854775807) :
  Calls Tryz.prog 241 #[.int .i64 n] w fun e w'=>e=.returned (strB (uB m))∧Below w.heap.size w w':=by
 subst h
 exact Jj m w hn
theorem CQ (s:List UInt8) (k:Nat):(⟨s.toArray⟩:ByteArray).extract k s.length=⟨(s.drop k).toArray⟩:=by
 rw [ByteArray.extract_mk]
 congr 1
 simp [List.take_of_length_le]
def PD:Value→Nat
 | .bool true=>0
 | _=>1
theorem KU {w w1 w2 w3 w4:World} (hb1:Below w.heap.size w w1) (hb2:Below w1.drew.heap.size w1.drew w2) (hb3:Below w2.heap.size w2 w3) (hb4:Below w3.heap.size w3 w4):Below w.heap.size w w4:=by
 have h2:Below w1.heap.size w1 w2:=ji hb2
 have h12:=hb1.trans (h2.mono hb1.size)
 have h13:=h12.trans (hb3.mono h12.size)
 exact h13.trans (hb4.mono h13.size)
theorem Yk (s t:List UInt8) (w:World) (h1:s.length≤12) (h2:t.length≤12) :
  Calls Tryz.prog 206 #[strB s,strB t] w fun e w'=>e=.returned (strB (uB (jF s t)++xB (t.drop (jF s t))))∧Below w.heap.size w w':=by
 have hs:=jK s
 have ht:=jK t
 obtain ⟨hle1,hle2⟩:=zY s t
 go_enter Tryz.func206,Tryz.ntmps206
 go_wp2_with fail
 refine (As s t _ h1 h2).mono ?_
 rintro e w1 ⟨rfl,hb1⟩
 generalize hsh:jF s t=sh at *
 have Hsh:=hid hsh
 clear hsh
 have hd:=CQ t sh
 have hx:(xB (t.drop sh)).length≤22:=Uq _ (by rw [List.length_drop];omega)
 have hu:=jN sh (by omega)
 go_wp2_with fail
 go_region_with (first
  | (go_at_call 241;refine (Jj sh _ (by omega)).mono ?_;rintro e w2 ⟨rfl,hb2⟩)
  | (go_at_call 204;refine (Nt (t.drop sh) _ (by rw [List.length_drop];omega)).mono ?_;rintro e w3 ⟨rfl,hb3⟩)
  | (go_at_call 194;refine (XD [uB sh,xB (t.drop sh)] _ 2 _ rfl rfl (by decide) (by simp;omega)).mono ?_;rintro e w4 ⟨rfl,hb4⟩))
 all_goals
  go_wp2
  go_ret
  exact ⟨qt (by rw [Hsh.out]),KU hb1 hb2 hb3 hb4⟩
theorem UW (a:Option Addr) (cap:Nat) (l:List CellB) (w:World) (hn:l.length≤60) (hl:Lies w a l) :
  Calls Tryz.prog 193 #[.slice a l.length cap] w fun e w'=>e=.returned (strB (zr l))∧Below w.heap.size w w':=by
 obtain ⟨i0,hi,hz0,hz1,hz2⟩:=info_parts Tryz.infoStr
 have Hl:=hid hl
 have hni:(l.length:Int)≤60:=by omega
 have hlen:=Zx l hn
 clear hl
 go_enter Tryz.func193,Tryz.ntmps193
 go_wp2_with fail
 refine (Jj l.length _ (by omega)).mono ?_
 rintro e w1 ⟨rfl,hb1⟩
 go_wp2_with fail
 go_loopw [3,4,5] (fun v b i wr=>∃ (ps:List (List UInt8)) (nb:Bool) (k:Nat),b=.bool nb∧i=.int .i64 (k:Int)∧k≤l.length∧wr.ownsRow w.heap.size 9 1 v ps.length (zz ps)∧ps≠[]∧ps.flatten++qO nb (l.drop k)=zr l∧((k=0∧nb=false∧ps.length=1)∨((∀ h:k < l.length,(l[k]).null=nb)∧ps.length≤k+2))∧Below w.heap.size w wr)
  (fun _ b i _=>2*(l.length - (intOf i).toNat)+PD b)
 case atStart =>
  exact ⟨[uB l.length],false,0,rfl,rfl,Nat.zero_le _,⟨by simp [zz],.inr ⟨w1.heap.size,1,_,rfl,hb1.size,heap_alloc_new w1 _,Nat.le_refl _,by decide,rfl,rfl⟩⟩,by simp,by simp [zr],.inl ⟨rfl,rfl,rfl⟩,hb1.alloc hb1.size _⟩
 case round =>
  clear hb1
  obtain ⟨ps,nb,k,rfl,rfl,hkl,hown,hps,hfl,hinv,hB⟩:=hrel
  have Hps:=hid hps
  have Hfl:=hid hfl
  clear hps
  have hfl2:ps.flatten.length≤1000:=by
   have:=congrArg List.length hfl
   rw [List.length_append] at this
   omega
  clear hfl
  have hpl:ps.length≤k+2:=by rcases hinv with ⟨h,_,h2⟩|⟨_,h2⟩<;>omega
  have Hinv:=hid hinv
  clear hinv
  by_cases hlt:k < l.length
  ·have hrl:=ZL nb (l.drop k)
   rw [List.length_drop] at hrl
   have HRL:=hid (GD nb (l.drop k))
   have HRE:=hid (NM nb (l.drop k))
   have HST:Hid (qO nb (l.drop k)=uB (rowB nb (l.drop k))++qO (!nb) (l.drop (k+rowB nb (l.drop k)))):=by
    show qO nb (l.drop k)=_
    rw [QT nb (l.drop k) (by simp;omega),List.drop_drop]
   generalize rowB nb (l.drop k)=r at *
   have hki:(k:Int) < (l.length:Int):=by omega
   obtain ⟨b,off,rfl,hbw,hcell⟩:=(Hl.out.later hB).at_ (List.ne_nil_of_length_pos (by omega))
   have Hcell:=hid hcell
   clear hcell
   go_wp2_with fail
   go_loopw [6] (fun i wi=>∃ m:Nat,m≤r∧i=.int .i64 ((k+m:Nat):Int)∧wi=wr) (fun i _=>100 - (intOf i).toNat)
   case atStart=>exact ⟨0,Nat.zero_le _,rfl,rfl⟩
   case round =>
    obtain ⟨m,hm,rfl,rfl⟩:=hrel
    by_cases hmr:m < r
    ·have hkm:k+m < l.length:=by omega
     obtain ⟨g1,_,_⟩:=Hcell.out (k+m) hkm
     have hnb:(l[k+m]).null=nb:=by
      obtain ⟨_,h2⟩:=HRL.out m hmr
      rw [List.getElem_drop] at h2
      exact h2
     rw [hnb] at g1
     have hkmi:((k+m:Nat):Int) < (l.length:Int):=by omega
     generalize hkm2:k+m=q at *
     have Hkm2:=hid hkm2
     clear hkm2 hnb
     go_wp2
     go_roundw
     case rel=>exact ⟨m+1,by omega,by rw [← Nat.add_assoc,Hkm2.out];go_num,trivial⟩
     case measure=>simp [intOf];omega
    ·have hmr2:m=r:=by omega
     subst hmr2
     go_upto_region 7 with fail
     go_cut [30] (fun t wd=>t=.bool false∧wd=wr)
     case first =>
      by_cases hend:k+m < l.length
      ·obtain ⟨g1,_,_⟩:=Hcell.out (k+m) hend
       have hnb:(l[k+m]).null=!nb:=by
        have h2:=HRE.out (by rw [List.length_drop];omega)
        rw [List.getElem_drop] at h2
        exact h2
       rw [hnb] at g1
       have hkmi:((k+m:Nat):Int) < (l.length:Int):=by omega
       generalize k+m=q at *
       have hbb:((!nb) == nb)=false:=by cases nb<;>rfl
       go_wp2
       go_meet
       case rel=>exact ⟨rfl,rfl⟩
      ·have hkmi:decide (((k+m:Nat):Int) < (l.length:Int))=false:=by simp;omega
       generalize k+m=q at *
       go_wp2
       go_meet
       case rel=>exact ⟨rfl,rfl⟩
     case rest =>
      obtain ⟨rfl,rfl⟩:=hcut
      go_wp2_with fail
      refine (Io _ m _ (by omega) (by omega)).mono ?_
      rintro e w2 ⟨rfl,hb2⟩
      have hown2:=jH hown hb2
      have hB2:=hB.trans (hb2.mono hB.size)
      have hu:=jN m (by omega)
      clear hown hb2 hB
      have HX:Hid (ps.flatten++uB m++qO (!nb) (l.drop (k+m))=zr l):=by
       show _=_
       rw [← Hfl.out,HST.out,List.append_assoc]
      go_wp2_with (at_builtin;refine wpList_append_own _ rfl (.tmp 33) (.tmp 38) 71 rfl w.heap.size 9 i0 (.string ⟨#[]⟩) 1 16 Tryz.underlying71 hi hz0 hz1 hz2 rfl (by decide) _ _ _ rfl (hown2.alloc _) ⟨_,0,none⟩ 1 1 [strB (uB m)] rfl rfl ?c1 ?c2 ?c3 ?c4 ?c5 ?_)
      case c1=>exact qj w2 #[strB (uB m)] 9
      case c2=>intro u hu;simp at hu;subst hu;rfl
      case c3=>unfold maxLen;omega
      case c4=>omega
      case c5=>have:=hB2.size;simp;omega
      intro v3 w3 hown3 hgr3 _
      have HR:=hid (Xr (qs:=[uB m]) _ rfl hB2 hown2 hown3 hgr3)
      clear hown2 hown3 hgr3 hB2
      go_wp2
      go_roundw
      case rel =>
       refine ⟨ps++[uB m],!nb,k+m,rfl,rfl,by omega,by simpa using HR.out.1,by simp,?_,.inr ⟨?_,?_⟩,HR.out.2⟩
       ·rw [List.flatten_append];simpa using HX.out
       ·intro h
        have h2:=HRE.out (by rw [List.length_drop];omega)
        rw [List.getElem_drop] at h2
        exact h2
       ·rcases Hinv.out with ⟨h,h1,h2⟩|⟨h1,h2⟩
        ·simp;omega
        ·have:0 < m:=by
          rcases Nat.eq_zero_or_pos m with h0|h0
          ·subst h0
           have h3:=HRE.out (by rw [List.length_drop];omega)
           rw [List.getElem_drop] at h3
           have h4:=h1 hlt
           simp only [Nat.add_zero] at h3
           rw [h4] at h3
           cases nb<;>simp at h3
          ·exact h0
         simp;omega
      case measure =>
       rcases Nat.eq_zero_or_pos m with h0|h0
       ·subst h0
        have hnbf:nb=false:=by
         rcases Hinv.out with ⟨h,h1,h2⟩|⟨h1,h2⟩
         ·exact h1
         ·exfalso
          have h3:=HRE.out (by rw [List.length_drop];omega)
          rw [List.getElem_drop] at h3
          have h4:=h1 hlt
          simp only [Nat.add_zero] at h3
          rw [h4] at h3
          cases nb<;>simp at h3
        subst hnbf
        simp [intOf,PD]
       ·cases nb<;>simp [intOf,PD]<;>omega
  ·have hke:k=l.length:=by omega
   subst hke
   have HF:Hid (ps.flatten=zr l):=by
    show ps.flatten=zr l
    have:=Hfl.out
    rw [List.drop_length] at this
    simpa [qO] using this
   have hki:decide ((l.length:Int) < (l.length:Int))=false:=by simp
   go_wp2_with fail
   refine (XA ps w.heap.size ps.length _ _ hown Hps.out (by omega) (by omega)).mono ?_
   rintro e w2 ⟨rfl,hb2⟩
   go_wp2
   go_ret
   exact ⟨qt HF.out,hB.trans (hb2.mono hB.size)⟩
end
section
abbrev fnV (k:Nat):Value:=.func (.func k) #[] #[]
abbrev numC (g:Nat):Value:=.agg #[.slice (some ⟨g,0,none⟩) 3 3,fnV 187,fnV 188,fnV 189,fnV 190,fnV 191,fnV 192]
abbrev txtC (g:Nat):Value:=.agg #[.slice (some ⟨g,0,none⟩) 3 3,fnV 202,fnV 203,fnV 204,fnV 205,fnV 206,fnV 207]
def NumW (w:World) (g:Nat):Prop:=w.heap[g]?=some (.cells #[.int .u8 0,fnV 181,fnV 182,.int .u8 1,fnV 183,fnV 184,.int .u8 2,fnV 185,fnV 186] 274 (0,0))
def TxtW (w:World) (g:Nat):Prop:=w.heap[g]?=some (.cells #[.int .u8 0,fnV 196,fnV 197,.int .u8 3,fnV 198,fnV 199,.int .u8 4,fnV 200,fnV 201] 281 (0,0))
theorem NumW.later {w w':World} {g:Nat} (h:NumW w g) (hg:g < w.heap.size) (hb:Below w.heap.size w w'):NumW w' g:=(hb.block g hg).trans h
theorem TxtW.later {w w':World} {g:Nat} (h:TxtW w g) (hg:g < w.heap.size) (hb:Below w.heap.size w w'):TxtW w' g:=(hb.block g hg).trans h
theorem EO (w:World) :
  Calls Tryz.prog 125 #[] w fun e w'=>∃ g,e=.returned (numC g)∧g < w'.heap.size∧NumW w' g∧Below w.heap.size w w':=by
 go_enter Tryz.func125,Tryz.ntmps125
 go_wp2
 refine bodyPost_ret (v:=numC (w.heap.size+1)) (by simp [results,Tryz.results125,go_sem]) rfl ⟨w.heap.size+1,rfl,by simp,?_,((Below.refl _ _).alloc (Nat.le_refl _) _).alloc (by simp) _⟩
 have:=heap_alloc_new (w.alloc (Obj.cells #[Value.slice (some ⟨w.heap.size+1,0,none⟩) 3 3,fnV 187,fnV 188,fnV 189,fnV 190,fnV 191,fnV 192] 215)) (Obj.cells #[.int .u8 0,fnV 181,fnV 182,.int .u8 1,fnV 183,fnV 184,.int .u8 2,fnV 185,fnV 186] 274)
 simpa [NumW] using this
theorem Ca (w:World) :
  Calls Tryz.prog 127 #[] w fun e w'=>∃ g,e=.returned (txtC g)∧g < w'.heap.size∧TxtW w' g∧Below w.heap.size w w':=by
 go_enter Tryz.func127,Tryz.ntmps127
 go_wp2
 refine bodyPost_ret (v:=txtC (w.heap.size+1)) (by simp [results,Tryz.results127,go_sem]) rfl ⟨w.heap.size+1,rfl,by simp,?_,((Below.refl _ _).alloc (Nat.le_refl _) _).alloc (by simp) _⟩
 have:=heap_alloc_new (w.alloc (Obj.cells #[Value.slice (some ⟨w.heap.size+1,0,none⟩) 3 3,fnV 202,fnV 203,fnV 204,fnV 205,fnV 206,fnV 207] 225)) (Obj.cells #[.int .u8 0,fnV 196,fnV 197,.int .u8 3,fnV 198,fnV 199,.int .u8 4,fnV 200,fnV 201] 281)
 simpa [TxtW] using this
structure Small (l:List CellB):Prop where
 small:∀ c ∈ l,qw c
 few:l.length≤60
 some_:l≠[]
structure IntsLie (w:World) (b:Nat) (l:List CellB):Prop where
 lt:b < w.heap.size
 cell:∀ j (h:j < l.length),w.cell? ⟨b,j,none⟩=some (.int .i64 (l[j]).int)
structure TextsLie (w:World) (b:Nat) (l:List CellB):Prop where
 lt:b < w.heap.size
 cell:∀ j (h:j < l.length),w.cell? ⟨b,j,none⟩=some (strB (l[j]).text)
theorem IntsLie.later {w w':World} {b:Nat} {l:List CellB} (h:IntsLie w b l) (hb:Below w.heap.size w w'):IntsLie w' b l :=
 ⟨Nat.lt_of_lt_of_le h.lt hb.size,fun j hj=>(hb.cell (p:=⟨b,j,none⟩) h.lt).trans (h.cell j hj)⟩
theorem TextsLie.later {w w':World} {b:Nat} {l:List CellB} (h:TextsLie w b l) (hb:Below w.heap.size w w'):TextsLie w' b l :=
 ⟨Nat.lt_of_lt_of_le h.lt hb.size,fun j hj=>(hb.cell (p:=⟨b,j,none⟩) h.lt).trans (h.cell j hj)⟩
theorem zV (w:World) (C:Array Value) (t:TypeId):Below w.heap.size w (w.alloc (.cells C t))∧(w.alloc (.cells C t)).heap.size=w.heap.size+1∧∀ j,(w.alloc (.cells C t)).cell? ⟨w.heap.size,j,none⟩=C[j]? :=
 ⟨(Below.refl _ _).alloc (Nat.le_refl _) _,by simp,fun j=>World.cell?_alloc_mark ..⟩
end
end Go.Proofs.YthhpbhpfagoapaaGreat
