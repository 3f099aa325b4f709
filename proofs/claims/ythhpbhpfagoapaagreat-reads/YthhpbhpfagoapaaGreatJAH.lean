import Derived.Test.YthhpbhpfagoapaaGreatJAA
import Derived.Test.YthhpbhpfagoapaaGreatJAF
import Derived.Laws.EntriesVeiled
import Derived.Deep.AppendLies
import Derived.Deep.RegionHeld3
import Derived.Test.YthhpbhpfagoapaaGreatJAO
namespace Go.Proofs.YthhpbhpfagoapaaGreat
set_option linter.unusedVariables false
set_option linter.unusedSimpArgs false
set_option maxRecDepth 100000
set_option maxHeartbeats 16000000
open Go.RowKit
section
theorem Tryz.infoStr:(Tryz.prog.info? 9).map (fun i=>(i.zero,i.size,i.bytes))=some (some (.string ⟨#[]⟩),1,16):=by kernel_rfl
theorem jL {W W':World} {base e size n:Nat} {v:Value} {xs:List Value} (h:W.ownsRow base e size v n xs) (hb:Below W.heap.size W W'):W'.ownsRow base e size v n xs :=
 h.kept (EI hb) (Classical.em _)
theorem Gn (a b:List (List UInt8)):zJ (a++b)=zJ a++zJ b:=by simp [zJ]
theorem XD {w wr w2:World} {v v2:Value} {n k:Nat} {ps qs:List (List UInt8)} (o:Obj) (hk:k=n+qs.length) (hB:Below w.heap.size w wr) (hown:wr.ownsRow w.heap.size 9 1 v n (zJ ps))
  (h2:w2.ownsRow w.heap.size 9 1 v2 k (zJ ps++zJ qs)) (hg:(wr.alloc o).grownBy w2 v.ownBlock) :
  w2.ownsRow w.heap.size 9 1 v2 k (zJ (ps++qs))∧Below w.heap.size w w2:=by
 rw [Gn]
 exact ⟨h2,(hB.alloc hB.size o).grown hg (by have:=hB.size;simp;omega) (fun k hk=>(hown.lt k hk).1)⟩
theorem Iz (n:Int) (m:Nat) (w:World) (h:n=(m:Int)) (hn:m≤9223372036854775807) :
  Calls Tryz.prog 241 #[.int .i64 n] w fun e w'=>e=.returned (strB (uB m))∧Below w.heap.size w w':=by
 subst h
 exact Jp m w hn
theorem PI (s:List UInt8) (k:Nat):(⟨s.toArray⟩:ByteArray).extract k s.length=⟨(s.drop k).toArray⟩:=by
 rw [ByteArray.extract_mk]
 congr 1
 simp [aC]
def Sd:Value→Nat
 | .bool true=>0
 | _=>1
theorem Ut {w w1 w2 w3 w4:World} (hb1:Below w.heap.size w w1) (hb2:Below w1.drew.heap.size w1.drew w2) (hb3:Below w2.heap.size w2 w3) (hb4:Below w3.heap.size w3 w4):Below w.heap.size w w4:=by
 have h2:Below w1.heap.size w1 w2:=ji hb2
 have h12:=hb1.trans (h2.mono hb1.size)
 have h13:=h12.trans (hb3.mono h12.size)
 exact h13.trans (hb4.mono h13.size)
theorem Eh (s t:List UInt8) (w:World) (h1:s.length≤12) (h2:t.length≤12) :
  Calls Tryz.prog 206 #[strB s,strB t] w fun e w'=>e=.returned (strB (uB (jN s t)++xB (t.drop (jN s t))))∧Below w.heap.size w w':=by
 have hs:=jR s
 have ht:=jR t
 obtain ⟨hle1,hle2⟩:=Jh s t
 go_enter Tryz.func206,Tryz.ntmps206
 go_wp2_with fail
 refine (DF s t _ h1 h2).mono ?_
 rintro e w1 ⟨rfl,hb1⟩
 generalize hsh:jN s t=sh at *
 have Hsh:=hid hsh
 clear hsh
 have hd:=PI t sh
 have hx:(xB (t.drop sh)).length≤22:=UI _ (by rw [an];omega)
 have hu:=jM sh (by omega)
 go_wp2_with fail
 go_region_with (first
  | (go_at_call 241;refine (Jp sh _ (by omega)).mono ?_;rintro e w2 ⟨rfl,hb2⟩)
  | (go_at_call 204;refine (Rh (t.drop sh) _ (by rw [an];omega)).mono ?_;rintro e w3 ⟨rfl,hb3⟩)
  | (go_at_call 194;refine (Zb [uB sh,xB (t.drop sh)] _ 2 _ rfl rfl (by decide) (by simp;omega)).mono ?_;rintro e w4 ⟨rfl,hb4⟩))
 all_goals
  go_wp2
  go_ret
  exact ⟨qC (by rw [Hsh.out]),Ut hb1 hb2 hb3 hb4⟩
theorem UX (a:Option Addr) (cap:Nat) (l:List CellB) (w:World) (hn:l.length≤60) (hl:Lies w a l) :
  Calls Tryz.prog 193 #[.slice a l.length cap] w fun e w'=>e=.returned (strB (zC l))∧Below w.heap.size w w':=by
 obtain ⟨i0,hi,hz0,hz1,hz2⟩:=info_parts Tryz.infoStr
 have Hl:=hid hl
 have hni:(l.length:Int)≤60:=by omega
 have hlen:=XC l hn
 clear hl
 go_enter Tryz.func193,Tryz.ntmps193
 go_wp2_with fail
 refine (Jp l.length _ (by omega)).mono ?_
 rintro e w1 ⟨rfl,hb1⟩
 go_wp2_with fail
 go_loopw [3,4,5] (fun v b i wr=>∃ (ps:List (List UInt8)) (nb:Bool) (k:Nat),b=.bool nb∧i=.int .i64 (k:Int)∧k≤l.length∧wr.ownsRow w.heap.size 9 1 v ps.length (zJ ps)∧ps≠[]∧ps.flatten++qV nb (l.drop k)=zC l∧((k=0∧nb=false∧ps.length=1)∨((∀ h:k < l.length,(l[k]).null=nb)∧ps.length≤k+2))∧Below w.heap.size w wr)
  (fun _ b i _=>2*(l.length - (intOf i).toNat)+Sd b)
 case atStart =>
  exact ⟨[uB l.length],false,0,rfl,rfl,ah _,⟨by simp [zJ],.inr ⟨w1.heap.size,1,_,rfl,hb1.size,heap_alloc_new w1 _,ae _,by decide,rfl,rfl⟩⟩,by simp,by simp [zC],.inl ⟨rfl,rfl,rfl⟩,hb1.alloc hb1.size _⟩
 case round =>
  clear hb1
  obtain ⟨ps,nb,k,rfl,rfl,hkl,hown,hps,hfl,hinv,hB⟩:=hrel
  have Hps:=hid hps
  have Hfl:=hid hfl
  clear hps
  have hfl2:ps.flatten.length≤1000:=by
   have:=aT List.length hfl
   rw [ab] at this
   omega
  clear hfl
  have hpl:ps.length≤k+2:=by rcases hinv with ⟨h,_,h2⟩|⟨_,h2⟩<;>omega
  have Hinv:=hid hinv
  clear hinv
  by_cases hlt:k < l.length
  ·have hrl:=Ki nb (l.drop k)
   rw [an] at hrl
   have HRL:=hid (Np nb (l.drop k))
   have HRE:=hid (RC nb (l.drop k))
   have HST:Hid (qV nb (l.drop k)=uB (rowB nb (l.drop k))++qV (!nb) (l.drop (k+rowB nb (l.drop k)))):=by
    show qV nb (l.drop k)=_
    rw [Xf nb (l.drop k) (by simp;omega),bz]
   generalize rowB nb (l.drop k)=r at *
   have hki:(k:Int) < (l.length:Int):=by omega
   obtain ⟨b,off,rfl,hbw,hcell⟩:=(Hl.out.later hB).at_ (ai (by omega))
   have Hcell:=hid hcell
   clear hcell
   go_wp2_with fail
   go_loopw [6] (fun i wi=>∃ m:Nat,m≤r∧i=.int .i64 ((k+m:Nat):Int)∧wi=wr) (fun i _=>100 - (intOf i).toNat)
   case atStart=>exact ⟨0,ah _,rfl,rfl⟩
   case round =>
    obtain ⟨m,hm,rfl,rfl⟩:=hrel
    by_cases hmr:m < r
    ·have hkm:k+m < l.length:=by omega
     obtain ⟨g1,_,_⟩:=Hcell.out (k+m) hkm
     have hnb:(l[k+m]).null=nb:=by
      obtain ⟨_,h2⟩:=HRL.out m hmr
      rw [aZ] at h2
      exact h2
     rw [hnb] at g1
     have hkmi:((k+m:Nat):Int) < (l.length:Int):=by omega
     generalize hkm2:k+m=q at *
     have Hkm2:=hid hkm2
     clear hkm2 hnb
     go_wp2
     go_roundw
     case rel=>exact ⟨m+1,by omega,by rw [← bI,Hkm2.out];go_num,trivial⟩
     case measure=>simp [intOf];omega
    ·have hmr2:m=r:=by omega
     subst hmr2
     go_upto_region 7 with fail
     go_cut [30] (fun t wd=>t=.bool false∧wd=wr)
     case first =>
      by_cases hend:k+m < l.length
      ·obtain ⟨g1,_,_⟩:=Hcell.out (k+m) hend
       have hnb:(l[k+m]).null=!nb:=by
        have h2:=HRE.out (by rw [an];omega)
        rw [aZ] at h2
        exact h2
       rw [hnb] at g1
       have hkmi:((k+m:Nat):Int) < (l.length:Int):=by omega
       generalize k+m=q at *
       have hbb:((!nb) == nb)=false:=by cases nb<;>rfl
       go_wp2
       go_meet
       case rel=>exact ⟨rfl,rfl⟩
      ·have hkmi:decide (((k+m:Nat):Int) < (l.length:Int))=false:=by simp;omega
       generalize k+m=q at *
       go_wp2
       go_meet
       case rel=>exact ⟨rfl,rfl⟩
     case rest =>
      obtain ⟨rfl,rfl⟩:=hcut
      go_wp2_with fail
      refine (Iz _ m _ (by omega) (by omega)).mono ?_
      rintro e w2 ⟨rfl,hb2⟩
      have hown2:=jL hown hb2
      have hB2:=hB.trans (hb2.mono hB.size)
      have hu:=jM m (by omega)
      clear hown hb2 hB
      have HX:Hid (ps.flatten++uB m++qV (!nb) (l.drop (k+m))=zC l):=by
       show _=_
       rw [← Hfl.out,HST.out,af]
      go_wp2_with (at_builtin;refine wpList_append_own _ rfl (.tmp 33) (.tmp 38) 71 rfl w.heap.size 9 i0 (.string ⟨#[]⟩) 1 16 Tryz.underlying71 hi hz0 hz1 hz2 rfl (by decide) _ _ _ rfl (hown2.alloc _) ⟨_,0,none⟩ 1 1 [strB (uB m)] rfl rfl ?c1 ?c2 ?c3 ?c4 ?c5 ?_)
      case c1=>exact qq w2 #[strB (uB m)] 9
      case c2=>intro u hu;simp at hu;subst hu;rfl
      case c3=>unfold maxLen;omega
      case c4=>omega
      case c5=>have:=hB2.size;simp;omega
      intro v3 w3 hown3 hgr3 _
      have HR:=hid (XD (qs:=[uB m]) _ rfl hB2 hown2 hown3 hgr3)
      clear hown2 hown3 hgr3 hB2
      go_wp2
      go_roundw
      case rel =>
       refine ⟨ps++[uB m],!nb,k+m,rfl,rfl,by omega,by simpa using HR.out.1,by simp,?_,.inr ⟨?_,?_⟩,HR.out.2⟩
       ·rw [bM];simpa using HX.out
       ·intro h
        have h2:=HRE.out (by rw [an];omega)
        rw [aZ] at h2
        exact h2
       ·rcases Hinv.out with ⟨h,h1,h2⟩|⟨h1,h2⟩
        ·simp;omega
        ·have:0 < m:=by
          rcases cQ m with h0|h0
          ·subst h0
           have h3:=HRE.out (by rw [an];omega)
           rw [aZ] at h3
           have h4:=h1 hlt
           simp only [cP] at h3
           rw [h4] at h3
           cases nb<;>simp at h3
          ·exact h0
         simp;omega
      case measure =>
       rcases cQ m with h0|h0
       ·subst h0
        have hnbf:nb=false:=by
         rcases Hinv.out with ⟨h,h1,h2⟩|⟨h1,h2⟩
         ·exact h1
         ·exfalso
          have h3:=HRE.out (by rw [an];omega)
          rw [aZ] at h3
          have h4:=h1 hlt
          simp only [cP] at h3
          rw [h4] at h3
          cases nb<;>simp at h3
        subst hnbf
        simp [intOf,Sd]
       ·cases nb<;>simp [intOf,Sd]<;>omega
  ·have hke:k=l.length:=by omega
   subst hke
   have HF:Hid (ps.flatten=zC l):=by
    show ps.flatten=zC l
    have:=Hfl.out
    rw [List.drop_length] at this
    simpa [qV] using this
   have hki:decide ((l.length:Int) < (l.length:Int))=false:=by simp
   go_wp2_with fail
   refine (XT ps w.heap.size ps.length _ _ hown Hps.out (by omega) (by omega)).mono ?_
   rintro e w2 ⟨rfl,hb2⟩
   go_wp2
   go_ret
   exact ⟨qC HF.out,hB.trans (hb2.mono hB.size)⟩
end
section
abbrev fnV (k:Nat):Value:=.func (.func k) #[] #[]
abbrev numC (g:Nat):Value:=.agg #[.slice (some ⟨g,0,none⟩) 3 3,fnV 187,fnV 188,fnV 189,fnV 190,fnV 191,fnV 192]
abbrev txtC (g:Nat):Value:=.agg #[.slice (some ⟨g,0,none⟩) 3 3,fnV 202,fnV 203,fnV 204,fnV 205,fnV 206,fnV 207]
def NumW (w:World) (g:Nat):Prop:=w.heap[g]?=some (.cells #[.int .u8 0,fnV 181,fnV 182,.int .u8 1,fnV 183,fnV 184,.int .u8 2,fnV 185,fnV 186] 274 (0,0))
def TxtW (w:World) (g:Nat):Prop:=w.heap[g]?=some (.cells #[.int .u8 0,fnV 196,fnV 197,.int .u8 3,fnV 198,fnV 199,.int .u8 4,fnV 200,fnV 201] 281 (0,0))
theorem NumW.later {w w':World} {g:Nat} (h:NumW w g) (hg:g < w.heap.size) (hb:Below w.heap.size w w'):NumW w' g:=(hb.block g hg).trans h
theorem TxtW.later {w w':World} {g:Nat} (h:TxtW w g) (hg:g < w.heap.size) (hb:Below w.heap.size w w'):TxtW w' g:=(hb.block g hg).trans h
theorem Ir (w:World) :
  Calls Tryz.prog 125 #[] w fun e w'=>∃ g,e=.returned (numC g)∧g < w'.heap.size∧NumW w' g∧Below w.heap.size w w':=by
 go_enter Tryz.func125,Tryz.ntmps125
 go_wp2
 refine bodyPost_ret (v:=numC (w.heap.size+1)) (by simp [results,Tryz.results125,go_sem]) rfl ⟨w.heap.size+1,rfl,by simp,?_,((Below.refl _ _).alloc (ae _) _).alloc (by simp) _⟩
 have:=heap_alloc_new (w.alloc (Obj.cells #[Value.slice (some ⟨w.heap.size+1,0,none⟩) 3 3,fnV 187,fnV 188,fnV 189,fnV 190,fnV 191,fnV 192] 215)) (Obj.cells #[.int .u8 0,fnV 181,fnV 182,.int .u8 1,fnV 183,fnV 184,.int .u8 2,fnV 185,fnV 186] 274)
 simpa [NumW] using this
theorem Tx (w:World) :
  Calls Tryz.prog 127 #[] w fun e w'=>∃ g,e=.returned (txtC g)∧g < w'.heap.size∧TxtW w' g∧Below w.heap.size w w':=by
 go_enter Tryz.func127,Tryz.ntmps127
 go_wp2
 refine bodyPost_ret (v:=txtC (w.heap.size+1)) (by simp [results,Tryz.results127,go_sem]) rfl ⟨w.heap.size+1,rfl,by simp,?_,((Below.refl _ _).alloc (ae _) _).alloc (by simp) _⟩
 have:=heap_alloc_new (w.alloc (Obj.cells #[Value.slice (some ⟨w.heap.size+1,0,none⟩) 3 3,fnV 202,fnV 203,fnV 204,fnV 205,fnV 206,fnV 207] 225)) (Obj.cells #[.int .u8 0,fnV 196,fnV 197,.int .u8 3,fnV 198,fnV 199,.int .u8 4,fnV 200,fnV 201] 281)
 simpa [TxtW] using this
structure Small (l:List CellB):Prop where
 small:∀ c ∈ l,qr c
 few:l.length≤60
 some_:l≠[]
structure IntsLie (w:World) (b:Nat) (l:List CellB):Prop where
 lt:b < w.heap.size
 cell:∀ j (h:j < l.length),w.cell? ⟨b,j,none⟩=some (.int .i64 (l[j]).int)
structure TextsLie (w:World) (b:Nat) (l:List CellB):Prop where
 lt:b < w.heap.size
 cell:∀ j (h:j < l.length),w.cell? ⟨b,j,none⟩=some (strB (l[j]).text)
theorem IntsLie.later {w w':World} {b:Nat} {l:List CellB} (h:IntsLie w b l) (hb:Below w.heap.size w w'):IntsLie w' b l :=
 ⟨aa h.lt hb.size,fun j hj=>(hb.cell (p:=⟨b,j,none⟩) h.lt).trans (h.cell j hj)⟩
theorem TextsLie.later {w w':World} {b:Nat} {l:List CellB} (h:TextsLie w b l) (hb:Below w.heap.size w w'):TextsLie w' b l :=
 ⟨aa h.lt hb.size,fun j hj=>(hb.cell (p:=⟨b,j,none⟩) h.lt).trans (h.cell j hj)⟩
theorem Jd (w:World) (C:Array Value) (t:TypeId):Below w.heap.size w (w.alloc (.cells C t))∧(w.alloc (.cells C t)).heap.size=w.heap.size+1∧∀ j,(w.alloc (.cells C t)).cell? ⟨w.heap.size,j,none⟩=C[j]? :=
 ⟨(Below.refl _ _).alloc (ae _) _,by simp,fun j=>World.cell?_alloc_mark ..⟩
end
section
theorem ZS (s t:List UInt8):jN s t=jN t s:=by
 induction s generalizing t with
 | nil=>cases t<;>rfl
 | cons a s ih =>
  cases t with
  | nil=>rfl
  | cons b t =>
   simp only [jN]
   rw [ih t]
   by_cases h:a=b
   ·simp [h]
   ·rw [aj h,aj (fun h2=>h h2.symm)]
theorem Hb (g b cap:Nat) (l:List CellB) (w:World) (hs:Small l) (hl:IntsLie w b l) :
  Calls Tryz.prog 181 #[numC g,.slice (some ⟨b,0,none⟩) l.length cap] w fun e w'=>e=.returned (strB (qy 0 l))∧Below w.heap.size w w':=by
 obtain ⟨i0,hi,hz0,hz1,hz2⟩:=info_parts Tryz.infoStr
 have Hs:=hid hs
 have Hl:=hid hl
 have hn:=hs.few
 clear hs hl
 go_enter Tryz.func181,Tryz.ntmps181
 go_wp2
 obtain ⟨hb0,hs0,hc0⟩:=Jd w #[.slice (some ⟨g,0,none⟩) 3 3,fnV 187,fnV 188,fnV 189,fnV 190,fnV 191,fnV 192] 215
 have hc:_=some (fnV 189):=hc0 3
 have Hl0:=hid (Hl.out.later hb0)
 have Hb0:=hid hb0
 have Hc:=hid hc
 have hs1:=aI (aL w.heap.size) hs0.symm
 clear hc0 hc hb0 hs0
 generalize w.alloc _=w0 at *
 go_loopw [5,10] (fun v i wr=>∃ (ps:List (List UInt8)) (k:Nat),k≤l.length∧i=.int .i64 (k:Int)∧ps.length=k∧wr.ownsRow w0.heap.size 9 1 v k (zJ ps)∧ps.flatten=js 0 l k∧Below w0.heap.size w0 wr)
  (fun _ i _=>l.length - (intOf i).toNat)
 case atStart=>exact ⟨[],0,ah _,rfl,rfl,World.ownsRow_nil _ _ _ _,rfl,Below.refl _ _⟩
 case round =>
  obtain ⟨ps,k,hkl,rfl,hpl,hown,hfl,hB⟩:=hrel
  have Hfl:=hid hfl
  clear hfl
  have hst:=xj 0 l Hs.out.small hn k
  by_cases hlt:k < l.length
  ·have hck:=(Hl0.out.later hB).cell k hlt
   have hcf:=(hB.cell (p:=⟨w.heap.size,3,none⟩) hs1).trans Hc.out
   have hsm:=Hs.out.small l[k] (al hlt)
   have HT:Hid (qN 0 l k=bB (l[k]).int):=by
    show qN 0 l k=_
    simp only [qN,qg l k hlt]
   go_wp2_with fail
   refine (TJ (l[k]).int _ hsm.1 hsm.2.1).mono ?_
   rintro e w2 ⟨rfl,hb2⟩
   have hown2:=jL hown hb2
   have hB2:=hB.trans (hb2.mono hB.size)
   clear hown hb2 hB hck hcf
   generalize bB (l[k]).int=q at *
   go_wp2_with (at_builtin;refine wpList_append_own _ rfl (.tmp 14) (.tmp 19) 71 rfl w0.heap.size 9 i0 (.string ⟨#[]⟩) 1 16 Tryz.underlying71 hi hz0 hz1 hz2 rfl (by decide) _ _ _ rfl (hown2.alloc _) ⟨_,0,none⟩ 1 1 [strB q] rfl rfl ?c1 ?c2 ?c3 ?c4 ?c5 ?_)
   case c1=>exact qq w2 #[strB q] 9
   case c2=>intro u hu;simp at hu;subst hu;rfl
   case c3=>unfold maxLen;omega
   case c4=>omega
   case c5=>have:=hB2.size;simp;omega
   intro v3 w3 hown3 hgr3 _
   have HR:=hid (XD (qs:=[q]) _ rfl hB2 hown2 hown3 hgr3)
   clear hown2 hown3 hgr3 hB2
   go_wp2
   go_roundw
   case rel=>exact ⟨ps++[q],k+1,by omega,by go_num,by simp;omega,HR.out.1,by rw [bM,Hfl.out,js,HT.out];simp,HR.out.2⟩
   case measure=>simp [intOf];omega
  ·have hke:k=l.length:=by omega
   subst hke
   have hps:ps≠[]:=by
    intro h
    subst h
    exact Hs.out.some_ (ao hpl.symm)
   have HF:Hid (ps.flatten=qy 0 l):=by
    show ps.flatten=qy 0 l
    rw [Hfl.out];simp [qy]
   have hfl2:ps.flatten.length≤1000000:=by rw [Hfl.out];omega
   have Hps:=hid hps
   clear hps
   go_wp2_with fail
   refine (XT ps w0.heap.size l.length _ _ hown Hps.out (by omega) hfl2).mono ?_
   rintro e w2 ⟨rfl,hb2⟩
   go_wp2
   go_ret
   have hz:=Hb0.out.size
   have hBB:=Hb0.out.trans (hB.mono hz)
   exact ⟨qC HF.out,hBB.trans (hb2.mono hBB.size)⟩
theorem LJ (g b cap:Nat) (l:List CellB) (w:World) (hs:Small l) (hl:TextsLie w b l) :
  Calls Tryz.prog 196 #[txtC g,.slice (some ⟨b,0,none⟩) l.length cap] w fun e w'=>e=.returned (strB (qy 5 l))∧Below w.heap.size w w':=by
 obtain ⟨i0,hi,hz0,hz1,hz2⟩:=info_parts Tryz.infoStr
 have Hs:=hid hs
 have Hl:=hid hl
 have hn:=hs.few
 clear hs hl
 go_enter Tryz.func196,Tryz.ntmps196
 go_wp2
 obtain ⟨hb0,hs0,hc0⟩:=Jd w #[.slice (some ⟨g,0,none⟩) 3 3,fnV 202,fnV 203,fnV 204,fnV 205,fnV 206,fnV 207] 225
 have hc:_=some (fnV 204):=hc0 3
 have Hl0:=hid (Hl.out.later hb0)
 have Hb0:=hid hb0
 have Hc:=hid hc
 have hs1:=aI (aL w.heap.size) hs0.symm
 clear hc0 hc hb0 hs0
 generalize w.alloc _=w0 at *
 go_loopw [5,10] (fun v i wr=>∃ (ps:List (List UInt8)) (k:Nat),k≤l.length∧i=.int .i64 (k:Int)∧ps.length=k∧wr.ownsRow w0.heap.size 9 1 v k (zJ ps)∧ps.flatten=js 5 l k∧Below w0.heap.size w0 wr)
  (fun _ i _=>l.length - (intOf i).toNat)
 case atStart=>exact ⟨[],0,ah _,rfl,rfl,World.ownsRow_nil _ _ _ _,rfl,Below.refl _ _⟩
 case round =>
  obtain ⟨ps,k,hkl,rfl,hpl,hown,hfl,hB⟩:=hrel
  have Hfl:=hid hfl
  clear hfl
  have hst:=xj 5 l Hs.out.small hn k
  by_cases hlt:k < l.length
  ·have hck:=(Hl0.out.later hB).cell k hlt
   have hcf:=(hB.cell (p:=⟨w.heap.size,3,none⟩) hs1).trans Hc.out
   have hsm:=Hs.out.small l[k] (al hlt)
   have HT:Hid (qN 5 l k=xB (l[k]).text):=by
    show qN 5 l k=_
    simp only [qN,qg l k hlt]
   go_wp2_with fail
   refine (Rh (l[k]).text _ (by have:=hsm.2.2;omega)).mono ?_
   rintro e w2 ⟨rfl,hb2⟩
   have hown2:=jL hown hb2
   have hB2:=hB.trans (hb2.mono hB.size)
   clear hown hb2 hB hck hcf
   generalize xB (l[k]).text=q at *
   go_wp2_with (at_builtin;refine wpList_append_own _ rfl (.tmp 14) (.tmp 19) 71 rfl w0.heap.size 9 i0 (.string ⟨#[]⟩) 1 16 Tryz.underlying71 hi hz0 hz1 hz2 rfl (by decide) _ _ _ rfl (hown2.alloc _) ⟨_,0,none⟩ 1 1 [strB q] rfl rfl ?c1 ?c2 ?c3 ?c4 ?c5 ?_)
   case c1=>exact qq w2 #[strB q] 9
   case c2=>intro u hu;simp at hu;subst hu;rfl
   case c3=>unfold maxLen;omega
   case c4=>omega
   case c5=>have:=hB2.size;simp;omega
   intro v3 w3 hown3 hgr3 _
   have HR:=hid (XD (qs:=[q]) _ rfl hB2 hown2 hown3 hgr3)
   clear hown2 hown3 hgr3 hB2
   go_wp2
   go_roundw
   case rel=>exact ⟨ps++[q],k+1,by omega,by go_num,by simp;omega,HR.out.1,by rw [bM,Hfl.out,js,HT.out];simp,HR.out.2⟩
   case measure=>simp [intOf];omega
  ·have hke:k=l.length:=by omega
   subst hke
   have hps:ps≠[]:=by
    intro h
    subst h
    exact Hs.out.some_ (ao hpl.symm)
   have HF:Hid (ps.flatten=qy 5 l):=by
    show ps.flatten=qy 5 l
    rw [Hfl.out];simp [qy]
   have hfl2:ps.flatten.length≤1000000:=by rw [Hfl.out];omega
   have Hps:=hid hps
   clear hps
   go_wp2_with fail
   refine (XT ps w0.heap.size l.length _ _ hown Hps.out (by omega) hfl2).mono ?_
   rintro e w2 ⟨rfl,hb2⟩
   go_wp2
   go_ret
   have hz:=Hb0.out.size
   have hBB:=Hb0.out.trans (hB.mono hz)
   exact ⟨qC HF.out,hBB.trans (hb2.mono hBB.size)⟩
theorem Bt (g b cap:Nat) (l:List CellB) (w:World) (hs:Small l) (hl:IntsLie w b l) :
  Calls Tryz.prog 183 #[numC g,.slice (some ⟨b,0,none⟩) l.length cap] w fun e w'=>e=.returned (strB (qy 1 l))∧Below w.heap.size w w':=by
 obtain ⟨i0,hi,hz0,hz1,hz2⟩:=info_parts Tryz.infoStr
 have Hs:=hid hs
 have Hl:=hid hl
 have hn:=hs.few
 clear hs hl
 go_enter Tryz.func183,Tryz.ntmps183
 go_wp2
 obtain ⟨hb0,hs0,hc0⟩:=Jd w #[.slice (some ⟨g,0,none⟩) 3 3,fnV 187,fnV 188,fnV 189,fnV 190,fnV 191,fnV 192] 215
 have hc:_=some (fnV 191):=hc0 5
 have Hl0:=hid (Hl.out.later hb0)
 have Hb0:=hid hb0
 have Hc:=hid hc
 have hs1:=aI (aL w.heap.size) hs0.symm
 clear hc0 hc hb0 hs0
 generalize w.alloc _=w0 at *
 go_loopw [5,6,11] (fun v u i wr=>∃ (ps:List (List UInt8)) (k:Nat),k≤l.length∧i=.int .i64 (k:Int)∧u=.int .i64 (jX l k).int∧ps.length=k∧wr.ownsRow w0.heap.size 9 1 v k (zJ ps)∧ps.flatten=js 1 l k∧Below w0.heap.size w0 wr)
  (fun _ _ i _=>l.length - (intOf i).toNat)
 case atStart=>exact ⟨[],0,ah _,rfl,rfl,rfl,World.ownsRow_nil _ _ _ _,rfl,Below.refl _ _⟩
 case round =>
  obtain ⟨ps,k,hkl,rfl,rfl,hpl,hown,hfl,hB⟩:=hrel
  have Hfl:=hid hfl
  clear hfl
  have hst:=xj 1 l Hs.out.small hn k
  by_cases hlt:k < l.length
  ·have hck:=(Hl0.out.later hB).cell k hlt
   have hcf:=(hB.cell (p:=⟨w.heap.size,5,none⟩) hs1).trans Hc.out
   have hsm:=Hs.out.small l[k] (al hlt)
   have hpr:=Jl l Hs.out.small k
   have HP:Hid (jX l (k+1)=l[k]):=by
    show jX l (k+1)=l[k]
    unfold jX
    rw [aj (by omega)]
    exact qg l k hlt
   have HT:Hid (qN 1 l k=zB (wrap64 ((l[k]).int - (jX l k).int))):=by
    show qN 1 l k=_
    simp only [qN,qg l k hlt]
   go_wp2_with fail
   refine (GO (jX l k).int (l[k]).int _ hpr.1 hpr.2.1 hsm.1 hsm.2.1).mono ?_
   rintro e w2 ⟨rfl,hb2⟩
   have hown2:=jL hown hb2
   have hB2:=hB.trans (hb2.mono hB.size)
   clear hown hb2 hB hck hcf
   generalize zB (wrap64 ((l[k]).int - (jX l k).int))=q at *
   go_wp2_with (at_builtin;refine wpList_append_own _ rfl (.tmp 15) (.tmp 21) 71 rfl w0.heap.size 9 i0 (.string ⟨#[]⟩) 1 16 Tryz.underlying71 hi hz0 hz1 hz2 rfl (by decide) _ _ _ rfl (hown2.alloc _) ⟨_,0,none⟩ 1 1 [strB q] rfl rfl ?c1 ?c2 ?c3 ?c4 ?c5 ?_)
   case c1=>exact qq w2 #[strB q] 9
   case c2=>intro u hu;simp at hu;subst hu;rfl
   case c3=>unfold maxLen;omega
   case c4=>omega
   case c5=>have:=hB2.size;simp;omega
   intro v3 w3 hown3 hgr3 _
   have HR:=hid (XD (qs:=[q]) _ rfl hB2 hown2 hown3 hgr3)
   clear hown2 hown3 hgr3 hB2
   go_wp2
   go_roundw
   case rel=>exact ⟨ps++[q],k+1,by omega,by go_num,by rw [HP.out],by simp;omega,HR.out.1,by rw [bM,Hfl.out,js,HT.out];simp,HR.out.2⟩
   case measure=>simp [intOf];omega
  ·have hke:k=l.length:=by omega
   subst hke
   have hps:ps≠[]:=by
    intro h
    subst h
    exact Hs.out.some_ (ao hpl.symm)
   have HF:Hid (ps.flatten=qy 1 l):=by
    show ps.flatten=qy 1 l
    rw [Hfl.out];simp [qy]
   have hfl2:ps.flatten.length≤1000000:=by rw [Hfl.out];omega
   have Hps:=hid hps
   clear hps
   go_wp2_with fail
   refine (XT ps w0.heap.size l.length _ _ hown Hps.out (by omega) hfl2).mono ?_
   rintro e w2 ⟨rfl,hb2⟩
   go_wp2
   go_ret
   have hz:=Hb0.out.size
   have hBB:=Hb0.out.trans (hB.mono hz)
   exact ⟨qC HF.out,hBB.trans (hb2.mono hBB.size)⟩
theorem Bv (g b cap:Nat) (l:List CellB) (w:World) (hs:Small l) (hl:TextsLie w b l) :
  Calls Tryz.prog 200 #[txtC g,.slice (some ⟨b,0,none⟩) l.length cap] w fun e w'=>e=.returned (strB (qy 4 l))∧Below w.heap.size w w':=by
 obtain ⟨i0,hi,hz0,hz1,hz2⟩:=info_parts Tryz.infoStr
 have Hs:=hid hs
 have Hl:=hid hl
 have hn:=hs.few
 clear hs hl
 go_enter Tryz.func200,Tryz.ntmps200
 go_wp2
 obtain ⟨hb0,hs0,hc0⟩:=Jd w #[.slice (some ⟨g,0,none⟩) 3 3,fnV 202,fnV 203,fnV 204,fnV 205,fnV 206,fnV 207] 225
 have hc:_=some (fnV 206):=hc0 5
 have Hl0:=hid (Hl.out.later hb0)
 have Hb0:=hid hb0
 have Hc:=hid hc
 have hs1:=aI (aL w.heap.size) hs0.symm
 clear hc0 hc hb0 hs0
 generalize w.alloc _=w0 at *
 go_loopw [5,6,11] (fun v u i wr=>∃ (ps:List (List UInt8)) (k:Nat),k≤l.length∧i=.int .i64 (k:Int)∧u=strB (jX l k).text∧ps.length=k∧wr.ownsRow w0.heap.size 9 1 v k (zJ ps)∧ps.flatten=js 4 l k∧Below w0.heap.size w0 wr)
  (fun _ _ i _=>l.length - (intOf i).toNat)
 case atStart=>exact ⟨[],0,ah _,rfl,rfl,rfl,World.ownsRow_nil _ _ _ _,rfl,Below.refl _ _⟩
 case round =>
  obtain ⟨ps,k,hkl,rfl,rfl,hpl,hown,hfl,hB⟩:=hrel
  have Hfl:=hid hfl
  clear hfl
  have hst:=xj 4 l Hs.out.small hn k
  by_cases hlt:k < l.length
  ·have hck:=(Hl0.out.later hB).cell k hlt
   have hcf:=(hB.cell (p:=⟨w.heap.size,5,none⟩) hs1).trans Hc.out
   have hsm:=Hs.out.small l[k] (al hlt)
   have hpr:=Jl l Hs.out.small k
   have HP:Hid (jX l (k+1)=l[k]):=by
    show jX l (k+1)=l[k]
    unfold jX
    rw [aj (by omega)]
    exact qg l k hlt
   have HT:Hid (qN 4 l k=uB (jN (jX l k).text (l[k]).text)++xB ((l[k]).text.drop (jN (jX l k).text (l[k]).text))):=by
    show qN 4 l k=_
    simp only [qN,qg l k hlt,ZS (jX l k).text]
   go_wp2_with fail
   refine (Eh (jX l k).text (l[k]).text _ hpr.2.2 hsm.2.2).mono ?_
   rintro e w2 ⟨rfl,hb2⟩
   have hown2:=jL hown hb2
   have hB2:=hB.trans (hb2.mono hB.size)
   clear hown hb2 hB hck hcf
   generalize uB (jN (jX l k).text (l[k]).text)++xB ((l[k]).text.drop (jN (jX l k).text (l[k]).text))=q at *
   go_wp2_with (at_builtin;refine wpList_append_own _ rfl (.tmp 15) (.tmp 21) 71 rfl w0.heap.size 9 i0 (.string ⟨#[]⟩) 1 16 Tryz.underlying71 hi hz0 hz1 hz2 rfl (by decide) _ _ _ rfl (hown2.alloc _) ⟨_,0,none⟩ 1 1 [strB q] rfl rfl ?c1 ?c2 ?c3 ?c4 ?c5 ?_)
   case c1=>exact qq w2 #[strB q] 9
   case c2=>intro u hu;simp at hu;subst hu;rfl
   case c3=>unfold maxLen;omega
   case c4=>omega
   case c5=>have:=hB2.size;simp;omega
   intro v3 w3 hown3 hgr3 _
   have HR:=hid (XD (qs:=[q]) _ rfl hB2 hown2 hown3 hgr3)
   clear hown2 hown3 hgr3 hB2
   go_wp2
   go_roundw
   case rel=>exact ⟨ps++[q],k+1,by omega,by go_num,by rw [HP.out],by simp;omega,HR.out.1,by rw [bM,Hfl.out,js,HT.out];simp,HR.out.2⟩
   case measure=>simp [intOf];omega
  ·have hke:k=l.length:=by omega
   subst hke
   have hps:ps≠[]:=by
    intro h
    subst h
    exact Hs.out.some_ (ao hpl.symm)
   have HF:Hid (ps.flatten=qy 4 l):=by
    show ps.flatten=qy 4 l
    rw [Hfl.out];simp [qy]
   have hfl2:ps.flatten.length≤1000000:=by rw [Hfl.out];omega
   have Hps:=hid hps
   clear hps
   go_wp2_with fail
   refine (XT ps w0.heap.size l.length _ _ hown Hps.out (by omega) hfl2).mono ?_
   rintro e w2 ⟨rfl,hb2⟩
   go_wp2
   go_ret
   have hz:=Hb0.out.size
   have hBB:=Hb0.out.trans (hB.mono hz)
   exact ⟨qC HF.out,hBB.trans (hb2.mono hBB.size)⟩
end
section
def AH (l:List CellB) (k:Nat):Prop:=k=0∨l.length≤k∨(xX l k).int≠(jX l k).int
theorem Ni (l:List CellB) (k:Nat) (h:k < l.length):Jm (l[k]).int (l.drop k)=Jm (l[k]).int (l.drop (k+1))+1:=by
 rw [aN h]
 simp [Jm]
theorem Nt (l:List CellB) (k j:Nat) (h:k < l.length) (hj:j < Jm (l[k]).int (l.drop k)):(xX l (k+j)).int=(l[k]).int:=by
 obtain ⟨h1,h2⟩:=Nf _ _ j hj
 rw [aZ] at h2
 rw [an] at h1
 rw [qg l (k+j) (by omega)]
 exact h2
theorem Rb (l:List CellB) (k:Nat) (h:k < l.length) (hr:AH l k):∀ j,0 < j→j≤Jm (l[k]).int (l.drop k) →
  js 2 l (k+j)=js 2 l k++(uB (Jm (l[k]).int (l.drop k))++zB (l[k]).int):=by
 intro j
 induction j with
 | zero=>intro h0;omega
 | succ j ih =>
  intro _ hj
  rcases cQ j with h0|h0
  ·subst h0
   rw [bK,js]
   congr 1
   have:k=0∨(xX l k).int≠(jX l k).int:=by
    rcases hr with h1|h1|h1
    ·exact .inl h1
    ·omega
    ·exact .inr h1
   simp only [qN]
   rw [aw this,qg l k h,Ni l k h]
  ·have e1:=Nt l k j h (by omega)
   have e2:=Nt l k (j - 1) h (by omega)
   have e3:jX l (k+j)=xX l (k+(j - 1)):=by
    unfold jX
    rw [aj (by omega)]
    congr 1
    omega
   rw [← bI,js,ih h0 (by omega)]
   have:qN 2 l (k+j)=[]:=by
    simp only [qN]
    rw [aj]
    intro hc
    rcases hc with hc|hc
    ·omega
    ·apply hc;rw [e1,e3,e2]
   rw [this,aB]
theorem At (l:List CellB) (k:Nat) (h:k < l.length):AH l (k+Jm (l[k]).int (l.drop k)):=by
 by_cases hl:l.length≤k+Jm (l[k]).int (l.drop k)
 ·exact .inr (.inl hl)
 ·have h2:=Ve (l[k]).int (l.drop k) (by rw [an];omega)
  rw [aZ] at h2
  have hp:=Ni l k h
  have e2:=Nt l k (Jm (l[k]).int (l.drop k) - 1) h (by omega)
  refine .inr (.inr ?_)
  have e3:jX l (k+Jm (l[k]).int (l.drop k))=xX l (k+(Jm (l[k]).int (l.drop k) - 1)):=by
   unfold jX
   rw [aj (by omega)]
   congr 1
   omega
  rw [e3,e2,qg l _ (by omega)]
  exact h2
theorem VT (n:Int) (h0:-9223372036854775808≤n) (h1:n≤9223372036854775807):wrap64 (n - 0)=n:=by
 unfold wrap64;omega
theorem TY (v:Int) (w:World) (h2:-9223372036854775808≤v) (h3:v≤9223372036854775807) :
  Calls Tryz.prog 191 #[.int .i64 0,.int .i64 v] w fun e w'=>e=.returned (strB (zB v))∧Below w.heap.size w w':=by
 have:=GO 0 v w (by decide) (by decide) h2 h3
 rw [VT v h2 h3] at this
 exact this
theorem jc {w:World} {a:Addr} {v:Value} (o:Obj) (h:w.cell? a=some v):(w.alloc o).cell? a=some v:=by
 exact (World.cell?_alloc_lt w o a (aG w _ h)).trans h
theorem zm {w w':World} {u v:Value} {base e size n:Nat} {xs:List Value} {a:Addr} (hg:w.grownBy w' u.ownBlock) (ho:w.ownsRow base e size u n xs) (h:w.cell? a=some v) (hb:a.block < base):w'.cell? a=some v:=by
 have hne:some a.block≠u.ownBlock:=by
  intro he
  have:=(ho.lt a.block he.symm).1
  omega
 exact (hg.cell_far a (aG w _ h) hne).trans h
theorem BN (g b cap:Nat) (l:List CellB) (w:World) (hs:Small l) (hl:IntsLie w b l) :
  Calls Tryz.prog 185 #[numC g,.slice (some ⟨b,0,none⟩) l.length cap] w fun e w'=>e=.returned (strB (qy 2 l))∧Below w.heap.size w w':=by
 obtain ⟨i0,hi,hz0,hz1,hz2⟩:=info_parts Tryz.infoStr
 have Hs:=hid hs
 have Hl:=hid hl
 have hn:=hs.few
 clear hs hl
 go_enter Tryz.func185,Tryz.ntmps185
 go_wp2
 obtain ⟨hb0,hs0,hc0⟩:=Jd w #[.slice (some ⟨g,0,none⟩) 3 3,fnV 187,fnV 188,fnV 189,fnV 190,fnV 191,fnV 192] 215
 have hc:_=some (fnV 191):=hc0 5
 have Hl0:=hid (Hl.out.later hb0)
 have Hb0:=hid hb0
 have Hc:=hid hc
 have hs1:=aI (aL w.heap.size) hs0.symm
 clear hc0 hc hb0 hs0
 generalize w.alloc _=w0 at *
 go_loopw [5,7] (fun v i wr=>∃ (ps:List (List UInt8)) (k:Nat),k≤l.length∧i=.int .i64 (k:Int)∧ps.length≤2*k∧(0 < k→ps≠[])∧wr.ownsRow w0.heap.size 9 1 v ps.length (zJ ps)∧ps.flatten=js 2 l k∧AH l k∧Below w0.heap.size w0 wr)
  (fun _ i _=>l.length - (intOf i).toNat)
 case atStart=>exact ⟨[],0,ah _,rfl,ah _,fun h=>absurd h (Nat.lt_irrefl _),World.ownsRow_nil _ _ _ _,rfl,.inl rfl,Below.refl _ _⟩
 case round =>
  obtain ⟨ps,k,hkl,rfl,hpl,hps,hown,hfl,hra,hB⟩:=hrel
  have Hfl:=hid hfl
  have Hps:=hid hps
  have Hra:=hid hra
  clear hfl hps hra
  have hst:=xj 2 l Hs.out.small hn k
  by_cases hlt:k < l.length
  ·obtain ⟨W1,rfl⟩:∃ W1,W1=wr:=⟨_,rfl⟩
   have hki:(k:Int) < (l.length:Int):=by omega
   have Hcell:=hid (Hl0.out.later hB).cell
   have hck:=(Hl0.out.later hB).cell k hlt
   have hbw:=(Hl0.out.later hB).lt
   have Hbl:=hid Hl0.out.lt
   have hcf:=(hB.cell (p:=⟨w.heap.size,5,none⟩) hs1).trans Hc.out
   have hsm:=Hs.out.small l[k] (al hlt)
   obtain ⟨hv0,hv1,_⟩:=hsm
   have HST:=hid (Rb l k hlt Hra.out)
   have HRE:=hid (At l k hlt)
   have HRL:=hid (Nf (l[k]).int (l.drop k))
   have HRX:=hid (Ve (l[k]).int (l.drop k))
   have hrp:=Ni l k hlt
   have hrp2:0 < Jm (l[k]).int (l.drop k):=by omega
   have hrl:=UZ (l[k]).int (l.drop k)
   rw [an] at hrl
   clear hrp
   generalize Jm (l[k]).int (l.drop k)=r at *
   generalize (l[k]).int=vv at *
   go_wp2_with fail
   go_loopw [8] (fun i wi=>∃ m:Nat,m≤r∧i=.int .i64 ((k+m:Nat):Int)∧Below W1.heap.size W1 wi) (fun i _=>100 - (intOf i).toNat)
   case atStart=>exact ⟨0,ah _,rfl,Below.refl _ _⟩
   case round =>
    obtain ⟨m,hm,rfl,hBi⟩:=hrel
    have hck2:=(hBi.cell (p:=⟨b,k,none⟩) hbw).trans hck
    by_cases hmr:m < r
    ·have hkm:k+m < l.length:=by omega
     have g1:=(hBi.cell (p:=⟨b,k+m,none⟩) hbw).trans (Hcell.out (k+m) hkm)
     have hnb:(l[k+m]).int=vv:=by
      obtain ⟨_,h2⟩:=HRL.out m hmr
      rw [aZ] at h2
      exact h2
     rw [hnb] at g1
     have hkmi:((k+m:Nat):Int) < (l.length:Int):=by omega
     generalize hkm2:k+m=q at *
     have Hkm2:=hid hkm2
     clear hkm2 hnb
     have hee:(vv == vv)=true:=by simp
     go_wp2_with fail
     go_quiet (fail)
     go_wp2
     go_roundw
     case rel=>exact ⟨m+1,by omega,by rw [← bI,Hkm2.out];go_num,below_drewN hBi nq⟩
     case measure=>simp [intOf];omega
    ·have hmr2:m=r:=by omega
     subst hmr2
     go_upto_region 6 with fail
     go_cut [28] (fun t wd=>t=.bool false∧Below W1.heap.size W1 wd)
     case first =>
      by_cases hend:k+m < l.length
      ·have g1:=(hBi.cell (p:=⟨b,k+m,none⟩) hbw).trans (Hcell.out (k+m) hend)
       have hnb:((l[k+m]).int == vv)=false:=by
        have h2:=HRX.out (by rw [an];omega)
        rw [aZ] at h2
        simpa using h2
       have hkmi:((k+m:Nat):Int) < (l.length:Int):=by omega
       generalize (l[k+m]).int=v2 at *
       generalize k+m=q at *
       go_quiet (fail)
       go_wp2_with fail
       go_meet
       case rel=>exact ⟨rfl,below_drewN hBi nq⟩
      ·have hkmi:decide (((k+m:Nat):Int) < (l.length:Int))=false:=by simp;omega
       generalize k+m=q at *
       go_quiet (fail)
       go_wp2_with fail
       go_meet
       case rel=>exact ⟨rfl,below_drewN hBi nq⟩
     case rest =>
      obtain ⟨rfl,hBj⟩:=hcut
      have hck3:=(hBj.cell (p:=⟨b,k,none⟩) hbw).trans hck
      have hcf3:=(hBj.cell (p:=⟨w.heap.size,5,none⟩) (aa hs1 hB.size)).trans hcf
      have hownc:=jL hown hBj
      have hBc:=hB.trans (hBj.mono hB.size)
      have hbc:b < wc.heap.size:=aa hbw hBj.size
      have hwc:w.heap.size < wc.heap.size:=aa (aa hs1 hB.size) hBj.size
      have HX:Hid (ps.flatten++(uB m++zB vv)=js 2 l (k+m)):=by
       show _=_
       rw [Hfl.out];exact (HST.out m hrp2 (ae _)).symm
      clear hck hcf hck2 hown hBj hBi hB
      have hk0:(0:Int)≤(k:Int):=by omega
      go_wp2_with fail
      go_region_held3 (fun w'=>w'.cell? ⟨w.heap.size,5,none⟩=some (fnV 191)∧w'.cell? ⟨b,k,none⟩=some (.int .i64 vv)) (first|(exact ⟨hcf3,hck3⟩)|(exact ⟨x1,y1⟩)|(exact ⟨x2,y2⟩)|(exact ⟨jc _ x2,jc _ y2⟩)|(exact ⟨x3,y3⟩))
       (first
        | (go_at_call 241;refine (Iz _ m _ ?_ ?_).mono ?_;(rw [IntKind.wrap_i64];omega);omega;rintro e w5 ⟨rfl,hb5⟩;have x1:=(hb5.cell (p:=⟨w.heap.size,5,none⟩) hwc).trans hcf3;have y1:=(hb5.cell (p:=⟨b,k,none⟩) hbc).trans hck3)
        | (go_at_call 191;refine (TY vv _ hv0 hv1).mono ?_;rintro e w6 ⟨rfl,hb6⟩;have x2:=(hb6.cell (p:=⟨w.heap.size,5,none⟩) (aa hwc hb5.size)).trans x1;have y2:=(hb6.cell (p:=⟨b,k,none⟩) (aa hbc hb5.size)).trans y1)
        | (refine step_append_lies _ (by rfl) _ _ _ (by rfl) w0.heap.size 9 i0 _ 1 16 Tryz.underlying71 hi hz0 hz1 hz2 rfl (by omega) _ ps.length (zJ ps) (by rfl) ((jL (jL hownc (ji hb5)) hb6).alloc _) ⟨w6.heap.size,0,none⟩ 2 2 [strB (uB m),strB (zB vv)] (by rfl) (by rfl) (World.news_of_block (cs:=#[strB (uB m),strB (zB vv)]) (t:=9) (fr:=(0,0)) (heap_alloc_new w6 _)) (by simp [Value.oneCell']) (by omega) (by unfold maxLen;omega) (by omega) (by have:=hBc.size;have:=hb5.size;have:=hb6.size;simp at *;omega) _ rfl ?_;intro gg cc w7 hown7 hgr7 hat7 hlt7;have x3:=zm hgr7 ((jL (jL hownc (ji hb5)) hb6).alloc _) (jc _ x2) hs1;have y3:=zm hgr7 ((jL (jL hownc (ji hb5)) hb6).alloc _) (jc _ y2) Hbl.out))
      have hb5':=ji hb5
      have hB5:=hBc.trans (hb5'.mono hBc.size)
      have hB6:=hB5.trans (hb6.mono hB5.size)
      have HR:=hid (XD (qs:=[uB m,zB vv]) _ rfl hB6 (jL (jL hownc hb5') hb6) hown7 hgr7)
      clear x1 x2 x3 y1 y2 y3 hcf3 hck3 hownc hBc hb5 hb5' hb6 hB5 hB6 hown7 hgr7 hat7 hlt7
      go_wp2
      go_roundw
      case rel=>exact ⟨ps++[uB m,zB vv],k+m,by omega,rfl,by simp;omega,fun _=>by simp,by simpa using HR.out.1,by rw [bM,← HX.out];simp,HRE.out,HR.out.2⟩
      case measure=>simp [intOf];omega
  ·have hke:k=l.length:=by omega
   subst hke
   have hpn:ps≠[]:=Hps.out (b9.2 Hs.out.some_)
   have HF:Hid (ps.flatten=qy 2 l):=by
    show ps.flatten=qy 2 l
    rw [Hfl.out];simp [qy]
   have hfl2:ps.flatten.length≤1000000:=by rw [Hfl.out];omega
   have Hpn:=hid hpn
   clear hpn
   have hki:decide ((l.length:Int) < (l.length:Int))=false:=by simp
   go_wp2_with fail
   refine (XT ps w0.heap.size ps.length _ _ hown Hpn.out (by omega) hfl2).mono ?_
   rintro e w2 ⟨rfl,hb2⟩
   go_wp2
   go_ret
   have hz:=Hb0.out.size
   have hBB:=Hb0.out.trans (hB.mono hz)
   exact ⟨qC HF.out,hBB.trans (hb2.mono hBB.size)⟩
end
section
def XV (D:List CellB):List (List UInt8):=D.map (·.text)
theorem Uo (A B:List CellB) (t:List UInt8):jV (A++B) t=if jV A t < A.length then jV A t else A.length+jV B t:=by
 induction A with
 | nil=>simp
 | cons c A ih =>
  simp only [aK,jV,aH]
  by_cases h:c.text=t
  ·simp [h]
  ·simp only [aj h,ih]
   by_cases h2:jV A t < A.length
   ·simp [h2]
   ·simp [h2];omega
theorem Kk (A:List CellB) (t:List UInt8):jV A t < A.length ↔ ∃ c ∈ A,c.text=t:=by
 constructor
 ·intro h
  induction A with
  | nil=>simp at h
  | cons c A ih =>
   by_cases hc:c.text=t
   ·exact ⟨c,by simp,hc⟩
   ·simp only [jV,aj hc,aH] at h
    obtain ⟨d,hd,ht⟩:=ih (by omega)
    exact ⟨d,by simp [hd],ht⟩
 ·intro h
  exact (QT A t h).1
theorem ER (l:List CellB) (k:Nat) (hk:k≤l.length):∀ c ∈ qh l k,∃ j,∃ h:j < l.length,j < k∧c=l[j]:=by
 induction k with
 | zero=>intro c hc;simp [qh] at hc
 | succ k ih =>
  intro c hc
  simp only [qh,aM] at hc
  rcases hc with hc|hc
  ·obtain ⟨j,h,h1,h2⟩:=ih (by omega) c hc
   exact ⟨j,h,by omega,h2⟩
  ·split at hc
   ·simp only [ba,bs,cM] at hc
    exact ⟨k,by omega,by omega,by rw [hc,qg l k (by omega)]⟩
   ·cases hc
theorem AQ (l:List CellB) (k:Nat) (hk:k < l.length):jV (qh l k) (l[k]).text < (qh l k).length ↔ jV l (l[k]).text≠k:=by
 rw [Kk]
 constructor
 ·rintro ⟨c,hc,ht⟩ he
  obtain ⟨j,hj,hjk,rfl⟩:=ER l k (by omega) c hc
  have:=Gc l j hj
  rw [ht,he] at this
  omega
 ·intro hne
  have hle:=Gc l k hk
  obtain ⟨h1,h2⟩:=QT l (l[k]).text ⟨l[k],al hk,rfl⟩
  exact ⟨_,RA l _ h1 (by rw [h2]) k (by omega) (by omega),h2⟩
theorem Gl (l:List CellB) (k:Nat) (hk:k < l.length):qh l (k+1)=if jV (qh l k) (l[k]).text < (qh l k).length then qh l k else qh l k++[l[k]]:=by
 have h:=AQ l k hk
 simp only [qh,qg l k hk]
 by_cases hf:jV l (l[k]).text=k
 ·rw [aw hf,aj (fun h2=>h.1 h2 hf)]
 ·rw [aj hf,aw (h.2 hf),aB]
theorem RS (l:List CellB) (k j:Nat):∃ B,qh l (k+j)=qh l k++B:=by
 induction j with
 | zero=>exact ⟨[],by simp⟩
 | succ j ih =>
  obtain ⟨B,hB⟩:=ih
  rw [← bI,qh,hB]
  exact ⟨_,by rw [af]⟩
theorem Sl (l:List CellB) (k:Nat) (hk:k < l.length):jV (qi l) (l[k]).text=if jV (qh l k) (l[k]).text < (qh l k).length then jV (qh l k) (l[k]).text else (qh l k).length:=by
 obtain ⟨B,hB⟩:=RS l (k+1) (l.length - (k+1))
 rw [show k+1+(l.length - (k+1))=l.length by omega] at hB
 unfold qi
 rw [hB,Gl l k hk]
 by_cases hf:jV (qh l k) (l[k]).text < (qh l k).length
 ·rw [aw hf,aw hf,Uo,aw hf]
 ·have hfe:jV (qh l k) (l[k]).text=(qh l k).length:=by have:=ZW (qh l k) (l[k]).text;omega
  rw [aj hf,aj hf,af,Uo,aj hf]
  simp [jV]
theorem GQ (D:List CellB) (k:Nat):zH D k=uB D.length++js 5 D k:=by
 induction k with
 | zero=>simp [zH,js]
 | succ k ih=>simp only [zH,js,ih,qN,af]
theorem TE (D:List CellB) (t:List UInt8) (base:Nat) (v:Value) (w:World) (hn:D.length≤1000) (h:w.ownsRow base 9 1 v D.length (zJ (XV D))) :
  Calls Tryz.prog 246 #[v,strB t] w fun e w'=>e=.returned (.int .i64 (if jV D t < D.length then (jV D t:Int) else -1))∧w'=w:=by
 have HL:=hid (VQ D t)
 have HF:=hid (Kk D t)
 have hle:=ZW D t
 have HA:Hid (∀ h:jV D t < D.length,(D[jV D t]).text=t):=by
  intro h
  exact (QT D t ((Kk D t).1 h)).2
 generalize jV D t=q at *
 rcases h.2 with ⟨rfl,h0⟩|⟨gd,cap,cur,rfl,_⟩
 ·have hq:¬ q < D.length:=by omega
  rw [aj hq]
  go_enter Tryz.func246,Tryz.ntmps246
  go_wp2
  go_loopw [8] (fun i wr=>i=.int .i64 0∧wr=w) (fun i _=>0)
  case atStart=>exact ⟨rfl,rfl⟩
  case round =>
   obtain ⟨rfl,rfl⟩:=hrel
   go_wp2
   go_ret
   exact ⟨rfl,rfl⟩
 ·have HC:Hid (∀ j (h:j < D.length),w.cell? ⟨gd,j,none⟩=some (strB (D[j]).text)):=by
   intro j hj
   rw [h.cellAt j (by omega)]
   simp [zJ,XV,hj]
  clear h
  go_enter Tryz.func246,Tryz.ntmps246
  go_wp2
  go_loopw [8] (fun i wr=>∃ k:Nat,k≤q∧i=.int .i64 (k:Int)∧wr=w) (fun i _=>q - (intOf i).toNat)
  case atStart=>exact ⟨0,ah _,rfl,rfl⟩
  case round =>
   obtain ⟨k,hk,rfl,rfl⟩:=hrel
   by_cases hkq:k < q
   ·have hlt:k < D.length:=by omega
    have hck:=HC.out k hlt
    have hne:(t == (D[k]).text)=false:=by
     simpa using fun h2:t=(D[k]).text=>HL.out k hkq hlt h2.symm
    go_wp2
    go_roundw
    case rel=>exact ⟨k+1,by omega,by go_num,trivial⟩
    case measure=>simp [intOf];omega
   ·have hke:k=q:=by omega
    subst hke
    by_cases hlt:k < D.length
    ·have hck:=HC.out k hlt
     rw [HA.out hlt] at hck
     go_wp2
     go_ret
     exact ⟨rfl,rfl⟩
    ·go_wp2
     go_ret
     exact ⟨rfl,rfl⟩
theorem El {w:World} {base n:Nat} {v:Value} {xs:List Value} (h:w.ownsRow base 9 1 v n xs) (w':World) :
  Sem.run Tryz.prog (Builtin.len_ #[71] 3 #[v]) w'=.ok (.int .i64 (n:Int)) w':=by
 rcases h.2 with ⟨rfl,rfl⟩|⟨g,cap,cur,rfl,_⟩
 ·exact run_len_slice (P:=Tryz.prog) w' 71 3 _ _ _ (by rw [Tryz.underlying71];rfl)
 ·exact run_len_slice (P:=Tryz.prog) w' 71 3 _ _ _ (by rw [Tryz.underlying71];rfl)
def Apart (d p:Value):Prop:=∀ k,d.ownBlock=some k→p.ownBlock≠some k
theorem Ro {w wr w2:World} {d p:Value} {n np g cc k H:Nat} {ps qs pp:List (List UInt8)} (o:Obj) (hH:H=wr.heap.size+1) (hB:Below w.heap.size w wr) (hd:wr.ownsRow w.heap.size 9 1 d n (zJ ps))
  (hp:wr.ownsRow w.heap.size 9 1 p np (zJ pp)) (hap:Apart d p) (h2:w2.ownsRow w.heap.size 9 1 (.slice (some ⟨g,0,none⟩) k cc) k (zJ ps++zJ qs))
  (hg:(wr.alloc o).grownBy w2 d.ownBlock) (hat:d.ownBlock=some g∨g=H) :
  w2.ownsRow w.heap.size 9 1 (.slice (some ⟨g,0,none⟩) k cc) k (zJ (ps++qs))∧w2.ownsRow w.heap.size 9 1 p np (zJ pp)∧Apart (.slice (some ⟨g,0,none⟩) k cc) p∧Below w.heap.size w w2:=by
 refine ⟨by rw [Gn];exact h2,(hp.alloc o).kept hg ?_,?_,(hB.alloc hB.size o).grown hg (by have:=hB.size;simp;omega) (fun k hk=>(hd.lt k hk).1)⟩
 ·cases hpo:p.ownBlock with
  | none=>exact .inl rfl
  | some x=>exact .inr fun he=>hap x he.symm hpo
 ·intro k' hk' hpk
  have hgk:g=k':=by simpa [Value.ownBlock] using hk'
  subst hgk
  rcases hat with h|h
  ·exact hap g h hpk
  ·have:=(hp.lt g hpk).2
   omega
theorem Apart.symm {d p:Value} (h:Apart d p):Apart p d:=fun k hp hd=>h k hd hp
abbrev BoxT (w:World) (g B:Nat):Prop:=w.cell? ⟨B,0,none⟩=some (.slice (some ⟨g,0,none⟩) 3 3)∧w.cell? ⟨B,1,none⟩=some (fnV 202)∧w.cell? ⟨B,2,none⟩=some (fnV 203)∧w.cell? ⟨B,3,none⟩=some (fnV 204)∧w.cell? ⟨B,4,none⟩=some (fnV 205)∧w.cell? ⟨B,5,none⟩=some (fnV 206)∧w.cell? ⟨B,6,none⟩=some (fnV 207)
abbrev BoxI (w:World) (g B:Nat):Prop:=w.cell? ⟨B,0,none⟩=some (.slice (some ⟨g,0,none⟩) 3 3)∧w.cell? ⟨B,1,none⟩=some (fnV 187)∧w.cell? ⟨B,2,none⟩=some (fnV 188)∧w.cell? ⟨B,3,none⟩=some (fnV 189)∧w.cell? ⟨B,4,none⟩=some (fnV 190)∧w.cell? ⟨B,5,none⟩=some (fnV 191)∧w.cell? ⟨B,6,none⟩=some (fnV 192)
theorem xe {w w':World} {g B b:Nat} (h:BoxT w g B) (hb:Below b w w') (hl:B < b):BoxT w' g B:=by
 obtain ⟨h0,h1,h2,h3,h4,h5,h6⟩:=h
 exact ⟨(hb.cell (p:=⟨B,0,none⟩) hl).trans h0,(hb.cell (p:=⟨B,1,none⟩) hl).trans h1,(hb.cell (p:=⟨B,2,none⟩) hl).trans h2,(hb.cell (p:=⟨B,3,none⟩) hl).trans h3,(hb.cell (p:=⟨B,4,none⟩) hl).trans h4,(hb.cell (p:=⟨B,5,none⟩) hl).trans h5,(hb.cell (p:=⟨B,6,none⟩) hl).trans h6⟩
theorem zp {w w':World} {g B b:Nat} (h:BoxI w g B) (hb:Below b w w') (hl:B < b):BoxI w' g B:=by
 obtain ⟨h0,h1,h2,h3,h4,h5,h6⟩:=h
 exact ⟨(hb.cell (p:=⟨B,0,none⟩) hl).trans h0,(hb.cell (p:=⟨B,1,none⟩) hl).trans h1,(hb.cell (p:=⟨B,2,none⟩) hl).trans h2,(hb.cell (p:=⟨B,3,none⟩) hl).trans h3,(hb.cell (p:=⟨B,4,none⟩) hl).trans h4,(hb.cell (p:=⟨B,5,none⟩) hl).trans h5,(hb.cell (p:=⟨B,6,none⟩) hl).trans h6⟩
theorem UL {w:World} {g B:Nat} (o:Obj) (h:BoxT w g B):BoxT (w.alloc o) g B:=by
 obtain ⟨h0,h1,h2,h3,h4,h5,h6⟩:=h
 exact ⟨jc o h0,jc o h1,jc o h2,jc o h3,jc o h4,jc o h5,jc o h6⟩
theorem NP {w:World} {g B:Nat} (o:Obj) (h:BoxI w g B):BoxI (w.alloc o) g B:=by
 obtain ⟨h0,h1,h2,h3,h4,h5,h6⟩:=h
 exact ⟨jc o h0,jc o h1,jc o h2,jc o h3,jc o h4,jc o h5,jc o h6⟩
theorem Gf {w:World} {base n:Nat} {v:Value} {D:List CellB} (h:w.ownsRow base 9 1 v n (zJ (XV D))) (hD:D≠[]):∃ b cap,v=.slice (some ⟨b,0,none⟩) D.length cap∧TextsLie w b D:=by
 have hl:D.length=n:=by simpa [zJ,XV] using h.1
 rcases h.2 with ⟨rfl,rfl⟩|⟨g,cap,cur,rfl,_⟩
 ·exact absurd (ao hl) hD
 ·refine ⟨g,cap,by rw [hl],(h.lt g rfl).2,fun j hj=>?_⟩
  rw [h.cellAt j (by omega)]
  simp [zJ,XV,hj]
theorem RL {w w1 w2 w3 w4 w5:World} (hb1:Below w.heap.size w w1) (hb2:Below w1.drew.heap.size w1.drew w2) (hb3:Below w2.heap.size w2 w3) (hb4:Below w3.heap.size w3 w4) (hb5:Below w4.heap.size w4 w5):Below w.heap.size w w5:=by
 have h:=Ut hb1 hb2 hb3 hb4
 exact h.trans (hb5.mono h.size)
theorem Lc (g b cap:Nat) (l:List CellB) (w:World) (hs:Small l) (hl:TextsLie w b l) :
  Calls Tryz.prog 198 #[txtC g,.slice (some ⟨b,0,none⟩) l.length cap] w fun e w'=>e=.returned (strB (qy 3 l))∧Below w.heap.size w w':=by
 obtain ⟨i0,hi,hz0,hz1,hz2⟩:=info_parts Tryz.infoStr
 have Hs:=hid hs
 have Hl:=hid hl
 have hn:=hs.few
 clear hs hl
 go_enter Tryz.func198,Tryz.ntmps198
 go_wp2
 obtain ⟨hb0,hs0,hc0⟩:=Jd w #[.slice (some ⟨g,0,none⟩) 3 3,fnV 202,fnV 203,fnV 204,fnV 205,fnV 206,fnV 207] 225
 have Hc:Hid (BoxT _ g w.heap.size):=⟨hc0 0,hc0 1,hc0 2,hc0 3,hc0 4,hc0 5,hc0 6⟩
 have Hl0:=hid (Hl.out.later hb0)
 have Hb0:=hid hb0
 have hs1:=aI (aL w.heap.size) hs0.symm
 clear hc0 hb0 hs0
 generalize w.alloc _=w0 at *
 go_loopw [5,6,12] (fun d v i wr=>∃ (ps:List (List UInt8)) (k:Nat),k≤l.length∧i=.int .i64 (k:Int)∧ps.length=k∧wr.ownsRow w0.heap.size 9 1 d (qh l k).length (zJ (XV (qh l k)))∧wr.ownsRow w0.heap.size 9 1 v ps.length (zJ ps)∧Apart d v∧ps.flatten=js 3 l k∧Below w0.heap.size w0 wr)
  (fun _ _ i _=>l.length - (intOf i).toNat)
 case atStart=>exact ⟨[],0,ah _,rfl,rfl,World.ownsRow_nil _ _ _ _,World.ownsRow_nil _ _ _ _,fun k h=>by simp [Value.ownBlock] at h,rfl,Below.refl _ _⟩
 case round =>
  obtain ⟨ps,k,hkl,rfl,hpl,hd,hp,hap,hfl,hB⟩:=hrel
  have Hfl:=hid hfl
  have Hap:=hid hap
  clear hfl hap
  have hst:=xj 3 l Hs.out.small hn k
  have hdl:=zA l k
  by_cases hlt:k < l.length
  ·have hck:=(Hl0.out.later hB).cell k hlt
   have HT:Hid (qN 3 l k=uB (jV (qi l) (l[k]).text)):=by
    show qN 3 l k=_
    simp only [qN,qg l k hlt]
   have HP:=hid (Sl l k hlt)
   have HD:=hid (Gl l k hlt)
   have hpn:ps.length≤60:=by omega
   go_wp2_with fail
   refine (TE (qh l k) (l[k]).text w0.heap.size _ _ (by omega) hd).mono ?_
   rintro e w2 ⟨rfl,rfl⟩
   by_cases hf:jV (qh l k) (l[k]).text < (qh l k).length
   ·have HP2:Hid (jV (qi l) (l[k]).text=jV (qh l k) (l[k]).text):=by
     have:=HP.out;rw [aw hf] at this;exact this
    have HD2:Hid (qh l (k+1)=qh l k):=by
     have:=HD.out;rw [aw hf] at this;exact this
    rw [aw hf]
    generalize qh l k=D at *
    generalize jV D (l[k]).text=q at *
    go_wp2_with fail
    refine (Jp q _ (by omega)).mono ?_
    rintro e w3 ⟨rfl,hb3⟩
    have hd3:=jL hd hb3
    have hp3:=jL hp hb3
    have hB3:=hB.trans (hb3.mono hB.size)
    clear hd hp hB hb3 hck
    go_wp2_with (at_builtin;refine wpList_append_lies _ rfl (.tmp 27) (.tmp 30) 71 rfl w0.heap.size 9 i0 (.string ⟨#[]⟩) 1 16 Tryz.underlying71 hi hz0 hz1 hz2 rfl (by decide) _ _ _ rfl (hp3.alloc _) ⟨_,0,none⟩ 1 1 [strB (uB q)] rfl rfl ?c1 ?c2 (by decide) ?c3 ?c4 ?c5 (w3.heap.size+1) ?c6 ?_)
    case c1=>exact qq w3 #[strB (uB q)] 9
    case c2=>intro u hu;simp at hu;subst hu;rfl
    case c3=>unfold maxLen;omega
    case c4=>omega
    case c5=>have:=hB3.size;simp;omega
    case c6=>simp
    intro gg cc w4 hown4 hgr4 hat4 hlt4
    have HR:=hid (Ro (qs:=[uB q]) _ rfl hB3 hp3 hd3 Hap.out.symm hown4 hgr4 hat4)
    clear hd3 hp3 hB3 hown4 hgr4 hat4 hlt4
    go_wp2
    go_roundw
    case rel=>exact ⟨ps++[uB q],k+1,by omega,by go_num,by simp;omega,by rw [HD2.out];exact HR.out.2.1,by rw [show (ps++[uB q]).length=k+1 by simp [hpl]];exact HR.out.1,HR.out.2.2.1.symm,by rw [bM,Hfl.out,js,HT.out,HP2.out];simp,HR.out.2.2.2⟩
    case measure=>simp [intOf];omega
   ·have HP2:Hid (jV (qi l) (l[k]).text=(qh l k).length):=by
     have:=HP.out;rw [aj hf] at this;exact this
    have HD2:Hid (qh l (k+1)=qh l k++[l[k]]):=by
     have:=HD.out;rw [aj hf] at this;exact this
    rw [aj hf]
    clear hf HP HD
    generalize qh l k=D at *
    generalize hlk:l[k]=c at *
    have Hlk:=hid hlk
    clear hlk
    have hln:=El hd w2
    go_wp2_with (at_builtin;refine wpList_append_lies _ rfl (.tmp 23) (.tmp 25) 71 rfl w0.heap.size 9 i0 (.string ⟨#[]⟩) 1 16 Tryz.underlying71 hi hz0 hz1 hz2 rfl (by decide) _ _ _ rfl (hd.alloc _) ⟨_,0,none⟩ 1 1 [strB c.text] rfl rfl ?d1 ?d2 (by decide) ?d3 ?d4 ?d5 _ rfl ?_)
    case d1=>exact qq _ #[strB c.text] 9
    case d2=>intro u hu;simp at hu;subst hu;rfl
    case d3=>unfold maxLen;omega
    case d4=>omega
    case d5=>have:=hB.size;simp;omega
    intro gd cd w5 hown5 hgr5 hat5 hlt5
    obtain ⟨hd5,hp5,hap5,hB5⟩:=Ro (qs:=[c.text]) _ (by simp) hB hd hp Hap.out hown5 hgr5 hat5
    have Hap5:=hid hap5
    clear hd hp hB hown5 hgr5 hat5 hlt5 hap5 hck
    go_wp2_with fail
    refine (Jp D.length _ (by omega)).mono ?_
    rintro e w3 ⟨rfl,hb3⟩
    have hd3:=jL hd5 hb3
    have hp3:=jL hp5 hb3
    have hB3:=hB5.trans (hb3.mono hB5.size)
    clear hd5 hp5 hB5 hb3
    go_wp2_with (at_builtin;refine wpList_append_lies _ rfl (.tmp 27) (.tmp 30) 71 rfl w0.heap.size 9 i0 (.string ⟨#[]⟩) 1 16 Tryz.underlying71 hi hz0 hz1 hz2 rfl (by decide) _ _ _ rfl (hp3.alloc _) ⟨_,0,none⟩ 1 1 [strB (uB D.length)] rfl rfl ?c1 ?c2 (by decide) ?c3 ?c4 ?c5 (w3.heap.size+1) ?c6 ?_)
    case c1=>exact qq w3 #[strB (uB D.length)] 9
    case c2=>intro u hu;simp at hu;subst hu;rfl
    case c3=>unfold maxLen;omega
    case c4=>omega
    case c5=>have:=hB3.size;simp;omega
    case c6=>simp
    intro gg cc w4 hown4 hgr4 hat4 hlt4
    have HR:=hid (Ro (qs:=[uB D.length]) _ rfl hB3 hp3 hd3 Hap5.out.symm hown4 hgr4 hat4)
    clear hd3 hp3 hB3 hown4 hgr4 hat4 hlt4
    have HTX:Hid (XV (D++[c])=XV D++[c.text]):=by simp [Hid,XV]
    go_wp2
    go_roundw
    case rel=>exact ⟨ps++[uB D.length],k+1,by omega,by go_num,by simp;omega,by rw [HD2.out,HTX.out,show (D++[c]).length=D.length+1 by simp];exact HR.out.2.1,by rw [show (ps++[uB D.length]).length=k+1 by simp [hpl]];exact HR.out.1,HR.out.2.2.1.symm,by rw [bM,Hfl.out,js,HT.out,HP2.out];simp,HR.out.2.2.2⟩
    case measure=>simp [intOf];omega
  ·have hke:k=l.length:=by omega
   subst hke
   have hDn:qh l l.length≠[]:=by
    intro h0
    have h1:=Hs.out.some_
    cases l with
    | nil=>exact h1 rfl
    | cons c l =>
     obtain ⟨d,hd,_⟩:=ZO (c :: l) 0 (by simp)
     unfold qi at hd
     rw [h0] at hd
     cases hd
   have HW:Hid (qy 3 l=uB (qh l l.length).length++(qy 5 (qh l l.length)++js 3 l l.length)):=by
    show qy 3 l=_
    simp only [qy,qi,bG,GQ]
    simp
   have HDs:Hid (Small (qh l l.length)):=⟨fun c hc=>Hs.out.small c (Ql l l.length (ae _) c hc),by omega,hDn⟩
   have hw5:=Kx 5 (qh l l.length) HDs.out.small HDs.out.few
   have hbx:=xe Hc.out hB hs1
   have hwr:w.heap.size < wr.heap.size:=aa hs1 hB.size
   obtain ⟨bd,cd,rfl,htl⟩:=Gf hd hDn
   have Htl:=hid htl
   have Hbx:=hid hbx
   obtain ⟨x0,x1,x2,x3,x4,x5,x6⟩:=hbx
   have hps:ps≠[]:=by
    intro h
    subst h
    exact Hs.out.some_ (ao hpl.symm)
   have hfl2:ps.flatten.length≤10000:=by rw [Hfl.out];omega
   have Hps:=hid hps
   have hu:=jM (qh l l.length).length (by omega)
   have HU0:Hid (∀ w',Calls Tryz.prog 241 #[.int .i64 ((qh l l.length).length:Int)] w' fun e w2=>e=.returned (strB (uB (qh l l.length).length))∧Below w'.heap.size w' w2):=fun w'=>Jp _ w' (by omega)
   clear hd htl hps hDn
   generalize qh l l.length=D at *
   have HE:Hid (∀ w',TextsLie w' bd D→Calls Tryz.prog 196 #[txtC g,.slice (some ⟨bd,0,none⟩) D.length cd] w' fun e w2=>e=.returned (strB (qy 5 D))∧Below w'.heap.size w' w2):=fun w' h=>LJ g bd cd D w' HDs.out h
   have HJ:Hid (∀ w',w'.ownsRow w0.heap.size 9 1 u6 ps.length (zJ ps)→Calls Tryz.prog 194 #[u6] w' fun e w2=>e=.returned (strB ps.flatten)∧Below w'.heap.size w' w2):=fun w' h=>XT ps w0.heap.size ps.length u6 w' h Hps.out (by omega) (by omega)
   have HRes:Hid (uB D.length++(qy 5 D++ps.flatten)=qy 3 l):=by
    show _=_
    rw [HW.out,Hfl.out]
   clear HW Hfl HDs
   generalize qy 5 D=W5 at *
   generalize ps.flatten=F at *
   generalize uB D.length=U at *
   have HU:Hid (∀ w',Calls Tryz.prog 241 #[.int .i64 (D.length:Int)] w' fun e w2=>e=.returned (strB U)∧Below w'.heap.size w' w2):=HU0
   go_wp2_with fail
   go_region_held3 (fun w'=>w'.cell? ⟨w.heap.size,0,none⟩=some (.slice (some ⟨g,0,none⟩) 3 3)∧w'.cell? ⟨w.heap.size,1,none⟩=some (fnV 202)∧w'.cell? ⟨w.heap.size,2,none⟩=some (fnV 203)∧w'.cell? ⟨w.heap.size,3,none⟩=some (fnV 204)∧w'.cell? ⟨w.heap.size,4,none⟩=some (fnV 205)∧w'.cell? ⟨w.heap.size,5,none⟩=some (fnV 206)∧w'.cell? ⟨w.heap.size,6,none⟩=some (fnV 207)) (first|exact Hbx.out|exact X1|exact X2|exact X3|exact UL _ X3|exact X4)
    (first
     | (go_at_call 241;refine (HU.out _).mono ?_;rintro e w3 ⟨rfl,hb3⟩;have X1:=xe Hbx.out (ji hb3) hwr)
     | (go_at_call 196;refine (HE.out _ (Htl.out.later (ji hb3))).mono ?_;rintro e w4 ⟨rfl,hb4⟩;have X2:=xe X1 hb4 (aa hwr hb3.size))
     | (go_at_call 194;have Z5:=hb5.size;refine (Zb [U,W5,F] #[strB U,strB W5,strB F] 3 _ rfl rfl ?_ ?_).mono ?_;decide;(simp;omega);rintro e w6 ⟨rfl,hb6⟩;have X4:=xe X3 hb6 (aa hwr (ar hb3.size (ar hb4.size hb5.size))))
     | (go_at_call 194;refine (HJ.out _ (jL (jL hp (ji hb3)) hb4)).mono ?_;rintro e w5 ⟨rfl,hb5⟩;have X3:=xe X2 hb5 (aa hwr (ar hb3.size hb4.size))))
   have hz:=Hb0.out.size
   have hBB:=Hb0.out.trans (hB.mono hz)
   have HB6:=hid (RL hBB hb3 hb4 hb5 hb6)
   clear X1 X2 X3 X4 x0 x1 x2 x3 x4 x5 x6 hb3 hb4 hb5 hb6 hB hp hz hBB
   go_wp2
   go_ret
   exact ⟨qC HRes.out,HB6.out⟩
end
section
theorem qc {w:World} {g:Nat} {C:Array Value} {t:TypeId} (h:w.heap[g]?=some (.cells C t (0,0))) (j:Nat) {v:Value} (hv:C[j]?=some v):w.cell? ⟨g,j,none⟩=some v:=by
 rw [cell_of_row w g j C t (0,0) h]
 exact hv
theorem Cg (w:World) (q:Nat) (a:Int) (h0:0≤a) (h1:a≤255) (h:w.cell? ⟨q,0,none⟩=some (.int .u8 a)) :
  Sem.run Tryz.prog (convert 149 9 (.slice (some ⟨q,0,none⟩) 1 1)) w=.ok (strB [byB a]) w:=by
 refine run_convert_bytes_back (P:=Tryz.prog) _ 149 9 5 ⟨q,0,none⟩ 1 [byB a] Tryz.underlying149 Tryz.underlying5 Tryz.underlying9 ?_
 intro j hj
 match j,hj with
 | 0,_=>simpa [Addr.add,xK a h0 h1] using h
theorem JR (a:Int) (w:World) (h0:0≤a) (h1:a≤255) :
  Calls Tryz.prog 214 #[.int .u8 a] w fun e w'=>e=.returned (strB [byB a])∧Below w.heap.size w w':=by
 have hc:=Cg (w.alloc (.cells #[.int .u8 a] 5)) w.heap.size a h0 h1 (World.cell?_alloc_mark ..)
 go_enter Tryz.func214,Tryz.ntmps214
 go_wp2
 go_ret
 exact ⟨rfl,(Below.refl _ _).alloc (ae _) _⟩
theorem Xy (ps:List (List UInt8)) (C:Array Value) (n:Nat) (w:World) (G:Nat) (hG:w.heap.size=G) (hC:C=(zJ ps).toArray) (hl:ps.length=n) (hn:n≤1000) (hs:ps.flatten.length≤1000000) :
  Calls Tryz.prog 194 #[.slice (some ⟨G,0,none⟩) n n] (w.alloc (.cells C 9)) fun e w'=>e=.returned (strB ps.flatten)∧Below w.heap.size w w':=by
 subst hG
 exact Zb ps C n w hC hl hn hs
theorem Uj (kind:Int) (l:List CellB) (k:Nat):jJ kind l (k+1)≠[]:=by
 induction k with
 | zero=>simp [jJ,zK]
 | succ k ih =>
  rw [jJ]
  split
  ·simp [zK]
  ·exact ih
theorem Qi (w:World):Below w.heap.size w w.drew:=ji (Below.refl _ _)
theorem IntsLie.drew {w:World} {b:Nat} {l:List CellB} (h:IntsLie w b l):IntsLie w.drew b l:=h.later (Qi w)
theorem TextsLie.drew {w:World} {b:Nat} {l:List CellB} (h:TextsLie w b l):TextsLie w.drew b l:=h.later (Qi w)
theorem IntsLie.alloc {w:World} {b:Nat} {l:List CellB} (h:IntsLie w b l) (o:Obj):IntsLie (w.alloc o) b l:=h.later ((Below.refl _ _).alloc (ae _) _)
theorem TextsLie.alloc {w:World} {b:Nat} {l:List CellB} (h:TextsLie w b l) (o:Obj):TextsLie (w.alloc o) b l:=h.later ((Below.refl _ _).alloc (ae _) _)
theorem zM {w w':World} {o:Obj} (h:Below (w.alloc o).heap.size (w.alloc o) w'):Below w.heap.size w w' :=
 ((Below.refl _ _).alloc (ae _) _).trans (h.mono (by simp))
abbrev SI (w:World) (G:Nat) (e:Int) (F g B:Nat):Prop:=w.cell? ⟨G,0,none⟩=some (.int .u8 e)∧w.cell? ⟨G,1,none⟩=some (fnV F)∧BoxI w g B
abbrev ST (w:World) (G:Nat) (e:Int) (F g B:Nat):Prop:=w.cell? ⟨G,0,none⟩=some (.int .u8 e)∧w.cell? ⟨G,1,none⟩=some (fnV F)∧BoxT w g B
theorem Qw {w w':World} {G F g B b:Nat} {e:Int} (h:SI w G e F g B) (hb:Below b w w') (hG:G < b) (hl:B < b):SI w' G e F g B :=
 ⟨(hb.cell (p:=⟨G,0,none⟩) hG).trans h.1,(hb.cell (p:=⟨G,1,none⟩) hG).trans h.2.1,zp h.2.2 hb hl⟩
theorem Qx {w w':World} {G F g B b:Nat} {e:Int} (h:ST w G e F g B) (hb:Below b w w') (hG:G < b) (hl:B < b):ST w' G e F g B :=
 ⟨(hb.cell (p:=⟨G,0,none⟩) hG).trans h.1,(hb.cell (p:=⟨G,1,none⟩) hG).trans h.2.1,xe h.2.2 hb hl⟩
theorem NI {w:World} {G F g B:Nat} {e:Int} (o:Obj) (h:SI w G e F g B):SI (w.alloc o) G e F g B:=⟨jc o h.1,jc o h.2.1,NP o h.2.2⟩
theorem NJ {w:World} {G F g B:Nat} {e:Int} (o:Obj) (h:ST w G e F g B):ST (w.alloc o) G e F g B:=⟨jc o h.1,jc o h.2.1,UL o h.2.2⟩
end
end Go.Proofs.YthhpbhpfagoapaaGreat
