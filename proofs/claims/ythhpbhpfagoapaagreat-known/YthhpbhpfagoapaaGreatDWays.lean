import Derived.Test.YthhpbhpfagoapaaGreatJAD
namespace Go.Proofs.YthhpbhpfagoapaaGreat
set_option linter.unusedVariables false
set_option linter.unusedSimpArgs false
set_option maxRecDepth 100000
set_option maxHeartbeats 16000000
open Go.RowKit
theorem ZV (s t:List UInt8):jJ s t=jJ t s:=by
 induction s generalizing t with
 | nil=>cases t<;>rfl
 | cons a s ih =>
  cases t with
  | nil=>rfl
  | cons b t =>
   simp only [jJ]
   rw [ih t]
   by_cases h:a=b
   ·simp [h]
   ·rw [if_neg h,if_neg (fun h2=>h h2.symm)]
theorem LE (g b cap:Nat) (l:List CellB) (w:World) (hs:Small l) (hl:IntsLie w b l) :
  Calls Tryz.prog 181 #[numC g,.slice (some ⟨b,0,none⟩) l.length cap] w fun e w'=>e=.returned (strB (qz 0 l))∧Below w.heap.size w w':=by
 obtain ⟨i0,hi,hz0,hz1,hz2⟩:=info_parts Tryz.infoStr
 have Hs:=hid hs
 have Hl:=hid hl
 have hn:=hs.few
 clear hs hl
 go_enter Tryz.func181,Tryz.ntmps181
 go_wp2
 obtain ⟨hb0,hs0,hc0⟩:=zx w #[.slice (some ⟨g,0,none⟩) 3 3,fnV 187,fnV 188,fnV 189,fnV 190,fnV 191,fnV 192] 215
 have hc:_=some (fnV 189):=hc0 3
 have Hl0:=hid (Hl.out.later hb0)
 have Hb0:=hid hb0
 have Hc:=hid hc
 have hs1:=Nat.lt_of_lt_of_eq (Nat.lt_succ_self w.heap.size) hs0.symm
 clear hc0 hc hb0 hs0
 generalize w.alloc _=w0 at *
 go_loopw [5,10] (fun v i wr=>∃ (ps:List (List UInt8)) (k:Nat),k≤l.length∧i=.int .i64 (k:Int)∧ps.length=k∧wr.ownsRow w0.heap.size 9 1 v k (xT ps)∧ps.flatten=jN 0 l k∧Below w0.heap.size w0 wr)
  (fun _ i _=>l.length - (intOf i).toNat)
 case atStart=>exact ⟨[],0,Nat.zero_le _,rfl,rfl,World.ownsRow_nil _ _ _ _,rfl,Below.refl _ _⟩
 case round =>
  obtain ⟨ps,k,hkl,rfl,hpl,hown,hfl,hB⟩:=hrel
  have Hfl:=hid hfl
  clear hfl
  have hst:=zi 0 l Hs.out.small hn k
  by_cases hlt:k < l.length
  ·have hck:=(Hl0.out.later hB).cell k hlt
   have hcf:=(hB.cell (p:=⟨w.heap.size,3,none⟩) hs1).trans Hc.out
   have hsm:=Hs.out.small l[k] (List.getElem_mem hlt)
   have HT:Hid (xu 0 l k=bB (l[k]).int):=by
    show xu 0 l k=_
    simp only [xu,qD l k hlt]
   go_wp2_with fail
   refine (CO (l[k]).int _ hsm.1 hsm.2.1).mono ?_
   rintro e w2 ⟨rfl,hb2⟩
   have hown2:=jm hown hb2
   have hB2:=hB.trans (hb2.mono hB.size)
   clear hown hb2 hB hck hcf
   generalize bB (l[k]).int=q at *
   go_wp2_with (at_builtin;refine wpList_append_own _ rfl (.tmp 14) (.tmp 19) 71 rfl w0.heap.size 9 i0 (.string ⟨#[]⟩) 1 16 Tryz.underlying71 hi hz0 hz1 hz2 rfl (by decide) _ _ _ rfl (hown2.alloc _) ⟨_,0,none⟩ 1 1 [strB q] rfl rfl ?c1 ?c2 ?c3 ?c4 ?c5 ?_)
   case c1=>exact qx w2 #[strB q] 9
   case c2=>intro u hu;simp at hu;subst hu;rfl
   case c3=>unfold maxLen;omega
   case c4=>omega
   case c5=>have:=hB2.size;simp;omega
   intro v3 w3 hown3 hgr3 _
   have HR:=hid (JJ (qs:=[q]) _ rfl hB2 hown2 hown3 hgr3)
   clear hown2 hown3 hgr3 hB2
   go_wp2
   go_roundw
   case rel=>exact ⟨ps++[q],k+1,by omega,by go_num,by simp;omega,HR.out.1,by rw [List.flatten_append,Hfl.out,jN,HT.out];simp,HR.out.2⟩
   case measure=>simp [intOf];omega
  ·have hke:k=l.length:=by omega
   subst hke
   have hps:ps≠[]:=by
    intro h
    subst h
    exact Hs.out.some_ (List.eq_nil_of_length_eq_zero hpl.symm)
   have HF:Hid (ps.flatten=qz 0 l):=by
    show ps.flatten=qz 0 l
    rw [Hfl.out];simp [qz]
   have hfl2:ps.flatten.length≤1000000:=by rw [Hfl.out];omega
   have Hps:=hid hps
   clear hps
   go_wp2_with fail
   refine (QI ps w0.heap.size l.length _ _ hown Hps.out (by omega) hfl2).mono ?_
   rintro e w2 ⟨rfl,hb2⟩
   go_wp2
   go_ret
   have hz:=Hb0.out.size
   have hBB:=Hb0.out.trans (hB.mono hz)
   exact ⟨qT HF.out,hBB.trans (hb2.mono hBB.size)⟩
theorem SH (g b cap:Nat) (l:List CellB) (w:World) (hs:Small l) (hl:TextsLie w b l) :
  Calls Tryz.prog 196 #[txtC g,.slice (some ⟨b,0,none⟩) l.length cap] w fun e w'=>e=.returned (strB (qz 5 l))∧Below w.heap.size w w':=by
 obtain ⟨i0,hi,hz0,hz1,hz2⟩:=info_parts Tryz.infoStr
 have Hs:=hid hs
 have Hl:=hid hl
 have hn:=hs.few
 clear hs hl
 go_enter Tryz.func196,Tryz.ntmps196
 go_wp2
 obtain ⟨hb0,hs0,hc0⟩:=zx w #[.slice (some ⟨g,0,none⟩) 3 3,fnV 202,fnV 203,fnV 204,fnV 205,fnV 206,fnV 207] 225
 have hc:_=some (fnV 204):=hc0 3
 have Hl0:=hid (Hl.out.later hb0)
 have Hb0:=hid hb0
 have Hc:=hid hc
 have hs1:=Nat.lt_of_lt_of_eq (Nat.lt_succ_self w.heap.size) hs0.symm
 clear hc0 hc hb0 hs0
 generalize w.alloc _=w0 at *
 go_loopw [5,10] (fun v i wr=>∃ (ps:List (List UInt8)) (k:Nat),k≤l.length∧i=.int .i64 (k:Int)∧ps.length=k∧wr.ownsRow w0.heap.size 9 1 v k (xT ps)∧ps.flatten=jN 5 l k∧Below w0.heap.size w0 wr)
  (fun _ i _=>l.length - (intOf i).toNat)
 case atStart=>exact ⟨[],0,Nat.zero_le _,rfl,rfl,World.ownsRow_nil _ _ _ _,rfl,Below.refl _ _⟩
 case round =>
  obtain ⟨ps,k,hkl,rfl,hpl,hown,hfl,hB⟩:=hrel
  have Hfl:=hid hfl
  clear hfl
  have hst:=zi 5 l Hs.out.small hn k
  by_cases hlt:k < l.length
  ·have hck:=(Hl0.out.later hB).cell k hlt
   have hcf:=(hB.cell (p:=⟨w.heap.size,3,none⟩) hs1).trans Hc.out
   have hsm:=Hs.out.small l[k] (List.getElem_mem hlt)
   have HT:Hid (xu 5 l k=xB (l[k]).text):=by
    show xu 5 l k=_
    simp only [xu,qD l k hlt]
   go_wp2_with fail
   refine (UE (l[k]).text _ (by have:=hsm.2.2;omega)).mono ?_
   rintro e w2 ⟨rfl,hb2⟩
   have hown2:=jm hown hb2
   have hB2:=hB.trans (hb2.mono hB.size)
   clear hown hb2 hB hck hcf
   generalize xB (l[k]).text=q at *
   go_wp2_with (at_builtin;refine wpList_append_own _ rfl (.tmp 14) (.tmp 19) 71 rfl w0.heap.size 9 i0 (.string ⟨#[]⟩) 1 16 Tryz.underlying71 hi hz0 hz1 hz2 rfl (by decide) _ _ _ rfl (hown2.alloc _) ⟨_,0,none⟩ 1 1 [strB q] rfl rfl ?c1 ?c2 ?c3 ?c4 ?c5 ?_)
   case c1=>exact qx w2 #[strB q] 9
   case c2=>intro u hu;simp at hu;subst hu;rfl
   case c3=>unfold maxLen;omega
   case c4=>omega
   case c5=>have:=hB2.size;simp;omega
   intro v3 w3 hown3 hgr3 _
   have HR:=hid (JJ (qs:=[q]) _ rfl hB2 hown2 hown3 hgr3)
   clear hown2 hown3 hgr3 hB2
   go_wp2
   go_roundw
   case rel=>exact ⟨ps++[q],k+1,by omega,by go_num,by simp;omega,HR.out.1,by rw [List.flatten_append,Hfl.out,jN,HT.out];simp,HR.out.2⟩
   case measure=>simp [intOf];omega
  ·have hke:k=l.length:=by omega
   subst hke
   have hps:ps≠[]:=by
    intro h
    subst h
    exact Hs.out.some_ (List.eq_nil_of_length_eq_zero hpl.symm)
   have HF:Hid (ps.flatten=qz 5 l):=by
    show ps.flatten=qz 5 l
    rw [Hfl.out];simp [qz]
   have hfl2:ps.flatten.length≤1000000:=by rw [Hfl.out];omega
   have Hps:=hid hps
   clear hps
   go_wp2_with fail
   refine (QI ps w0.heap.size l.length _ _ hown Hps.out (by omega) hfl2).mono ?_
   rintro e w2 ⟨rfl,hb2⟩
   go_wp2
   go_ret
   have hz:=Hb0.out.size
   have hBB:=Hb0.out.trans (hB.mono hz)
   exact ⟨qT HF.out,hBB.trans (hb2.mono hBB.size)⟩
theorem SP (g b cap:Nat) (l:List CellB) (w:World) (hs:Small l) (hl:IntsLie w b l) :
  Calls Tryz.prog 183 #[numC g,.slice (some ⟨b,0,none⟩) l.length cap] w fun e w'=>e=.returned (strB (qz 1 l))∧Below w.heap.size w w':=by
 obtain ⟨i0,hi,hz0,hz1,hz2⟩:=info_parts Tryz.infoStr
 have Hs:=hid hs
 have Hl:=hid hl
 have hn:=hs.few
 clear hs hl
 go_enter Tryz.func183,Tryz.ntmps183
 go_wp2
 obtain ⟨hb0,hs0,hc0⟩:=zx w #[.slice (some ⟨g,0,none⟩) 3 3,fnV 187,fnV 188,fnV 189,fnV 190,fnV 191,fnV 192] 215
 have hc:_=some (fnV 191):=hc0 5
 have Hl0:=hid (Hl.out.later hb0)
 have Hb0:=hid hb0
 have Hc:=hid hc
 have hs1:=Nat.lt_of_lt_of_eq (Nat.lt_succ_self w.heap.size) hs0.symm
 clear hc0 hc hb0 hs0
 generalize w.alloc _=w0 at *
 go_loopw [5,6,11] (fun v u i wr=>∃ (ps:List (List UInt8)) (k:Nat),k≤l.length∧i=.int .i64 (k:Int)∧u=.int .i64 (qF l k).int∧ps.length=k∧wr.ownsRow w0.heap.size 9 1 v k (xT ps)∧ps.flatten=jN 1 l k∧Below w0.heap.size w0 wr)
  (fun _ _ i _=>l.length - (intOf i).toNat)
 case atStart=>exact ⟨[],0,Nat.zero_le _,rfl,rfl,rfl,World.ownsRow_nil _ _ _ _,rfl,Below.refl _ _⟩
 case round =>
  obtain ⟨ps,k,hkl,rfl,rfl,hpl,hown,hfl,hB⟩:=hrel
  have Hfl:=hid hfl
  clear hfl
  have hst:=zi 1 l Hs.out.small hn k
  by_cases hlt:k < l.length
  ·have hck:=(Hl0.out.later hB).cell k hlt
   have hcf:=(hB.cell (p:=⟨w.heap.size,5,none⟩) hs1).trans Hc.out
   have hsm:=Hs.out.small l[k] (List.getElem_mem hlt)
   have hpr:=Uh l Hs.out.small k
   have HP:Hid (qF l (k+1)=l[k]):=by
    show qF l (k+1)=l[k]
    unfold qF
    rw [if_neg (by omega)]
    exact qD l k hlt
   have HT:Hid (xu 1 l k=zB (wrap64 ((l[k]).int - (qF l k).int))):=by
    show xu 1 l k=_
    simp only [xu,qD l k hlt]
   go_wp2_with fail
   refine (VN (qF l k).int (l[k]).int _ hpr.1 hpr.2.1 hsm.1 hsm.2.1).mono ?_
   rintro e w2 ⟨rfl,hb2⟩
   have hown2:=jm hown hb2
   have hB2:=hB.trans (hb2.mono hB.size)
   clear hown hb2 hB hck hcf
   generalize zB (wrap64 ((l[k]).int - (qF l k).int))=q at *
   go_wp2_with (at_builtin;refine wpList_append_own _ rfl (.tmp 15) (.tmp 21) 71 rfl w0.heap.size 9 i0 (.string ⟨#[]⟩) 1 16 Tryz.underlying71 hi hz0 hz1 hz2 rfl (by decide) _ _ _ rfl (hown2.alloc _) ⟨_,0,none⟩ 1 1 [strB q] rfl rfl ?c1 ?c2 ?c3 ?c4 ?c5 ?_)
   case c1=>exact qx w2 #[strB q] 9
   case c2=>intro u hu;simp at hu;subst hu;rfl
   case c3=>unfold maxLen;omega
   case c4=>omega
   case c5=>have:=hB2.size;simp;omega
   intro v3 w3 hown3 hgr3 _
   have HR:=hid (JJ (qs:=[q]) _ rfl hB2 hown2 hown3 hgr3)
   clear hown2 hown3 hgr3 hB2
   go_wp2
   go_roundw
   case rel=>exact ⟨ps++[q],k+1,by omega,by go_num,by rw [HP.out],by simp;omega,HR.out.1,by rw [List.flatten_append,Hfl.out,jN,HT.out];simp,HR.out.2⟩
   case measure=>simp [intOf];omega
  ·have hke:k=l.length:=by omega
   subst hke
   have hps:ps≠[]:=by
    intro h
    subst h
    exact Hs.out.some_ (List.eq_nil_of_length_eq_zero hpl.symm)
   have HF:Hid (ps.flatten=qz 1 l):=by
    show ps.flatten=qz 1 l
    rw [Hfl.out];simp [qz]
   have hfl2:ps.flatten.length≤1000000:=by rw [Hfl.out];omega
   have Hps:=hid hps
   clear hps
   go_wp2_with fail
   refine (QI ps w0.heap.size l.length _ _ hown Hps.out (by omega) hfl2).mono ?_
   rintro e w2 ⟨rfl,hb2⟩
   go_wp2
   go_ret
   have hz:=Hb0.out.size
   have hBB:=Hb0.out.trans (hB.mono hz)
   exact ⟨qT HF.out,hBB.trans (hb2.mono hBB.size)⟩
theorem Lq (g b cap:Nat) (l:List CellB) (w:World) (hs:Small l) (hl:TextsLie w b l) :
  Calls Tryz.prog 200 #[txtC g,.slice (some ⟨b,0,none⟩) l.length cap] w fun e w'=>e=.returned (strB (qz 4 l))∧Below w.heap.size w w':=by
 obtain ⟨i0,hi,hz0,hz1,hz2⟩:=info_parts Tryz.infoStr
 have Hs:=hid hs
 have Hl:=hid hl
 have hn:=hs.few
 clear hs hl
 go_enter Tryz.func200,Tryz.ntmps200
 go_wp2
 obtain ⟨hb0,hs0,hc0⟩:=zx w #[.slice (some ⟨g,0,none⟩) 3 3,fnV 202,fnV 203,fnV 204,fnV 205,fnV 206,fnV 207] 225
 have hc:_=some (fnV 206):=hc0 5
 have Hl0:=hid (Hl.out.later hb0)
 have Hb0:=hid hb0
 have Hc:=hid hc
 have hs1:=Nat.lt_of_lt_of_eq (Nat.lt_succ_self w.heap.size) hs0.symm
 clear hc0 hc hb0 hs0
 generalize w.alloc _=w0 at *
 go_loopw [5,6,11] (fun v u i wr=>∃ (ps:List (List UInt8)) (k:Nat),k≤l.length∧i=.int .i64 (k:Int)∧u=strB (qF l k).text∧ps.length=k∧wr.ownsRow w0.heap.size 9 1 v k (xT ps)∧ps.flatten=jN 4 l k∧Below w0.heap.size w0 wr)
  (fun _ _ i _=>l.length - (intOf i).toNat)
 case atStart=>exact ⟨[],0,Nat.zero_le _,rfl,rfl,rfl,World.ownsRow_nil _ _ _ _,rfl,Below.refl _ _⟩
 case round =>
  obtain ⟨ps,k,hkl,rfl,rfl,hpl,hown,hfl,hB⟩:=hrel
  have Hfl:=hid hfl
  clear hfl
  have hst:=zi 4 l Hs.out.small hn k
  by_cases hlt:k < l.length
  ·have hck:=(Hl0.out.later hB).cell k hlt
   have hcf:=(hB.cell (p:=⟨w.heap.size,5,none⟩) hs1).trans Hc.out
   have hsm:=Hs.out.small l[k] (List.getElem_mem hlt)
   have hpr:=Uh l Hs.out.small k
   have HP:Hid (qF l (k+1)=l[k]):=by
    show qF l (k+1)=l[k]
    unfold qF
    rw [if_neg (by omega)]
    exact qD l k hlt
   have HT:Hid (xu 4 l k=uB (jJ (qF l k).text (l[k]).text)++xB ((l[k]).text.drop (jJ (qF l k).text (l[k]).text))):=by
    show xu 4 l k=_
    simp only [xu,qD l k hlt,ZV (qF l k).text]
   go_wp2_with fail
   refine (YL (qF l k).text (l[k]).text _ hpr.2.2 hsm.2.2).mono ?_
   rintro e w2 ⟨rfl,hb2⟩
   have hown2:=jm hown hb2
   have hB2:=hB.trans (hb2.mono hB.size)
   clear hown hb2 hB hck hcf
   generalize uB (jJ (qF l k).text (l[k]).text)++xB ((l[k]).text.drop (jJ (qF l k).text (l[k]).text))=q at *
   go_wp2_with (at_builtin;refine wpList_append_own _ rfl (.tmp 15) (.tmp 21) 71 rfl w0.heap.size 9 i0 (.string ⟨#[]⟩) 1 16 Tryz.underlying71 hi hz0 hz1 hz2 rfl (by decide) _ _ _ rfl (hown2.alloc _) ⟨_,0,none⟩ 1 1 [strB q] rfl rfl ?c1 ?c2 ?c3 ?c4 ?c5 ?_)
   case c1=>exact qx w2 #[strB q] 9
   case c2=>intro u hu;simp at hu;subst hu;rfl
   case c3=>unfold maxLen;omega
   case c4=>omega
   case c5=>have:=hB2.size;simp;omega
   intro v3 w3 hown3 hgr3 _
   have HR:=hid (JJ (qs:=[q]) _ rfl hB2 hown2 hown3 hgr3)
   clear hown2 hown3 hgr3 hB2
   go_wp2
   go_roundw
   case rel=>exact ⟨ps++[q],k+1,by omega,by go_num,by rw [HP.out],by simp;omega,HR.out.1,by rw [List.flatten_append,Hfl.out,jN,HT.out];simp,HR.out.2⟩
   case measure=>simp [intOf];omega
  ·have hke:k=l.length:=by omega
   subst hke
   have hps:ps≠[]:=by
    intro h
    subst h
    exact Hs.out.some_ (List.eq_nil_of_length_eq_zero hpl.symm)
   have HF:Hid (ps.flatten=qz 4 l):=by
    show ps.flatten=qz 4 l
    rw [Hfl.out];simp [qz]
   have hfl2:ps.flatten.length≤1000000:=by rw [Hfl.out];omega
   have Hps:=hid hps
   clear hps
   go_wp2_with fail
   refine (QI ps w0.heap.size l.length _ _ hown Hps.out (by omega) hfl2).mono ?_
   rintro e w2 ⟨rfl,hb2⟩
   go_wp2
   go_ret
   have hz:=Hb0.out.size
   have hBB:=Hb0.out.trans (hB.mono hz)
   exact ⟨qT HF.out,hBB.trans (hb2.mono hBB.size)⟩
end Go.Proofs.YthhpbhpfagoapaaGreat
