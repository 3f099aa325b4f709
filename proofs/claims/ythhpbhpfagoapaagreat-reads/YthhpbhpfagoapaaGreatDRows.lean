import Derived.Test.YthhpbhpfagoapaaGreatJAN
import Derived.Deep.AppendLies
import Derived.Deep.RegionHeld3
namespace Go.Proofs.YthhpbhpfagoapaaGreat
set_option linter.unusedVariables false
set_option linter.unusedSimpArgs false
set_option maxRecDepth 100000
set_option maxHeartbeats 16000000
open Go.RowKit
def II (l:List CellB) (k:Nat):Prop:=k=0∨l.length≤k∨(xP l k).int≠(jR l k).int
theorem GB (l:List CellB) (k:Nat) (h:k < l.length):zZ (l[k]).int (l.drop k)=zZ (l[k]).int (l.drop (k+1))+1:=by
 rw [List.drop_eq_getElem_cons h]
 simp [zZ]
theorem GC (l:List CellB) (k j:Nat) (h:k < l.length) (hj:j < zZ (l[k]).int (l.drop k)):(xP l (k+j)).int=(l[k]).int:=by
 obtain ⟨h1,h2⟩:=GM _ _ j hj
 rw [List.getElem_drop] at h2
 rw [List.length_drop] at h1
 rw [jY l (k+j) (by omega)]
 exact h2
theorem Np (l:List CellB) (k:Nat) (h:k < l.length) (hr:II l k):∀ j,0 < j→j≤zZ (l[k]).int (l.drop k) →
  js 2 l (k+j)=js 2 l k++(uB (zZ (l[k]).int (l.drop k))++zB (l[k]).int):=by
 intro j
 induction j with
 | zero=>intro h0;omega
 | succ j ih =>
  intro _ hj
  rcases Nat.eq_zero_or_pos j with h0|h0
  ·subst h0
   rw [Nat.zero_add,js]
   congr 1
   have:k=0∨(xP l k).int≠(jR l k).int:=by
    rcases hr with h1|h1|h1
    ·exact .inl h1
    ·omega
    ·exact .inr h1
   simp only [qG]
   rw [if_pos this,jY l k h,GB l k h]
  ·have e1:=GC l k j h (by omega)
   have e2:=GC l k (j - 1) h (by omega)
   have e3:jR l (k+j)=xP l (k+(j - 1)):=by
    unfold jR
    rw [if_neg (by omega)]
    congr 1
    omega
   rw [← Nat.add_assoc,js,ih h0 (by omega)]
   have:qG 2 l (k+j)=[]:=by
    simp only [qG]
    rw [if_neg]
    intro hc
    rcases hc with hc|hc
    ·omega
    ·apply hc;rw [e1,e3,e2]
   rw [this,List.append_nil]
theorem IK (l:List CellB) (k:Nat) (h:k < l.length):II l (k+zZ (l[k]).int (l.drop k)):=by
 by_cases hl:l.length≤k+zZ (l[k]).int (l.drop k)
 ·exact .inr (.inl hl)
 ·have h2:=Uw (l[k]).int (l.drop k) (by rw [List.length_drop];omega)
  rw [List.getElem_drop] at h2
  have hp:=GB l k h
  have e2:=GC l k (zZ (l[k]).int (l.drop k) - 1) h (by omega)
  refine .inr (.inr ?_)
  have e3:jR l (k+zZ (l[k]).int (l.drop k))=xP l (k+(zZ (l[k]).int (l.drop k) - 1)):=by
   unfold jR
   rw [if_neg (by omega)]
   congr 1
   omega
  rw [e3,e2,jY l _ (by omega)]
  exact h2
theorem Vz (n:Int) (h0:-9223372036854775808≤n) (h1:n≤9223372036854775807):wrap64 (n - 0)=n:=by
 unfold wrap64;omega
theorem Tr (v:Int) (w:World) (h2:-9223372036854775808≤v) (h3:v≤9223372036854775807) :
  Calls Tryz.prog 191 #[.int .i64 0,.int .i64 v] w fun e w'=>e=.returned (strB (zB v))∧Below w.heap.size w w':=by
 have:=VV 0 v w (by decide) (by decide) h2 h3
 rw [Vz v h2 h3] at this
 exact this
theorem jc {w:World} {a:Addr} {v:Value} (o:Obj) (h:w.cell? a=some v):(w.alloc o).cell? a=some v:=by
 exact (World.cell?_alloc_lt w o a (World.block_lt_of_cell? w _ h)).trans h
theorem zg {w w':World} {u v:Value} {base e size n:Nat} {xs:List Value} {a:Addr} (hg:w.grownBy w' u.ownBlock) (ho:w.ownsRow base e size u n xs) (h:w.cell? a=some v) (hb:a.block < base):w'.cell? a=some v:=by
 have hne:some a.block≠u.ownBlock:=by
  intro he
  have:=(ho.lt a.block he.symm).1
  omega
 exact (hg.cell_far a (World.block_lt_of_cell? w _ h) hne).trans h
theorem LJ (g b cap:Nat) (l:List CellB) (w:World) (hs:Small l) (hl:IntsLie w b l) :
  Calls Tryz.prog 185 #[numC g,.slice (some ⟨b,0,none⟩) l.length cap] w fun e w'=>e=.returned (strB (qq 2 l))∧Below w.heap.size w w':=by
 obtain ⟨i0,hi,hz0,hz1,hz2⟩:=info_parts Tryz.infoStr
 have Hs:=hid hs
 have Hl:=hid hl
 have hn:=hs.few
 clear hs hl
 go_enter Tryz.func185,Tryz.ntmps185
 go_wp2
 obtain ⟨hb0,hs0,hc0⟩:=zV w #[.slice (some ⟨g,0,none⟩) 3 3,fnV 187,fnV 188,fnV 189,fnV 190,fnV 191,fnV 192] 215
 have hc:_=some (fnV 191):=hc0 5
 have Hl0:=hid (Hl.out.later hb0)
 have Hb0:=hid hb0
 have Hc:=hid hc
 have hs1:=Nat.lt_of_lt_of_eq (Nat.lt_succ_self w.heap.size) hs0.symm
 clear hc0 hc hb0 hs0
 generalize w.alloc _=w0 at *
 go_loopw [5,7] (fun v i wr=>∃ (ps:List (List UInt8)) (k:Nat),k≤l.length∧i=.int .i64 (k:Int)∧ps.length≤2*k∧(0 < k→ps≠[])∧wr.ownsRow w0.heap.size 9 1 v ps.length (zz ps)∧ps.flatten=js 2 l k∧II l k∧Below w0.heap.size w0 wr)
  (fun _ i _=>l.length - (intOf i).toNat)
 case atStart=>exact ⟨[],0,Nat.zero_le _,rfl,Nat.zero_le _,fun h=>absurd h (Nat.lt_irrefl _),World.ownsRow_nil _ _ _ _,rfl,.inl rfl,Below.refl _ _⟩
 case round =>
  obtain ⟨ps,k,hkl,rfl,hpl,hps,hown,hfl,hra,hB⟩:=hrel
  have Hfl:=hid hfl
  have Hps:=hid hps
  have Hra:=hid hra
  clear hfl hps hra
  have hst:=xl 2 l Hs.out.small hn k
  by_cases hlt:k < l.length
  ·obtain ⟨W1,rfl⟩:∃ W1,W1=wr:=⟨_,rfl⟩
   have hki:(k:Int) < (l.length:Int):=by omega
   have Hcell:=hid (Hl0.out.later hB).cell
   have hck:=(Hl0.out.later hB).cell k hlt
   have hbw:=(Hl0.out.later hB).lt
   have Hbl:=hid Hl0.out.lt
   have hcf:=(hB.cell (p:=⟨w.heap.size,5,none⟩) hs1).trans Hc.out
   have hsm:=Hs.out.small l[k] (List.getElem_mem hlt)
   obtain ⟨hv0,hv1,_⟩:=hsm
   have HST:=hid (Np l k hlt Hra.out)
   have HRE:=hid (IK l k hlt)
   have HRL:=hid (GM (l[k]).int (l.drop k))
   have HRX:=hid (Uw (l[k]).int (l.drop k))
   have hrp:=GB l k hlt
   have hrp2:0 < zZ (l[k]).int (l.drop k):=by omega
   have hrl:=UV (l[k]).int (l.drop k)
   rw [List.length_drop] at hrl
   clear hrp
   generalize zZ (l[k]).int (l.drop k)=r at *
   generalize (l[k]).int=vv at *
   go_wp2_with fail
   go_loopw [8] (fun i wi=>∃ m:Nat,m≤r∧i=.int .i64 ((k+m:Nat):Int)∧Below W1.heap.size W1 wi) (fun i _=>100 - (intOf i).toNat)
   case atStart=>exact ⟨0,Nat.zero_le _,rfl,Below.refl _ _⟩
   case round =>
    obtain ⟨m,hm,rfl,hBi⟩:=hrel
    have hck2:=(hBi.cell (p:=⟨b,k,none⟩) hbw).trans hck
    by_cases hmr:m < r
    ·have hkm:k+m < l.length:=by omega
     have g1:=(hBi.cell (p:=⟨b,k+m,none⟩) hbw).trans (Hcell.out (k+m) hkm)
     have hnb:(l[k+m]).int=vv:=by
      obtain ⟨_,h2⟩:=HRL.out m hmr
      rw [List.getElem_drop] at h2
      exact h2
     rw [hnb] at g1
     have hkmi:((k+m:Nat):Int) < (l.length:Int):=by omega
     generalize hkm2:k+m=q at *
     have Hkm2:=hid hkm2
     clear hkm2 hnb
     have hee:(vv == vv)=true:=by simp
     go_wp2_with fail
     go_quiet (fail)
     go_wp2
     go_roundw
     case rel=>exact ⟨m+1,by omega,by rw [← Nat.add_assoc,Hkm2.out];go_num,below_drewN hBi nq⟩
     case measure=>simp [intOf];omega
    ·have hmr2:m=r:=by omega
     subst hmr2
     go_upto_region 6 with fail
     go_cut [28] (fun t wd=>t=.bool false∧Below W1.heap.size W1 wd)
     case first =>
      by_cases hend:k+m < l.length
      ·have g1:=(hBi.cell (p:=⟨b,k+m,none⟩) hbw).trans (Hcell.out (k+m) hend)
       have hnb:((l[k+m]).int == vv)=false:=by
        have h2:=HRX.out (by rw [List.length_drop];omega)
        rw [List.getElem_drop] at h2
        simpa using h2
       have hkmi:((k+m:Nat):Int) < (l.length:Int):=by omega
       generalize (l[k+m]).int=v2 at *
       generalize k+m=q at *
       go_quiet (fail)
       go_wp2_with fail
       go_meet
       case rel=>exact ⟨rfl,below_drewN hBi nq⟩
      ·have hkmi:decide (((k+m:Nat):Int) < (l.length:Int))=false:=by simp;omega
       generalize k+m=q at *
       go_quiet (fail)
       go_wp2_with fail
       go_meet
       case rel=>exact ⟨rfl,below_drewN hBi nq⟩
     case rest =>
      obtain ⟨rfl,hBj⟩:=hcut
      have hck3:=(hBj.cell (p:=⟨b,k,none⟩) hbw).trans hck
      have hcf3:=(hBj.cell (p:=⟨w.heap.size,5,none⟩) (Nat.lt_of_lt_of_le hs1 hB.size)).trans hcf
      have hownc:=jH hown hBj
      have hBc:=hB.trans (hBj.mono hB.size)
      have hbc:b < wc.heap.size:=Nat.lt_of_lt_of_le hbw hBj.size
      have hwc:w.heap.size < wc.heap.size:=Nat.lt_of_lt_of_le (Nat.lt_of_lt_of_le hs1 hB.size) hBj.size
      have HX:Hid (ps.flatten++(uB m++zB vv)=js 2 l (k+m)):=by
       show _=_
       rw [Hfl.out];exact (HST.out m hrp2 (Nat.le_refl _)).symm
      clear hck hcf hck2 hown hBj hBi hB
      have hk0:(0:Int)≤(k:Int):=by omega
      go_wp2_with fail
      go_region_held3 (fun w'=>w'.cell? ⟨w.heap.size,5,none⟩=some (fnV 191)∧w'.cell? ⟨b,k,none⟩=some (.int .i64 vv)) (first|(exact ⟨hcf3,hck3⟩)|(exact ⟨x1,y1⟩)|(exact ⟨x2,y2⟩)|(exact ⟨jc _ x2,jc _ y2⟩)|(exact ⟨x3,y3⟩))
       (first
        | (go_at_call 241;refine (Io _ m _ ?_ ?_).mono ?_;(rw [IntKind.wrap_i64];omega);omega;rintro e w5 ⟨rfl,hb5⟩;have x1:=(hb5.cell (p:=⟨w.heap.size,5,none⟩) hwc).trans hcf3;have y1:=(hb5.cell (p:=⟨b,k,none⟩) hbc).trans hck3)
        | (go_at_call 191;refine (Tr vv _ hv0 hv1).mono ?_;rintro e w6 ⟨rfl,hb6⟩;have x2:=(hb6.cell (p:=⟨w.heap.size,5,none⟩) (Nat.lt_of_lt_of_le hwc hb5.size)).trans x1;have y2:=(hb6.cell (p:=⟨b,k,none⟩) (Nat.lt_of_lt_of_le hbc hb5.size)).trans y1)
        | (refine step_append_lies _ (by rfl) _ _ _ (by rfl) w0.heap.size 9 i0 _ 1 16 Tryz.underlying71 hi hz0 hz1 hz2 rfl (by omega) _ ps.length (zz ps) (by rfl) ((jH (jH hownc (ji hb5)) hb6).alloc _) ⟨w6.heap.size,0,none⟩ 2 2 [strB (uB m),strB (zB vv)] (by rfl) (by rfl) (World.news_of_block (cs:=#[strB (uB m),strB (zB vv)]) (t:=9) (fr:=(0,0)) (heap_alloc_new w6 _)) (by simp [Value.oneCell']) (by omega) (by unfold maxLen;omega) (by omega) (by have:=hBc.size;have:=hb5.size;have:=hb6.size;simp at *;omega) _ rfl ?_;intro gg cc w7 hown7 hgr7 hat7 hlt7;have x3:=zg hgr7 ((jH (jH hownc (ji hb5)) hb6).alloc _) (jc _ x2) hs1;have y3:=zg hgr7 ((jH (jH hownc (ji hb5)) hb6).alloc _) (jc _ y2) Hbl.out))
      have hb5':=ji hb5
      have hB5:=hBc.trans (hb5'.mono hBc.size)
      have hB6:=hB5.trans (hb6.mono hB5.size)
      have HR:=hid (Xr (qs:=[uB m,zB vv]) _ rfl hB6 (jH (jH hownc hb5') hb6) hown7 hgr7)
      clear x1 x2 x3 y1 y2 y3 hcf3 hck3 hownc hBc hb5 hb5' hb6 hB5 hB6 hown7 hgr7 hat7 hlt7
      go_wp2
      go_roundw
      case rel=>exact ⟨ps++[uB m,zB vv],k+m,by omega,rfl,by simp;omega,fun _=>by simp,by simpa using HR.out.1,by rw [List.flatten_append,← HX.out];simp,HRE.out,HR.out.2⟩
      case measure=>simp [intOf];omega
  ·have hke:k=l.length:=by omega
   subst hke
   have hpn:ps≠[]:=Hps.out (List.length_pos_iff.2 Hs.out.some_)
   have HF:Hid (ps.flatten=qq 2 l):=by
    show ps.flatten=qq 2 l
    rw [Hfl.out];simp [qq]
   have hfl2:ps.flatten.length≤1000000:=by rw [Hfl.out];omega
   have Hpn:=hid hpn
   clear hpn
   have hki:decide ((l.length:Int) < (l.length:Int))=false:=by simp
   go_wp2_with fail
   refine (XA ps w0.heap.size ps.length _ _ hown Hpn.out (by omega) hfl2).mono ?_
   rintro e w2 ⟨rfl,hb2⟩
   go_wp2
   go_ret
   have hz:=Hb0.out.size
   have hBB:=Hb0.out.trans (hB.mono hz)
   exact ⟨qt HF.out,hBB.trans (hb2.mono hBB.size)⟩
end Go.Proofs.YthhpbhpfagoapaaGreat
