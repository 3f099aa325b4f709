import Derived.Test.YthhpbhpfagoapaaGreatDWays
import Derived.Deep.AppendLies
import Derived.Deep.RegionHeld3
import Derived.Test.YthhpbhpfagoapaaGreatJAR
namespace Go.Proofs.YthhpbhpfagoapaaGreat
set_option linter.unusedVariables false
set_option linter.unusedSimpArgs false
set_option maxRecDepth 100000
set_option maxHeartbeats 16000000
open Go.RowKit
section
def EM (l:List CellB) (k:Nat):Prop:=k=0∨l.length≤k∨(xY l k).int≠(qF l k).int
theorem Gt (l:List CellB) (k:Nat) (h:k < l.length):zT (l[k]).int (l.drop k)=zT (l[k]).int (l.drop (k+1))+1:=by
 rw [List.drop_eq_getElem_cons h]
 simp [zT]
theorem Gv (l:List CellB) (k j:Nat) (h:k < l.length) (hj:j < zT (l[k]).int (l.drop k)):(xY l (k+j)).int=(l[k]).int:=by
 obtain ⟨h1,h2⟩:=YP _ _ j hj
 rw [List.getElem_drop] at h2
 rw [List.length_drop] at h1
 rw [qD l (k+j) (by omega)]
 exact h2
theorem NP (l:List CellB) (k:Nat) (h:k < l.length) (hr:EM l k):∀ j,0 < j→j≤zT (l[k]).int (l.drop k) →
  jN 2 l (k+j)=jN 2 l k++(uB (zT (l[k]).int (l.drop k))++zB (l[k]).int):=by
 intro j
 induction j with
 | zero=>intro h0;omega
 | succ j ih =>
  intro _ hj
  rcases Nat.eq_zero_or_pos j with h0|h0
  ·subst h0
   rw [Nat.zero_add,jN]
   congr 1
   have:k=0∨(xY l k).int≠(qF l k).int:=by
    rcases hr with h1|h1|h1
    ·exact .inl h1
    ·omega
    ·exact .inr h1
   simp only [xu]
   rw [if_pos this,qD l k h,Gt l k h]
  ·have e1:=Gv l k j h (by omega)
   have e2:=Gv l k (j - 1) h (by omega)
   have e3:qF l (k+j)=xY l (k+(j - 1)):=by
    unfold qF
    rw [if_neg (by omega)]
    congr 1
    omega
   rw [← Nat.add_assoc,jN,ih h0 (by omega)]
   have:xu 2 l (k+j)=[]:=by
    simp only [xu]
    rw [if_neg]
    intro hc
    rcases hc with hc|hc
    ·omega
    ·apply hc;rw [e1,e3,e2]
   rw [this,List.append_nil]
theorem Iz (l:List CellB) (k:Nat) (h:k < l.length):EM l (k+zT (l[k]).int (l.drop k)):=by
 by_cases hl:l.length≤k+zT (l[k]).int (l.drop k)
 ·exact .inr (.inl hl)
 ·have h2:=NF (l[k]).int (l.drop k) (by rw [List.length_drop];omega)
  rw [List.getElem_drop] at h2
  have hp:=Gt l k h
  have e2:=Gv l k (zT (l[k]).int (l.drop k) - 1) h (by omega)
  refine .inr (.inr ?_)
  have e3:qF l (k+zT (l[k]).int (l.drop k))=xY l (k+(zT (l[k]).int (l.drop k) - 1)):=by
   unfold qF
   rw [if_neg (by omega)]
   congr 1
   omega
  rw [e3,e2,qD l _ (by omega)]
  exact h2
theorem Vv (n:Int) (h0:-9223372036854775808≤n) (h1:n≤9223372036854775807):wrap64 (n - 0)=n:=by
 unfold wrap64;omega
theorem TY (v:Int) (w:World) (h2:-9223372036854775808≤v) (h3:v≤9223372036854775807) :
  Calls Tryz.prog 191 #[.int .i64 0,.int .i64 v] w fun e w'=>e=.returned (strB (zB v))∧Below w.heap.size w w':=by
 have:=VN 0 v w (by decide) (by decide) h2 h3
 rw [Vv v h2 h3] at this
 exact this
theorem jc {w:World} {a:Addr} {v:Value} (o:Obj) (h:w.cell? a=some v):(w.alloc o).cell? a=some v:=by
 exact (World.cell?_alloc_lt w o a (World.block_lt_of_cell? w _ h)).trans h
theorem zc {w w':World} {u v:Value} {base e size n:Nat} {xs:List Value} {a:Addr} (hg:w.grownBy w' u.ownBlock) (ho:w.ownsRow base e size u n xs) (h:w.cell? a=some v) (hb:a.block < base):w'.cell? a=some v:=by
 have hne:some a.block≠u.ownBlock:=by
  intro he
  have:=(ho.lt a.block he.symm).1
  omega
 exact (hg.cell_far a (World.block_lt_of_cell? w _ h) hne).trans h
theorem LN (g b cap:Nat) (l:List CellB) (w:World) (hs:Small l) (hl:IntsLie w b l) :
  Calls Tryz.prog 185 #[numC g,.slice (some ⟨b,0,none⟩) l.length cap] w fun e w'=>e=.returned (strB (qz 2 l))∧Below w.heap.size w w':=by
 obtain ⟨i0,hi,hz0,hz1,hz2⟩:=info_parts Tryz.infoStr
 have Hs:=hid hs
 have Hl:=hid hl
 have hn:=hs.few
 clear hs hl
 go_enter Tryz.func185,Tryz.ntmps185
 go_wp2
 obtain ⟨hb0,hs0,hc0⟩:=zx w #[.slice (some ⟨g,0,none⟩) 3 3,fnV 187,fnV 188,fnV 189,fnV 190,fnV 191,fnV 192] 215
 have hc:_=some (fnV 191):=hc0 5
 have Hl0:=hid (Hl.out.later hb0)
 have Hb0:=hid hb0
 have Hc:=hid hc
 have hs1:=Nat.lt_of_lt_of_eq (Nat.lt_succ_self w.heap.size) hs0.symm
 clear hc0 hc hb0 hs0
 generalize w.alloc _=w0 at *
 go_loopw [5,7] (fun v i wr=>∃ (ps:List (List UInt8)) (k:Nat),k≤l.length∧i=.int .i64 (k:Int)∧ps.length≤2*k∧(0 < k→ps≠[])∧wr.ownsRow w0.heap.size 9 1 v ps.length (xT ps)∧ps.flatten=jN 2 l k∧EM l k∧Below w0.heap.size w0 wr)
  (fun _ i _=>l.length - (intOf i).toNat)
 case atStart=>exact ⟨[],0,Nat.zero_le _,rfl,Nat.zero_le _,fun h=>absurd h (Nat.lt_irrefl _),World.ownsRow_nil _ _ _ _,rfl,.inl rfl,Below.refl _ _⟩
 case round =>
  obtain ⟨ps,k,hkl,rfl,hpl,hps,hown,hfl,hra,hB⟩:=hrel
  have Hfl:=hid hfl
  have Hps:=hid hps
  have Hra:=hid hra
  clear hfl hps hra
  have hst:=zi 2 l Hs.out.small hn k
  by_cases hlt:k < l.length
  ·obtain ⟨W1,rfl⟩:∃ W1,W1=wr:=⟨_,rfl⟩
   have hki:(k:Int) < (l.length:Int):=by omega
   have Hcell:=hid (Hl0.out.later hB).cell
   have hck:=(Hl0.out.later hB).cell k hlt
   have hbw:=(Hl0.out.later hB).lt
   have Hbl:=hid Hl0.out.lt
   have hcf:=(hB.cell (p:=⟨w.heap.size,5,none⟩) hs1).trans Hc.out
   have hsm:=Hs.out.small l[k] (List.getElem_mem hlt)
   obtain ⟨hv0,hv1,_⟩:=hsm
   have HST:=hid (NP l k hlt Hra.out)
   have HRE:=hid (Iz l k hlt)
   have HRL:=hid (YP (l[k]).int (l.drop k))
   have HRX:=hid (NF (l[k]).int (l.drop k))
   have hrp:=Gt l k hlt
   have hrp2:0 < zT (l[k]).int (l.drop k):=by omega
   have hrl:=Gw (l[k]).int (l.drop k)
   rw [List.length_drop] at hrl
   clear hrp
   generalize zT (l[k]).int (l.drop k)=r at *
   generalize (l[k]).int=vv at *
   go_wp2_with fail
   go_loopw [8] (fun i wi=>∃ m:Nat,m≤r∧i=.int .i64 ((k+m:Nat):Int)∧Below W1.heap.size W1 wi) (fun i _=>100 - (intOf i).toNat)
   case atStart=>exact ⟨0,Nat.zero_le _,rfl,Below.refl _ _⟩
   case round =>
    obtain ⟨m,hm,rfl,hBi⟩:=hrel
    have hck2:=(hBi.cell (p:=⟨b,k,none⟩) hbw).trans hck
    by_cases hmr:m < r
    ·have hkm:k+m < l.length:=by omega
     have g1:=(hBi.cell (p:=⟨b,k+m,none⟩) hbw).trans (Hcell.out (k+m) hkm)
     have hnb:(l[k+m]).int=vv:=by
      obtain ⟨_,h2⟩:=HRL.out m hmr
      rw [List.getElem_drop] at h2
      exact h2
     rw [hnb] at g1
     have hkmi:((k+m:Nat):Int) < (l.length:Int):=by omega
     generalize hkm2:k+m=q at *
     have Hkm2:=hid hkm2
     clear hkm2 hnb
     have hee:(vv == vv)=true:=by simp
     go_wp2_with fail
     go_quiet (fail)
     go_wp2
     go_roundw
     case rel=>exact ⟨m+1,by omega,by rw [← Nat.add_assoc,Hkm2.out];go_num,below_drewN hBi nq⟩
     case measure=>simp [intOf];omega
    ·have hmr2:m=r:=by omega
     subst hmr2
     go_upto_region 6 with fail
     go_cut [28] (fun t wd=>t=.bool false∧Below W1.heap.size W1 wd)
     case first =>
      by_cases hend:k+m < l.length
      ·have g1:=(hBi.cell (p:=⟨b,k+m,none⟩) hbw).trans (Hcell.out (k+m) hend)
       have hnb:((l[k+m]).int == vv)=false:=by
        have h2:=HRX.out (by rw [List.length_drop];omega)
        rw [List.getElem_drop] at h2
        simpa using h2
       have hkmi:((k+m:Nat):Int) < (l.length:Int):=by omega
       generalize (l[k+m]).int=v2 at *
       generalize k+m=q at *
       go_quiet (fail)
       go_wp2_with fail
       go_meet
       case rel=>exact ⟨rfl,below_drewN hBi nq⟩
      ·have hkmi:decide (((k+m:Nat):Int) < (l.length:Int))=false:=by simp;omega
       generalize k+m=q at *
       go_quiet (fail)
       go_wp2_with fail
       go_meet
       case rel=>exact ⟨rfl,below_drewN hBi nq⟩
     case rest =>
      obtain ⟨rfl,hBj⟩:=hcut
      have hck3:=(hBj.cell (p:=⟨b,k,none⟩) hbw).trans hck
      have hcf3:=(hBj.cell (p:=⟨w.heap.size,5,none⟩) (Nat.lt_of_lt_of_le hs1 hB.size)).trans hcf
      have hownc:=jm hown hBj
      have hBc:=hB.trans (hBj.mono hB.size)
      have hbc:b < wc.heap.size:=Nat.lt_of_lt_of_le hbw hBj.size
      have hwc:w.heap.size < wc.heap.size:=Nat.lt_of_lt_of_le (Nat.lt_of_lt_of_le hs1 hB.size) hBj.size
      have HX:Hid (ps.flatten++(uB m++zB vv)=jN 2 l (k+m)):=by
       show _=_
       rw [Hfl.out];exact (HST.out m hrp2 (Nat.le_refl _)).symm
      clear hck hcf hck2 hown hBj hBi hB
      have hk0:(0:Int)≤(k:Int):=by omega
      go_wp2_with fail
      go_region_held3 (fun w'=>w'.cell? ⟨w.heap.size,5,none⟩=some (fnV 191)∧w'.cell? ⟨b,k,none⟩=some (.int .i64 vv)) (first|(exact ⟨hcf3,hck3⟩)|(exact ⟨x1,y1⟩)|(exact ⟨x2,y2⟩)|(exact ⟨jc _ x2,jc _ y2⟩)|(exact ⟨x3,y3⟩))
       (first
        | (go_at_call 241;refine (ID _ m _ ?_ ?_).mono ?_;(rw [IntKind.wrap_i64];omega);omega;rintro e w5 ⟨rfl,hb5⟩;have x1:=(hb5.cell (p:=⟨w.heap.size,5,none⟩) hwc).trans hcf3;have y1:=(hb5.cell (p:=⟨b,k,none⟩) hbc).trans hck3)
        | (go_at_call 191;refine (TY vv _ hv0 hv1).mono ?_;rintro e w6 ⟨rfl,hb6⟩;have x2:=(hb6.cell (p:=⟨w.heap.size,5,none⟩) (Nat.lt_of_lt_of_le hwc hb5.size)).trans x1;have y2:=(hb6.cell (p:=⟨b,k,none⟩) (Nat.lt_of_lt_of_le hbc hb5.size)).trans y1)
        | (refine step_append_lies _ (by rfl) _ _ _ (by rfl) w0.heap.size 9 i0 _ 1 16 Tryz.underlying71 hi hz0 hz1 hz2 rfl (by omega) _ ps.length (xT ps) (by rfl) ((jm (jm hownc (ji hb5)) hb6).alloc _) ⟨w6.heap.size,0,none⟩ 2 2 [strB (uB m),strB (zB vv)] (by rfl) (by rfl) (World.news_of_block (cs:=#[strB (uB m),strB (zB vv)]) (t:=9) (fr:=(0,0)) (heap_alloc_new w6 _)) (by simp [Value.oneCell']) (by omega) (by unfold maxLen;omega) (by omega) (by have:=hBc.size;have:=hb5.size;have:=hb6.size;simp at *;omega) _ rfl ?_;intro gg cc w7 hown7 hgr7 hat7 hlt7;have x3:=zc hgr7 ((jm (jm hownc (ji hb5)) hb6).alloc _) (jc _ x2) hs1;have y3:=zc hgr7 ((jm (jm hownc (ji hb5)) hb6).alloc _) (jc _ y2) Hbl.out))
      have hb5':=ji hb5
      have hB5:=hBc.trans (hb5'.mono hBc.size)
      have hB6:=hB5.trans (hb6.mono hB5.size)
      have HR:=hid (JJ (qs:=[uB m,zB vv]) _ rfl hB6 (jm (jm hownc hb5') hb6) hown7 hgr7)
      clear x1 x2 x3 y1 y2 y3 hcf3 hck3 hownc hBc hb5 hb5' hb6 hB5 hB6 hown7 hgr7 hat7 hlt7
      go_wp2
      go_roundw
      case rel=>exact ⟨ps++[uB m,zB vv],k+m,by omega,rfl,by simp;omega,fun _=>by simp,by simpa using HR.out.1,by rw [List.flatten_append,← HX.out];simp,HRE.out,HR.out.2⟩
      case measure=>simp [intOf];omega
  ·have hke:k=l.length:=by omega
   subst hke
   have hpn:ps≠[]:=Hps.out (List.length_pos_iff.2 Hs.out.some_)
   have HF:Hid (ps.flatten=qz 2 l):=by
    show ps.flatten=qz 2 l
    rw [Hfl.out];simp [qz]
   have hfl2:ps.flatten.length≤1000000:=by rw [Hfl.out];omega
   have Hpn:=hid hpn
   clear hpn
   have hki:decide ((l.length:Int) < (l.length:Int))=false:=by simp
   go_wp2_with fail
   refine (QI ps w0.heap.size ps.length _ _ hown Hpn.out (by omega) hfl2).mono ?_
   rintro e w2 ⟨rfl,hb2⟩
   go_wp2
   go_ret
   have hz:=Hb0.out.size
   have hBB:=Hb0.out.trans (hB.mono hz)
   exact ⟨qT HF.out,hBB.trans (hb2.mono hBB.size)⟩
end
section
def Xv (D:List CellB):List (List UInt8):=D.map (·.text)
theorem Ua (A B:List CellB) (t:List UInt8):qb (A++B) t=if qb A t < A.length then qb A t else A.length+qb B t:=by
 induction A with
 | nil=>simp
 | cons c A ih =>
  simp only [List.cons_append,qb,List.length_cons]
  by_cases h:c.text=t
  ·simp [h]
  ·simp only [if_neg h,ih]
   by_cases h2:qb A t < A.length
   ·simp [h2]
   ·simp [h2];omega
theorem ZT (A:List CellB) (t:List UInt8):qb A t < A.length ↔ ∃ c ∈ A,c.text=t:=by
 constructor
 ·intro h
  induction A with
  | nil=>simp at h
  | cons c A ih =>
   by_cases hc:c.text=t
   ·exact ⟨c,by simp,hc⟩
   ·simp only [qb,if_neg hc,List.length_cons] at h
    obtain ⟨d,hd,ht⟩:=ih (by omega)
    exact ⟨d,by simp [hd],ht⟩
 ·intro h
  exact (Xn A t h).1
theorem Ix (l:List CellB) (k:Nat) (hk:k≤l.length):∀ c ∈ qj l k,∃ j,∃ h:j < l.length,j < k∧c=l[j]:=by
 induction k with
 | zero=>intro c hc;simp [qj] at hc
 | succ k ih =>
  intro c hc
  simp only [qj,List.mem_append] at hc
  rcases hc with hc|hc
  ·obtain ⟨j,h,h1,h2⟩:=ih (by omega) c hc
   exact ⟨j,h,by omega,h2⟩
  ·split at hc
   ·simp only [List.mem_cons,List.not_mem_nil,or_false] at hc
    exact ⟨k,by omega,by omega,by rw [hc,qD l k (by omega)]⟩
   ·cases hc
theorem Dc (l:List CellB) (k:Nat) (hk:k < l.length):qb (qj l k) (l[k]).text < (qj l k).length ↔ qb l (l[k]).text≠k:=by
 rw [ZT]
 constructor
 ·rintro ⟨c,hc,ht⟩ he
  obtain ⟨j,hj,hjk,rfl⟩:=Ix l k (by omega) c hc
  have:=Rm l j hj
  rw [ht,he] at this
  omega
 ·intro hne
  have hle:=Rm l k hk
  obtain ⟨h1,h2⟩:=Xn l (l[k]).text ⟨l[k],List.getElem_mem hk,rfl⟩
  exact ⟨_,NM l _ h1 (by rw [h2]) k (by omega) (by omega),h2⟩
theorem Ge (l:List CellB) (k:Nat) (hk:k < l.length):qj l (k+1)=if qb (qj l k) (l[k]).text < (qj l k).length then qj l k else qj l k++[l[k]]:=by
 have h:=Dc l k hk
 simp only [qj,qD l k hk]
 by_cases hf:qb l (l[k]).text=k
 ·rw [if_pos hf,if_neg (fun h2=>h.1 h2 hf)]
 ·rw [if_neg hf,if_pos (h.2 hf),List.append_nil]
theorem Ra (l:List CellB) (k j:Nat):∃ B,qj l (k+j)=qj l k++B:=by
 induction j with
 | zero=>exact ⟨[],by simp⟩
 | succ j ih =>
  obtain ⟨B,hB⟩:=ih
  rw [← Nat.add_assoc,qj,hB]
  exact ⟨_,by rw [List.append_assoc]⟩
theorem Pk (l:List CellB) (k:Nat) (hk:k < l.length):qb (qL l) (l[k]).text=if qb (qj l k) (l[k]).text < (qj l k).length then qb (qj l k) (l[k]).text else (qj l k).length:=by
 obtain ⟨B,hB⟩:=Ra l (k+1) (l.length - (k+1))
 rw [show k+1+(l.length - (k+1))=l.length by omega] at hB
 unfold qL
 rw [hB,Ge l k hk]
 by_cases hf:qb (qj l k) (l[k]).text < (qj l k).length
 ·rw [if_pos hf,if_pos hf,Ua,if_pos hf]
 ·have hfe:qb (qj l k) (l[k]).text=(qj l k).length:=by have:=Uf (qj l k) (l[k]).text;omega
  rw [if_neg hf,if_neg hf,List.append_assoc,Ua,if_neg hf]
  simp [qb]
theorem VO (D:List CellB) (k:Nat):JO D k=uB D.length++jN 5 D k:=by
 induction k with
 | zero=>simp [JO,jN]
 | succ k ih=>simp only [JO,jN,ih,xu,List.append_assoc]
theorem Cx (D:List CellB) (t:List UInt8) (base:Nat) (v:Value) (w:World) (hn:D.length≤1000) (h:w.ownsRow base 9 1 v D.length (xT (Xv D))) :
  Calls Tryz.prog 246 #[v,strB t] w fun e w'=>e=.returned (.int .i64 (if qb D t < D.length then (qb D t:Int) else -1))∧w'=w:=by
 have HL:=hid (RD D t)
 have HF:=hid (ZT D t)
 have hle:=Uf D t
 have HA:Hid (∀ h:qb D t < D.length,(D[qb D t]).text=t):=by
  intro h
  exact (Xn D t ((ZT D t).1 h)).2
 generalize qb D t=q at *
 rcases h.2 with ⟨rfl,h0⟩|⟨gd,cap,cur,rfl,_⟩
 ·have hq:¬ q < D.length:=by omega
  rw [if_neg hq]
  go_enter Tryz.func246,Tryz.ntmps246
  go_wp2
  go_loopw [8] (fun i wr=>i=.int .i64 0∧wr=w) (fun i _=>0)
  case atStart=>exact ⟨rfl,rfl⟩
  case round =>
   obtain ⟨rfl,rfl⟩:=hrel
   go_wp2
   go_ret
   exact ⟨rfl,rfl⟩
 ·have HC:Hid (∀ j (h:j < D.length),w.cell? ⟨gd,j,none⟩=some (strB (D[j]).text)):=by
   intro j hj
   rw [h.cellAt j (by omega)]
   simp [xT,Xv,hj]
  clear h
  go_enter Tryz.func246,Tryz.ntmps246
  go_wp2
  go_loopw [8] (fun i wr=>∃ k:Nat,k≤q∧i=.int .i64 (k:Int)∧wr=w) (fun i _=>q - (intOf i).toNat)
  case atStart=>exact ⟨0,Nat.zero_le _,rfl,rfl⟩
  case round =>
   obtain ⟨k,hk,rfl,rfl⟩:=hrel
   by_cases hkq:k < q
   ·have hlt:k < D.length:=by omega
    have hck:=HC.out k hlt
    have hne:(t == (D[k]).text)=false:=by
     simpa using fun h2:t=(D[k]).text=>HL.out k hkq hlt h2.symm
    go_wp2
    go_roundw
    case rel=>exact ⟨k+1,by omega,by go_num,trivial⟩
    case measure=>simp [intOf];omega
   ·have hke:k=q:=by omega
    subst hke
    by_cases hlt:k < D.length
    ·have hck:=HC.out k hlt
     rw [HA.out hlt] at hck
     go_wp2
     go_ret
     exact ⟨rfl,rfl⟩
    ·go_wp2
     go_ret
     exact ⟨rfl,rfl⟩
theorem Ei {w:World} {base n:Nat} {v:Value} {xs:List Value} (h:w.ownsRow base 9 1 v n xs) (w':World) :
  Sem.run Tryz.prog (Builtin.len_ #[71] 3 #[v]) w'=.ok (.int .i64 (n:Int)) w':=by
 rcases h.2 with ⟨rfl,rfl⟩|⟨g,cap,cur,rfl,_⟩
 ·exact run_len_slice (P:=Tryz.prog) w' 71 3 _ _ _ (by rw [Tryz.underlying71];rfl)
 ·exact run_len_slice (P:=Tryz.prog) w' 71 3 _ _ _ (by rw [Tryz.underlying71];rfl)
def Apart (d p:Value):Prop:=∀ k,d.ownBlock=some k→p.ownBlock≠some k
theorem GM {w wr w2:World} {d p:Value} {n np g cc k H:Nat} {ps qs pp:List (List UInt8)} (o:Obj) (hH:H=wr.heap.size+1) (hB:Below w.heap.size w wr) (hd:wr.ownsRow w.heap.size 9 1 d n (xT ps))
  (hp:wr.ownsRow w.heap.size 9 1 p np (xT pp)) (hap:Apart d p) (h2:w2.ownsRow w.heap.size 9 1 (.slice (some ⟨g,0,none⟩) k cc) k (xT ps++xT qs))
  (hg:(wr.alloc o).grownBy w2 d.ownBlock) (hat:d.ownBlock=some g∨g=H) :
  w2.ownsRow w.heap.size 9 1 (.slice (some ⟨g,0,none⟩) k cc) k (xT (ps++qs))∧w2.ownsRow w.heap.size 9 1 p np (xT pp)∧Apart (.slice (some ⟨g,0,none⟩) k cc) p∧Below w.heap.size w w2:=by
 refine ⟨by rw [Gb];exact h2,(hp.alloc o).kept hg ?_,?_,(hB.alloc hB.size o).grown hg (by have:=hB.size;simp;omega) (fun k hk=>(hd.lt k hk).1)⟩
 ·cases hpo:p.ownBlock with
  | none=>exact .inl rfl
  | some x=>exact .inr fun he=>hap x he.symm hpo
 ·intro k' hk' hpk
  have hgk:g=k':=by simpa [Value.ownBlock] using hk'
  subst hgk
  rcases hat with h|h
  ·exact hap g h hpk
  ·have:=(hp.lt g hpk).2
   omega
theorem Apart.symm {d p:Value} (h:Apart d p):Apart p d:=fun k hp hd=>h k hd hp
abbrev BoxT (w:World) (g B:Nat):Prop:=w.cell? ⟨B,0,none⟩=some (.slice (some ⟨g,0,none⟩) 3 3)∧w.cell? ⟨B,1,none⟩=some (fnV 202)∧w.cell? ⟨B,2,none⟩=some (fnV 203)∧w.cell? ⟨B,3,none⟩=some (fnV 204)∧w.cell? ⟨B,4,none⟩=some (fnV 205)∧w.cell? ⟨B,5,none⟩=some (fnV 206)∧w.cell? ⟨B,6,none⟩=some (fnV 207)
abbrev BoxI (w:World) (g B:Nat):Prop:=w.cell? ⟨B,0,none⟩=some (.slice (some ⟨g,0,none⟩) 3 3)∧w.cell? ⟨B,1,none⟩=some (fnV 187)∧w.cell? ⟨B,2,none⟩=some (fnV 188)∧w.cell? ⟨B,3,none⟩=some (fnV 189)∧w.cell? ⟨B,4,none⟩=some (fnV 190)∧w.cell? ⟨B,5,none⟩=some (fnV 191)∧w.cell? ⟨B,6,none⟩=some (fnV 192)
theorem qU {w w':World} {g B b:Nat} (h:BoxT w g B) (hb:Below b w w') (hl:B < b):BoxT w' g B:=by
 obtain ⟨h0,h1,h2,h3,h4,h5,h6⟩:=h
 exact ⟨(hb.cell (p:=⟨B,0,none⟩) hl).trans h0,(hb.cell (p:=⟨B,1,none⟩) hl).trans h1,(hb.cell (p:=⟨B,2,none⟩) hl).trans h2,(hb.cell (p:=⟨B,3,none⟩) hl).trans h3,(hb.cell (p:=⟨B,4,none⟩) hl).trans h4,(hb.cell (p:=⟨B,5,none⟩) hl).trans h5,(hb.cell (p:=⟨B,6,none⟩) hl).trans h6⟩
theorem xP {w w':World} {g B b:Nat} (h:BoxI w g B) (hb:Below b w w') (hl:B < b):BoxI w' g B:=by
 obtain ⟨h0,h1,h2,h3,h4,h5,h6⟩:=h
 exact ⟨(hb.cell (p:=⟨B,0,none⟩) hl).trans h0,(hb.cell (p:=⟨B,1,none⟩) hl).trans h1,(hb.cell (p:=⟨B,2,none⟩) hl).trans h2,(hb.cell (p:=⟨B,3,none⟩) hl).trans h3,(hb.cell (p:=⟨B,4,none⟩) hl).trans h4,(hb.cell (p:=⟨B,5,none⟩) hl).trans h5,(hb.cell (p:=⟨B,6,none⟩) hl).trans h6⟩
theorem Uk {w:World} {g B:Nat} (o:Obj) (h:BoxT w g B):BoxT (w.alloc o) g B:=by
 obtain ⟨h0,h1,h2,h3,h4,h5,h6⟩:=h
 exact ⟨jc o h0,jc o h1,jc o h2,jc o h3,jc o h4,jc o h5,jc o h6⟩
theorem NW {w:World} {g B:Nat} (o:Obj) (h:BoxI w g B):BoxI (w.alloc o) g B:=by
 obtain ⟨h0,h1,h2,h3,h4,h5,h6⟩:=h
 exact ⟨jc o h0,jc o h1,jc o h2,jc o h3,jc o h4,jc o h5,jc o h6⟩
theorem Vg {w:World} {base n:Nat} {v:Value} {D:List CellB} (h:w.ownsRow base 9 1 v n (xT (Xv D))) (hD:D≠[]):∃ b cap,v=.slice (some ⟨b,0,none⟩) D.length cap∧TextsLie w b D:=by
 have hl:D.length=n:=by simpa [xT,Xv] using h.1
 rcases h.2 with ⟨rfl,rfl⟩|⟨g,cap,cur,rfl,_⟩
 ·exact absurd (List.eq_nil_of_length_eq_zero hl) hD
 ·refine ⟨g,cap,by rw [hl],(h.lt g rfl).2,fun j hj=>?_⟩
  rw [h.cellAt j (by omega)]
  simp [xT,Xv,hj]
theorem NZ {w w1 w2 w3 w4 w5:World} (hb1:Below w.heap.size w w1) (hb2:Below w1.drew.heap.size w1.drew w2) (hb3:Below w2.heap.size w2 w3) (hb4:Below w3.heap.size w3 w4) (hb5:Below w4.heap.size w4 w5):Below w.heap.size w w5:=by
 have h:=KY hb1 hb2 hb3 hb4
 exact h.trans (hb5.mono h.size)
theorem PX (g b cap:Nat) (l:List CellB) (w:World) (hs:Small l) (hl:TextsLie w b l) :
  Calls Tryz.prog 198 #[txtC g,.slice (some ⟨b,0,none⟩) l.length cap] w fun e w'=>e=.returned (strB (qz 3 l))∧Below w.heap.size w w':=by
 obtain ⟨i0,hi,hz0,hz1,hz2⟩:=info_parts Tryz.infoStr
 have Hs:=hid hs
 have Hl:=hid hl
 have hn:=hs.few
 clear hs hl
 go_enter Tryz.func198,Tryz.ntmps198
 go_wp2
 obtain ⟨hb0,hs0,hc0⟩:=zx w #[.slice (some ⟨g,0,none⟩) 3 3,fnV 202,fnV 203,fnV 204,fnV 205,fnV 206,fnV 207] 225
 have Hc:Hid (BoxT _ g w.heap.size):=⟨hc0 0,hc0 1,hc0 2,hc0 3,hc0 4,hc0 5,hc0 6⟩
 have Hl0:=hid (Hl.out.later hb0)
 have Hb0:=hid hb0
 have hs1:=Nat.lt_of_lt_of_eq (Nat.lt_succ_self w.heap.size) hs0.symm
 clear hc0 hb0 hs0
 generalize w.alloc _=w0 at *
 go_loopw [5,6,12] (fun d v i wr=>∃ (ps:List (List UInt8)) (k:Nat),k≤l.length∧i=.int .i64 (k:Int)∧ps.length=k∧wr.ownsRow w0.heap.size 9 1 d (qj l k).length (xT (Xv (qj l k)))∧wr.ownsRow w0.heap.size 9 1 v ps.length (xT ps)∧Apart d v∧ps.flatten=jN 3 l k∧Below w0.heap.size w0 wr)
  (fun _ _ i _=>l.length - (intOf i).toNat)
 case atStart=>exact ⟨[],0,Nat.zero_le _,rfl,rfl,World.ownsRow_nil _ _ _ _,World.ownsRow_nil _ _ _ _,fun k h=>by simp [Value.ownBlock] at h,rfl,Below.refl _ _⟩
 case round =>
  obtain ⟨ps,k,hkl,rfl,hpl,hd,hp,hap,hfl,hB⟩:=hrel
  have Hfl:=hid hfl
  have Hap:=hid hap
  clear hfl hap
  have hst:=zi 3 l Hs.out.small hn k
  have hdl:=Jb l k
  by_cases hlt:k < l.length
  ·have hck:=(Hl0.out.later hB).cell k hlt
   have HT:Hid (xu 3 l k=uB (qb (qL l) (l[k]).text)):=by
    show xu 3 l k=_
    simp only [xu,qD l k hlt]
   have HP:=hid (Pk l k hlt)
   have HD:=hid (Ge l k hlt)
   have hpn:ps.length≤60:=by omega
   go_wp2_with fail
   refine (Cx (qj l k) (l[k]).text w0.heap.size _ _ (by omega) hd).mono ?_
   rintro e w2 ⟨rfl,rfl⟩
   by_cases hf:qb (qj l k) (l[k]).text < (qj l k).length
   ·have HP2:Hid (qb (qL l) (l[k]).text=qb (qj l k) (l[k]).text):=by
     have:=HP.out;rw [if_pos hf] at this;exact this
    have HD2:Hid (qj l (k+1)=qj l k):=by
     have:=HD.out;rw [if_pos hf] at this;exact this
    rw [if_pos hf]
    generalize qj l k=D at *
    generalize qb D (l[k]).text=q at *
    go_wp2_with fail
    refine (zb q _ (by omega)).mono ?_
    rintro e w3 ⟨rfl,hb3⟩
    have hd3:=jm hd hb3
    have hp3:=jm hp hb3
    have hB3:=hB.trans (hb3.mono hB.size)
    clear hd hp hB hb3 hck
    go_wp2_with (at_builtin;refine wpList_append_lies _ rfl (.tmp 27) (.tmp 30) 71 rfl w0.heap.size 9 i0 (.string ⟨#[]⟩) 1 16 Tryz.underlying71 hi hz0 hz1 hz2 rfl (by decide) _ _ _ rfl (hp3.alloc _) ⟨_,0,none⟩ 1 1 [strB (uB q)] rfl rfl ?c1 ?c2 (by decide) ?c3 ?c4 ?c5 (w3.heap.size+1) ?c6 ?_)
    case c1=>exact qx w3 #[strB (uB q)] 9
    case c2=>intro u hu;simp at hu;subst hu;rfl
    case c3=>unfold maxLen;omega
    case c4=>omega
    case c5=>have:=hB3.size;simp;omega
    case c6=>simp
    intro gg cc w4 hown4 hgr4 hat4 hlt4
    have HR:=hid (GM (qs:=[uB q]) _ rfl hB3 hp3 hd3 Hap.out.symm hown4 hgr4 hat4)
    clear hd3 hp3 hB3 hown4 hgr4 hat4 hlt4
    go_wp2
    go_roundw
    case rel=>exact ⟨ps++[uB q],k+1,by omega,by go_num,by simp;omega,by rw [HD2.out];exact HR.out.2.1,by rw [show (ps++[uB q]).length=k+1 by simp [hpl]];exact HR.out.1,HR.out.2.2.1.symm,by rw [List.flatten_append,Hfl.out,jN,HT.out,HP2.out];simp,HR.out.2.2.2⟩
    case measure=>simp [intOf];omega
   ·have HP2:Hid (qb (qL l) (l[k]).text=(qj l k).length):=by
     have:=HP.out;rw [if_neg hf] at this;exact this
    have HD2:Hid (qj l (k+1)=qj l k++[l[k]]):=by
     have:=HD.out;rw [if_neg hf] at this;exact this
    rw [if_neg hf]
    clear hf HP HD
    generalize qj l k=D at *
    generalize hlk:l[k]=c at *
    have Hlk:=hid hlk
    clear hlk
    have hln:=Ei hd w2
    go_wp2_with (at_builtin;refine wpList_append_lies _ rfl (.tmp 23) (.tmp 25) 71 rfl w0.heap.size 9 i0 (.string ⟨#[]⟩) 1 16 Tryz.underlying71 hi hz0 hz1 hz2 rfl (by decide) _ _ _ rfl (hd.alloc _) ⟨_,0,none⟩ 1 1 [strB c.text] rfl rfl ?d1 ?d2 (by decide) ?d3 ?d4 ?d5 _ rfl ?_)
    case d1=>exact qx _ #[strB c.text] 9
    case d2=>intro u hu;simp at hu;subst hu;rfl
    case d3=>unfold maxLen;omega
    case d4=>omega
    case d5=>have:=hB.size;simp;omega
    intro gd cd w5 hown5 hgr5 hat5 hlt5
    obtain ⟨hd5,hp5,hap5,hB5⟩:=GM (qs:=[c.text]) _ (by simp) hB hd hp Hap.out hown5 hgr5 hat5
    have Hap5:=hid hap5
    clear hd hp hB hown5 hgr5 hat5 hlt5 hap5 hck
    go_wp2_with fail
    refine (zb D.length _ (by omega)).mono ?_
    rintro e w3 ⟨rfl,hb3⟩
    have hd3:=jm hd5 hb3
    have hp3:=jm hp5 hb3
    have hB3:=hB5.trans (hb3.mono hB5.size)
    clear hd5 hp5 hB5 hb3
    go_wp2_with (at_builtin;refine wpList_append_lies _ rfl (.tmp 27) (.tmp 30) 71 rfl w0.heap.size 9 i0 (.string ⟨#[]⟩) 1 16 Tryz.underlying71 hi hz0 hz1 hz2 rfl (by decide) _ _ _ rfl (hp3.alloc _) ⟨_,0,none⟩ 1 1 [strB (uB D.length)] rfl rfl ?c1 ?c2 (by decide) ?c3 ?c4 ?c5 (w3.heap.size+1) ?c6 ?_)
    case c1=>exact qx w3 #[strB (uB D.length)] 9
    case c2=>intro u hu;simp at hu;subst hu;rfl
    case c3=>unfold maxLen;omega
    case c4=>omega
    case c5=>have:=hB3.size;simp;omega
    case c6=>simp
    intro gg cc w4 hown4 hgr4 hat4 hlt4
    have HR:=hid (GM (qs:=[uB D.length]) _ rfl hB3 hp3 hd3 Hap5.out.symm hown4 hgr4 hat4)
    clear hd3 hp3 hB3 hown4 hgr4 hat4 hlt4
    have HTX:Hid (Xv (D++[c])=Xv D++[c.text]):=by simp [Hid,Xv]
    go_wp2
    go_roundw
    case rel=>exact ⟨ps++[uB D.length],k+1,by omega,by go_num,by simp;omega,by rw [HD2.out,HTX.out,show (D++[c]).length=D.length+1 by simp];exact HR.out.2.1,by rw [show (ps++[uB D.length]).length=k+1 by simp [hpl]];exact HR.out.1,HR.out.2.2.1.symm,by rw [List.flatten_append,Hfl.out,jN,HT.out,HP2.out];simp,HR.out.2.2.2⟩
    case measure=>simp [intOf];omega
  ·have hke:k=l.length:=by omega
   subst hke
   have hDn:qj l l.length≠[]:=by
    intro h0
    have h1:=Hs.out.some_
    cases l with
    | nil=>exact h1 rfl
    | cons c l =>
     obtain ⟨d,hd,_⟩:=KL (c :: l) 0 (by simp)
     unfold qL at hd
     rw [h0] at hd
     cases hd
   have HW:Hid (qz 3 l=uB (qj l l.length).length++(qz 5 (qj l l.length)++jN 3 l l.length)):=by
    show qz 3 l=_
    simp only [qz,qL,if_true,VO]
    simp
   have HDs:Hid (Small (qj l l.length)):=⟨fun c hc=>Hs.out.small c (XI l l.length (Nat.le_refl _) c hc),by omega,hDn⟩
   have hw5:=UB 5 (qj l l.length) HDs.out.small HDs.out.few
   have hbx:=qU Hc.out hB hs1
   have hwr:w.heap.size < wr.heap.size:=Nat.lt_of_lt_of_le hs1 hB.size
   obtain ⟨bd,cd,rfl,htl⟩:=Vg hd hDn
   have Htl:=hid htl
   have Hbx:=hid hbx
   obtain ⟨x0,x1,x2,x3,x4,x5,x6⟩:=hbx
   have hps:ps≠[]:=by
    intro h
    subst h
    exact Hs.out.some_ (List.eq_nil_of_length_eq_zero hpl.symm)
   have hfl2:ps.flatten.length≤10000:=by rw [Hfl.out];omega
   have Hps:=hid hps
   have hu:=jS (qj l l.length).length (by omega)
   have HU0:Hid (∀ w',Calls Tryz.prog 241 #[.int .i64 ((qj l l.length).length:Int)] w' fun e w2=>e=.returned (strB (uB (qj l l.length).length))∧Below w'.heap.size w' w2):=fun w'=>zb _ w' (by omega)
   clear hd htl hps hDn
   generalize qj l l.length=D at *
   have HE:Hid (∀ w',TextsLie w' bd D→Calls Tryz.prog 196 #[txtC g,.slice (some ⟨bd,0,none⟩) D.length cd] w' fun e w2=>e=.returned (strB (qz 5 D))∧Below w'.heap.size w' w2):=fun w' h=>SH g bd cd D w' HDs.out h
   have HJ:Hid (∀ w',w'.ownsRow w0.heap.size 9 1 u6 ps.length (xT ps)→Calls Tryz.prog 194 #[u6] w' fun e w2=>e=.returned (strB ps.flatten)∧Below w'.heap.size w' w2):=fun w' h=>QI ps w0.heap.size ps.length u6 w' h Hps.out (by omega) (by omega)
   have HRes:Hid (uB D.length++(qz 5 D++ps.flatten)=qz 3 l):=by
    show _=_
    rw [HW.out,Hfl.out]
   clear HW Hfl HDs
   generalize qz 5 D=W5 at *
   generalize ps.flatten=F at *
   generalize uB D.length=U at *
   have HU:Hid (∀ w',Calls Tryz.prog 241 #[.int .i64 (D.length:Int)] w' fun e w2=>e=.returned (strB U)∧Below w'.heap.size w' w2):=HU0
   go_wp2_with fail
   go_region_held3 (fun w'=>w'.cell? ⟨w.heap.size,0,none⟩=some (.slice (some ⟨g,0,none⟩) 3 3)∧w'.cell? ⟨w.heap.size,1,none⟩=some (fnV 202)∧w'.cell? ⟨w.heap.size,2,none⟩=some (fnV 203)∧w'.cell? ⟨w.heap.size,3,none⟩=some (fnV 204)∧w'.cell? ⟨w.heap.size,4,none⟩=some (fnV 205)∧w'.cell? ⟨w.heap.size,5,none⟩=some (fnV 206)∧w'.cell? ⟨w.heap.size,6,none⟩=some (fnV 207)) (first|exact Hbx.out|exact X1|exact X2|exact X3|exact Uk _ X3|exact X4)
    (first
     | (go_at_call 241;refine (HU.out _).mono ?_;rintro e w3 ⟨rfl,hb3⟩;have X1:=qU Hbx.out (ji hb3) hwr)
     | (go_at_call 196;refine (HE.out _ (Htl.out.later (ji hb3))).mono ?_;rintro e w4 ⟨rfl,hb4⟩;have X2:=qU X1 hb4 (Nat.lt_of_lt_of_le hwr hb3.size))
     | (go_at_call 194;have Z5:=hb5.size;refine (JY [U,W5,F] #[strB U,strB W5,strB F] 3 _ rfl rfl ?_ ?_).mono ?_;decide;(simp;omega);rintro e w6 ⟨rfl,hb6⟩;have X4:=qU X3 hb6 (Nat.lt_of_lt_of_le hwr (Nat.le_trans hb3.size (Nat.le_trans hb4.size hb5.size))))
     | (go_at_call 194;refine (HJ.out _ (jm (jm hp (ji hb3)) hb4)).mono ?_;rintro e w5 ⟨rfl,hb5⟩;have X3:=qU X2 hb5 (Nat.lt_of_lt_of_le hwr (Nat.le_trans hb3.size hb4.size))))
   have hz:=Hb0.out.size
   have hBB:=Hb0.out.trans (hB.mono hz)
   have HB6:=hid (NZ hBB hb3 hb4 hb5 hb6)
   clear X1 X2 X3 X4 x0 x1 x2 x3 x4 x5 x6 hb3 hb4 hb5 hb6 hB hp hz hBB
   go_wp2
   go_ret
   exact ⟨qT HRes.out,HB6.out⟩
end
section
theorem jV {w:World} {g:Nat} {C:Array Value} {t:TypeId} (h:w.heap[g]?=some (.cells C t (0,0))) (j:Nat) {v:Value} (hv:C[j]?=some v):w.cell? ⟨g,j,none⟩=some v:=by
 rw [cell_of_row w g j C t (0,0) h]
 exact hv
theorem Cd (w:World) (q:Nat) (a:Int) (h0:0≤a) (h1:a≤255) (h:w.cell? ⟨q,0,none⟩=some (.int .u8 a)) :
  Sem.run Tryz.prog (convert 149 9 (.slice (some ⟨q,0,none⟩) 1 1)) w=.ok (strB [byB a]) w:=by
 refine run_convert_bytes_back (P:=Tryz.prog) _ 149 9 5 ⟨q,0,none⟩ 1 [byB a] Tryz.underlying149 Tryz.underlying5 Tryz.underlying9 ?_
 intro j hj
 match j,hj with
 | 0,_=>simpa [Addr.add,xH a h0 h1] using h
theorem zv (a:Int) (w:World) (h0:0≤a) (h1:a≤255) :
  Calls Tryz.prog 214 #[.int .u8 a] w fun e w'=>e=.returned (strB [byB a])∧Below w.heap.size w w':=by
 have hc:=Cd (w.alloc (.cells #[.int .u8 a] 5)) w.heap.size a h0 h1 (World.cell?_alloc_mark ..)
 go_enter Tryz.func214,Tryz.ntmps214
 go_wp2
 go_ret
 exact ⟨rfl,(Below.refl _ _).alloc (Nat.le_refl _) _⟩
theorem QC (ps:List (List UInt8)) (C:Array Value) (n:Nat) (w:World) (G:Nat) (hG:w.heap.size=G) (hC:C=(xT ps).toArray) (hl:ps.length=n) (hn:n≤1000) (hs:ps.flatten.length≤1000000) :
  Calls Tryz.prog 194 #[.slice (some ⟨G,0,none⟩) n n] (w.alloc (.cells C 9)) fun e w'=>e=.returned (strB ps.flatten)∧Below w.heap.size w w':=by
 subst hG
 exact JY ps C n w hC hl hn hs
theorem KI (kind:Int) (l:List CellB) (k:Nat):jH kind l (k+1)≠[]:=by
 induction k with
 | zero=>simp [jH,QR]
 | succ k ih =>
  rw [jH]
  split
  ·simp [QR]
  ·exact ih
theorem Jy (w:World):Below w.heap.size w w.drew:=ji (Below.refl _ _)
theorem IntsLie.drew {w:World} {b:Nat} {l:List CellB} (h:IntsLie w b l):IntsLie w.drew b l:=h.later (Jy w)
theorem TextsLie.drew {w:World} {b:Nat} {l:List CellB} (h:TextsLie w b l):TextsLie w.drew b l:=h.later (Jy w)
theorem IntsLie.alloc {w:World} {b:Nat} {l:List CellB} (h:IntsLie w b l) (o:Obj):IntsLie (w.alloc o) b l:=h.later ((Below.refl _ _).alloc (Nat.le_refl _) _)
theorem TextsLie.alloc {w:World} {b:Nat} {l:List CellB} (h:TextsLie w b l) (o:Obj):TextsLie (w.alloc o) b l:=h.later ((Below.refl _ _).alloc (Nat.le_refl _) _)
theorem xk {w w':World} {o:Obj} (h:Below (w.alloc o).heap.size (w.alloc o) w'):Below w.heap.size w w' :=
 ((Below.refl _ _).alloc (Nat.le_refl _) _).trans (h.mono (by simp))
abbrev SI (w:World) (G:Nat) (e:Int) (F g B:Nat):Prop:=w.cell? ⟨G,0,none⟩=some (.int .u8 e)∧w.cell? ⟨G,1,none⟩=some (fnV F)∧BoxI w g B
abbrev ST (w:World) (G:Nat) (e:Int) (F g B:Nat):Prop:=w.cell? ⟨G,0,none⟩=some (.int .u8 e)∧w.cell? ⟨G,1,none⟩=some (fnV F)∧BoxT w g B
theorem JT {w w':World} {G F g B b:Nat} {e:Int} (h:SI w G e F g B) (hb:Below b w w') (hG:G < b) (hl:B < b):SI w' G e F g B :=
 ⟨(hb.cell (p:=⟨G,0,none⟩) hG).trans h.1,(hb.cell (p:=⟨G,1,none⟩) hG).trans h.2.1,xP h.2.2 hb hl⟩
theorem JN {w w':World} {G F g B b:Nat} {e:Int} (h:ST w G e F g B) (hb:Below b w w') (hG:G < b) (hl:B < b):ST w' G e F g B :=
 ⟨(hb.cell (p:=⟨G,0,none⟩) hG).trans h.1,(hb.cell (p:=⟨G,1,none⟩) hG).trans h.2.1,qU h.2.2 hb hl⟩
theorem GY {w:World} {G F g B:Nat} {e:Int} (o:Obj) (h:SI w G e F g B):SI (w.alloc o) G e F g B:=⟨jc o h.1,jc o h.2.1,NW o h.2.2⟩
theorem Nv {w:World} {G F g B:Nat} {e:Int} (o:Obj) (h:ST w G e F g B):ST (w.alloc o) G e F g B:=⟨jc o h.1,jc o h.2.1,Uk o h.2.2⟩
end
end Go.Proofs.YthhpbhpfagoapaaGreat
