import Derived.Test.YthhpbhpfagoapaaGreatJAP
import Derived.BigQuiet
import Derived.Test.YthhpbhpfagoapaaGreatDRows
import Derived.Test.YthhpbhpfagoapaaGreatJAK
import Derived.Test.YthhpbhpfagoapaaGreatJAO
import Derived.Test.YthhpbhpfagoapaaGreatJAN
import Derived.Lib.SmallJoins
namespace Go.Proofs.YthhpbhpfagoapaaGreat
set_option linter.unusedVariables false
set_option linter.unusedSimpArgs false
set_option maxRecDepth 100000
set_option maxHeartbeats 16000000
section
open Go.RowKit
theorem La (sec non ext cip:ByteArray):Jm 1 ((⟨#[84]⟩++sec++non++⟨(qv (ext.size:Int)).toArray⟩++ext++cip:ByteArray).data.toList)=Jm 1 (84 :: (sec.data.toList++non.data.toList++qv (ext.data.toList.length:Int)++ext.data.toList++cip.data.toList)):=by
 simp only [Iy]
 simp
theorem Ey (sec non ext plain:ByteArray) (w:World) (h1:sec.size≤1000) (h2:non.size≤1000) (h3:ext.size≤5000) (h4:plain.size≤5000) :
  Calls Tryz.prog 59 #[.string sec,.string non,.string ext,.string plain] w fun e w' =>
   e=.returned (strB (Xi sec.data.toList non.data.toList ext.data.toList plain.data.toList))∧Below w.heap.size w w':=by
 go_enter Tryz.func59,Tryz.ntmps59
 go_wp2_with fail
 refine (VT sec non plain w h1 h2 h4).mono ?_
 rintro e w1 ⟨rfl,hb1⟩
 have hl:=zE sec.data.toList non.data.toList plain.data.toList
 have hl2:(zl sec.data.toList non.data.toList plain.data.toList).length≤5000:=by rw [hl];simpa using h4
 clear hl
 have HF:Hid (∀ c,c=zl sec.data.toList non.data.toList plain.data.toList→c++Rg sec.data.toList non.data.toList ext.data.toList c=Xi sec.data.toList non.data.toList ext.data.toList plain.data.toList):=by
  intro c hc;subst hc;rfl
 have HF2:=hid (HF.out _ rfl)
 clear HF
 generalize zl sec.data.toList non.data.toList plain.data.toList=cip at *
 have ht2:(qv (ext.size:Int)).length≤2:=Nat.le_of_eq (jB _)
 have HT:=hid (La sec non ext ⟨cip.toArray⟩)
 go_wp2_with fail
 refine (QG _ _ (by omega) (by omega)).mono ?_
 rintro e w2 ⟨rfl,hb2⟩
 go_wp2_with fail
 refine (Nr _ w2 ?_).mono ?_
 ·simp only [ByteArray.size_append',jK];unfold maxLen;simp;omega
 rintro e w3 ⟨rfl,rfl⟩
 rw [HT.out]
 have hr:=JY (84 :: (sec.data.toList++non.data.toList++qv (ext.data.toList.length:Int)++ext.data.toList++cip)) 1 (by decide) (by decide)
 obtain ⟨hr1,hr2⟩:=hr
 have HG:Hid (qv (Jm 1 (84 :: (sec.data.toList++non.data.toList++qv (ext.data.toList.length:Int)++ext.data.toList++cip)))=Rg sec.data.toList non.data.toList ext.data.toList cip):=rfl
 generalize Jm 1 (84 :: (sec.data.toList++non.data.toList++qv (ext.data.toList.length:Int)++ext.data.toList++cip))=t at *
 have ht3:(qv t).length≤2:=Nat.le_of_eq (jB _)
 go_wp2_with fail
 refine (QG t _ hr1 (by omega)).mono ?_
 rintro e w4 ⟨rfl,hb4⟩
 go_wp2
 go_ret
 have z1:=hb1.size
 have z2:=hb2.size
 refine ⟨?_,(hb1.trans (hb2.mono z1)).trans (hb4.mono (by omega))⟩
 rw [← HF2.out,← HG.out]
 simp [ByteArray.mk_append_mk]
end
section
open Go.RowKit
def texts (D:List CellB):List (List UInt8):=D.map (·.text)
theorem KS (A B:List CellB) (t:List UInt8):jP (A++B) t=if jP A t < A.length then jP A t else A.length+jP B t:=by
 induction A with
 | nil=>simp
 | cons c A ih =>
  simp only [List.cons_append,jP,List.length_cons]
  by_cases h:c.text=t
  ·simp [h]
  ·simp only [if_neg h,ih]
   by_cases h2:jP A t < A.length
   ·simp [h2]
   ·simp [h2];omega
theorem ZG (A:List CellB) (t:List UInt8):jP A t < A.length ↔ ∃ c ∈ A,c.text=t:=by
 constructor
 ·intro h
  induction A with
  | nil=>simp at h
  | cons c A ih =>
   by_cases hc:c.text=t
   ·exact ⟨c,by simp,hc⟩
   ·simp only [jP,if_neg hc,List.length_cons] at h
    obtain ⟨d,hd,ht⟩:=ih (by omega)
    exact ⟨d,by simp [hd],ht⟩
 ·intro h
  exact (QJ A t h).1
theorem It (l:List CellB) (k:Nat) (hk:k≤l.length):∀ c ∈ jZ l k,∃ j,∃ h:j < l.length,j < k∧c=l[j]:=by
 induction k with
 | zero=>intro c hc;simp [jZ] at hc
 | succ k ih =>
  intro c hc
  simp only [jZ,List.mem_append] at hc
  rcases hc with hc|hc
  ·obtain ⟨j,h,h1,h2⟩:=ih (by omega) c hc
   exact ⟨j,h,by omega,h2⟩
  ·split at hc
   ·simp only [List.mem_cons,List.not_mem_nil,or_false] at hc
    exact ⟨k,by omega,by omega,by rw [hc,jY l k (by omega)]⟩
   ·cases hc
theorem Dl (l:List CellB) (k:Nat) (hk:k < l.length):jP (jZ l k) (l[k]).text < (jZ l k).length ↔ jP l (l[k]).text≠k:=by
 rw [ZG]
 constructor
 ·rintro ⟨c,hc,ht⟩ he
  obtain ⟨j,hj,hjk,rfl⟩:=It l k (by omega) c hc
  have:=Vw l j hj
  rw [ht,he] at this
  omega
 ·intro hne
  have hle:=Vw l k hk
  obtain ⟨h1,h2⟩:=QJ l (l[k]).text ⟨l[k],List.getElem_mem hk,rfl⟩
  exact ⟨_,GU l _ h1 (by rw [h2]) k (by omega) (by omega),h2⟩
theorem VK (l:List CellB) (k:Nat) (hk:k < l.length):jZ l (k+1)=if jP (jZ l k) (l[k]).text < (jZ l k).length then jZ l k else jZ l k++[l[k]]:=by
 have h:=Dl l k hk
 simp only [jZ,jY l k hk]
 by_cases hf:jP l (l[k]).text=k
 ·rw [if_pos hf,if_neg (fun h2=>h.1 h2 hf)]
 ·rw [if_neg hf,if_pos (h.2 hf),List.append_nil]
theorem Rp (l:List CellB) (k j:Nat):∃ B,jZ l (k+j)=jZ l k++B:=by
 induction j with
 | zero=>exact ⟨[],by simp⟩
 | succ j ih =>
  obtain ⟨B,hB⟩:=ih
  rw [← Nat.add_assoc,jZ,hB]
  exact ⟨_,by rw [List.append_assoc]⟩
theorem Tb (l:List CellB) (k:Nat) (hk:k < l.length):jP (qa l) (l[k]).text=if jP (jZ l k) (l[k]).text < (jZ l k).length then jP (jZ l k) (l[k]).text else (jZ l k).length:=by
 obtain ⟨B,hB⟩:=Rp l (k+1) (l.length - (k+1))
 rw [show k+1+(l.length - (k+1))=l.length by omega] at hB
 unfold qa
 rw [hB,VK l k hk]
 by_cases hf:jP (jZ l k) (l[k]).text < (jZ l k).length
 ·rw [if_pos hf,if_pos hf,KS,if_pos hf]
 ·have hfe:jP (jZ l k) (l[k]).text=(jZ l k).length:=by have:=ZA (jZ l k) (l[k]).text;omega
  rw [if_neg hf,if_neg hf,List.append_assoc,KS,if_neg hf]
  simp [jP]
theorem VJ (D:List CellB) (k:Nat):zC D k=uB D.length++js 5 D k:=by
 induction k with
 | zero=>simp [zC,js]
 | succ k ih=>simp only [zC,js,ih,qG,List.append_assoc]
theorem Mh (D:List CellB) (t:List UInt8) (base:Nat) (v:Value) (w:World) (hn:D.length≤1000) (h:w.ownsRow base 9 1 v D.length (zz (texts D))) :
  Calls Tryz.prog 246 #[v,strB t] w fun e w'=>e=.returned (.int .i64 (if jP D t < D.length then (jP D t:Int) else -1))∧w'=w:=by
 have HL:=hid (Vf D t)
 have HF:=hid (ZG D t)
 have hle:=ZA D t
 have HA:Hid (∀ h:jP D t < D.length,(D[jP D t]).text=t):=by
  intro h
  exact (QJ D t ((ZG D t).1 h)).2
 generalize jP D t=q at *
 rcases h.2 with ⟨rfl,h0⟩|⟨gd,cap,cur,rfl,_⟩
 ·have hq:¬ q < D.length:=by omega
  rw [if_neg hq]
  go_enter Tryz.func246,Tryz.ntmps246
  go_wp2
  go_loopw [8] (fun i wr=>i=.int .i64 0∧wr=w) (fun i _=>0)
  case atStart=>exact ⟨rfl,rfl⟩
  case round =>
   obtain ⟨rfl,rfl⟩:=hrel
   go_wp2
   go_ret
   exact ⟨rfl,rfl⟩
 ·have HC:Hid (∀ j (h:j < D.length),w.cell? ⟨gd,j,none⟩=some (strB (D[j]).text)):=by
   intro j hj
   rw [h.cellAt j (by omega)]
   simp [zz,texts,hj]
  clear h
  go_enter Tryz.func246,Tryz.ntmps246
  go_wp2
  go_loopw [8] (fun i wr=>∃ k:Nat,k≤q∧i=.int .i64 (k:Int)∧wr=w) (fun i _=>q - (intOf i).toNat)
  case atStart=>exact ⟨0,Nat.zero_le _,rfl,rfl⟩
  case round =>
   obtain ⟨k,hk,rfl,rfl⟩:=hrel
   by_cases hkq:k < q
   ·have hlt:k < D.length:=by omega
    have hck:=HC.out k hlt
    have hne:(t == (D[k]).text)=false:=by
     simpa using fun h2:t=(D[k]).text=>HL.out k hkq hlt h2.symm
    go_wp2
    go_roundw
    case rel=>exact ⟨k+1,by omega,by go_num,trivial⟩
    case measure=>simp [intOf];omega
   ·have hke:k=q:=by omega
    subst hke
    by_cases hlt:k < D.length
    ·have hck:=HC.out k hlt
     rw [HA.out hlt] at hck
     go_wp2
     go_ret
     exact ⟨rfl,rfl⟩
    ·go_wp2
     go_ret
     exact ⟨rfl,rfl⟩
theorem YW {w:World} {base n:Nat} {v:Value} {xs:List Value} (h:w.ownsRow base 9 1 v n xs) (w':World) :
  Sem.run Tryz.prog (Builtin.len_ #[71] 3 #[v]) w'=.ok (.int .i64 (n:Int)) w':=by
 rcases h.2 with ⟨rfl,rfl⟩|⟨g,cap,cur,rfl,_⟩
 ·exact run_len_slice (P:=Tryz.prog) w' 71 3 _ _ _ (by rw [Tryz.underlying71];rfl)
 ·exact run_len_slice (P:=Tryz.prog) w' 71 3 _ _ _ (by rw [Tryz.underlying71];rfl)
def Apart (d p:Value):Prop:=∀ k,d.ownBlock=some k→p.ownBlock≠some k
theorem GW {w wr w2:World} {d p:Value} {n np g cc k H:Nat} {ps qs pp:List (List UInt8)} (o:Obj) (hH:H=wr.heap.size+1) (hB:Below w.heap.size w wr) (hd:wr.ownsRow w.heap.size 9 1 d n (zz ps))
  (hp:wr.ownsRow w.heap.size 9 1 p np (zz pp)) (hap:Apart d p) (h2:w2.ownsRow w.heap.size 9 1 (.slice (some ⟨g,0,none⟩) k cc) k (zz ps++zz qs))
  (hg:(wr.alloc o).grownBy w2 d.ownBlock) (hat:d.ownBlock=some g∨g=H) :
  w2.ownsRow w.heap.size 9 1 (.slice (some ⟨g,0,none⟩) k cc) k (zz (ps++qs))∧w2.ownsRow w.heap.size 9 1 p np (zz pp)∧Apart (.slice (some ⟨g,0,none⟩) k cc) p∧Below w.heap.size w w2:=by
 refine ⟨by rw [VL];exact h2,(hp.alloc o).kept hg ?_,?_,(hB.alloc hB.size o).grown hg (by have:=hB.size;simp;omega) (fun k hk=>(hd.lt k hk).1)⟩
 ·cases hpo:p.ownBlock with
  | none=>exact .inl rfl
  | some x=>exact .inr fun he=>hap x he.symm hpo
 ·intro k' hk' hpk
  have hgk:g=k':=by simpa [Value.ownBlock] using hk'
  subst hgk
  rcases hat with h|h
  ·exact hap g h hpk
  ·have:=(hp.lt g hpk).2
   omega
theorem Apart.symm {d p:Value} (h:Apart d p):Apart p d:=fun k hp hd=>h k hd hp
abbrev BoxT (w:World) (g B:Nat):Prop:=w.cell? ⟨B,0,none⟩=some (.slice (some ⟨g,0,none⟩) 3 3)∧w.cell? ⟨B,1,none⟩=some (fnV 202)∧w.cell? ⟨B,2,none⟩=some (fnV 203)∧w.cell? ⟨B,3,none⟩=some (fnV 204)∧w.cell? ⟨B,4,none⟩=some (fnV 205)∧w.cell? ⟨B,5,none⟩=some (fnV 206)∧w.cell? ⟨B,6,none⟩=some (fnV 207)
abbrev BoxI (w:World) (g B:Nat):Prop:=w.cell? ⟨B,0,none⟩=some (.slice (some ⟨g,0,none⟩) 3 3)∧w.cell? ⟨B,1,none⟩=some (fnV 187)∧w.cell? ⟨B,2,none⟩=some (fnV 188)∧w.cell? ⟨B,3,none⟩=some (fnV 189)∧w.cell? ⟨B,4,none⟩=some (fnV 190)∧w.cell? ⟨B,5,none⟩=some (fnV 191)∧w.cell? ⟨B,6,none⟩=some (fnV 192)
theorem qT {w w':World} {g B b:Nat} (h:BoxT w g B) (hb:Below b w w') (hl:B < b):BoxT w' g B:=by
 obtain ⟨h0,h1,h2,h3,h4,h5,h6⟩:=h
 exact ⟨(hb.cell (p:=⟨B,0,none⟩) hl).trans h0,(hb.cell (p:=⟨B,1,none⟩) hl).trans h1,(hb.cell (p:=⟨B,2,none⟩) hl).trans h2,(hb.cell (p:=⟨B,3,none⟩) hl).trans h3,(hb.cell (p:=⟨B,4,none⟩) hl).trans h4,(hb.cell (p:=⟨B,5,none⟩) hl).trans h5,(hb.cell (p:=⟨B,6,none⟩) hl).trans h6⟩
theorem zf {w w':World} {g B b:Nat} (h:BoxI w g B) (hb:Below b w w') (hl:B < b):BoxI w' g B:=by
 obtain ⟨h0,h1,h2,h3,h4,h5,h6⟩:=h
 exact ⟨(hb.cell (p:=⟨B,0,none⟩) hl).trans h0,(hb.cell (p:=⟨B,1,none⟩) hl).trans h1,(hb.cell (p:=⟨B,2,none⟩) hl).trans h2,(hb.cell (p:=⟨B,3,none⟩) hl).trans h3,(hb.cell (p:=⟨B,4,none⟩) hl).trans h4,(hb.cell (p:=⟨B,5,none⟩) hl).trans h5,(hb.cell (p:=⟨B,6,none⟩) hl).trans h6⟩
theorem Ur {w:World} {g B:Nat} (o:Obj) (h:BoxT w g B):BoxT (w.alloc o) g B:=by
 obtain ⟨h0,h1,h2,h3,h4,h5,h6⟩:=h
 exact ⟨jc o h0,jc o h1,jc o h2,jc o h3,jc o h4,jc o h5,jc o h6⟩
theorem Nb {w:World} {g B:Nat} (o:Obj) (h:BoxI w g B):BoxI (w.alloc o) g B:=by
 obtain ⟨h0,h1,h2,h3,h4,h5,h6⟩:=h
 exact ⟨jc o h0,jc o h1,jc o h2,jc o h3,jc o h4,jc o h5,jc o h6⟩
theorem Vy {w:World} {base n:Nat} {v:Value} {D:List CellB} (h:w.ownsRow base 9 1 v n (zz (texts D))) (hD:D≠[]):∃ b cap,v=.slice (some ⟨b,0,none⟩) D.length cap∧TextsLie w b D:=by
 have hl:D.length=n:=by simpa [zz,texts] using h.1
 rcases h.2 with ⟨rfl,rfl⟩|⟨g,cap,cur,rfl,_⟩
 ·exact absurd (List.eq_nil_of_length_eq_zero hl) hD
 ·refine ⟨g,cap,by rw [hl],(h.lt g rfl).2,fun j hj=>?_⟩
  rw [h.cellAt j (by omega)]
  simp [zz,texts,hj]
theorem Rr {w w1 w2 w3 w4 w5:World} (hb1:Below w.heap.size w w1) (hb2:Below w1.drew.heap.size w1.drew w2) (hb3:Below w2.heap.size w2 w3) (hb4:Below w3.heap.size w3 w4) (hb5:Below w4.heap.size w4 w5):Below w.heap.size w w5:=by
 have h:=KU hb1 hb2 hb3 hb4
 exact h.trans (hb5.mono h.size)
theorem Sx (g b cap:Nat) (l:List CellB) (w:World) (hs:Small l) (hl:TextsLie w b l) :
  Calls Tryz.prog 198 #[txtC g,.slice (some ⟨b,0,none⟩) l.length cap] w fun e w'=>e=.returned (strB (qq 3 l))∧Below w.heap.size w w':=by
 obtain ⟨i0,hi,hz0,hz1,hz2⟩:=info_parts Tryz.infoStr
 have Hs:=hid hs
 have Hl:=hid hl
 have hn:=hs.few
 clear hs hl
 go_enter Tryz.func198,Tryz.ntmps198
 go_wp2
 obtain ⟨hb0,hs0,hc0⟩:=zV w #[.slice (some ⟨g,0,none⟩) 3 3,fnV 202,fnV 203,fnV 204,fnV 205,fnV 206,fnV 207] 225
 have Hc:Hid (BoxT _ g w.heap.size):=⟨hc0 0,hc0 1,hc0 2,hc0 3,hc0 4,hc0 5,hc0 6⟩
 have Hl0:=hid (Hl.out.later hb0)
 have Hb0:=hid hb0
 have hs1:=Nat.lt_of_lt_of_eq (Nat.lt_succ_self w.heap.size) hs0.symm
 clear hc0 hb0 hs0
 generalize w.alloc _=w0 at *
 go_loopw [5,6,12] (fun d v i wr=>∃ (ps:List (List UInt8)) (k:Nat),k≤l.length∧i=.int .i64 (k:Int)∧ps.length=k∧wr.ownsRow w0.heap.size 9 1 d (jZ l k).length (zz (texts (jZ l k)))∧wr.ownsRow w0.heap.size 9 1 v ps.length (zz ps)∧Apart d v∧ps.flatten=js 3 l k∧Below w0.heap.size w0 wr)
  (fun _ _ i _=>l.length - (intOf i).toNat)
 case atStart=>exact ⟨[],0,Nat.zero_le _,rfl,rfl,World.ownsRow_nil _ _ _ _,World.ownsRow_nil _ _ _ _,fun k h=>by simp [Value.ownBlock] at h,rfl,Below.refl _ _⟩
 case round =>
  obtain ⟨ps,k,hkl,rfl,hpl,hd,hp,hap,hfl,hB⟩:=hrel
  have Hfl:=hid hfl
  have Hap:=hid hap
  clear hfl hap
  have hst:=xl 3 l Hs.out.small hn k
  have hdl:=zp l k
  by_cases hlt:k < l.length
  ·have hck:=(Hl0.out.later hB).cell k hlt
   have HT:Hid (qG 3 l k=uB (jP (qa l) (l[k]).text)):=by
    show qG 3 l k=_
    simp only [qG,jY l k hlt]
   have HP:=hid (Tb l k hlt)
   have HD:=hid (VK l k hlt)
   have hpn:ps.length≤60:=by omega
   go_wp2_with fail
   refine (Mh (jZ l k) (l[k]).text w0.heap.size _ _ (by omega) hd).mono ?_
   rintro e w2 ⟨rfl,rfl⟩
   by_cases hf:jP (jZ l k) (l[k]).text < (jZ l k).length
   ·have HP2:Hid (jP (qa l) (l[k]).text=jP (jZ l k) (l[k]).text):=by
     have:=HP.out;rw [if_pos hf] at this;exact this
    have HD2:Hid (jZ l (k+1)=jZ l k):=by
     have:=HD.out;rw [if_pos hf] at this;exact this
    rw [if_pos hf]
    generalize jZ l k=D at *
    generalize jP D (l[k]).text=q at *
    go_wp2_with fail
    refine (Jj q _ (by omega)).mono ?_
    rintro e w3 ⟨rfl,hb3⟩
    have hd3:=jH hd hb3
    have hp3:=jH hp hb3
    have hB3:=hB.trans (hb3.mono hB.size)
    clear hd hp hB hb3 hck
    go_wp2_with (at_builtin;refine wpList_append_lies _ rfl (.tmp 27) (.tmp 30) 71 rfl w0.heap.size 9 i0 (.string ⟨#[]⟩) 1 16 Tryz.underlying71 hi hz0 hz1 hz2 rfl (by decide) _ _ _ rfl (hp3.alloc _) ⟨_,0,none⟩ 1 1 [strB (uB q)] rfl rfl ?c1 ?c2 (by decide) ?c3 ?c4 ?c5 (w3.heap.size+1) ?c6 ?_)
    case c1=>exact qj w3 #[strB (uB q)] 9
    case c2=>intro u hu;simp at hu;subst hu;rfl
    case c3=>unfold maxLen;omega
    case c4=>omega
    case c5=>have:=hB3.size;simp;omega
    case c6=>simp
    intro gg cc w4 hown4 hgr4 hat4 hlt4
    have HR:=hid (GW (qs:=[uB q]) _ rfl hB3 hp3 hd3 Hap.out.symm hown4 hgr4 hat4)
    clear hd3 hp3 hB3 hown4 hgr4 hat4 hlt4
    go_wp2
    go_roundw
    case rel=>exact ⟨ps++[uB q],k+1,by omega,by go_num,by simp;omega,by rw [HD2.out];exact HR.out.2.1,by rw [show (ps++[uB q]).length=k+1 by simp [hpl]];exact HR.out.1,HR.out.2.2.1.symm,by rw [List.flatten_append,Hfl.out,js,HT.out,HP2.out];simp,HR.out.2.2.2⟩
    case measure=>simp [intOf];omega
   ·have HP2:Hid (jP (qa l) (l[k]).text=(jZ l k).length):=by
     have:=HP.out;rw [if_neg hf] at this;exact this
    have HD2:Hid (jZ l (k+1)=jZ l k++[l[k]]):=by
     have:=HD.out;rw [if_neg hf] at this;exact this
    rw [if_neg hf]
    clear hf HP HD
    generalize jZ l k=D at *
    generalize hlk:l[k]=c at *
    have Hlk:=hid hlk
    clear hlk
    have hln:=YW hd w2
    go_wp2_with (at_builtin;refine wpList_append_lies _ rfl (.tmp 23) (.tmp 25) 71 rfl w0.heap.size 9 i0 (.string ⟨#[]⟩) 1 16 Tryz.underlying71 hi hz0 hz1 hz2 rfl (by decide) _ _ _ rfl (hd.alloc _) ⟨_,0,none⟩ 1 1 [strB c.text] rfl rfl ?d1 ?d2 (by decide) ?d3 ?d4 ?d5 _ rfl ?_)
    case d1=>exact qj _ #[strB c.text] 9
    case d2=>intro u hu;simp at hu;subst hu;rfl
    case d3=>unfold maxLen;omega
    case d4=>omega
    case d5=>have:=hB.size;simp;omega
    intro gd cd w5 hown5 hgr5 hat5 hlt5
    obtain ⟨hd5,hp5,hap5,hB5⟩:=GW (qs:=[c.text]) _ (by simp) hB hd hp Hap.out hown5 hgr5 hat5
    have Hap5:=hid hap5
    clear hd hp hB hown5 hgr5 hat5 hlt5 hap5 hck
    go_wp2_with fail
    refine (Jj D.length _ (by omega)).mono ?_
    rintro e w3 ⟨rfl,hb3⟩
    have hd3:=jH hd5 hb3
    have hp3:=jH hp5 hb3
    have hB3:=hB5.trans (hb3.mono hB5.size)
    clear hd5 hp5 hB5 hb3
    go_wp2_with (at_builtin;refine wpList_append_lies _ rfl (.tmp 27) (.tmp 30) 71 rfl w0.heap.size 9 i0 (.string ⟨#[]⟩) 1 16 Tryz.underlying71 hi hz0 hz1 hz2 rfl (by decide) _ _ _ rfl (hp3.alloc _) ⟨_,0,none⟩ 1 1 [strB (uB D.length)] rfl rfl ?c1 ?c2 (by decide) ?c3 ?c4 ?c5 (w3.heap.size+1) ?c6 ?_)
    case c1=>exact qj w3 #[strB (uB D.length)] 9
    case c2=>intro u hu;simp at hu;subst hu;rfl
    case c3=>unfold maxLen;omega
    case c4=>omega
    case c5=>have:=hB3.size;simp;omega
    case c6=>simp
    intro gg cc w4 hown4 hgr4 hat4 hlt4
    have HR:=hid (GW (qs:=[uB D.length]) _ rfl hB3 hp3 hd3 Hap5.out.symm hown4 hgr4 hat4)
    clear hd3 hp3 hB3 hown4 hgr4 hat4 hlt4
    have HTX:Hid (texts (D++[c])=texts D++[c.text]):=by simp [Hid,texts]
    go_wp2
    go_roundw
    case rel=>exact ⟨ps++[uB D.length],k+1,by omega,by go_num,by simp;omega,by rw [HD2.out,HTX.out,show (D++[c]).length=D.length+1 by simp];exact HR.out.2.1,by rw [show (ps++[uB D.length]).length=k+1 by simp [hpl]];exact HR.out.1,HR.out.2.2.1.symm,by rw [List.flatten_append,Hfl.out,js,HT.out,HP2.out];simp,HR.out.2.2.2⟩
    case measure=>simp [intOf];omega
  ·have hke:k=l.length:=by omega
   subst hke
   have hDn:jZ l l.length≠[]:=by
    intro h0
    have h1:=Hs.out.some_
    cases l with
    | nil=>exact h1 rfl
    | cons c l =>
     obtain ⟨d,hd,_⟩:=Zy (c :: l) 0 (by simp)
     unfold qa at hd
     rw [h0] at hd
     cases hd
   have HW:Hid (qq 3 l=uB (jZ l l.length).length++(qq 5 (jZ l l.length)++js 3 l l.length)):=by
    show qq 3 l=_
    simp only [qq,qa,if_true,VJ]
    simp
   have HDs:Hid (Small (jZ l l.length)):=⟨fun c hc=>Hs.out.small c (Qc l l.length (Nat.le_refl _) c hc),by omega,hDn⟩
   have hw5:=Kw 5 (jZ l l.length) HDs.out.small HDs.out.few
   have hbx:=qT Hc.out hB hs1
   have hwr:w.heap.size < wr.heap.size:=Nat.lt_of_lt_of_le hs1 hB.size
   obtain ⟨bd,cd,rfl,htl⟩:=Vy hd hDn
   have Htl:=hid htl
   have Hbx:=hid hbx
   obtain ⟨x0,x1,x2,x3,x4,x5,x6⟩:=hbx
   have hps:ps≠[]:=by
    intro h
    subst h
    exact Hs.out.some_ (List.eq_nil_of_length_eq_zero hpl.symm)
   have hfl2:ps.flatten.length≤10000:=by rw [Hfl.out];omega
   have Hps:=hid hps
   have hu:=jN (jZ l l.length).length (by omega)
   have HU0:Hid (∀ w',Calls Tryz.prog 241 #[.int .i64 ((jZ l l.length).length:Int)] w' fun e w2=>e=.returned (strB (uB (jZ l l.length).length))∧Below w'.heap.size w' w2):=fun w'=>Jj _ w' (by omega)
   clear hd htl hps hDn
   generalize jZ l l.length=D at *
   have HE:Hid (∀ w',TextsLie w' bd D→Calls Tryz.prog 196 #[txtC g,.slice (some ⟨bd,0,none⟩) D.length cd] w' fun e w2=>e=.returned (strB (qq 5 D))∧Below w'.heap.size w' w2):=fun w' h=>SF g bd cd D w' HDs.out h
   have HJ:Hid (∀ w',w'.ownsRow w0.heap.size 9 1 u6 ps.length (zz ps)→Calls Tryz.prog 194 #[u6] w' fun e w2=>e=.returned (strB ps.flatten)∧Below w'.heap.size w' w2):=fun w' h=>XA ps w0.heap.size ps.length u6 w' h Hps.out (by omega) (by omega)
   have HRes:Hid (uB D.length++(qq 5 D++ps.flatten)=qq 3 l):=by
    show _=_
    rw [HW.out,Hfl.out]
   clear HW Hfl HDs
   generalize qq 5 D=W5 at *
   generalize ps.flatten=F at *
   generalize uB D.length=U at *
   have HU:Hid (∀ w',Calls Tryz.prog 241 #[.int .i64 (D.length:Int)] w' fun e w2=>e=.returned (strB U)∧Below w'.heap.size w' w2):=HU0
   go_wp2_with fail
   go_region_held3 (fun w'=>w'.cell? ⟨w.heap.size,0,none⟩=some (.slice (some ⟨g,0,none⟩) 3 3)∧w'.cell? ⟨w.heap.size,1,none⟩=some (fnV 202)∧w'.cell? ⟨w.heap.size,2,none⟩=some (fnV 203)∧w'.cell? ⟨w.heap.size,3,none⟩=some (fnV 204)∧w'.cell? ⟨w.heap.size,4,none⟩=some (fnV 205)∧w'.cell? ⟨w.heap.size,5,none⟩=some (fnV 206)∧w'.cell? ⟨w.heap.size,6,none⟩=some (fnV 207)) (first|exact Hbx.out|exact X1|exact X2|exact X3|exact Ur _ X3|exact X4)
    (first
     | (go_at_call 241;refine (HU.out _).mono ?_;rintro e w3 ⟨rfl,hb3⟩;have X1:=qT Hbx.out (ji hb3) hwr)
     | (go_at_call 196;refine (HE.out _ (Htl.out.later (ji hb3))).mono ?_;rintro e w4 ⟨rfl,hb4⟩;have X2:=qT X1 hb4 (Nat.lt_of_lt_of_le hwr hb3.size))
     | (go_at_call 194;have Z5:=hb5.size;refine (XD [U,W5,F] #[strB U,strB W5,strB F] 3 _ rfl rfl ?_ ?_).mono ?_;decide;(simp;omega);rintro e w6 ⟨rfl,hb6⟩;have X4:=qT X3 hb6 (Nat.lt_of_lt_of_le hwr (Nat.le_trans hb3.size (Nat.le_trans hb4.size hb5.size))))
     | (go_at_call 194;refine (HJ.out _ (jH (jH hp (ji hb3)) hb4)).mono ?_;rintro e w5 ⟨rfl,hb5⟩;have X3:=qT X2 hb5 (Nat.lt_of_lt_of_le hwr (Nat.le_trans hb3.size hb4.size))))
   have hz:=Hb0.out.size
   have hBB:=Hb0.out.trans (hB.mono hz)
   have HB6:=hid (Rr hBB hb3 hb4 hb5 hb6)
   clear X1 X2 X3 X4 x0 x1 x2 x3 x4 x5 x6 hb3 hb4 hb5 hb6 hB hp hz hBB
   go_wp2
   go_ret
   exact ⟨qt HRes.out,HB6.out⟩
end
section
open Go.RowKit
theorem jV {w:World} {g:Nat} {C:Array Value} {t:TypeId} (h:w.heap[g]?=some (.cells C t (0,0))) (j:Nat) {v:Value} (hv:C[j]?=some v):w.cell? ⟨g,j,none⟩=some v:=by
 rw [cell_of_row w g j C t (0,0) h]
 exact hv
theorem Cw (w:World) (q:Nat) (a:Int) (h0:0≤a) (h1:a≤255) (h:w.cell? ⟨q,0,none⟩=some (.int .u8 a)) :
  Sem.run Tryz.prog (convert 149 9 (.slice (some ⟨q,0,none⟩) 1 1)) w=.ok (strB [byB a]) w:=by
 refine run_convert_bytes_back (P:=Tryz.prog) _ 149 9 5 ⟨q,0,none⟩ 1 [byB a] Tryz.underlying149 Tryz.underlying5 Tryz.underlying9 ?_
 intro j hj
 match j,hj with
 | 0,_=>simpa [Addr.add,xE a h0 h1] using h
theorem JG (a:Int) (w:World) (h0:0≤a) (h1:a≤255) :
  Calls Tryz.prog 214 #[.int .u8 a] w fun e w'=>e=.returned (strB [byB a])∧Below w.heap.size w w':=by
 have hc:=Cw (w.alloc (.cells #[.int .u8 a] 5)) w.heap.size a h0 h1 (World.cell?_alloc_mark ..)
 go_enter Tryz.func214,Tryz.ntmps214
 go_wp2
 go_ret
 exact ⟨rfl,(Below.refl _ _).alloc (Nat.le_refl _) _⟩
theorem Xm (ps:List (List UInt8)) (C:Array Value) (n:Nat) (w:World) (G:Nat) (hG:w.heap.size=G) (hC:C=(zz ps).toArray) (hl:ps.length=n) (hn:n≤1000) (hs:ps.flatten.length≤1000000) :
  Calls Tryz.prog 194 #[.slice (some ⟨G,0,none⟩) n n] (w.alloc (.cells C 9)) fun e w'=>e=.returned (strB ps.flatten)∧Below w.heap.size w w':=by
 subst hG
 exact XD ps C n w hC hl hn hs
theorem KB (kind:Int) (l:List CellB) (k:Nat):jE kind l (k+1)≠[]:=by
 induction k with
 | zero=>simp [jE,zT]
 | succ k ih =>
  rw [jE]
  split
  ·simp [zT]
  ·exact ih
theorem ZX (w:World):Below w.heap.size w w.drew:=ji (Below.refl _ _)
theorem zy {w w':World} {o:Obj} (h:Below (w.alloc o).heap.size (w.alloc o) w'):Below w.heap.size w w' :=
 ((Below.refl _ _).alloc (Nat.le_refl _) _).trans (h.mono (by simp))
abbrev SI (w:World) (G:Nat) (e:Int) (F g B:Nat):Prop:=w.cell? ⟨G,0,none⟩=some (.int .u8 e)∧w.cell? ⟨G,1,none⟩=some (fnV F)∧BoxI w g B
abbrev ST (w:World) (G:Nat) (e:Int) (F g B:Nat):Prop:=w.cell? ⟨G,0,none⟩=some (.int .u8 e)∧w.cell? ⟨G,1,none⟩=some (fnV F)∧BoxT w g B
theorem Qq {w w':World} {G F g B b:Nat} {e:Int} (h:SI w G e F g B) (hb:Below b w w') (hG:G < b) (hl:B < b):SI w' G e F g B :=
 ⟨(hb.cell (p:=⟨G,0,none⟩) hG).trans h.1,(hb.cell (p:=⟨G,1,none⟩) hG).trans h.2.1,zf h.2.2 hb hl⟩
theorem Qk {w w':World} {G F g B b:Nat} {e:Int} (h:ST w G e F g B) (hb:Below b w w') (hG:G < b) (hl:B < b):ST w' G e F g B :=
 ⟨(hb.cell (p:=⟨G,0,none⟩) hG).trans h.1,(hb.cell (p:=⟨G,1,none⟩) hG).trans h.2.1,qT h.2.2 hb hl⟩
theorem GZ {w:World} {G F g B:Nat} {e:Int} (o:Obj) (h:SI w G e F g B):SI (w.alloc o) G e F g B:=⟨jc o h.1,jc o h.2.1,Nb o h.2.2⟩
theorem NT {w:World} {G F g B:Nat} {e:Int} (o:Obj) (h:ST w G e F g B):ST (w.alloc o) G e F g B:=⟨jc o h.1,jc o h.2.1,Ur o h.2.2⟩
end
section
open Go.ChangeShapes Go.WideShapes Go.ChangeAt Go.RowKit Go.Deep Go.Joins
theorem Tryz.cellsKey:Tryz.prog.cellsOf 63=2:=by kernel_rfl
theorem Tryz.bytesKeyW:Tryz.prog.bytesOf 63=24:=by kernel_rfl
theorem Pu {H:Type} {enc:TypeId × Value→H} {W:World} {base:Nat} {spare:Nat→Bool} {held:Bool} {fuel:Nat} {cs:List Value} {x:DataW H × List MemPlace}
  (h:DataW.trod enc Tryz.prog W base spare held fuel 63 cs=some x):∃ c:KeyB,DB c∧cs=[.int .i64 c.number,strB c.secret]:=by
 obtain ⟨y0,y1,n,hx,hlen,h0,h1⟩:=trod_struct2 Tryz.underlying63 h
 rw [Tryz.cellsKey] at hlen
 match cs,hlen with
 | [c0,c1],_ =>
  simp only [Tryz.cellsInt,Tryz.cellsString] at h0 h1
  obtain ⟨i,e1,_,wi⟩:=DataW.trod_int Tryz.underlying3 h0
  obtain ⟨s,e2,_,ws⟩:=DataW.trod_string Tryz.underlying9 h1
  simp at e1 e2
  subst e1 e2
  refine ⟨⟨i,s.data.toList⟩,⟨by simpa using ws,CU wi⟩,?_⟩
  obtain ⟨⟨t⟩⟩:=s
  rfl
theorem MV {H:Type} {enc:TypeId × Value→H} {W:World} {fuel len cap:Nat} {a:Option Addr} {x:DataW H × List MemPlace}
  (h:DataW.trod enc Tryz.prog W 0 (fun _=>true) true fuel 27 [.slice a len cap]=some x) (hw:∀ n ∈ x.1.weights Tryz.prog 27,n≤reachBytes) :
  ∃ l:List KeyB,l.length=len∧len≤cap∧cap≤maxLen∧LiesK W a l∧l.length*24≤140737488351232:=by
 rcases open_slice Tryz.underlying27 h with ⟨hcs,_⟩|⟨a',len',cap',m,n,D,Pl,hcs,_,hl,hm,hmm,rfl,hx⟩
 ·simp at hcs
  obtain ⟨rfl,rfl,rfl⟩:=hcs
  exact ⟨[],rfl,Nat.le_refl _,by decide,⟨by simp,fun h=>absurd rfl h⟩,by simp⟩
 ·simp at hcs
  obtain ⟨rfl,rfl,rfl⟩:=hcs
  simp only [if_true] at hmm
  subst hmm
  rw [Tryz.cellsKey] at hx
  have hsz:(len+(m - len))*24≤reachBytes:=by
   have:=hw ((len+(m - len))*Tryz.prog.bytesOf 63) (by simp only [DataW.weights,Tryz.underlying27,List.length_map,List.length_range];exact List.mem_cons_self ..)
   rw [Tryz.bytesKeyW] at this
   exact this
  simp only [reachBytes] at hsz
  have each:∀ i,i < len→∃ c:KeyB,DB c∧W.cell? (a'.add (i*2))=some (.int .i64 c.number)∧W.cell? (a'.add (i*2+1))=some (strB c.secret):=by
   intro i hi
   obtain ⟨cs',h1,h2⟩:=hx i (by omega)
   obtain ⟨c,hok,rfl⟩:=Pu h2
   obtain ⟨_,_,hcell⟩:=World.cells?_some h1
   have e0:=hcell 0 (by omega)
   have e1:=hcell 1 (by omega)
   rw [add_add] at e0 e1
   exact ⟨c,hok,by simpa using e0,by simpa using e1⟩
  have inh:Inhabited KeyB:=⟨⟨0,[]⟩⟩
  obtain ⟨f,hf⟩:=choose_lt each
  refine ⟨(List.range len).map f,by simp,hl,hm,⟨?_,?_⟩,by simp;omega⟩
  ·intro c hc
   simp only [List.mem_map,List.mem_range] at hc
   obtain ⟨i,hi,rfl⟩:=hc
   exact (hf i hi).1
  ·intro hne
   have hp:0 < len:=by
    rcases Nat.eq_zero_or_pos len with h0|h0
    ·subst h0;simp at hne
    ·exact h0
   obtain ⟨b,off,spot⟩:=a'
   have hspot:spot=none:=by simpa [Addr.add] using World.cell?_spot (hf 0 hp).2.1
   subst hspot
   have hb:b < W.heap.size:=by
    have:=(hf 0 hp).2.1
    rw [add_plain] at this
    exact Dh this
   refine ⟨b,off,rfl,hb,fun j hj=>?_⟩
   have hj':j < len:=by simpa using hj
   obtain ⟨_,g1,g2⟩:=hf j hj'
   rw [add_plain] at g1 g2
   simp only [List.getElem_map,List.getElem_range]
   exact ⟨g1,g2⟩
end
section
def Qe:List UInt8→Nat
 | a :: b :: _=>a.toNat+256*b.toNat
 | _=>0
def xq (st:Option (List UInt8)):Nat × Option (List UInt8):=(Qe (qd 2 st).1,(qd 2 st).2)
def qm (st:Option (List UInt8)):(List UInt8 × List UInt8) × Option (List UInt8) :=
 (((qd 4 (xq st).2).1,(qd ((xq st).1:Int) (qd 4 (xq st).2).2).1),if (xq st).1 < 2 then none else (qd ((xq st).1:Int) (qd 4 (xq st).2).2).2)
theorem Zq (n:Int):qd n none=([],none):=rfl
theorem GG (l:List UInt8):Qe l≤65535:=by
 match l with
 | []=>simp [Qe]
 | [a]=>simp [Qe]
 | a :: b :: _=>have:=a.toNat_lt;have:=b.toNat_lt;simp only [Qe];omega
theorem Yd (a b:UInt8):qv ((a.toNat+256*b.toNat:Nat):Int)=[a,b]:=by
 have ha:=a.toNat_lt
 have hb:=b.toNat_lt
 unfold qv
 simp only [List.cons.injEq,and_true]
 constructor
 ·apply UInt8.toNat_inj.1;simp only [UInt8.toNat_ofNat'];omega
 ·apply UInt8.toNat_inj.1;simp only [UInt8.toNat_ofNat'];omega
theorem Yc (n:Nat) (h:n≤65535) (r:List UInt8):Qe (qv (n:Int)++r)=n:=by
 unfold qv
 simp only [List.cons_append,List.nil_append,Qe,UInt8.toNat_ofNat']
 omega
theorem XL {n:Nat} {l:List UInt8} {t r:List UInt8} (h:qd (n:Int) (some l)=(t,some r)):l=t++r∧t.length=n:=by
 by_cases hn:n≤l.length
 ·rw [zR (by omega) (by omega)] at h
  simp only [Prod.mk.injEq,Option.some.injEq,Int.toNat_natCast] at h
  obtain ⟨rfl,rfl⟩:=h
  exact ⟨(List.take_append_drop ..).symm,by rw [List.length_take];omega⟩
 ·rw [Qg (.inr (by omega))] at h
  simp at h
theorem VF {l r:List UInt8} {n:Nat} (h:xq (some l)=(n,some r)):l=qv (n:Int)++r∧n≤65535:=by
 unfold xq at h
 simp only [Prod.mk.injEq] at h
 obtain ⟨h1,h2⟩:=h
 have h3:qd ((2:Nat):Int) (some l)=((qd 2 (some l)).1,some r):=by
  show qd 2 (some l)=_
  rw [← h2]
 obtain ⟨h4,h5⟩:=XL h3
 generalize (qd 2 (some l)).1=t at *
 match t,h5 with
 | [a,b],_ =>
  simp only [Qe] at h1
  subst h1
  rw [Yd]
  exact ⟨h4,by have:=a.toNat_lt;have:=b.toNat_lt;omega⟩
theorem Vr (n:Nat) (h:n≤65535) (r:List UInt8):xq (some (qv (n:Int)++r))=(n,some r):=by
 unfold xq
 have:=QC (qv (n:Int)) r
 rw [jB] at this
 rw [show qd 2 (some (qv (n:Int)++r))=(qv (n:Int),some r) from this]
 have h2:=Yc n h []
 rw [List.append_nil] at h2
 simp [h2]
theorem Uy:qm none=(([],[]),none):=rfl
theorem ZS {l r:List UInt8} {x:List UInt8 × List UInt8} (h:qm (some l)=(x,some r)):l=qv (x.2.length:Int)++(x.1++x.2)++r∧x.1.length=4∧2≤x.2.length∧x.2.length≤65535:=by
 unfold qm at h
 simp only [Prod.mk.injEq] at h
 obtain ⟨h1,h2⟩:=h
 split at h2
 ·cases h2
 ·rename_i hn
  cases hq:(xq (some l)).2 with
  | none=>rw [hq] at h2;simp [Zq] at h2
  | some l1 =>
   obtain ⟨h3,h4⟩:=VF (l:=l) (r:=l1) (n:=(xq (some l)).1) (by rw [← hq])
   rw [hq] at h1 h2
   cases hq2:(qd 4 (some l1)).2 with
   | none=>rw [hq2] at h2;simp [Zq] at h2
   | some l2 =>
    obtain ⟨h5,h6⟩:=XL (n:=4) (l:=l1) (t:=(qd 4 (some l1)).1) (r:=l2) (by show qd 4 (some l1)=_;rw [← hq2])
    rw [hq2] at h1 h2
    obtain ⟨h7,h8⟩:=XL (n:=(xq (some l)).1) (l:=l2) (t:=(qd ((xq (some l)).1:Int) (some l2)).1) (r:=r) (by rw [← h2])
    subst h1
    simp only
    rw [h8]
    refine ⟨?_,h6,by omega,h4⟩
    rw [List.append_assoc,List.append_assoc,← h7,← h5]
    exact h3
theorem ZM {x:List UInt8 × List UInt8} (h1:x.1.length=4) (h2:2≤x.2.length) (h3:x.2.length≤65535) (r:List UInt8):qm (some (qv (x.2.length:Int)++(x.1++x.2)++r))=(x,some r):=by
 unfold qm
 rw [List.append_assoc,List.append_assoc,Vr _ h3]
 have e1:qd 4 (some (x.1++(x.2++r)))=(x.1,some (x.2++r)):=by
  have:=QC x.1 (x.2++r)
  rw [h1] at this
  exact this
 simp only [e1,QC]
 rw [if_neg (by omega)]
def zP (file:List UInt8):Option FormF :=
 if 65000 < file.length∨file.length < 8∨file.take 2≠[67,70]∨file.drop (file.length - 2)≠[67,70]∨(file.getD 2 0≠69∧file.getD 2 0≠79)∨(file.getD 3 0).toNat < 1∨9 < (file.getD 3 0).toNat then none
 else if file.length < 8+Qe (file.drop (file.length - 4)) then none
 else
  let from_:=file.length - 4 - Qe (file.drop (file.length - 4))
  let part:=(file.drop from_).take (file.length - 4 - from_)
  let told:=decide (file.getD 2 0=79)
  let a:=if told=true then qd ((xq (some part)).1:Int) (xq (some part)).2 else ([],some part)
  let b:=qm a.2
  if b.2=some [] then some ⟨told,(file.getD 3 0).toNat,(file.drop 4).take (from_ - 4),a.1,b.1.1,b.1.2⟩ else none
theorem Px {file:List UInt8} {a b:Nat} (ha:4≤a) (hab:a≤b) (hb:b+4=file.length) (h1:file.take 2=[67,70]) (h2:file.drop (file.length - 2)=[67,70]) :
  file=([67,70]++[file.getD 2 0]++[file.getD 3 0])++((file.drop 4).take (a - 4)++((file.drop a).take (b - a)++((file.drop b).take 2++[67,70]))):=by
 have e2:(file.drop b).drop 2=[67,70]:=by rw [List.drop_drop,← h2];congr 1;omega
 have e3:file.drop b=(file.drop b).take 2++[67,70]:=by rw [← e2,List.take_append_drop]
 have e4:file.drop a=(file.drop a).take (b - a)++file.drop b:=by
  conv=>lhs;rw [← List.take_append_drop (b - a) (file.drop a)]
  rw [List.drop_drop]
  congr 2
  omega
 have e5:file.drop 4=(file.drop 4).take (a - 4)++file.drop a:=by
  conv=>lhs;rw [← List.take_append_drop (a - 4) (file.drop 4)]
  rw [List.drop_drop]
  congr 2
  omega
 rw [← e3,← e4,← e5]
 match file,h1 with
 | x :: y :: z :: u :: l,h1 =>
  simp only [List.take_succ_cons,List.take_zero,List.cons.injEq,and_true] at h1
  obtain ⟨rfl,rfl⟩:=h1
  simp
 | [],h1=>simp at h1
 | [x],h1=>simp at h1
 | [x,y],_=>exfalso;have:([x,y]:List UInt8).length=2:=rfl;omega
 | [x,y,z],_=>exfalso;have:([x,y,z]:List UInt8).length=3:=rfl;omega
theorem Iz (file:List UInt8):zP file=zi file:=by
 cases hf:zP file with
 | some f =>
  unfold zP at hf
  split at hf
  ·cases hf
  rename_i hc
  split at hf
  ·cases hf
  rename_i hl
  simp only [not_or,Decidable.not_and_iff_or_not,Decidable.not_not,ne_eq] at hc
  obtain ⟨c1,c2,c3,c4,c5,c6,c7⟩:=hc
  have hn:=GG (file.drop (file.length - 4))
  have hcut:=Px (file:=file) (a:=file.length - 4 - Qe (file.drop (file.length - 4))) (b:=file.length - 4) (by omega) (by omega) (by omega) c3 c4
  simp only at hf
  have hend:(file.drop (file.length - 4)).take 2=qv ((Qe (file.drop (file.length - 4)):Nat):Int):=by
   have hlen:(file.drop (file.length - 4)).length=4:=by rw [List.length_drop];omega
   match hd:file.drop (file.length - 4),hlen with
   | [x,y,z,u],_=>simp only [List.take_succ_cons,List.take_zero,Qe];rw [Yd]
  rw [hend] at hcut
  generalize hN:Qe (file.drop (file.length - 4))=N at *
  generalize hF:file.length - 4 - N=F at *
  have hFN:file.length - 4 - F=N:=by omega
  rw [hFN] at hf hcut
  have hpl:((file.drop F).take N).length=N:=by rw [List.length_take,List.length_drop];omega
  generalize hP:(file.drop F).take N=part at *
  by_cases hb:(qm (if decide (file.getD 2 0=79)=true then qd ((xq (some part)).1:Int) (xq (some part)).2 else ([],some part)).2).2=some []
  ·rw [if_pos hb] at hf
   simp only [Option.some.injEq] at hf
   subst hf
   symm
   have key:∀ (told:Bool) (footer:List UInt8) (x:List UInt8 × List UInt8),told=decide (file.getD 2 0=79)→(told=false→footer=[])→part=(if told=true then qv (footer.length:Int)++footer else [])++(qv (x.2.length:Int)++(x.1++x.2))→x.1.length=4→2≤x.2.length →
     FormOk ⟨told,(file.getD 3 0).toNat,(file.drop 4).take (F - 4),footer,x.1,x.2⟩∧xi ⟨told,(file.getD 3 0).toNat,(file.drop 4).take (F - 4),footer,x.1,x.2⟩=file:=by
    intro told footer x ht hno hpart hx1 hx2
    have hfile:xi ⟨told,(file.getD 3 0).toNat,(file.drop 4).take (F - 4),footer,x.1,x.2⟩=file:=by
     refine Eq.trans ?_ hcut.symm
     unfold xi qr
     simp only
     rw [← hpart]
     have e1:(if told=true then (79:UInt8) else 69)=file.getD 2 0:=by
      rw [ht]
      by_cases h79:file.getD 2 0=79
      ·rw [h79];rfl
      ·rw [decide_eq_false h79]
       have:file.getD 2 0=69:=by
        rcases c5 with h|h
        ·exact h
        ·exact absurd h h79
       rw [this];rfl
     have e2:byB (((file.getD 3 0).toNat:Nat):Int)=file.getD 3 0:=by
      apply UInt8.toNat_inj.1
      rw [JL _ (by omega)]
     rw [e1,e2,hpl]
    exact ⟨⟨hx1,hx2,⟨by simp only;omega,by simp only;omega⟩,by rw [hfile];omega,hno⟩,hfile⟩
   by_cases h79:file.getD 2 0=79
   ·have ht:decide (file.getD 2 0=79)=true:=decide_eq_true h79
    rw [ht] at hb ⊢
    simp only [if_true] at hb ⊢
    cases hq:(xq (some part)).2 with
    | none=>rw [hq,Zq,Uy] at hb;simp at hb
    | some l1 =>
     obtain ⟨h3,h4⟩:=VF (l:=part) (r:=l1) (n:=(xq (some part)).1) (by rw [← hq])
     rw [hq] at hb
     generalize hn0:(xq (some part)).1=n0 at *
     cases hq2:(qd (n0:Int) (some l1)).2 with
     | none=>rw [hq2,Uy] at hb;simp at hb
     | some l2 =>
      obtain ⟨h5,h6⟩:=XL (n:=n0) (l:=l1) (t:=(qd (n0:Int) (some l1)).1) (r:=l2) (by rw [← hq2])
      rw [hq2] at hb
      try rw [hq2]
      generalize (qd (n0:Int) (some l1)).1=T at *
      obtain ⟨h7,h8,h9,h10⟩:=ZS (l:=l2) (r:=[]) (x:=(qm (some l2)).1) (by rw [← hb])
      obtain ⟨k1,k2⟩:=key true T (qm (some l2)).1 ht.symm (fun h=>by cases h) (by
       rw [if_pos rfl,h6,h3,h5]
       rw [List.append_nil] at h7
       rw [← h7,List.append_assoc]
       ) h8 h9
      rw [← Kk k1]
      rw [k2]
   ·have ht:decide (file.getD 2 0=79)=false:=decide_eq_false h79
    rw [ht] at hb ⊢
    simp only [Bool.false_eq_true,if_false] at hb ⊢
    obtain ⟨h7,h8,h9,h10⟩:=ZS (l:=part) (r:=[]) (x:=(qm (some part)).1) (by rw [← hb])
    obtain ⟨k1,k2⟩:=key false [] (qm (some part)).1 ht.symm (fun _=>rfl) (by
     rw [if_neg (by decide),List.nil_append]
     rw [List.append_nil] at h7
     exact h7) h8 h9
    rw [← Kk k1]
    rw [k2]
  ·rw [if_neg hb] at hf
   cases hf
 | none =>
  symm
  apply Jv
  intro f hok e
  obtain ⟨l1,l2,l3⟩:=hok.lens
  have hlen:file.length=4+(f.parts.length+((qr f).length+4)):=by
   rw [← e]
   simp only [xi,List.length_append,List.length_cons,List.length_nil,jB]
  have hsh:=hok.short
  rw [e] at hsh
  have hd:file.drop (file.length - 4)=qv ((qr f).length:Int)++[67,70]:=by
   rw [hlen,show 4+(f.parts.length+((qr f).length+4)) - 4=4+(f.parts.length+(qr f).length) by omega,← e]
   unfold xi
   rw [← List.drop_drop,List.drop_left' (by simp),← List.append_assoc,List.drop_left' (by simp)]
  have hN:Qe (file.drop (file.length - 4))=(qr f).length:=by rw [hd];exact Yc _ (by omega) _
  have hF:file.length - 4 - (qr f).length=4+f.parts.length:=by omega
  have hpart:(file.drop (4+f.parts.length)).take (file.length - 4 - (4+f.parts.length))=qr f:=by
   rw [show file.length - 4 - (4+f.parts.length)=(qr f).length by omega,← e]
   unfold xi
   rw [← List.drop_drop,List.drop_left' (by simp),List.drop_left' rfl,List.take_left' rfl]
  have hparts:(file.drop 4).take (4+f.parts.length - 4)=f.parts:=by
   rw [← e]
   unfold xi
   rw [List.drop_left' (by simp),List.take_left' (by omega)]
  have h2:file.getD 2 0=if f.told=true then 79 else 69:=by rw [← e];simp [xi]
  have h3:(file.getD 3 0).toNat=f.foot:=by
   have:file.getD 3 0=byB (f.foot:Int):=by rw [← e];simp [xi]
   rw [this]
   exact JL _ (by have:=hok.foot;omega)
  have ht2:file.take 2=[67,70]:=by rw [← e];simp [xi]
  have hd2:file.drop (file.length - 2)=[67,70]:=by
   rw [show file.length - 2=(file.length - 4)+2 by omega,← List.drop_drop,hd]
   rfl
  have hft:=hok.foot
  unfold zP at hf
  rw [if_neg,if_neg] at hf
  ·simp only [hN,hF,hpart,hparts] at hf
   cases htold:f.told with
   | true =>
    rw [htold,if_pos rfl] at h2
    simp only [h2,decide_true,if_true] at hf
    have hfp:qr f=qv (f.footer.length:Int)++(f.footer++(qv (f.body.length:Int)++(f.nonce++f.body))):=by
     unfold qr
     rw [htold,if_pos rfl,List.append_assoc]
    have hs:=ZM (x:=(f.nonce,f.body)) hok.nonce hok.body (by simp only;omega) []
    simp only [List.append_nil] at hs
    rw [hfp,Vr _ (by omega),QC,hs] at hf
    simp at hf
   | false =>
    rw [htold,if_neg (by decide)] at h2
    simp only [h2,show decide ((69:UInt8)=79)=false from by decide,Bool.false_eq_true,if_false] at hf
    have hfp:qr f=qv (f.body.length:Int)++(f.nonce++f.body):=by
     unfold qr
     rw [htold,if_neg (by decide),List.nil_append]
    have hs:=ZM (x:=(f.nonce,f.body)) hok.nonce hok.body (by simp only;omega) []
    simp only [List.append_nil] at hs
    rw [hfp,hs] at hf
    simp at hf
  ·rw [hN];omega
  ·rw [h3,ht2,hd2,h2]
   rintro (h|h|h|h|h|h|h)
   ·omega
   ·omega
   ·exact h rfl
   ·exact h rfl
   ·revert h;cases f.told<;>decide
   ·omega
   ·omega
end
section
def xJ (st:Option (List UInt8)):Nat→List ColB × Option (List UInt8)
 | 0=>([],st)
 | i+1=>((xJ st i).1++[⟨(xR 8 (xJ st i).2).1,((jJ 1 (xR 8 (xJ st i).2).2).1:Nat),((jJ 9 (jJ 1 (xR 8 (xJ st i).2).2).2).1:Nat),[]⟩],(jJ 9 (jJ 1 (xR 8 (xJ st i).2).2).2).2)
theorem CB (st:Option (List UInt8)) (i:Nat):(xJ st i).1.length=i:=by
 induction i with
 | zero=>rfl
 | succ i ih=>simp [xJ,ih]
theorem Ut (st:Option (List UInt8)) (i:Nat):∀ c ∈ (xJ st i).1,c.cells=[]:=by
 induction i with
 | zero=>intro c hc;simp [xJ] at hc
 | succ i ih =>
  intro c hc
  simp only [xJ,List.mem_append,List.mem_singleton] at hc
  rcases hc with hc|rfl
  ·exact ih c hc
  ·rfl
theorem TS (n:Nat) (st:Option (List UInt8)):(qd (n:Int) st).1.length≤n:=by
 cases st with
 | none=>simp [Zq]
 | some l =>
  by_cases hn:n≤l.length
  ·rw [zR (by omega) (by omega)]
   simp only [Int.toNat_natCast,List.length_take]
   omega
  ·rw [Qg (.inr (by omega))]
   simp
theorem LC (max:Nat) (st:Option (List UInt8)):(xR max st).1.length≤max:=by
 unfold xR
 exact Nat.le_trans (TS ..) (xH ..)
theorem VR (st:Option (List UInt8)) (i:Nat):∀ c ∈ (xJ st i).1,c.name.length≤8∧(c.kind=0∨c.kind=1)∧0≤c.key∧c.key≤9:=by
 induction i with
 | zero=>intro c hc;simp [xJ] at hc
 | succ i ih =>
  intro c hc
  simp only [xJ,List.mem_append,List.mem_singleton] at hc
  rcases hc with hc|rfl
  ·exact ih c hc
  ·have h1:=xH 1 (xR 8 (xJ st i).2).2
   have h2:=xH 9 (jJ 1 (xR 8 (xJ st i).2).2).2
   exact ⟨LC ..,by simp only;omega,by simp only;omega,by simp only;omega⟩
theorem De {t:List ColB} (r:List UInt8) (h:∀ c ∈ t,c.name.length≤8∧(c.kind=0∨c.kind=1)∧0≤c.key∧c.key≤9∧c.cells=[]):∀ i,i≤t.length→xJ (some (t.flatMap jT++r)) i=(t.take i,some ((t.drop i).flatMap jT++r)):=by
 intro i
 induction i with
 | zero=>intro _;simp [xJ]
 | succ i ih =>
  intro hi
  have hlt:i < t.length:=by omega
  obtain ⟨h1,h2,h3,h4,h5⟩:=h t[i] (List.getElem_mem hlt)
  simp only [xJ,ih (by omega)]
  rw [List.drop_eq_getElem_cons hlt,List.flatMap_cons]
  simp only [jT,List.append_assoc]
  rw [Ma 8 _ _ h1 (by decide)]
  simp only
  rw [Jo 1 _ _ (by omega) (by decide)]
  simp only
  rw [Jo 9 _ _ (by omega) (by decide)]
  simp only
  rw [List.take_succ_eq_append_getElem hlt]
  congr 3
  generalize t[i]=c at *
  cases c
  simp only [ColB.mk.injEq,true_and] at *
  refine ⟨by omega,by omega,h5.symm⟩
def Kp (key:Int) (st:Option (List UInt8)):ModF × Option (List UInt8) :=
 if key=0 then (⟨(qd ((xq st).1:Int) (xq st).2).1,[],[]⟩,(qd ((xq st).1:Int) (xq st).2).2)
 else (⟨[],(qm st).1.1,(qm st).1.2⟩,(qm st).2)
theorem RH (key:Int):Kp key none=(⟨[],[],[]⟩,none):=by
 unfold Kp
 split<;>rfl
theorem CJ {key:Int} {l r:List UInt8} {m:ModF} (h:Kp key (some l)=(m,some r)):xW key m∧l=qB key m++r:=by
 unfold Kp at h
 unfold xW qB
 by_cases hk:key=0
 ·rw [if_pos hk] at h
  rw [if_pos hk]
  simp only [Prod.mk.injEq] at h
  obtain ⟨h1,h2⟩:=h
  cases hq:(xq (some l)).2 with
  | none=>rw [hq] at h2;simp [Zq] at h2
  | some l1 =>
   obtain ⟨h3,h4⟩:=VF (l:=l) (r:=l1) (n:=(xq (some l)).1) (by rw [← hq])
   rw [hq] at h1 h2
   obtain ⟨h5,h6⟩:=XL (n:=(xq (some l)).1) (l:=l1) (t:=(qd ((xq (some l)).1:Int) (some l1)).1) (r:=r) (by rw [← h2])
   subst h1
   refine ⟨.inl ⟨hk,rfl,rfl,by simp only [h6];exact h4⟩,?_⟩
   simp only [h6]
   rw [List.append_assoc,← h5]
   exact h3
 ·rw [if_neg hk] at h
  rw [if_neg hk]
  simp only [Prod.mk.injEq] at h
  obtain ⟨h1,h2⟩:=h
  obtain ⟨h7,h8,h9,h10⟩:=ZS (l:=l) (r:=r) (x:=(qm (some l)).1) (by rw [← h2])
  subst h1
  exact ⟨.inr ⟨hk,rfl,h8,h9,h10⟩,h7⟩
theorem ME {key:Int} {m:ModF} (h:xW key m) (r:List UInt8):Kp key (some (qB key m++r))=(m,some r):=by
 unfold Kp qB
 rcases h with ⟨hk,h1,h2,h3⟩|⟨hk,h1,h2,h3,h4⟩
 ·rw [if_pos hk,if_pos hk,List.append_assoc,Vr _ h3,QC]
  cases m;simp_all
 ·rw [if_neg hk,if_neg hk,ZM (x:=(m.nonce,m.body)) h2 h3 h4]
  cases m;simp_all
def KT (t:List ColB) (q:List ModF × Option (List UInt8)) (s:SpotB):List ModF × Option (List UInt8):=(q.1++[(Kp (jk t s.c).key q.2).1],(Kp (jk t s.c).key q.2).2)
def qI (t:List ColB) (st:Option (List UInt8)) (L:List SpotB):List ModF × Option (List UInt8):=L.foldl (KT t) ([],st)
theorem Dj (t:List ColB) (st:Option (List UInt8)) (L:List SpotB) (s:SpotB):qI t st (L++[s])=KT t (qI t st L) s:=by simp [qI]
theorem Ad (t:List ColB):∀ (L:List SpotB) (M:List ModF),(L.foldl (KT t) (M,none)).2=none:=by
 intro L
 induction L with
 | nil=>intro M;rfl
 | cons s L ih=>intro M;simp only [List.foldl_cons,KT,RH];exact ih _
theorem MY (t:List ColB):∀ (L:List SpotB) (q:List ModF × Option (List UInt8)),(L.foldl (KT t) q).1.length=q.1.length+L.length:=by
 intro L
 induction L with
 | nil=>intro q;rfl
 | cons s L ih=>intro q;simp only [List.foldl_cons,ih,KT,List.length_append,List.length_cons,List.length_nil];omega
theorem RC (t:List ColB) (st:Option (List UInt8)) (L:List SpotB):(qI t st L).1.length=L.length:=by
 unfold qI;rw [MY];simp
theorem ND (t:List ColB):∀ (L:List SpotB) (M0:List ModF) (l r:List UInt8) (M:List ModF),L.foldl (KT t) (M0,some l)=(M,some r)→∃ M1,M=M0++M1∧ModsOk t L M1∧l=jl t L M1++r:=by
 intro L
 induction L with
 | nil=>intro M0 l r M h;simp only [List.foldl_nil,Prod.mk.injEq,Option.some.injEq] at h;exact ⟨[],by rw [← h.1];simp,.nil,by rw [h.2];rfl⟩
 | cons s L ih =>
  intro M0 l r M h
  simp only [List.foldl_cons,KT] at h
  cases hq:(Kp (jk t s.c).key (some l)).2 with
  | none =>
   rw [hq] at h
   have:=Ad t L (M0++[(Kp (jk t s.c).key (some l)).1])
   rw [h] at this
   cases this
  | some l1 =>
   rw [hq] at h
   obtain ⟨h1,h2⟩:=CJ (key:=(jk t s.c).key) (l:=l) (r:=l1) (m:=(Kp (jk t s.c).key (some l)).1) (by rw [← hq])
   obtain ⟨M1,h3,h4,h5⟩:=ih _ _ _ _ h
   exact ⟨_ :: M1,by rw [h3,List.append_assoc];rfl,.cons h1 h4,by
    simp only [jl,List.append_assoc]
    rw [← h5]
    exact h2⟩
theorem Af {t:List ColB} {L:List SpotB} {M:List ModF} (h:ModsOk t L M):∀ (M0:List ModF) (r:List UInt8),L.foldl (KT t) (M0,some (jl t L M++r))=(M0++M,some r):=by
 induction h with
 | nil=>intro M0 r;simp [jl]
 | cons hm _ ih =>
  intro M0 r
  simp only [List.foldl_cons,KT,jl,List.append_assoc]
  rw [ME hm]
  simp only
  rw [ih]
  simp
def zn (footer:List UInt8):PlanB :=
 ⟨((jJ 60 (jJ 60 (some footer)).2).1:Nat),((jJ 60 (jJ 60 (jJ 60 (some footer)).2).2).1:Nat),((jJ 9 (jJ 60 (jJ 60 (jJ 60 (some footer)).2).2).2).1:Nat),false⟩
def qK (footer:List UInt8):Nat:=(jJ 60 (some footer)).1
def xO (footer:List UInt8):List ColB × Option (List UInt8) :=
 xJ (jJ 6 (jJ 9 (jJ 60 (jJ 60 (jJ 60 (some footer)).2).2).2).2).2 (jJ 6 (jJ 9 (jJ 60 (jJ 60 (jJ 60 (some footer)).2).2).2).2).1
def ZN (foot:Nat) (footer:List UInt8):Bool:=(!(xO footer).2.isNone && (qW (zn footer) && (jU (xO footer).1 && decide ((zn footer).foot=(foot:Int)))))
def ZI (footer:List UInt8):List SpotB:=jC (qK footer) (xO footer).1.length (zn footer).group.toNat (zn footer).page.toNat
def Ku (parts footer:List UInt8):List ModF × Option (List UInt8):=qI (xO footer).1 (some parts) (ZI footer)
def Gx (foot:Nat) (parts footer:List UInt8):Option SheetF :=
 if ZN foot footer=true then
  if (Ku parts footer).2=some []∧qH (qK footer) (zn footer) (xO footer).1 (jp (xO footer).1 4 true (ZI footer) (Ku parts footer).1)=footer then some ⟨qK footer,zn footer,(xO footer).1,(Ku parts footer).1⟩ else none
 else none
theorem DM (foot:Nat) (parts footer:List UInt8):Gx foot parts footer=xp foot parts footer:=by
 cases hl:Gx foot parts footer with
 | some S =>
  symm
  apply US
  unfold Gx at hl
  split at hl
  ·rename_i hh
   split at hl
   ·rename_i hm
    cases hl
    obtain ⟨h1,h2⟩:=hm
    simp only [ZN,Bool.and_eq_true,decide_eq_true_eq] at hh
    obtain ⟨_,hp,hc,hf⟩:=hh
    obtain ⟨M1,e1,e2,e3⟩:=ND (xO footer).1 (ZI footer) [] parts [] (Ku parts footer).1 (by
     show Ku parts footer=_
     rw [← h1])
    simp only [List.nil_append] at e1
    rw [e1] at h2 ⊢
    rw [List.append_nil] at e3
    have hR:qK footer≤60:=xH _ _
    have hB:∀ c ∈ (xO footer).1,c.cells=[]:=Ut _ _
    have hT:(zn footer).told=false:=rfl
    unfold ZI at *
    generalize qK footer=R at *
    generalize (xO footer).1=C at *
    generalize zn footer=p at *
    exact ⟨hR,hp,hT,hf,hc,hB,e2,e3,h2.symm⟩
   ·cases hl
  ·cases hl
 | none =>
  symm
  apply Xl
  intro S hS
  have hf:=hS.footer
  have hp:=hS.plan
  have hpl:=hS.plan
  simp only [qW,Bool.and_eq_true,decide_eq_true_eq] at hpl
  have hcs:∀ c ∈ S.cols,c.name.length≤8∧(c.kind=0∨c.kind=1)∧0≤c.key∧c.key≤9∧c.cells=[]:=by
   intro c hc
   obtain ⟨k,hk,rfl⟩:=List.mem_iff_getElem.1 hc
   have hh:=hS.heads
   simp only [jU,Bool.and_eq_true] at hh
   obtain ⟨a,b,c,d⟩:=QB (QP hh.1 (Nat.le_refl _) k hk).1
   exact ⟨(Nq a).2,b,c,d,hS.bare _ (List.getElem_mem hk)⟩
  have hlen:S.cols.length≤6:=by
   have hh:=hS.heads
   simp only [jU,Bool.and_eq_true,decide_eq_true_eq] at hh
   exact hh.2.2
  have hfoot:S.plan.foot=(foot:Int):=hS.foot
  unfold qH at hf
  simp only [List.append_assoc] at hf
  have hrow:=hS.rows
  generalize hPL:(jp S.cols 4 true (qy S) S.mods).flatMap uB=PB at hf
  have r1:=Jo 60 S.rows (uB S.plan.group.toNat++(uB S.plan.page.toNat++(uB S.plan.foot.toNat++(uB S.cols.length++(S.cols.flatMap jT++PB))))) hrow (by decide)
  have r2:=Jo 60 S.plan.group.toNat (uB S.plan.page.toNat++(uB S.plan.foot.toNat++(uB S.cols.length++(S.cols.flatMap jT++PB)))) (by omega) (by decide)
  have r3:=Jo 60 S.plan.page.toNat (uB S.plan.foot.toNat++(uB S.cols.length++(S.cols.flatMap jT++PB))) (by omega) (by decide)
  have r4:=Jo 9 S.plan.foot.toNat (uB S.cols.length++(S.cols.flatMap jT++PB)) (by omega) (by decide)
  have r5:=Jo 6 S.cols.length (S.cols.flatMap jT++PB) hlen (by decide)
  rw [← hf] at r1
  have eR:qK footer=S.rows:=by unfold qK;rw [r1]
  have eP:zn footer=S.plan:=by
   unfold zn
   rw [r1]
   simp only
   rw [r2]
   simp only
   rw [r3]
   simp only
   rw [r4]
   have ht:=hS.told
   generalize S.plan=p at *
   cases p
   simp only [PlanB.mk.injEq] at *
   exact ⟨by omega,by omega,by omega,ht.symm⟩
  have eC:xO footer=(S.cols,some PB):=by
   unfold xO
   rw [r1]
   simp only
   rw [r2]
   simp only
   rw [r3]
   simp only
   rw [r4]
   simp only
   rw [r5]
   simp only
   rw [De PB hcs _ (Nat.le_refl _)]
   simp
  have eS:ZI footer=qy S:=by unfold ZI qy;rw [eR,eC,eP]
  have eM:Ku parts footer=(S.mods,some []):=by
   unfold Ku
   rw [eC,eS,hS.parts]
   have:=Af hS.mods [] []
   simpa [qI] using this
  unfold Gx at hl
  rw [if_pos,if_pos] at hl
  ·cases hl
  ·refine ⟨by rw [eM],?_⟩
   rw [eM,eR,eP,eC,eS]
   exact hS.footer.symm
  ·simp only [ZN,eC,eP,hp,hS.heads,hfoot,Option.isNone_some,Bool.not_false,Bool.true_and,decide_true]
end
end Go.Proofs.YthhpbhpfagoapaaGreat
