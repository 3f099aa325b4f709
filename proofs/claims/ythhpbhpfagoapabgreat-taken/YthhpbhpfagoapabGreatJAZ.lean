import Derived.Test.YthhpbhpfagoapabGreatRTk
import Derived.Test.YthhpbhpfagoapabGreatJAD
import Derived.Test.YthhpbhpfagoapabGreatJAX
import Derived.Test.YthhpbhpfagoapabGreatJAL
namespace Go.Proofs.YthhpbhpfagoapabGreat
set_option linter.unusedVariables false
set_option linter.unusedSimpArgs false
set_option maxRecDepth 100000
set_option maxHeartbeats 16000000
section
open Go.RowKit
def Rq (key:Int) (g c i:Nat) (m:ModF):List Value:=[strB [80],.int .i64 (g:Int),.int .i64 (c:Int),.int .i64 (i:Int),strB (jO key m).1,strB (jO key m).2]
def xQ (key:Int) (g c:Nat) (mp:List ModF):List Value:=(mp.mapIdx (Rq key g c)).flatten
abbrev chunkV (rows g c:Nat) (key:Int) (pv:Value) (m:ModF):Value:=.agg #[.int .i64 (rows:Int),pv,strB [77],.int .i64 (g:Int),.int .i64 (c:Int),.int .i64 0,strB (jO key m).1,strB (jO key m).2]
theorem Ic (key:Int) (g c:Nat) (mp:List ModF) (m:ModF):xQ key g c (mp++[m])=xQ key g c mp++[strB [80],.int .i64 (g:Int),.int .i64 (c:Int),.int .i64 (mp.length:Int),strB (jO key m).1,strB (jO key m).2]:=by
 unfold xQ
 rw [List.mapIdx_append]
 simp [Rq]
theorem Tryz.infoPiece:(Tryz.prog.info? 75).map (fun i=>(i.zero,i.size,i.bytes))=some (some (.agg #[.string ⟨#[]⟩,.int .i64 0,.int .i64 0,.int .i64 0,.string ⟨#[]⟩,.string ⟨#[]⟩]),6,72):=by kernel_rfl
theorem Yv {t:List ColB} {L:List SpotB} {sp:SpotB} {L2:List SpotB} {mp M:List ModF} {rr q:List UInt8} (hmp:ModsOk t L mp) (hM:ModsOk t (L++(sp :: L2)) M) (h:jn t L mp++rr=jn t (L++(sp :: L2)) M++q):∃ m z,zv (jg t sp.c).key m∧rr=qw (jg t sp.c).key m++z:=by
 obtain ⟨M1,M2,rfl,h1,h2⟩:=RI hM
 rw [zU _ _ _ _ (qT h1),List.append_assoc] at h
 have hl:=qT hmp
 obtain ⟨M2',hM2',_⟩:∃ z,z=M2∧True:=⟨_,rfl,trivial⟩
 have key:∀ {L:List SpotB} {a b:List ModF} {x y:List UInt8},ModsOk t L a→ModsOk t L b→jn t L a++x=jn t L b++y→x=y:=by
  intro L a b x y ha
  induction ha generalizing b with
  | nil=>intro hb e;cases hb;simpa [jn] using e
  | cons hm _ ih =>
   intro hb e
   cases hb with
   | cons hm' hb' =>
    simp only [jn,List.append_assoc] at e
    exact ih hb' (QC hm hm' e).2
 have hr:=key hmp h1 h
 cases h2 with
 | cons hm _ =>
  rw [hr]
  simp only [jn,List.append_assoc]
  exact ⟨_,_,hm,rfl⟩
theorem PY {R G P g c k:Nat} (hk:k < jX (jp R G g) P):∃ L2,jh R G P g c=jt P g c (g*G) (jp R G g) k++(⟨80,g,c,k,g*G+k*P,jp (jp R G g) P k⟩ :: L2):=by
 unfold jh
 obtain ⟨d,hd⟩:∃ d,jX (jp R G g) P=k+1+d:=⟨jX (jp R G g) P - (k+1),by omega⟩
 have:jt P g c (g*G) (jp R G g) (jX (jp R G g) P)=jt P g c (g*G) (jp R G g) (k+1)++((List.range d).map (k+1+·)).map (fun p=>(⟨80,g,c,p,g*G+p*P,jp (jp R G g) P p⟩:SpotB)):=by
  rw [hd]
  unfold jt
  rw [List.range_add,List.map_append]
 rw [this,Qi,List.append_assoc,List.append_assoc]
 exact ⟨_,rfl⟩
def Mm (t:List ColB) (R G P g c:Nat) (p:Nat) (s rest:List UInt8) (w:World) (e:Ending) (w':World):Prop :=
 w.grownBy w' (some p)∧((e=gaveUp∧∀ (M:List ModF) (q:List UInt8),ModsOk t (jh R G P g c) M→rest≠jn t (jh R G P g c) M++q) ∨
  ∃ (mp:List ModF) (mm:ModF) (pv:Value) (r:List UInt8),ModsOk t (jh R G P g c) (mp++[mm])∧mp.length=jX (jp R G g) P∧e=.returned (chunkV (jp R G g) g c (jg t c).key pv mm)∧w'.ownsRow w.heap.size 75 6 pv mp.length (xQ (jg t c).key g c mp)∧qv w' p s r∧rest=jn t (jh R G P g c) (mp++[mm])++r)
theorem SV {key:Int} {val:ModF→Value} {p:Nat} {s rest q:List UInt8} {w:World} {e:Ending} {w':World} {m:ModF} (h:UV (zv key) (qw key) val p s rest w e w') (hm:zv key m) (hr:rest=qw key m++q):e=.returned (val m)∧qv w' p s q∧w.grownBy w' (some p):=by
 obtain ⟨hg,⟨_,hno⟩|⟨m',r,hm',rfl,hrd,hr'⟩⟩:=h
 ·exact absurd hr (hno m q hm)
 ·rw [hr'] at hr
  obtain ⟨h1,h2⟩:=QC hm' hm hr
  subst h1 h2
  exact ⟨rfl,hrd,hg⟩
theorem LM {key:Int} {val:ModF→Value} {p:Nat} {s rest:List UInt8} {w:World} {e:Ending} {w':World} (h:UV (zv key) (qw key) val p s rest w e w') (hn:∀ m q,zv key m→rest≠qw key m++q):e=gaveUp∧w.grownBy w' (some p):=by
 obtain ⟨hg,⟨he,_⟩|⟨m',r,hm',rfl,hrd,hr'⟩⟩:=h
 ·exact ⟨he,hg⟩
 ·exact absurd hr' (hn m' r hm')
theorem QO {w:World} {q:Nat} {c0 c1 c2 c3 c4 c5 c6 c7:Value} {t:TypeId} (h:w.heap[q]?=some (.cells #[c0,c1,c2,c3,c4,c5,c6,c7] t (0,0))) :
  (w.cell? ⟨q,0,none⟩=some c0∧w.cell? ⟨q,1,none⟩=some c1∧w.cell? ⟨q,2,none⟩=some c2∧w.cell? ⟨q,3,none⟩=some c3∧w.cell? ⟨q,4,none⟩=some c4∧w.cell? ⟨q,5,none⟩=some c5∧w.cell? ⟨q,6,none⟩=some c6∧w.cell? ⟨q,7,none⟩=some c7)∧(∀ j,w.frozen? ⟨q,j,none⟩=false) :=
 ⟨⟨by rw [jb h];rfl,by rw [jb h];rfl,by rw [jb h];rfl,by rw [jb h];rfl,by rw [jb h];rfl,by rw [jb h];rfl,by rw [jb h];rfl,by rw [jb h];rfl⟩,fun j=>frozen_of_row w q j _ t h⟩
theorem Bv {w:World} {q:Nat} {c0 c1 c2 c3 c4 c5 c6 c7 v:Value} {t:TypeId} (h:w.heap[q]?=some (.cells #[c0,c1,c2,c3,c4,c5,c6,c7] t (0,0))):(w.setCell ⟨q,1,none⟩ v).heap[q]?=some (.cells #[c0,v,c2,c3,c4,c5,c6,c7] t (0,0)):=by
 rw [heap_setCell_same w q 1 _ t v h];rfl
theorem BH {w:World} {q:Nat} {c0 c1 c2 c3 c4 c5 c6 c7 v2 v3 v4 v5 v6 v7:Value} {t:TypeId} (h:w.heap[q]?=some (.cells #[c0,c1,c2,c3,c4,c5,c6,c7] t (0,0))):(w.setCells q 2 [v2,v3,v4,v5,v6,v7]).heap[q]?=some (.cells #[c0,c1,v2,v3,v4,v5,v6,v7] t (0,0)) :=
 Zw (w:=w) [v2,v3,v4,v5,v6,v7] [c0,c1] [] [c2,c3,c4,c5,c6,c7] rfl h
theorem Yb (t:List ColB) (R G P g c:Nat) (Q p cb n cc:Nat) (s rest:List UInt8) (w:World) (hs:s.length≤maxLen) (hp:qv w p s rest) (hR:jp R G g≤60) (hP1:1≤P) (hP:P≤60) (hcn:c < n) (hn:n≤6)
  (hc15:w.cell? ⟨Q,15,none⟩=some (.slice (some ⟨cb,0,none⟩) n cc)) (hkey:w.cell? ⟨cb,c*4+2,none⟩=some (.int .i64 (jg t c).key)) (hc12:w.cell? ⟨Q,12,none⟩=some (.int .i64 (P:Int))) :
  Calls Tryz.prog 142 #[.pointer (some ⟨Q,0,none⟩),.pointer (some ⟨p,0,none⟩),.int .i64 (g:Int),.int .i64 (c:Int),.int .i64 ((jp R G g:Nat):Int)] w (Mm t R G P g c p s rest w):=by
 obtain ⟨i0,hi,hz0,hz1,hz2⟩:=info_parts Tryz.infoPiece
 have Hs:=hid hs
 have Hp:=hid hp
 have hplt:=xD hp
 have HCS:Hid (∀ k,k < jX (jp R G g) P→∃ L2,jh R G P g c=jt P g c (g*G) (jp R G g) k++(⟨80,g,c,k,g*G+k*P,jp (jp R G g) P k⟩ :: L2)):=fun k hk=>PY hk
 have HCE:Hid (jh R G P g c=jt P g c (g*G) (jp R G g) (jX (jp R G g) P)++[⟨77,g,c,0,g*G,jp R G g⟩]):=rfl
 have hci:(c:Int) < (n:Int):=by omega
 clear hs hp
 have HCN:Hid (jX (jp R G g) P≤jp R G g):=JZ hP1
 generalize hkk:(jg t c).key=key at *
 have Hkk:=hid hkk
 have HMP:Hid (∀ (M:List ModF) (rr q:List UInt8) (k:Nat) (mp:List ModF),k < jX (jp R G g) P→ModsOk t (jt P g c (g*G) (jp R G g) k) mp→ModsOk t (jh R G P g c) M→jn t (jt P g c (g*G) (jp R G g) k) mp++rr=jn t (jh R G P g c) M++q→∃ m z,zv key m∧rr=qw key m++z):=by
  intro M rr q k mp hk hmp hM h
  obtain ⟨L2,hL2⟩:=HCS.out k hk
  rw [hL2] at hM h
  obtain ⟨m,z,h1,h2⟩:=Yv hmp hM h
  rw [← hkk]
  exact ⟨m,z,h1,h2⟩
 have HMQ:Hid (∀ (M:List ModF) (rr q:List UInt8) (mp:List ModF),ModsOk t (jt P g c (g*G) (jp R G g) (jX (jp R G g) P)) mp→ModsOk t (jh R G P g c) M→jn t (jt P g c (g*G) (jp R G g) (jX (jp R G g) P)) mp++rr=jn t (jh R G P g c) M++q→∃ m z,zv key m∧rr=qw key m++z):=by
  intro M rr q mp hmp hM h
  rw [HCE.out] at hM h
  obtain ⟨m,z,h1,h2⟩:=Yv hmp hM h
  rw [← hkk]
  exact ⟨m,z,h1,h2⟩
 clear hkk HCS
 generalize hrr:jp R G g=rows at *
 have Hrr:=hid hrr
 clear hrr
 generalize hCN:jX rows P=CN at *
 have HCNe:=hid hCN
 have hCN60:CN≤60:=by have:=HCN.out;omega
 have HCT:=hid (fun w':World=>Ut rows P w' (by omega) hP1 (by omega))
 rw [hCN] at HCT
 clear hCN
 have a15:=je (.cells #[.int .i64 0,.slice none 0 0,Value.string { data:=#[] },.int .i64 0,.int .i64 0,.int .i64 0,Value.string { data:=#[] },Value.string { data:=#[] }] 157) hc15
 have ak:=je (.cells #[.int .i64 0,.slice none 0 0,Value.string { data:=#[] },.int .i64 0,.int .i64 0,.int .i64 0,Value.string { data:=#[] },Value.string { data:=#[] }] 157) hkey
 have a12:=je (.cells #[.int .i64 (rows:Int),.slice none 0 0,Value.string { data:=#[] },.int .i64 0,.int .i64 0,.int .i64 0,Value.string { data:=#[] },Value.string { data:=#[] }] 157) (je (.cells #[.int .i64 0,.slice none 0 0,Value.string { data:=#[] },.int .i64 0,.int .i64 0,.int .i64 0,Value.string { data:=#[] },Value.string { data:=#[] }] 157) hc12)
 obtain ⟨hb0,hl0,ho0,hq0⟩:=JQ w #[.int .i64 0,.slice none 0 0,Value.string { data:=#[] },.int .i64 0,.int .i64 0,.int .i64 0,Value.string { data:=#[] },Value.string { data:=#[] }] 157 #[.int .i64 (rows:Int),.slice none 0 0,Value.string { data:=#[] },.int .i64 0,.int .i64 0,.int .i64 0,Value.string { data:=#[] },Value.string { data:=#[] }] 157
 go_enter Tryz.func142,Tryz.ntmps142
 go_wp2_with fail
 clear a15 ak a12 hc15 hkey hc12
 generalize (w.alloc _).alloc _=W0 at *
 have HB0:=hid hb0
 have Ho0:=hid ho0
 have Hq0:=hid hq0
 clear hb0 ho0 hq0
 refine (HCT.out _).mono ?_
 rintro e w1 ⟨sv,rfl,hsp,hb1⟩
 obtain ⟨sa,sc,rfl⟩:=jK hsp
 have HB1:=hid (HB0.out.trans (hb1.mono HB0.out.size))
 have Ho1:=hid (jd hb1 Ho0.out)
 have Hq1:=hid (jd hb1 Hq0.out)
 have hl1:=hb1.size
 clear hb1 hsp
 have Hp1:=hid (qH Hp.out HB1.out hplt)
 go_wp2
 go_loopw [34] (fun i wr=>∃ (k:Nat) (mp:List ModF) (rk:List UInt8) (v:Value),k≤CN∧i=.int .i64 (k:Int)∧mp.length=k∧ModsOk t (jt P g c (g*G) rows k) mp∧wr.heap[w.heap.size+1]?=some (.cells #[.int .i64 (rows:Int),v,Value.string { data:=#[] },.int .i64 0,.int .i64 0,.int .i64 0,Value.string { data:=#[] },Value.string { data:=#[] }] 157 (0,0))∧wr.ownsRow w.heap.size 75 6 v k (xQ key g c mp)∧qv wr p s rk∧w.grownBy wr (some p)∧wr.heap[w.heap.size]?=some (.cells #[.int .i64 0,.slice none 0 0,Value.string { data:=#[] },.int .i64 0,.int .i64 0,.int .i64 0,Value.string { data:=#[] },Value.string { data:=#[] }] 157 (0,0))∧rest=jn t (jt P g c (g*G) rows k) mp++rk) (fun i _=>CN - (intOf i).toNat)
 case atStart=>exact ⟨0,[],rest,.slice none 0 0,Nat.zero_le _,rfl,rfl,.nil,Hq1.out,World.ownsRow_nil _ _ _ _,Hp1.out,jG (jU w _) HB1.out,Ho1.out,rfl⟩
 case round =>
  obtain ⟨k,mp,rk,v,hkC,rfl,hmp,hok,hq,hown,hrd,hg,ho,hrk⟩:=hrel
  have Hmp:=hid hmp
  have Hok:=hid hok
  have Hq:=hid hq
  have HG:=hid hg
  have Ho:=hid ho
  have Hrk:=hid hrk
  have Hrd:=hid hrd
  have Hown:=hid hown
  have hwz:=hg.size
  have hqlt:=(Array.getElem?_eq_some_iff.1 hq).1
  clear hmp hok hq hg ho hrk hrd
  obtain ⟨va,vc,rfl⟩:=jK hown
  clear hown
  by_cases hlt:k < CN
  ·have hiM:(k:Int) < (CN:Int):=by omega
   by_cases hx:¬ ∃ (m:ModF) (z:List UInt8),zv key m∧rk=qw key m++z
   ·have HN:Hid (∀ (M:List ModF) (q:List UInt8),ModsOk t (jh R G P g c) M→rest≠jn t (jh R G P g c) M++q):=fun M q hM h=>by
     rw [Hrk.out] at h
     exact hx (HMP.out M rk q k mp hlt Hok.out hM h)
    have HNX:Hid (∀ m z,zv key m→rk≠qw key m++z):=fun m z h1 h2=>hx ⟨m,z,h1,h2⟩
    clear hx
    go_wp2_with fail
    have HC1:Hid (wr.cell? ⟨w.heap.size+1,1,none⟩=some (.slice va k vc)):=(QO Hq.out).1.2.1
    refine wp_region_held_drew (S:=fun w'=>w'.cell? ⟨w.heap.size+1,1,none⟩=some (.slice va k vc)) (by kernel_rfl) ?_ (fun hHeld=>?_)
    ·exact HC1.out
    refine tk 0 (.pointer (some ⟨w.heap.size+1,1,none⟩)) ?_
    refine tk 1 (.slice va k vc) ?_
    refine tk 2 (.pointer (some ⟨p,0,none⟩)) ?_
    refine tk 3 (.int .i64 key) ?_
    refine tk 4 (.int .i64 (g:Int)) ?_
    refine tk 5 (.int .i64 (c:Int)) ?_
    refine tk 6 (.int .i64 (k:Int)) ?_
    refine tk 7 (moduleV [80] g c k) ?_
    simp only [jA,jB,jC,Act.put,jD,jE,jF]
    refine rd 8 (fun K hK=>?_)
    simp only [jA,jB,jC]
    go_simp
    go_at_call 173
    refine (ZN p g c k key [80] s rk _ Hs.out (show qv wr.drew p s rk from Hrd.out)).mono ?_
    intro e w13 h13
    obtain ⟨rfl,hg13⟩:=LM h13 HNX.out
    exact ⟨rfl,jf HG.out (jP hg13),.inl ⟨rfl,HN.out⟩⟩
   ·obtain ⟨m,z,hx1,hx2⟩:=Classical.not_not.1 hx
    have Hx1:=hid hx1
    have Hx2:=hid hx2
    clear hx hx1 hx2
    go_wp2_with fail
    have hqd:wr.drew.heap[w.heap.size+1]?=some (.cells #[.int .i64 (rows:Int),.slice va k vc,Value.string { data:=#[] },.int .i64 0,.int .i64 0,.int .i64 0,Value.string { data:=#[] },Value.string { data:=#[] }] 157 (0,0)):=Hq.out
    have c6:=(QO hqd).1.2.1
    go_region_law (first
     | (refine step_append_lies _ (by rfl) _ _ _ (by rfl) w.heap.size 75 i0 _ 6 72 Tryz.underlying155 hi hz0 hz1 hz2 rfl (by omega) _ k (xQ key g c mp) (by rfl) (hownB.alloc _) ⟨w14.heap.size,0,none⟩ 1 1 [strB [80],.int .i64 (g:Int),.int .i64 (c:Int),.int .i64 (k:Int),strB (jO key m).1,strB (jO key m).2] (by rfl) (by rfl) (World.news_of_block (cs:=#[strB [80],.int .i64 (g:Int),.int .i64 (c:Int),.int .i64 (k:Int),strB (jO key m).1,strB (jO key m).2]) (t:=75) (fr:=(0,0)) (heap_alloc_new w14 _)) (by simp [Value.oneCell']) (by omega) (by unfold maxLen;omega) (by omega) (by simp;omega) _ rfl ?_;intro gg gc w15 hown15 hgr15 hat15 hlt15;have hq15:=jz hgr15 (hownB.alloc _) (jo _ hq14) (by decide);have c6c:=(QO hq15).1.2.1;have f6c:=(QO hq15).2 1)
     | (go_simp;go_at_call 173;refine (ZN p g c k key [80] s rk _ Hs.out (show qv wr.drew p s rk from Hrd.out)).mono ?_;intro e w14 h14;obtain ⟨rfl,hrd14,hg14⟩:=SV h14 Hx1.out Hx2.out;have hg14':=jP hg14;have hq14:=jk hg14' Hq.out (by omega);have c6a:=(QO hq14).1.2.1;have c6b:=(QO (jo (.cells #[strB [80],.int .i64 (g:Int),.int .i64 (c:Int),.int .i64 (k:Int),strB (jO key m).1,strB (jO key m).2] 75) hq14)).1.2.1;have hownB:=qq Hown.out hg14' (ze Hrd.out) (by decide);have hl14:=hg14'.size;clear h14))
    all_goals
     have HOWE:=hid (qq hown15 (qr w15 (w.heap.size+1) 1 (.slice (some ⟨gg,0,none⟩) (k+1) gc)) hq15 (by decide))
     have ho14:=jk hg14' Ho.out (by omega)
     have ho15:=jz hgr15 (hownB.alloc _) (jo _ ho14) (by decide)
     have HOE:=hid (jk (qr w15 (w.heap.size+1) 1 (.slice (some ⟨gg,0,none⟩) (k+1) gc)) ho15 (by omega))
     have hr15:=jz hgr15 (hownB.alloc _) (jo _ (ze hrd14)) (by decide)
     have HRE:=hid (zH (Zo hrd14 hr15) (qr w15 (w.heap.size+1) 1 (.slice (some ⟨gg,0,none⟩) (k+1) gc)) (by omega))
     have hG15:=JM (Ua (jf HG.out hg14') (.cells #[strB [80],.int .i64 (g:Int),.int .i64 (c:Int),.int .i64 (k:Int),strB (jO key m).1,strB (jO key m).2] 75)) hgr15 (fun k hk=>(hownB.lt k hk).1)
     have HGE:=hid (JM hG15 (qr w15 (w.heap.size+1) 1 (.slice (some ⟨gg,0,none⟩) (k+1) gc)) (by rintro k hk;cases hk;omega))
     have HQE:=hid (Bv (v:=(.slice (some ⟨gg,0,none⟩) (k+1) gc)) hq15)
     clear ho14 ho15 hr15 hG15 hq15 hq14 c6 c6a c6b c6c f6c hown15 hgr15 hownB hrd14 hg14 hg14' hqd hat15
     go_wp2
     go_roundw
     case rel =>
      refine ⟨k+1,mp++[m],z,(.slice (some ⟨gg,0,none⟩) (k+1) gc),by omega,by go_num,by simp [Hmp.out],?_,HQE.out,by rw [Ic,Hmp.out];exact HOWE.out,HRE.out,HGE.out,HOE.out,?_⟩
      ·rw [Qi]
       refine Hok.out.append (.cons ?_ .nil)
       show zv (jg t c).key m
       rw [Hkk.out]
       exact Hx1.out
      ·rw [Qi,zU _ _ _ _ (qT Hok.out),Hrk.out,Hx2.out]
       simp only [jn,Hkk.out,List.append_nil,List.append_assoc]
     case measure=>simp [intOf];omega
  ·have hiM:¬ (k:Int) < (CN:Int):=by omega
   have hkM2:k=CN:=by omega
   subst hkM2
   go_wp2_with fail
   refine (ZN p g c 0 key [77] s rk wr Hs.out Hrd.out).mono ?_
   rintro e w13 ⟨hg13,⟨rfl,hno⟩|⟨m,z,hm,rfl,hrd13,hr13⟩⟩
   ·have HN:Hid (∀ (M:List ModF) (q:List UInt8),ModsOk t (jh R G P g c) M→rest≠jn t (jh R G P g c) M++q):=fun M q hM h=>by
     rw [Hrk.out] at h
     obtain ⟨m,z,h1,h2⟩:=HMQ.out M rk q mp Hok.out hM h
     exact hno m z h1 h2
    have HGE:=hid (jf HG.out hg13)
    clear hno hg13
    go_wp2
    exact ⟨rfl,HGE.out,.inl ⟨rfl,HN.out⟩⟩
   have HG13:=hid (jf HG.out hg13)
   have Ho13:=hid (jk hg13 Ho.out (by omega))
   have Hq13:=hid (jk hg13 Hq.out (by omega))
   have Hown13:=hid (qq Hown.out hg13 (ze Hrd.out) (by decide))
   have Hrd13:=hid hrd13
   have HM13:Hid (ModsOk t (jh R G P g c) (mp++[m])∧rest=jn t (jh R G P g c) (mp++[m])++z):=by
    have hm2:ModsOk t [⟨77,g,c,0,g*G,rows⟩] [m]:=.cons (by show zv (jg t c).key m;rw [Hkk.out];exact hm) .nil
    rw [HCE.out]
    refine ⟨Hok.out.append hm2,?_⟩
    rw [zU _ _ _ _ (qT Hok.out),Hrk.out,hr13]
    simp only [jn,Hkk.out,List.append_nil,List.append_assoc]
   clear hg13 hrd13 hr13
   obtain ⟨⟨q0,q1,q2,q3,q4,q5,q6,q7⟩,qf⟩:=QO Hq13.out
   have f2:=qf 2
   have f3:=qf 3
   have f4:=qf 4
   have f5:=qf 5
   have f6:=qf 6
   have f7:=qf 7
   clear qf
   have Hq14:=hid (BH (v2:=strB [77]) (v3:=.int .i64 (g:Int)) (v4:=.int .i64 (c:Int)) (v5:=.int .i64 0) (v6:=strB (jO key m).1) (v7:=strB (jO key m).2) Hq13.out)
   have Hg14:=hid (xS (w.heap.size+1) [strB [77],.int .i64 (g:Int),.int .i64 (c:Int),.int .i64 0,strB (jO key m).1,strB (jO key m).2] w13 2)
   have Ho14:=hid (jk Hg14.out Ho13.out (by omega))
   have HoF:=hid (JO [.int .i64 (rows:Int),.slice va k vc,strB [77],.int .i64 (g:Int),.int .i64 (c:Int),.int .i64 0,strB (jO key m).1,strB (jO key m).2] (by rfl) Ho14.out)
   have HgF:=hid (xS w.heap.size [.int .i64 (rows:Int),.slice va k vc,strB [77],.int .i64 (g:Int),.int .i64 (c:Int),.int .i64 0,strB (jO key m).1,strB (jO key m).2] (w13.setCells (w.heap.size+1) 2 [strB [77],.int .i64 (g:Int),.int .i64 (c:Int),.int .i64 0,strB (jO key m).1,strB (jO key m).2]) 0)
   obtain ⟨⟨o0,o1,o2,o3,o4,o5,o6,o7⟩,of⟩:=QO Ho13.out
   have of0:=of 0
   have of1:=of 1
   have of2:=of 2
   have of3:=of 3
   have of4:=of 4
   have of5:=of 5
   have of6:=of 6
   have of7:=of 7
   clear of
   have HOW14:=hid (qq Hown13.out Hg14.out Hq13.out (by decide))
   have HOWF:=hid (qq HOW14.out HgF.out Ho14.out (by decide))
   have Hrd14:=hid (zH Hrd13.out Hg14.out (by omega))
   have HrdF:=hid (zH Hrd14.out HgF.out (by omega))
   have HG14:=hid (JM HG13.out Hg14.out (by rintro k hk;cases hk;omega))
   have HGF:=hid (JM HG14.out HgF.out (by rintro k hk;cases hk;omega))
   go_wp2
   show bodyPost _ _ _ _ _ ((w13.setCells (w.heap.size+1) 2 [strB [77],.int .i64 (g:Int),.int .i64 (c:Int),.int .i64 0,strB (jO key m).1,strB (jO key m).2]).setCells w.heap.size 0 [.int .i64 (rows:Int),.slice va k vc,strB [77],.int .i64 (g:Int),.int .i64 (c:Int),.int .i64 0,strB (jO key m).1,strB (jO key m).2])
   clear q0 q1 q2 q3 q4 q5 q6 q7 f2 f3 f4 f5 f6 f7 o0 o1 o2 o3 o4 o5 o6 o7 of0 of1 of2 of3 of4 of5 of6 of7
   generalize (w13.setCells _ _ _).setCells _ _ _=WF at *
   obtain ⟨⟨q0,q1,q2,q3,q4,q5,q6,q7⟩,_⟩:=QO HoF.out
   refine bodyPost_ret (v:=chunkV rows g c key (.slice va k vc) m) (by simp [results,Tryz.results142,go_sem,q0,q1,q2,q3,q4,q5,q6,q7]) rfl ⟨HGF.out,.inr ⟨mp,m,.slice va k vc,z,HM13.out.1,?_,?_,?_,HrdF.out,HM13.out.2⟩⟩
   ·rw [Hrr.out,HCNe.out];exact Hmp.out
   ·rw [Hrr.out,Hkk.out]
   ·rw [Hkk.out,Hmp.out];exact HOWF.out
end
section
open Go.RowKit
structure Touch2 (w w':World) (p q:Nat):Prop where
 os:w'.os=w.os
 tape:w'.tape=w.tape
 output:w'.output=w.output
 size:w.heap.size≤w'.heap.size
 block:∀ k,k < w.heap.size→k≠p→k≠q→w'.heap[k]?=w.heap[k]?
theorem Touch2.refl (w:World) (p q:Nat):Touch2 w w p q:=⟨rfl,rfl,rfl,Nat.le_refl _,fun _ _ _ _=>rfl⟩
theorem Touch2.grown {w a b:World} {p q:Nat} {r:Option Nat} (h:Touch2 w a p q) (hg:a.grownBy b r) (hr:∀ k,r=some k→k=p∨k=q∨w.heap.size≤k):Touch2 w b p q:=by
 refine ⟨hg.os.trans h.os,hg.tape.trans h.tape,hg.output.trans h.output,Nat.le_trans h.size hg.size,fun k hk h1 h2=>?_⟩
 rw [hg.block k (Nat.lt_of_lt_of_le hk h.size) ?_]
 ·exact h.block k hk h1 h2
 ·intro e
  have:=hr k e.symm
  omega
theorem Touch2.later {w a b:World} {p q:Nat} (h:Touch2 w a p q) (hb:Below a.heap.size a b):Touch2 w b p q:=h.grown (jG (jU a none) hb) (fun k hk=>by cases hk)
theorem Touch2.below {w a:World} {p q B:Nat} (h:Touch2 w a p q) (hp:B≤p) (hq:B≤q) (hB:B≤w.heap.size):Below B w a:=⟨h.os,h.tape,h.output,h.size,fun k hk=>h.block k (by omega) (by omega) (by omega)⟩
theorem Touch2.keeps {w a:World} {p q k:Nat} {o:Obj} (h:Touch2 w a p q) (hk:w.heap[k]?=some o) (h1:k≠p) (h2:k≠q):a.heap[k]?=some o :=
 (h.block k (Array.getElem?_eq_some_iff.1 hk).1 h1 h2).trans hk
theorem Touch2.owns {w a:World} {p q base e size n:Nat} {v:Value} {xs:List Value} {Cp Cq:Array Value} {tp tq:TypeId} (h:Touch2 w a p q) (ho:w.ownsRow base e size v n xs) (hp:w.heap[p]?=some (.cells Cp tp (0,0))) (hq:w.heap[q]?=some (.cells Cq tq (0,0))) (h1:tp≠e) (h2:tq≠e):a.ownsRow base e size v n xs:=by
 refine ⟨ho.1,?_⟩
 rcases ho.2 with hn|⟨g,cap,cur,rfl,hb',hg',rest⟩
 ·exact .inl hn
 ·refine .inr ⟨g,cap,cur,rfl,hb',h.keeps hg' ?_ ?_,rest⟩
  ·rintro rfl
   rw [hg'] at hp
   cases hp
   exact h1 rfl
  ·rintro rfl
   rw [hg'] at hq
   cases hq
   exact h2 rfl
def Ka (R G:Nat) (key:Int) (c:Nat) (Qm:Nat→Nat→ModF) (Pv:Nat→Nat→Value) (g:Nat):List Value:=[.int .i64 ((jp R G g:Nat):Int),Pv g c,strB [77],.int .i64 (g:Int),.int .i64 (c:Int),.int .i64 0,strB (jO key (Qm g c)).1,strB (jO key (Qm g c)).2]
def xW (R G:Nat) (key:Int) (c:Nat) (Qm:Nat→Nat→ModF) (Pv:Nat→Nat→Value) (k:Nat):List Value:=(List.range k).flatMap (Ka R G key c Qm Pv)
theorem Zk (R G:Nat) (key:Int) (c:Nat) (Qm:Nat→Nat→ModF) (Pv:Nat→Nat→Value) (k:Nat):xW R G key c Qm Pv (k+1)=xW R G key c Qm Pv k++Ka R G key c Qm Pv k:=by
 unfold xW
 rw [List.range_succ,List.flatMap_append]
 simp
theorem KG {R G:Nat} {key:Int} {c:Nat} {Qm Qm':Nat→Nat→ModF} {Pv Pv':Nat→Nat→Value} {k:Nat} (h1:∀ g,g < k→Qm g c=Qm' g c) (h2:∀ g,g < k→Pv g c=Pv' g c):xW R G key c Qm Pv k=xW R G key c Qm' Pv' k:=by
 induction k with
 | zero=>rfl
 | succ k ih =>
  rw [Zk,Zk,ih (fun g hg=>h1 g (by omega)) (fun g hg=>h2 g (by omega))]
  unfold Ka
  rw [h1 k (by omega),h2 k (by omega)]
structure ColIn (t:List ColB) (R G P base:Nat) (w:World) (c k:Nat) (v:Value) (Qp:Nat→Nat→List ModF) (Qm:Nat→Nat→ModF) (Pv:Nat→Nat→Value):Prop where
 row:w.ownsRow base 157 8 v k (xW R G (jg t c).key c Qm Pv k)
 pages:∀ g,g < k→w.ownsRow base 75 6 (Pv g c) (Qp g c).length (xQ (jg t c).key g c (Qp g c))
 ok:∀ g,g < k→ModsOk t (jh R G P g c) (Qp g c++[Qm g c])∧(Qp g c).length=jX (jp R G g) P
theorem ColIn.congr {t:List ColB} {R G P base:Nat} {w:World} {c k:Nat} {v:Value} {Qp Qp':Nat→Nat→List ModF} {Qm Qm':Nat→Nat→ModF} {Pv Pv':Nat→Nat→Value} (h:ColIn t R G P base w c k v Qp Qm Pv) (h1:∀ g,g < k→Qm g c=Qm' g c) (h2:∀ g,g < k→Pv g c=Pv' g c) (h3:∀ g,g < k→Qp g c=Qp' g c):ColIn t R G P base w c k v Qp' Qm' Pv':=by
 refine ⟨?_,fun g hg=>?_,fun g hg=>?_⟩
 ·rw [← KG h1 h2];exact h.row
 ·rw [← h2 g hg,← h3 g hg];exact h.pages g hg
 ·rw [← h1 g hg,← h3 g hg];exact h.ok g hg
theorem ColIn.keep {t:List ColB} {R G P base:Nat} {w w':World} {c k:Nat} {v:Value} {Qp:Nat→Nat→List ModF} {Qm:Nat→Nat→ModF} {Pv:Nat→Nat→Value} (h:ColIn t R G P base w c k v Qp Qm Pv)
  (h1:∀ n xs,w.ownsRow base 157 8 v n xs→w'.ownsRow base 157 8 v n xs) (h2:∀ u n xs,w.ownsRow base 75 6 u n xs→w'.ownsRow base 75 6 u n xs):ColIn t R G P base w' c k v Qp Qm Pv :=
 ⟨h1 _ _ h.row,fun g hg=>h2 _ _ _ (h.pages g hg),h.ok⟩
structure ShAt (t:List ColB) (R G P n Q p Kb:Nat) (H:List Value) (w0 w:World) (g c:Nat) (V:Nat→Value) (Qp:Nat→Nat→List ModF) (Qm:Nat→Nat→ModF) (Pv:Nat→Nat→Value):Prop where
 touch:Touch2 w0 w p Q
 sheet:w.heap[Q]?=some (.cells (H++[Value.slice (some ⟨Kb,0,none⟩) n n]).toArray 82 (0,0))
 new:w0.heap.size≤Kb
 kb:w.heap[Kb]?=some (.cells ((List.range n).map V).toArray 154 (0,0))
 cols:∀ i,i < n→ColIn t R G P w0.heap.size w i (if i < c then g+1 else g) (V i) Qp Qm Pv
 apart:∀ i j,i < n→j < n→i≠j→(V i).ownBlock=none∨(V i).ownBlock≠(V j).ownBlock
def upd {α:Type} (f:Nat→α) (c:Nat) (x:α):Nat→α:=fun i=>if i=c then x else f i
def Xm {α:Type} (f:Nat→Nat→α) (g c:Nat) (x:α):Nat→Nat→α:=fun i j=>if i=g∧j=c then x else f i j
theorem Lq {V:Nat→Value} {n c:Nat} {v:Value} (hc:c < n):((List.range n).map V).set c v=(List.range n).map (upd V c v):=by
 apply List.ext_getElem
 ·simp
 ·intro i h1 h2
  rw [List.getElem_set]
  simp only [List.getElem_map,List.getElem_range,upd]
  by_cases h:c=i
  ·rw [if_pos h,if_pos h.symm]
  ·rw [if_neg h,if_neg (fun e=>h e.symm)]
theorem ShAt.step {t:List ColB} {R G P n Q p Kb:Nat} {H:List Value} {w0 w w1 w2:World} {g c gg gc:Nat} {V:Nat→Value} {Qp:Nat→Nat→List ModF} {Qm:Nat→Nat→ModF} {Pv:Nat→Nat→Value} {s r:List UInt8} {mp:List ModF} {mm:ModF} {pv:Value} {o:Obj}
  (h:ShAt t R G P n Q p Kb H w0 w g c V Qp Qm Pv) (hc:c < n) (hrd:qv w p s r) (hpw:p < w0.heap.size) (hQw:Q < w0.heap.size) (hpQ:p≠Q)
  (hg1:w.grownBy w1 (some p)) (hpv:w1.ownsRow w.heap.size 75 6 pv mp.length (xQ (jg t c).key g c mp)) (hok:ModsOk t (jh R G P g c) (mp++[mm])) (hml:mp.length=jX (jp R G g) P)
  (hown:w2.ownsRow w0.heap.size 157 8 (.slice (some ⟨gg,0,none⟩) (g+1) gc) (g+1) (xW R G (jg t c).key c Qm Pv g++[.int .i64 ((jp R G g:Nat):Int),pv,strB [77],.int .i64 (g:Int),.int .i64 (c:Int),.int .i64 0,strB (jO (jg t c).key mm).1,strB (jO (jg t c).key mm).2]))
  (hg2:(w1.alloc o).grownBy w2 (V c).ownBlock) (hat:(V c).ownBlock=some gg∨gg=(w1.alloc o).heap.size) :
  ShAt t R G P n Q p Kb H w0 (w2.setCell ⟨Kb,c,none⟩ (.slice (some ⟨gg,0,none⟩) (g+1) gc)) g (c+1) (upd V c (.slice (some ⟨gg,0,none⟩) (g+1) gc)) (Xm Qp g c mp) (Xm Qm g c mm) (Xm Pv g c pv):=by
 have hcc:=h.cols c hc
 rw [if_neg (by omega)] at hcc
 have hrowc:=hcc.row
 have hrb:=ze hrd
 have hrow1:=qq hrowc hg1 hrb (by decide)
 have hrowA:=hrow1.alloc o
 -- the block of the row is fresh
 have hfresh:∀ k,(V c).ownBlock=some k→w0.heap.size≤k:=fun k hk=>(hrowc.lt k hk).1
 have hneR:∀ (k:Nat) (C:Array Value) (T:TypeId),(w1.alloc o).heap[k]?=some (.cells C T (0,0))→T≠157→w2.heap[k]?=some (.cells C T (0,0)):=fun k C T hk hT=>jz hg2 hrowA hk hT
 have hs1:=h.touch.size
 have hs2:=hg1.size
 have hKp:Kb≠p:=by have:=h.new;omega
 have hKQ:Kb≠Q:=by have:=h.new;omega
 have hkb1:=jk hg1 h.kb hKp
 have hkb2:=hneR Kb _ _ (jo o hkb1) (by decide)
 have hsh1:=jk hg1 h.sheet (Ne.symm hpQ)
 have hsh2:=hneR Q _ _ (jo o hsh1) (by decide)
 have hset:=qr w2 Kb c (.slice (some ⟨gg,0,none⟩) (g+1) gc)
 have t1:Touch2 w0 w1 p Q:=h.touch.grown hg1 (fun k hk=>by cases hk;exact .inl rfl)
 have tA:Touch2 w0 (w1.alloc o) p Q:=t1.grown (World.grownBy_alloc w1 o none) (fun k hk=>by cases hk)
 have t2:Touch2 w0 w2 p Q:=tA.grown hg2 (fun k hk=>.inr (.inr (hfresh k hk)))
 have t3:=t2.grown hset (fun k hk=>by cases hk;exact .inr (.inr h.new))
 have keepP:∀ u n xs,w.ownsRow w0.heap.size 75 6 u n xs→(w2.setCell ⟨Kb,c,none⟩ (.slice (some ⟨gg,0,none⟩) (g+1) gc)).ownsRow w0.heap.size 75 6 u n xs:=by
  intro u n xs hu
  have a1:=(qq hu hg1 hrb (by decide)).alloc o
  exact qq (a1.kept hg2 (zn a1 hrowA (by decide))) hset hkb2 (by decide)
 refine ⟨t3,jk hset hsh2 hKQ.symm,h.new,?_,?_,?_⟩
 ·rw [heap_setCell_same w2 Kb c _ _ _ hkb2]
  congr 2
  rw [← Lq hc]
  simp
 ·intro i hi
  by_cases hic:i=c
  ·subst hic
   rw [if_pos (by omega)]
   refine ⟨?_,fun g' hg'=>?_,fun g' hg'=>?_⟩
   ·simp only [upd,if_true]
    rw [Zk]
    have e1:xW R G (jg t i).key i (Xm Qm g i mm) (Xm Pv g i pv) g=xW R G (jg t i).key i Qm Pv g:=KG (fun g' hg'=>by simp [Xm];omega) (fun g' hg'=>by simp [Xm];omega)
    rw [e1]
    have e2:Ka R G (jg t i).key i (Xm Qm g i mm) (Xm Pv g i pv) g=[.int .i64 ((jp R G g:Nat):Int),pv,strB [77],.int .i64 (g:Int),.int .i64 (i:Int),.int .i64 0,strB (jO (jg t i).key mm).1,strB (jO (jg t i).key mm).2]:=by simp [Ka,Xm]
    rw [e2]
    exact qq hown hset hkb2 (by decide)
   ·by_cases hgg:g'=g
    ·subst hgg
     simp only [Xm,and_self,if_true]
     have a1:=(jS hpv (show w0.heap.size≤w.heap.size from hs1)).alloc o
     exact qq (a1.kept hg2 (zn a1 hrowA (by decide))) hset hkb2 (by decide)
    ·have h1:=hcc.pages g' (by omega)
     simp only [Xm,hgg,false_and,if_false]
     exact keepP _ _ _ h1
   ·by_cases hgg:g'=g
    ·subst hgg
     simp only [Xm,and_self,if_true]
     exact ⟨hok,hml⟩
    ·simp only [Xm,hgg,false_and,if_false]
     exact hcc.ok g' (by omega)
  ·have hci:=h.cols i hi
   have hk:(if i < c+1 then g+1 else g)=(if i < c then g+1 else g):=by
    by_cases h1:i < c
    ·rw [if_pos h1,if_pos (by omega)]
    ·rw [if_neg h1,if_neg (by omega)]
   rw [hk]
   have hV:upd V c (.slice (some ⟨gg,0,none⟩) (g+1) gc) i=V i:=by simp [upd,hic]
   rw [hV]
   refine (hci.keep (fun n xs hu=>?_) keepP).congr (fun g' _=>by simp [Xm,hic]) (fun g' _=>by simp [Xm,hic]) (fun g' _=>by simp [Xm,hic])
   have a1:=(qq hu hg1 hrb (by decide)).alloc o
   exact qq (a1.kept hg2 (h.apart i c hi hc hic)) hset hkb2 (by decide)
 ·intro i j hi hj hij
  have hlt:∀ i,i < n→∀ k,(V i).ownBlock=some k→k < w.heap.size:=fun i hi k hk=>((h.cols i hi).row.lt k hk).2
  by_cases hic:i=c
  ·subst hic
   have hj':upd V i (.slice (some ⟨gg,0,none⟩) (g+1) gc) j=V j:=by simp [upd,Ne.symm hij]
   have hi':upd V i (.slice (some ⟨gg,0,none⟩) (g+1) gc) i=.slice (some ⟨gg,0,none⟩) (g+1) gc:=by simp [upd]
   rw [hj',hi']
   right
   show some gg≠_
   rcases hat with he|rfl
   ·rw [← he]
    rcases h.apart i j hi hj hij with h1|h1
    ·rw [h1] at he;cases he
    ·exact h1
   ·intro e
    have:=hlt j hj _ e.symm
    simp at this
    omega
  ·have hi':upd V c (.slice (some ⟨gg,0,none⟩) (g+1) gc) i=V i:=by simp [upd,hic]
   rw [hi']
   by_cases hjc:j=c
   ·subst hjc
    have hj':upd V j (.slice (some ⟨gg,0,none⟩) (g+1) gc) j=.slice (some ⟨gg,0,none⟩) (g+1) gc:=by simp [upd]
    rw [hj']
    show _∨_≠some gg
    rcases hat with he|rfl
    ·rw [← he]
     exact h.apart i j hi hj hij
    ·right
     intro e
     have:=hlt i hi _ e
     simp at this
     omega
   ·have hj':upd V c (.slice (some ⟨gg,0,none⟩) (g+1) gc) j=V j:=by simp [upd,hjc]
    rw [hj']
    exact h.apart i j hi hj hij
theorem ShAt.next {t:List ColB} {R G P n Q p Kb:Nat} {H:List Value} {w0 w:World} {g:Nat} {V:Nat→Value} {Qp:Nat→Nat→List ModF} {Qm:Nat→Nat→ModF} {Pv:Nat→Nat→Value} (h:ShAt t R G P n Q p Kb H w0 w g n V Qp Qm Pv):ShAt t R G P n Q p Kb H w0 w (g+1) 0 V Qp Qm Pv :=
 ⟨h.touch,h.sheet,h.new,h.kb,fun i hi=>by have:=h.cols i hi;rw [if_pos hi] at this;rw [if_neg (by omega)];exact this,h.apart⟩
theorem ShAt.later {t:List ColB} {R G P n Q p Kb:Nat} {H:List Value} {w0 w w':World} {g c:Nat} {V:Nat→Value} {Qp:Nat→Nat→List ModF} {Qm:Nat→Nat→ModF} {Pv:Nat→Nat→Value} (h:ShAt t R G P n Q p Kb H w0 w g c V Qp Qm Pv) (hb:Below w.heap.size w w'):ShAt t R G P n Q p Kb H w0 w' g c V Qp Qm Pv :=
 ⟨h.touch.later hb,jd hb h.sheet,h.new,jd hb h.kb,fun i hi=>(h.cols i hi).keep (fun n xs hu=>jN hu hb) (fun u n xs hu=>jN hu hb),h.apart⟩
end
section
theorem Kx {t:List ColB} {L:List SpotB} {M:List ModF} {L2:List SpotB} {rest q:List UInt8} {M':List ModF} (h:ModsOk t L M) (h':ModsOk t (L++L2) M') (e:jn t L M++rest=jn t (L++L2) M'++q) :
  ∃ M2,M'=M++M2∧ModsOk t L2 M2∧rest=jn t L2 M2++q:=by
 induction h generalizing M' with
 | nil=>exact ⟨M',rfl,h',by simpa [jn] using e⟩
 | cons hm _ ih =>
  cases h' with
  | cons hm' h2' =>
   simp only [List.cons_append,jn,List.append_assoc] at e
   obtain ⟨e1,e2⟩:=QC hm hm' e
   obtain ⟨M2,h3,h4,h5⟩:=ih h2' e2
   exact ⟨M2,by rw [e1,h3];rfl,h4,h5⟩
def LS (R G P n k c:Nat):List SpotB:=jH R n G P k++jr R G P k c
def MS (Qp:Nat→Nat→List ModF) (Qm:Nat→Nat→ModF) (n k c:Nat):List ModF:=xk (fun g c=>Qp g c++[Qm g c]) n k++xu (fun g c=>Qp g c++[Qm g c]) k c
theorem NO {R G P n k c:Nat} (hk:k < jX R G) (hc:c < n):∃ L3,qk R n G P=LS R G P n k c++(jh R G P k c++L3):=by
 obtain ⟨d,hd⟩:∃ d,jX R G=k+1+d:=⟨jX R G - (k+1),by omega⟩
 obtain ⟨f,hf⟩:∃ f,n=c+1+f:=⟨n - (c+1),by omega⟩
 have h1:qk R n G P=jH R n G P (k+1)++((List.range d).map (k+1+·)).flatMap (fun g=>jr R G P g n):=by
  unfold qk
  rw [hd]
  unfold jH
  rw [List.range_add,List.flatMap_append]
 have h2:jr R G P k n=jr R G P k (c+1)++((List.range f).map (c+1+·)).flatMap (fun c=>jh R G P k c):=by
  rw [hf]
  unfold jr
  rw [List.range_add,List.flatMap_append]
 rw [h1,zJ,h2,zM]
 unfold LS
 simp only [List.append_assoc]
 exact ⟨_,rfl⟩
theorem Cu (R G P n k c:Nat):LS R G P n k (c+1)=LS R G P n k c++jh R G P k c:=by
 unfold LS;rw [zM,List.append_assoc]
theorem Ei (R G P n k:Nat):LS R G P n k n=LS R G P n (k+1) 0:=by
 unfold LS;rw [zJ];simp [jr]
theorem Cw (Qp:Nat→Nat→List ModF) (Qm:Nat→Nat→ModF) (n k:Nat):MS Qp Qm n k n=MS Qp Qm n (k+1) 0:=by
 unfold MS;rw [Qk];simp [xu]
theorem Cf (R G P n:Nat):LS R G P n 0 0=[]:=by simp [LS,jH,jr]
theorem Ce (Qp:Nat→Nat→List ModF) (Qm:Nat→Nat→ModF) (n:Nat):MS Qp Qm n 0 0=[]:=by simp [MS,xk,xu]
theorem Bz (R G P n:Nat):LS R G P n (jX R G) 0=qk R n G P:=by simp [LS,qk,jr]
theorem Bm (Qp:Nat→Nat→List ModF) (Qm:Nat→Nat→ModF) (n k:Nat):MS Qp Qm n k 0=xk (fun g c=>Qp g c++[Qm g c]) n k:=by simp [MS,xu]
theorem KF {Q Q':Nat→Nat→List ModF} {g:Nat}:∀ {c:Nat},(∀ i,i < c→Q g i=Q' g i)→xu Q g c=xu Q' g c:=by
 intro c
 induction c with
 | zero=>intro _;rfl
 | succ c ih=>intro h;rw [zR,zR,ih (fun i hi=>h i (by omega)),h c (by omega)]
theorem Ep {Q Q':Nat→Nat→List ModF} {n:Nat}:∀ {k:Nat},(∀ g,g < k→∀ i,i < n→Q g i=Q' g i)→xk Q n k=xk Q' n k:=by
 intro k
 induction k with
 | zero=>intro _;rfl
 | succ k ih=>intro h;rw [Qk,Qk,ih (fun g hg=>h g (by omega)),KF (h k (by omega))]
theorem PX {Qp:Nat→Nat→List ModF} {Qm:Nat→Nat→ModF} {n k c:Nat} {mp:List ModF} {mm:ModF}:MS (Xm Qp k c mp) (Xm Qm k c mm) n k (c+1)=MS Qp Qm n k c++(mp++[mm]):=by
 unfold MS
 rw [zR,← List.append_assoc]
 have e1:xk (fun g c'=>Xm Qp k c mp g c'++[Xm Qm k c mm g c']) n k=xk (fun g c=>Qp g c++[Qm g c]) n k:=Ep (fun g hg i _=>by
  have:¬ (g=k∧i=c):=by omega
  simp only [Xm,if_neg this])
 have e2:xu (fun g c'=>Xm Qp k c mp g c'++[Xm Qm k c mm g c']) k c=xu (fun g c=>Qp g c++[Qm g c]) k c:=KF (fun i hi=>by
  have:i≠c:=by omega
  simp [Xm,this])
 rw [e1,e2]
 simp [Xm]
theorem LW {t:List ColB} {R G P n k c:Nat} {Qp:Nat→Nat→List ModF} {Qm:Nat→Nat→ModF} (hc:c≤n) (h:∀ i,i < n→∀ g,g < (if i < c then k+1 else k)→ModsOk t (jh R G P g i) (Qp g i++[Qm g i])):ModsOk t (LS R G P n k c) (MS Qp Qm n k c):=by
 refine (VW (fun g hg i hi=>h i hi g ?_)).append (XE (fun i hi=>h i (by omega) k ?_))
 ·split<;>omega
 ·rw [if_pos hi];omega
theorem LE (R G P n k c:Nat):xP true (LS R G P n k c)=true:=by
 unfold LS;rw [Jj,Zp,Qz]
theorem Ts {t:List ColB} {R G P n k c:Nat} {M:List ModF} (h:ModsOk t (LS R G P n k c) M):(jL t 4 true (LS R G P n k c) M).length=k*n+c:=by
 rw [KP ⟨[],⟨0,0,0,false⟩,[],0⟩ [] _ _ _ _ ⟨[],[]⟩ (qT h)]
 unfold LS
 rw [zS,List.length_append,JT,Zp,QW]
theorem Nv {t:List ColB} {R G P n k c:Nat} {M M2:List ModF} (h:ModsOk t (LS R G P n k c) M) (h2:M2.length=(jh R G P k c).length) :
  jL t 4 true (LS R G P n k c++jh R G P k c) (M++M2)=jL t 4 true (LS R G P n k c) M++[4+(jn t (LS R G P n k c) M).length]:=by
 rw [Qy _ _ _ _ _ _ (qT h),LE,VV h2]
theorem Se {t:List ColB} {R G P n k c:Nat} {M:List ModF} {rk:List UInt8} (hk:k < jX R G) (hc:c < n) (h:ModsOk t (LS R G P n k c) M) (hno:∀ M q,ModsOk t (jh R G P k c) M→rk≠jn t (jh R G P k c) M++q) :
  ∀ M' q,ModsOk t (qk R n G P) M'→jn t (LS R G P n k c) M++rk≠jn t (qk R n G P) M'++q:=by
 intro M' q hM' e
 obtain ⟨L3,hL3⟩:=NO (R:=R) (P:=P) hk hc
 rw [hL3] at hM' e
 obtain ⟨M2,rfl,h2,h3⟩:=Kx h hM' e
 obtain ⟨M3,M4,rfl,h4,h5⟩:=RI h2
 rw [zU _ _ _ _ (qT h4),List.append_assoc] at h3
 exact hno M3 _ h4 h3
theorem Sm {t:List ColB} {R G P n k c:Nat} {M:List ModF} {rk:List UInt8} {pl:List Nat} (hk:k < jX R G) (hc:c < n) (h:ModsOk t (LS R G P n k c) M) (hi:k*n+c < pl.length) (hne:pl[k*n+c]≠4+(jn t (LS R G P n k c) M).length) :
  ∀ M' q,ModsOk t (qk R n G P) M'→jn t (LS R G P n k c) M++rk=jn t (qk R n G P) M'++q→pl≠jL t 4 true (qk R n G P) M':=by
 intro M' q hM' e hpl
 obtain ⟨L3,hL3⟩:=NO (R:=R) (P:=P) hk hc
 rw [hL3] at hM' e hpl
 obtain ⟨M2,rfl,h2,h3⟩:=Kx h hM' e
 obtain ⟨M3,M4,rfl,h4,h5⟩:=RI h2
 rw [← List.append_assoc,← List.append_assoc,Qy _ _ _ _ _ _ (qT (h.append h4)),Nv h (qT h4),List.append_assoc] at hpl
 apply hne
 have hl:=Ts h
 subst hpl
 rw [List.getElem_append_right (by omega)]
 simp [hl]
end
end Go.Proofs.YthhpbhpfagoapabGreat
