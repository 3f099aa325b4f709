import Derived.Test.YthhpbhpfagoapaaGreatTk
import Derived.Test.YthhpbhpfagoapaaGreatJAX
import Derived.Test.YthhpbhpfagoapaaGreatXRFoot
import Derived.Test.YthhpbhpfagoapaaGreatJAP
namespace Go.Proofs.YthhpbhpfagoapaaGreat
set_option linter.unusedVariables false
set_option linter.unusedSimpArgs false
set_option maxRecDepth 100000
set_option maxHeartbeats 16000000
open Go.RowKit
def AE (key:Int) (g c i:Nat) (m:ModF):List Value:=[strB [80],.int .i64 (g:Int),.int .i64 (c:Int),.int .i64 (i:Int),strB (jM key m).1,strB (jM key m).2]
def Jq (key:Int) (g c:Nat) (mp:List ModF):List Value:=(mp.mapIdx (AE key g c)).flatten
abbrev chunkV (rows g c:Nat) (key:Int) (pv:Value) (m:ModF):Value:=.agg #[.int .i64 (rows:Int),pv,strB [77],.int .i64 (g:Int),.int .i64 (c:Int),.int .i64 0,strB (jM key m).1,strB (jM key m).2]
theorem Yz (key:Int) (g c:Nat) (mp:List ModF) (m:ModF):Jq key g c (mp++[m])=Jq key g c mp++[strB [80],.int .i64 (g:Int),.int .i64 (c:Int),.int .i64 (mp.length:Int),strB (jM key m).1,strB (jM key m).2]:=by
 unfold Jq
 rw [List.mapIdx_append]
 simp [AE]
theorem Tryz.infoPiece:(Tryz.prog.info? 113).map (fun i=>(i.zero,i.size,i.bytes))=some (some (.agg #[.string ⟨#[]⟩,.int .i64 0,.int .i64 0,.int .i64 0,.string ⟨#[]⟩,.string ⟨#[]⟩]),6,72):=by kernel_rfl
theorem RD {t:List ColB} {L:List SpotB} {sp:SpotB} {L2:List SpotB} {mp M:List ModF} {rr q:List UInt8} (hmp:ModsOk t L mp) (hM:ModsOk t (L++(sp :: L2)) M) (h:jl t L mp++rr=jl t (L++(sp :: L2)) M++q):∃ m z,xW (jk t sp.c).key m∧rr=qB (jk t sp.c).key m++z:=by
 obtain ⟨M1,M2,rfl,h1,h2⟩:=Nf hM
 rw [zO _ _ _ _ (qR h1),List.append_assoc] at h
 have hl:=qR hmp
 obtain ⟨M2',hM2',_⟩:∃ z,z=M2∧True:=⟨_,rfl,trivial⟩
 have key:∀ {L:List SpotB} {a b:List ModF} {x y:List UInt8},ModsOk t L a→ModsOk t L b→jl t L a++x=jl t L b++y→x=y:=by
  intro L a b x y ha
  induction ha generalizing b with
  | nil=>intro hb e;cases hb;simpa [jl] using e
  | cons hm _ ih =>
   intro hb e
   cases hb with
   | cons hm' hb' =>
    simp only [jl,List.append_assoc] at e
    exact ih hb' (Qu hm hm' e).2
 have hr:=key hmp h1 h
 cases h2 with
 | cons hm _ =>
  rw [hr]
  simp only [jl,List.append_assoc]
  exact ⟨_,_,hm,rfl⟩
theorem Pr {R G P g c k:Nat} (hk:k < jW (jv R G g) P):∃ L2,jh R G P g c=jo P g c (g*G) (jv R G g) k++(⟨80,g,c,k,g*G+k*P,jv (jv R G g) P k⟩ :: L2):=by
 unfold jh
 obtain ⟨d,hd⟩:∃ d,jW (jv R G g) P=k+1+d:=⟨jW (jv R G g) P - (k+1),by omega⟩
 have:jo P g c (g*G) (jv R G g) (jW (jv R G g) P)=jo P g c (g*G) (jv R G g) (k+1)++((List.range d).map (k+1+·)).map (fun p=>(⟨80,g,c,p,g*G+p*P,jv (jv R G g) P p⟩:SpotB)):=by
  rw [hd]
  unfold jo
  rw [List.range_add,List.map_append]
 rw [this,QO,List.append_assoc,List.append_assoc]
 exact ⟨_,rfl⟩
def AS (t:List ColB) (R G P g c:Nat) (p:Nat) (s rest:List UInt8) (w:World) (e:Ending) (w':World):Prop :=
 w.grownBy w' (some p)∧((e=gaveUp∧∀ (M:List ModF) (q:List UInt8),ModsOk t (jh R G P g c) M→rest≠jl t (jh R G P g c) M++q) ∨
  ∃ (mp:List ModF) (mm:ModF) (pv:Value) (r:List UInt8),ModsOk t (jh R G P g c) (mp++[mm])∧mp.length=jW (jv R G g) P∧e=.returned (chunkV (jv R G g) g c (jk t c).key pv mm)∧w'.ownsRow w.heap.size 113 6 pv mp.length (Jq (jk t c).key g c mp)∧qp w' p s r∧rest=jl t (jh R G P g c) (mp++[mm])++r)
theorem PE {key:Int} {val:ModF→Value} {p:Nat} {s rest q:List UInt8} {w:World} {e:Ending} {w':World} {m:ModF} (h:Ul (xW key) (qB key) val p s rest w e w') (hm:xW key m) (hr:rest=qB key m++q):e=.returned (val m)∧qp w' p s q∧w.grownBy w' (some p):=by
 obtain ⟨hg,⟨_,hno⟩|⟨m',r,hm',rfl,hrd,hr'⟩⟩:=h
 ·exact absurd hr (hno m q hm)
 ·rw [hr'] at hr
  obtain ⟨h1,h2⟩:=Qu hm' hm hr
  subst h1 h2
  exact ⟨rfl,hrd,hg⟩
theorem PX {key:Int} {val:ModF→Value} {p:Nat} {s rest:List UInt8} {w:World} {e:Ending} {w':World} (h:Ul (xW key) (qB key) val p s rest w e w') (hn:∀ m q,xW key m→rest≠qB key m++q):e=gaveUp∧w.grownBy w' (some p):=by
 obtain ⟨hg,⟨he,_⟩|⟨m',r,hm',rfl,hrd,hr'⟩⟩:=h
 ·exact ⟨he,hg⟩
 ·exact absurd hr' (hn m' r hm')
theorem QA {w:World} {q:Nat} {c0 c1 c2 c3 c4 c5 c6 c7:Value} {t:TypeId} (h:w.heap[q]?=some (.cells #[c0,c1,c2,c3,c4,c5,c6,c7] t (0,0))) :
  (w.cell? ⟨q,0,none⟩=some c0∧w.cell? ⟨q,1,none⟩=some c1∧w.cell? ⟨q,2,none⟩=some c2∧w.cell? ⟨q,3,none⟩=some c3∧w.cell? ⟨q,4,none⟩=some c4∧w.cell? ⟨q,5,none⟩=some c5∧w.cell? ⟨q,6,none⟩=some c6∧w.cell? ⟨q,7,none⟩=some c7)∧(∀ j,w.frozen? ⟨q,j,none⟩=false) :=
 ⟨⟨by rw [jd h];rfl,by rw [jd h];rfl,by rw [jd h];rfl,by rw [jd h];rfl,by rw [jd h];rfl,by rw [jd h];rfl,by rw [jd h];rfl,by rw [jd h];rfl⟩,fun j=>frozen_of_row w q j _ t h⟩
theorem Lg {w:World} {q:Nat} {c0 c1 c2 c3 c4 c5 c6 c7 v:Value} {t:TypeId} (h:w.heap[q]?=some (.cells #[c0,c1,c2,c3,c4,c5,c6,c7] t (0,0))):(w.setCell ⟨q,1,none⟩ v).heap[q]?=some (.cells #[c0,v,c2,c3,c4,c5,c6,c7] t (0,0)):=by
 rw [heap_setCell_same w q 1 _ t v h];rfl
theorem SO {w:World} {q:Nat} {c0 c1 c2 c3 c4 c5 c6 c7 v2 v3 v4 v5 v6 v7:Value} {t:TypeId} (h:w.heap[q]?=some (.cells #[c0,c1,c2,c3,c4,c5,c6,c7] t (0,0))):(w.setCells q 2 [v2,v3,v4,v5,v6,v7]).heap[q]?=some (.cells #[c0,c1,v2,v3,v4,v5,v6,v7] t (0,0)) :=
 Zb (w:=w) [v2,v3,v4,v5,v6,v7] [c0,c1] [] [c2,c3,c4,c5,c6,c7] rfl h
theorem Rm (t:List ColB) (R G P g c:Nat) (Q p cb n cc:Nat) (s rest:List UInt8) (w:World) (hs:s.length≤maxLen) (hp:qp w p s rest) (hR:jv R G g≤60) (hP1:1≤P) (hP:P≤60) (hcn:c < n) (hn:n≤6)
  (hc15:w.cell? ⟨Q,15,none⟩=some (.slice (some ⟨cb,0,none⟩) n cc)) (hkey:w.cell? ⟨cb,c*4+2,none⟩=some (.int .i64 (jk t c).key)) (hc12:w.cell? ⟨Q,12,none⟩=some (.int .i64 (P:Int))) :
  Calls Tryz.prog 271 #[.pointer (some ⟨Q,0,none⟩),.pointer (some ⟨p,0,none⟩),.int .i64 (g:Int),.int .i64 (c:Int),.int .i64 ((jv R G g:Nat):Int)] w (AS t R G P g c p s rest w):=by
 obtain ⟨i0,hi,hz0,hz1,hz2⟩:=info_parts Tryz.infoPiece
 have Hs:=hid hs
 have Hp:=hid hp
 have hplt:=xh hp
 have HCS:Hid (∀ k,k < jW (jv R G g) P→∃ L2,jh R G P g c=jo P g c (g*G) (jv R G g) k++(⟨80,g,c,k,g*G+k*P,jv (jv R G g) P k⟩ :: L2)):=fun k hk=>Pr hk
 have HCE:Hid (jh R G P g c=jo P g c (g*G) (jv R G g) (jW (jv R G g) P)++[⟨77,g,c,0,g*G,jv R G g⟩]):=rfl
 have hci:(c:Int) < (n:Int):=by omega
 clear hs hp
 have HCN:Hid (jW (jv R G g) P≤jv R G g):=Xg hP1
 generalize hkk:(jk t c).key=key at *
 have Hkk:=hid hkk
 have HMP:Hid (∀ (M:List ModF) (rr q:List UInt8) (k:Nat) (mp:List ModF),k < jW (jv R G g) P→ModsOk t (jo P g c (g*G) (jv R G g) k) mp→ModsOk t (jh R G P g c) M→jl t (jo P g c (g*G) (jv R G g) k) mp++rr=jl t (jh R G P g c) M++q→∃ m z,xW key m∧rr=qB key m++z):=by
  intro M rr q k mp hk hmp hM h
  obtain ⟨L2,hL2⟩:=HCS.out k hk
  rw [hL2] at hM h
  obtain ⟨m,z,h1,h2⟩:=RD hmp hM h
  rw [← hkk]
  exact ⟨m,z,h1,h2⟩
 have HMQ:Hid (∀ (M:List ModF) (rr q:List UInt8) (mp:List ModF),ModsOk t (jo P g c (g*G) (jv R G g) (jW (jv R G g) P)) mp→ModsOk t (jh R G P g c) M→jl t (jo P g c (g*G) (jv R G g) (jW (jv R G g) P)) mp++rr=jl t (jh R G P g c) M++q→∃ m z,xW key m∧rr=qB key m++z):=by
  intro M rr q mp hmp hM h
  rw [HCE.out] at hM h
  obtain ⟨m,z,h1,h2⟩:=RD hmp hM h
  rw [← hkk]
  exact ⟨m,z,h1,h2⟩
 clear hkk HCS
 generalize hrr:jv R G g=rows at *
 have Hrr:=hid hrr
 clear hrr
 generalize hCN:jW rows P=CN at *
 have HCNe:=hid hCN
 have hCN60:CN≤60:=by have:=HCN.out;omega
 have HCT:=hid (fun w':World=>GF rows P w' (by omega) hP1 (by omega))
 rw [hCN] at HCT
 clear hCN
 have a15:=jc (.cells #[.int .i64 0,.slice none 0 0,Value.string { data:=#[] },.int .i64 0,.int .i64 0,.int .i64 0,Value.string { data:=#[] },Value.string { data:=#[] }] 261) hc15
 have ak:=jc (.cells #[.int .i64 0,.slice none 0 0,Value.string { data:=#[] },.int .i64 0,.int .i64 0,.int .i64 0,Value.string { data:=#[] },Value.string { data:=#[] }] 261) hkey
 have a12:=jc (.cells #[.int .i64 (rows:Int),.slice none 0 0,Value.string { data:=#[] },.int .i64 0,.int .i64 0,.int .i64 0,Value.string { data:=#[] },Value.string { data:=#[] }] 261) (jc (.cells #[.int .i64 0,.slice none 0 0,Value.string { data:=#[] },.int .i64 0,.int .i64 0,.int .i64 0,Value.string { data:=#[] },Value.string { data:=#[] }] 261) hc12)
 obtain ⟨hb0,hl0,ho0,hq0⟩:=JQ w #[.int .i64 0,.slice none 0 0,Value.string { data:=#[] },.int .i64 0,.int .i64 0,.int .i64 0,Value.string { data:=#[] },Value.string { data:=#[] }] 261 #[.int .i64 (rows:Int),.slice none 0 0,Value.string { data:=#[] },.int .i64 0,.int .i64 0,.int .i64 0,Value.string { data:=#[] },Value.string { data:=#[] }] 261
 go_enter Tryz.func271,Tryz.ntmps271
 go_wp2_with fail
 clear a15 ak a12 hc15 hkey hc12
 generalize (w.alloc _).alloc _=W0 at *
 have HB0:=hid hb0
 have Ho0:=hid ho0
 have Hq0:=hid hq0
 clear hb0 ho0 hq0
 refine (HCT.out _).mono ?_
 rintro e w1 ⟨sv,rfl,hsp,hb1⟩
 obtain ⟨sa,sc,rfl⟩:=jr hsp
 have HB1:=hid (HB0.out.trans (hb1.mono HB0.out.size))
 have Ho1:=hid (jb hb1 Ho0.out)
 have Hq1:=hid (jb hb1 Hq0.out)
 have hl1:=hb1.size
 clear hb1 hsp
 have Hp1:=hid (qA Hp.out HB1.out hplt)
 go_wp2
 go_loopw [34] (fun i wr=>∃ (k:Nat) (mp:List ModF) (rk:List UInt8) (v:Value),k≤CN∧i=.int .i64 (k:Int)∧mp.length=k∧ModsOk t (jo P g c (g*G) rows k) mp∧wr.heap[w.heap.size+1]?=some (.cells #[.int .i64 (rows:Int),v,Value.string { data:=#[] },.int .i64 0,.int .i64 0,.int .i64 0,Value.string { data:=#[] },Value.string { data:=#[] }] 261 (0,0))∧wr.ownsRow w.heap.size 113 6 v k (Jq key g c mp)∧qp wr p s rk∧w.grownBy wr (some p)∧wr.heap[w.heap.size]?=some (.cells #[.int .i64 0,.slice none 0 0,Value.string { data:=#[] },.int .i64 0,.int .i64 0,.int .i64 0,Value.string { data:=#[] },Value.string { data:=#[] }] 261 (0,0))∧rest=jl t (jo P g c (g*G) rows k) mp++rk) (fun i _=>CN - (intOf i).toNat)
 case atStart=>exact ⟨0,[],rest,.slice none 0 0,Nat.zero_le _,rfl,rfl,.nil,Hq1.out,World.ownsRow_nil _ _ _ _,Hp1.out,jz (jL w _) HB1.out,Ho1.out,rfl⟩
 case round =>
  obtain ⟨k,mp,rk,v,hkC,rfl,hmp,hok,hq,hown,hrd,hg,ho,hrk⟩:=hrel
  have Hmp:=hid hmp
  have Hok:=hid hok
  have Hq:=hid hq
  have HG:=hid hg
  have Ho:=hid ho
  have Hrk:=hid hrk
  have Hrd:=hid hrd
  have Hown:=hid hown
  have hwz:=hg.size
  have hqlt:=(Array.getElem?_eq_some_iff.1 hq).1
  clear hmp hok hq hg ho hrk hrd
  obtain ⟨va,vc,rfl⟩:=jr hown
  clear hown
  by_cases hlt:k < CN
  ·have hiM:(k:Int) < (CN:Int):=by omega
   by_cases hx:¬ ∃ (m:ModF) (z:List UInt8),xW key m∧rk=qB key m++z
   ·have HN:Hid (∀ (M:List ModF) (q:List UInt8),ModsOk t (jh R G P g c) M→rest≠jl t (jh R G P g c) M++q):=fun M q hM h=>by
     rw [Hrk.out] at h
     exact hx (HMP.out M rk q k mp hlt Hok.out hM h)
    have HNX:Hid (∀ m z,xW key m→rk≠qB key m++z):=fun m z h1 h2=>hx ⟨m,z,h1,h2⟩
    clear hx
    go_wp2_with fail
    have HC1:Hid (wr.cell? ⟨w.heap.size+1,1,none⟩=some (.slice va k vc)):=(QA Hq.out).1.2.1
    refine wp_region_held_drew (S:=fun w'=>w'.cell? ⟨w.heap.size+1,1,none⟩=some (.slice va k vc)) (by kernel_rfl) ?_ (fun hHeld=>?_)
    ·exact HC1.out
    refine tk 0 (.pointer (some ⟨w.heap.size+1,1,none⟩)) ?_
    refine tk 1 (.slice va k vc) ?_
    refine tk 2 (.pointer (some ⟨p,0,none⟩)) ?_
    refine tk 3 (.int .i64 key) ?_
    refine tk 4 (.int .i64 (g:Int)) ?_
    refine tk 5 (.int .i64 (c:Int)) ?_
    refine tk 6 (.int .i64 (k:Int)) ?_
    refine tk 7 (moduleV [80] g c k) ?_
    simp only [ga,gb,gc,Act.put,gd,ge,gf]
    refine rd 8 (fun K hK=>?_)
    simp only [ga,gb,gc]
    go_simp
    go_at_call 274
    refine (Ze p g c k key [80] s rk _ Hs.out (show qp wr.drew p s rk from Hrd.out)).mono ?_
    intro e w13 h13
    obtain ⟨rfl,hg13⟩:=PX h13 HNX.out
    exact ⟨rfl,ja HG.out (jx hg13),.inl ⟨rfl,HN.out⟩⟩
   ·obtain ⟨m,z,hx1,hx2⟩:=Classical.not_not.1 hx
    have Hx1:=hid hx1
    have Hx2:=hid hx2
    clear hx hx1 hx2
    go_wp2_with fail
    have hqd:wr.drew.heap[w.heap.size+1]?=some (.cells #[.int .i64 (rows:Int),.slice va k vc,Value.string { data:=#[] },.int .i64 0,.int .i64 0,.int .i64 0,Value.string { data:=#[] },Value.string { data:=#[] }] 261 (0,0)):=Hq.out
    have c6:=(QA hqd).1.2.1
    go_region_law (first
     | (refine step_append_lies _ (by rfl) _ _ _ (by rfl) w.heap.size 113 i0 _ 6 72 Tryz.underlying259 hi hz0 hz1 hz2 rfl (by omega) _ k (Jq key g c mp) (by rfl) (hownB.alloc _) ⟨w14.heap.size,0,none⟩ 1 1 [strB [80],.int .i64 (g:Int),.int .i64 (c:Int),.int .i64 (k:Int),strB (jM key m).1,strB (jM key m).2] (by rfl) (by rfl) (World.news_of_block (cs:=#[strB [80],.int .i64 (g:Int),.int .i64 (c:Int),.int .i64 (k:Int),strB (jM key m).1,strB (jM key m).2]) (t:=113) (fr:=(0,0)) (heap_alloc_new w14 _)) (by simp [Value.oneCell']) (by omega) (by unfold maxLen;omega) (by omega) (by simp;omega) _ rfl ?_;intro gg gc w15 hown15 hgr15 hat15 hlt15;have hq15:=jq hgr15 (hownB.alloc _) (jt _ hq14) (by decide);have c6c:=(QA hq15).1.2.1;have f6c:=(QA hq15).2 1)
     | (go_simp;go_at_call 274;refine (Ze p g c k key [80] s rk _ Hs.out (show qp wr.drew p s rk from Hrd.out)).mono ?_;intro e w14 h14;obtain ⟨rfl,hrd14,hg14⟩:=PE h14 Hx1.out Hx2.out;have hg14':=jx hg14;have hq14:=jf hg14' Hq.out (by omega);have c6a:=(QA hq14).1.2.1;have c6b:=(QA (jt (.cells #[strB [80],.int .i64 (g:Int),.int .i64 (c:Int),.int .i64 (k:Int),strB (jM key m).1,strB (jM key m).2] 113) hq14)).1.2.1;have hownB:=qk Hown.out hg14' (xQ Hrd.out) (by decide);have hl14:=hg14'.size;clear h14))
    all_goals
     have HOWE:=hid (qk hown15 (qn w15 (w.heap.size+1) 1 (.slice (some ⟨gg,0,none⟩) (k+1) gc)) hq15 (by decide))
     have ho14:=jf hg14' Ho.out (by omega)
     have ho15:=jq hgr15 (hownB.alloc _) (jt _ ho14) (by decide)
     have HOE:=hid (jf (qn w15 (w.heap.size+1) 1 (.slice (some ⟨gg,0,none⟩) (k+1) gc)) ho15 (by omega))
     have hr15:=jq hgr15 (hownB.alloc _) (jt _ (xQ hrd14)) (by decide)
     have HRE:=hid (zD (XV hrd14 hr15) (qn w15 (w.heap.size+1) 1 (.slice (some ⟨gg,0,none⟩) (k+1) gc)) (by omega))
     have hG15:=zo (xT (ja HG.out hg14') (.cells #[strB [80],.int .i64 (g:Int),.int .i64 (c:Int),.int .i64 (k:Int),strB (jM key m).1,strB (jM key m).2] 113)) hgr15 (fun k hk=>(hownB.lt k hk).1)
     have HGE:=hid (zo hG15 (qn w15 (w.heap.size+1) 1 (.slice (some ⟨gg,0,none⟩) (k+1) gc)) (by rintro k hk;cases hk;omega))
     have HQE:=hid (Lg (v:=(.slice (some ⟨gg,0,none⟩) (k+1) gc)) hq15)
     clear ho14 ho15 hr15 hG15 hq15 hq14 c6 c6a c6b c6c f6c hown15 hgr15 hownB hrd14 hg14 hg14' hqd hat15
     go_wp2
     go_roundw
     case rel =>
      refine ⟨k+1,mp++[m],z,(.slice (some ⟨gg,0,none⟩) (k+1) gc),by omega,by go_num,by simp [Hmp.out],?_,HQE.out,by rw [Yz,Hmp.out];exact HOWE.out,HRE.out,HGE.out,HOE.out,?_⟩
      ·rw [QO]
       refine Hok.out.append (.cons ?_ .nil)
       show xW (jk t c).key m
       rw [Hkk.out]
       exact Hx1.out
      ·rw [QO,zO _ _ _ _ (qR Hok.out),Hrk.out,Hx2.out]
       simp only [jl,Hkk.out,List.append_nil,List.append_assoc]
     case measure=>simp [intOf];omega
  ·have hiM:¬ (k:Int) < (CN:Int):=by omega
   have hkM2:k=CN:=by omega
   subst hkM2
   go_wp2_with fail
   refine (Ze p g c 0 key [77] s rk wr Hs.out Hrd.out).mono ?_
   rintro e w13 ⟨hg13,⟨rfl,hno⟩|⟨m,z,hm,rfl,hrd13,hr13⟩⟩
   ·have HN:Hid (∀ (M:List ModF) (q:List UInt8),ModsOk t (jh R G P g c) M→rest≠jl t (jh R G P g c) M++q):=fun M q hM h=>by
     rw [Hrk.out] at h
     obtain ⟨m,z,h1,h2⟩:=HMQ.out M rk q mp Hok.out hM h
     exact hno m z h1 h2
    have HGE:=hid (ja HG.out hg13)
    clear hno hg13
    go_wp2
    exact ⟨rfl,HGE.out,.inl ⟨rfl,HN.out⟩⟩
   have HG13:=hid (ja HG.out hg13)
   have Ho13:=hid (jf hg13 Ho.out (by omega))
   have Hq13:=hid (jf hg13 Hq.out (by omega))
   have Hown13:=hid (qk Hown.out hg13 (xQ Hrd.out) (by decide))
   have Hrd13:=hid hrd13
   have HM13:Hid (ModsOk t (jh R G P g c) (mp++[m])∧rest=jl t (jh R G P g c) (mp++[m])++z):=by
    have hm2:ModsOk t [⟨77,g,c,0,g*G,rows⟩] [m]:=.cons (by show xW (jk t c).key m;rw [Hkk.out];exact hm) .nil
    rw [HCE.out]
    refine ⟨Hok.out.append hm2,?_⟩
    rw [zO _ _ _ _ (qR Hok.out),Hrk.out,hr13]
    simp only [jl,Hkk.out,List.append_nil,List.append_assoc]
   clear hg13 hrd13 hr13
   obtain ⟨⟨q0,q1,q2,q3,q4,q5,q6,q7⟩,qf⟩:=QA Hq13.out
   have f2:=qf 2
   have f3:=qf 3
   have f4:=qf 4
   have f5:=qf 5
   have f6:=qf 6
   have f7:=qf 7
   clear qf
   have Hq14:=hid (SO (v2:=strB [77]) (v3:=.int .i64 (g:Int)) (v4:=.int .i64 (c:Int)) (v5:=.int .i64 0) (v6:=strB (jM key m).1) (v7:=strB (jM key m).2) Hq13.out)
   have Hg14:=hid (xy (w.heap.size+1) [strB [77],.int .i64 (g:Int),.int .i64 (c:Int),.int .i64 0,strB (jM key m).1,strB (jM key m).2] w13 2)
   have Ho14:=hid (jf Hg14.out Ho13.out (by omega))
   have HoF:=hid (JE [.int .i64 (rows:Int),.slice va k vc,strB [77],.int .i64 (g:Int),.int .i64 (c:Int),.int .i64 0,strB (jM key m).1,strB (jM key m).2] (by rfl) Ho14.out)
   have HgF:=hid (xy w.heap.size [.int .i64 (rows:Int),.slice va k vc,strB [77],.int .i64 (g:Int),.int .i64 (c:Int),.int .i64 0,strB (jM key m).1,strB (jM key m).2] (w13.setCells (w.heap.size+1) 2 [strB [77],.int .i64 (g:Int),.int .i64 (c:Int),.int .i64 0,strB (jM key m).1,strB (jM key m).2]) 0)
   obtain ⟨⟨o0,o1,o2,o3,o4,o5,o6,o7⟩,of⟩:=QA Ho13.out
   have of0:=of 0
   have of1:=of 1
   have of2:=of 2
   have of3:=of 3
   have of4:=of 4
   have of5:=of 5
   have of6:=of 6
   have of7:=of 7
   clear of
   have HOW14:=hid (qk Hown13.out Hg14.out Hq13.out (by decide))
   have HOWF:=hid (qk HOW14.out HgF.out Ho14.out (by decide))
   have Hrd14:=hid (zD Hrd13.out Hg14.out (by omega))
   have HrdF:=hid (zD Hrd14.out HgF.out (by omega))
   have HG14:=hid (zo HG13.out Hg14.out (by rintro k hk;cases hk;omega))
   have HGF:=hid (zo HG14.out HgF.out (by rintro k hk;cases hk;omega))
   go_wp2
   show bodyPost _ _ _ _ _ ((w13.setCells (w.heap.size+1) 2 [strB [77],.int .i64 (g:Int),.int .i64 (c:Int),.int .i64 0,strB (jM key m).1,strB (jM key m).2]).setCells w.heap.size 0 [.int .i64 (rows:Int),.slice va k vc,strB [77],.int .i64 (g:Int),.int .i64 (c:Int),.int .i64 0,strB (jM key m).1,strB (jM key m).2])
   clear q0 q1 q2 q3 q4 q5 q6 q7 f2 f3 f4 f5 f6 f7 o0 o1 o2 o3 o4 o5 o6 o7 of0 of1 of2 of3 of4 of5 of6 of7
   generalize (w13.setCells _ _ _).setCells _ _ _=WF at *
   obtain ⟨⟨q0,q1,q2,q3,q4,q5,q6,q7⟩,_⟩:=QA HoF.out
   refine bodyPost_ret (v:=chunkV rows g c key (.slice va k vc) m) (by simp [results,Tryz.results271,go_sem,q0,q1,q2,q3,q4,q5,q6,q7]) rfl ⟨HGF.out,.inr ⟨mp,m,.slice va k vc,z,HM13.out.1,?_,?_,?_,HrdF.out,HM13.out.2⟩⟩
   ·rw [Hrr.out,HCNe.out];exact Hmp.out
   ·rw [Hrr.out,Hkk.out]
   ·rw [Hkk.out,Hmp.out];exact HOWF.out
end Go.Proofs.YthhpbhpfagoapaaGreat
