import Derived.Test.YthhpbhpfagoapaaGreatJAA
import Derived.Test.YthhpbhpfagoapaaGreatJAU
import Derived.Test.YthhpbhpfagoapaaGreatRTk
import Derived.Test.YthhpbhpfagoapaaGreatJBK
import Derived.Test.YthhpbhpfagoapaaGreatJBD
namespace Go.Proofs.YthhpbhpfagoapaaGreat
set_option linter.unusedVariables false
set_option linter.unusedSimpArgs false
set_option maxRecDepth 100000
set_option maxHeartbeats 16000000
open Go.RowKit
section
theorem Cv (s:List UInt8) (G:Nat) (w:World) (hs:s.length≤100000) (h:w.heap[G]?=some (.cells #[strB s] 9 (0,0))):Joins w (.slice (some ⟨G,0,none⟩) 1 1) s:=by
 intro w' hw
 have h':=jb hw h
 have:=Uh [s] G 1 w' (by simp) (by simp;omega) (ag.1 h').1 (by
  intro i hi
  have h0:i=0:=by simpa using hi
  subst h0
  rw [jd h']
  rfl)
 simpa using this
end
section
def jT (key:Int) (m:ModF):NB:=(m.nonce,if key=0 then m.plain else m.body)
theorem Zx (p g c k:Nat) (key:Int) (sort s rest:List UInt8) (w:World) (hs:s.length≤maxLen) (hp:qz w p s rest) :
  Calls Tryz.prog 274 #[.pointer (some ⟨p,0,none⟩),.int .i64 key,moduleV sort g c k] w (UB (xU key) (qI key) (fun m=>pieceV sort g c k (jT key m)) p s rest w):=by
 have Hs:=hid hs
 have Hp:=hid hp
 have hplt:=xp hp
 clear hs hp
 obtain ⟨hb0,hl0,hm0,ho0⟩:=Qc w #[strB sort,.int .i64 (g:Int),.int .i64 (c:Int),.int .i64 (k:Int)] 111 #[Value.string { data:=#[] },.int .i64 0,.int .i64 0,.int .i64 0,Value.string { data:=#[] },Value.string { data:=#[] }] 113
 by_cases hk:key=0
 ·subst hk
  have HXM:Hid (∀ (m:ModF) (q:List UInt8),xU 0 m→rest=qI 0 m++q→m.plain.length≤65535∧rest=qE (m.plain.length:Int)++(m.plain++q)):=by
   intro m q hm h
   rcases hm with ⟨_,h1,h2,h3⟩|⟨h0,_⟩
   ·refine ⟨h3,?_⟩
    rw [h]
    simp [qI]
   ·exact absurd rfl h0
  go_enter Tryz.func274,Tryz.ntmps274
  go_wp2_with fail
  generalize (w.alloc _).alloc _=W0 at *
  have Hp0:=hid (qK Hp.out hb0 hplt)
  have hG0:w.grownBy W0 (some p):=jH (jS w _) hb0
  have hne0:w.heap.size≠p:=by omega
  have hne1:w.heap.size+1≠p:=by omega
  have HC0:=hid (KK hm0)
  have Hm0:=hid hm0
  have Ho0:=hid ho0
  clear hb0 hm0 ho0
  refine wp_region_held_drew (S:=fun w'=>w'.cell? ⟨w.heap.size,0,none⟩=some (strB sort)∧w'.cell? ⟨w.heap.size,1,none⟩=some (.int .i64 (g:Int))∧w'.cell? ⟨w.heap.size,2,none⟩=some (.int .i64 (c:Int))∧w'.cell? ⟨w.heap.size,3,none⟩=some (.int .i64 (k:Int))) (by kernel_rfl) ?_ (fun hHeld=>?_)
  ·exact HC0.out
  refine tk 0 (moduleV sort g c k) ?_
  refine tk 1 (.pointer (some ⟨p,0,none⟩)) ?_
  refine tk 2 (.pointer (some ⟨p,0,none⟩)) ?_
  simp only [jA,jB,jC,Act.put,jD,jE,jF]
  refine rd 3 (fun K hK=>?_)
  simp only [jA,jB,jC]
  go_simp
  go_at_call 223
  refine (Vb p s rest _ Hs.out (show qz W0.drew p s rest from Hp0.out)).mono ?_
  rintro e w3 ⟨hg3,⟨hr,rfl⟩|⟨a,b,r,hr,rfl,hp3⟩⟩
  ·refine ⟨rfl,ja hG0 (jz hg3),.inl ⟨rfl,fun m q hm h=>?_⟩⟩
   have:=(HXM.out m q hm h).2
   rw [this] at hr
   simp only [ab,jG] at hr
   omega
  have hm3:=jf (jz hg3) Hm0.out hne0
  have ho3:=jf (jz hg3) Ho0.out hne1
  have HG3:=hid (ja hG0 (jz hg3))
  have Hp3:=hid hp3
  have HC3:=hid (KK hm3)
  have Ho3:=hid ho3
  have Hm3:=hid hm3
  have hab:a.toNat+256*b.toNat≤65535:=by have:=a.toNat_lt;have:=b.toNat_lt;omega
  have HX:Hid (∀ (m:ModF) (q:List UInt8),xU 0 m→rest=qI 0 m++q→m.plain.length=a.toNat+256*b.toNat∧r=m.plain++q):=by
   intro m q hm h
   obtain ⟨h1,h2⟩:=HXM.out m q hm h
   rw [hr] at h2
   have h':[a,b]++r=qE (m.plain.length:Int)++(m.plain++q):=h2
   obtain ⟨h3,h4⟩:=aV h' (by rw [jG];rfl)
   rw [← XM a b] at h3
   exact ⟨(QL hab h1 h3).symm,h4⟩
  have HY:Hid (a.toNat+256*b.toNat≤r.length→xU 0 ⟨r.take (a.toNat+256*b.toNat),[],[]⟩∧rest=qI 0 ⟨r.take (a.toNat+256*b.toNat),[],[]⟩++r.drop (a.toNat+256*b.toNat)):=by
   intro hl
   have hl2:(r.take (a.toNat+256*b.toNat)).length=a.toNat+256*b.toNat:=by rw [aq];omega
   refine ⟨.inl ⟨rfl,rfl,rfl,by simp only [hl2];exact hab⟩,?_⟩
   simp only [qI,bG]
   rw [hl2,XM,af,aD,hr]
   rfl
  clear hg3 hp3 hm3 ho3 hr
  generalize a.toNat+256*b.toNat=n at *
  try go_wp2_with fail
  refine hK.out _ _ HC3.out (fun hHeld=>?_)
  clear hK K
  try simp only [jA,jB,jC,Act.put,jD,jE,jF]
  refine rd 4 (fun K hK=>?_)
  simp only [jA,jB,jC]
  go_simp
  go_at_call 224
  refine (Jo p s r n w3 Hs.out (by omega) Hp3.out).mono ?_
  rintro e w4 ⟨hg4,⟨hlt,rfl⟩|⟨hle2,rfl,hp4⟩⟩
  ·refine ⟨rfl,ja HG3.out hg4,.inl ⟨rfl,fun m q hm h=>?_⟩⟩
   obtain ⟨h3,h4⟩:=HX.out m q hm h
   rw [h4,ab] at hlt
   omega
  have hm4:=jf hg4 Hm3.out hne0
  have ho4:=jf hg4 Ho3.out hne1
  have HG4:=hid (ja HG3.out hg4)
  have Hp4:=hid hp4
  have HC4:=hid (KK hm4)
  have Ho4:=hid ho4
  have Hm4:=hid hm4
  have HE:=hid (HY.out hle2)
  clear hg4 hp4 hm4 ho4 HX HY
  generalize r.take n=U at *
  generalize r.drop n=V at *
  try go_wp2_with fail
  refine hK.out _ _ HC4.out (fun hHeld=>?_)
  clear hK K
  try simp only [jA,jB,jC,Act.put,jD,jE,jF]
  refine rd 5 (fun K hK=>?_)
  simp only [jA,jB,jC]
  go_simp
  try go_wp2_with fail
  refine hK.out _ _ HC4.out (fun hHeld=>?_)
  clear hK K
  try simp only [jA,jB,jC,Act.put,jD,jE,jF]
  obtain ⟨⟨q0,q1,q2,q3,q4,q5⟩,z0,z1,z2,z3,z4,z5⟩:=Za Ho4.out
  refine rd 6 (fun K hK=>?_)
  simp only [jA,jB,jC]
  try go_simp
  show K _ (w4.setCells (w.heap.size+1) 0 [strB sort,.int .i64 (g:Int),.int .i64 (c:Int),.int .i64 (k:Int),Value.string { data:=#[] },strB U])
  have ho5:=JS [strB sort,.int .i64 (g:Int),.int .i64 (c:Int),.int .i64 (k:Int),Value.string { data:=#[] },strB U] (by rfl) Ho4.out
  have hg5:=xF (w.heap.size+1) [strB sort,.int .i64 (g:Int),.int .i64 (c:Int),.int .i64 (k:Int),Value.string { data:=#[] },strB U] w4 0
  clear q0 q1 q2 q3 q4 q5 z0 z1 z2 z3 z4 z5
  generalize w4.setCells _ _ _=W5 at *
  have HC5:=hid (KK (jf hg5 Hm4.out (by omega)))
  have HG5:=hid (zy HG4.out hg5 (by rintro k hk;cases hk;omega))
  have Hp5:=hid (zL Hp4.out hg5 (by omega))
  clear hg5
  refine hK.out _ _ HC5.out (fun hHeld=>?_)
  clear hK K
  refine wpAnyH_done (by kernel_rfl) ?_ _
  obtain ⟨⟨q0,q1,q2,q3,q4,q5⟩,_⟩:=Za ho5
  go_wp2
  exact bodyPost_ret (v:=pieceV sort g c k (jT 0 ⟨U,[],[]⟩)) (by simp [results,Tryz.results274,go_sem,q0,q1,q2,q3,q4,q5,jT]) rfl ⟨HG5.out,.inr ⟨⟨U,[],[]⟩,V,HE.out.1,rfl,Hp5.out,HE.out.2⟩⟩
 ·have hki:(key == 0)=false:=by simpa using hk
  go_enter Tryz.func274,Tryz.ntmps274
  go_wp2_with fail
  generalize (w.alloc _).alloc _=W0 at *
  have Hp0:=hid (qK Hp.out hb0 hplt)
  have hG0:w.grownBy W0 (some p):=jH (jS w _) hb0
  have hne1:w.heap.size+1≠p:=by omega
  have HXM:Hid (∀ (m:ModF) (q:List UInt8),xU key m→rest=qI key m++q→JE (m.nonce,m.body)∧rest=xy (m.nonce,m.body)++q):=by
   intro m q hm h
   rcases hm with ⟨h0,_⟩|⟨_,h1,h2,h3,h4⟩
   ·exact absurd h0 hk
   ·refine ⟨⟨h2,h3,h4⟩,?_⟩
    rw [h,qI,aj hk]
    rfl
  have HYM:Hid (∀ (x:NB) (q:List UInt8),JE x→rest=xy x++q→xU key ⟨[],x.1,x.2⟩∧rest=qI key ⟨[],x.1,x.2⟩++q∧jT key ⟨[],x.1,x.2⟩=x):=by
   intro x q hx h
   refine ⟨.inr ⟨hk,rfl,hx.1,hx.2.1,hx.2.2⟩,?_,?_⟩
   ·rw [h,qI,aj hk]
    rfl
   ·simp only [jT,aj hk]
  have Ho0:=hid ho0
  clear hm0 ho0 hb0 hk hki
  refine (KT p g c k sort s rest W0 Hs.out Hp0.out).mono ?_
  rintro e w1 ⟨hg1,⟨rfl,hno⟩|⟨x,r,hx,rfl,hp1,hr⟩⟩
  ·have HN:Hid (∀ (m:ModF) (q:List UInt8),xU key m→rest≠qI key m++q):=fun m q hm h=>hno (m.nonce,m.body) q (HXM.out m q hm h).1 (HXM.out m q hm h).2
   have HG:=hid (ja hG0 hg1)
   clear hno hg1 hG0
   go_wp2
   exact ⟨rfl,HG.out,.inl ⟨rfl,HN.out⟩⟩
  have HE:=hid (HYM.out x r hx hr)
  have Ho1:=hid (jf hg1 Ho0.out hne1)
  have HG1:=hid (ja hG0 hg1)
  have Hp1:=hid hp1
  clear hg1 hG0 hp1 hr
  obtain ⟨⟨q0,q1,q2,q3,q4,q5⟩,z0,z1,z2,z3,z4,z5⟩:=Za Ho1.out
  have ho5:=hid (JS [strB sort,.int .i64 (g:Int),.int .i64 (c:Int),.int .i64 (k:Int),strB x.1,strB x.2] (by rfl) Ho1.out)
  have hg5:=hid (xF (w.heap.size+1) [strB sort,.int .i64 (g:Int),.int .i64 (c:Int),.int .i64 (k:Int),strB x.1,strB x.2] w1 0)
  go_wp2
  show bodyPost _ _ _ _ _ (w1.setCells (w.heap.size+1) 0 [strB sort,.int .i64 (g:Int),.int .i64 (c:Int),.int .i64 (k:Int),strB x.1,strB x.2])
  clear q0 q1 q2 q3 q4 q5 z0 z1 z2 z3 z4 z5
  generalize w1.setCells _ _ _=W5 at *
  have HG5:=hid (zy HG1.out hg5.out (by rintro k hk;cases hk;omega))
  have Hp5:=hid (zL Hp1.out hg5.out (by omega))
  obtain ⟨⟨q0,q1,q2,q3,q4,q5⟩,_⟩:=Za ho5.out
  exact bodyPost_ret (v:=pieceV sort g c k x) (by simp [results,Tryz.results274,go_sem,q0,q1,q2,q3,q4,q5]) rfl ⟨HG5.out,.inr ⟨⟨[],x.1,x.2⟩,r,HE.out.1,by simp only [HE.out.2.2],Hp5.out,HE.out.2.1⟩⟩
end
end Go.Proofs.YthhpbhpfagoapaaGreat
