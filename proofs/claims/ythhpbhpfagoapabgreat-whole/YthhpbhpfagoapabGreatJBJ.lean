import Derived.Test.YthhpbhpfagoapabGreatJBK
import Derived.Test.YthhpbhpfagoapabGreatRTk
import Derived.Test.YthhpbhpfagoapabGreatJAW
import Derived.OwnWalk
import Derived.Test.YthhpbhpfagoapabGreatJBH
import Derived.Laws.Tables
import Derived.Laws.Rows
namespace Go.Proofs.YthhpbhpfagoapabGreat
set_option linter.unusedVariables false
set_option linter.unusedSimpArgs false
set_option maxRecDepth 100000
set_option maxHeartbeats 16000000
section
theorem KL {t:List ColB} {L:List SpotB} {M:List ModF} {L2:List SpotB} {rest q:List UInt8} {M':List ModF} (h:ModsOk t L M) (h':ModsOk t (L++L2) M') (e:jn t L M++rest=jn t (L++L2) M'++q) :
  ∃ M2,M'=M++M2∧ModsOk t L2 M2∧rest=jn t L2 M2++q:=by
 induction h using ModsOk.ind generalizing M' with
 | nil=>exact ⟨M',rfl,h',by simpa [jn] using e⟩
 | cons hm _ ih =>
  cases h' using ModsOk.ind with
  | cons hm' h2' =>
   simp only [List.cons_append,jn,List.append_assoc] at e
   obtain ⟨e1,e2⟩:=QO hm hm' e
   obtain ⟨M2,h3,h4,h5⟩:=ih h2' e2
   exact ⟨M2,by rw [e1,h3];rfl,h4,h5⟩
def LS (R G P n k c:Nat):List SpotB:=jH R n G P k++jr R G P k c
def MS (Qp:Nat→Nat→List ModF) (Qm:Nat→Nat→ModF) (n k c:Nat):List ModF:=xl (fun g c=>Qp g c++[Qm g c]) n k++xx (fun g c=>Qp g c++[Qm g c]) k c
theorem Rt {R G P n k c:Nat} (hk:k < jY R G) (hc:c < n):∃ L3,qm R n G P=LS R G P n k c++(jh R G P k c++L3):=by
 obtain ⟨d,hd⟩:∃ d,jY R G=k+1+d:=⟨jY R G - (k+1),by omega⟩
 obtain ⟨f,hf⟩:∃ f,n=c+1+f:=⟨n - (c+1),by omega⟩
 have h1:qm R n G P=jH R n G P (k+1)++((List.range d).map (k+1+·)).flatMap (fun g=>jr R G P g n):=by
  unfold qm
  rw [hd]
  unfold jH
  rw [List.range_add,List.flatMap_append]
 have h2:jr R G P k n=jr R G P k (c+1)++((List.range f).map (c+1+·)).flatMap (fun c=>jh R G P k c):=by
  rw [hf]
  unfold jr
  rw [List.range_add,List.flatMap_append]
 rw [h1,zK,h2,zL]
 unfold LS
 simp only [List.append_assoc]
 exact ⟨_,rfl⟩
theorem CV (R G P n k c:Nat):LS R G P n k (c+1)=LS R G P n k c++jh R G P k c:=by
 unfold LS;rw [zL,List.append_assoc]
theorem EB (R G P n k:Nat):LS R G P n k n=LS R G P n (k+1) 0:=by
 unfold LS;rw [zK];simp [jr]
theorem CY (Qp:Nat→Nat→List ModF) (Qm:Nat→Nat→ModF) (n k:Nat):MS Qp Qm n k n=MS Qp Qm n (k+1) 0:=by
 unfold MS;rw [Qu];simp [xx]
theorem Tf (R G P n:Nat):LS R G P n 0 0=[]:=by simp [LS,jH,jr]
theorem CQ (Qp:Nat→Nat→List ModF) (Qm:Nat→Nat→ModF) (n:Nat):MS Qp Qm n 0 0=[]:=by simp [MS,xl,xx]
theorem FI (R G P n:Nat):LS R G P n (jY R G) 0=qm R n G P:=by simp [LS,qm,jr]
theorem Fz (Qp:Nat→Nat→List ModF) (Qm:Nat→Nat→ModF) (n k:Nat):MS Qp Qm n k 0=xl (fun g c=>Qp g c++[Qm g c]) n k:=by simp [MS,xx]
theorem KQ {Q Q':Nat→Nat→List ModF} {g:Nat}:∀ {c:Nat},(∀ i,i < c→Q g i=Q' g i)→xx Q g c=xx Q' g c:=by
 intro c
 induction c with
 | zero=>intro _;rfl
 | succ c ih=>intro h;rw [zY,zY,ih (fun i hi=>h i (by omega)),h c (by omega)]
theorem ER {Q Q':Nat→Nat→List ModF} {n:Nat}:∀ {k:Nat},(∀ g,g < k→∀ i,i < n→Q g i=Q' g i)→xl Q n k=xl Q' n k:=by
 intro k
 induction k with
 | zero=>intro _;rfl
 | succ k ih=>intro h;rw [Qu,Qu,ih (fun g hg=>h g (by omega)),KQ (h k (by omega))]
theorem LZ {Qp:Nat→Nat→List ModF} {Qm:Nat→Nat→ModF} {n k c:Nat} {mp:List ModF} {mm:ModF}:MS (XC Qp k c mp) (XC Qm k c mm) n k (c+1)=MS Qp Qm n k c++(mp++[mm]):=by
 unfold MS
 rw [zY,← List.append_assoc]
 have e1:xl (fun g c'=>XC Qp k c mp g c'++[XC Qm k c mm g c']) n k=xl (fun g c=>Qp g c++[Qm g c]) n k:=ER (fun g hg i _=>by
  have:¬ (g=k∧i=c):=by omega
  simp only [XC,if_neg this])
 have e2:xx (fun g c'=>XC Qp k c mp g c'++[XC Qm k c mm g c']) k c=xx (fun g c=>Qp g c++[Qm g c]) k c:=KQ (fun i hi=>by
  have:i≠c:=by omega
  simp [XC,this])
 rw [e1,e2]
 simp [XC]
theorem Hd {t:List ColB} {R G P n k c:Nat} {Qp:Nat→Nat→List ModF} {Qm:Nat→Nat→ModF} (hc:c≤n) (h:∀ i,i < n→∀ g,g < (if i < c then k+1 else k)→ModsOk t (jh R G P g i) (Qp g i++[Qm g i])):ModsOk t (LS R G P n k c) (MS Qp Qm n k c):=by
 refine (Gt (fun g hg i hi=>h i hi g ?_)).append (XJ (fun i hi=>h i (by omega) k ?_))
 ·split<;>omega
 ·rw [if_pos hi];omega
theorem Bq (R G P n k c:Nat):xS true (LS R G P n k c)=true:=by
 unfold LS;rw [Jp,ZJ,QB]
theorem Sa {t:List ColB} {R G P n k c:Nat} {M:List ModF} (h:ModsOk t (LS R G P n k c) M):(jJ t 4 true (LS R G P n k c) M).length=k*n+c:=by
 rw [Uc ⟨[],⟨0,0,0,false⟩,[],0⟩ [] _ _ _ _ ⟨[],[]⟩ (qV h)]
 unfold LS
 rw [zW,List.length_append,JZ,ZJ,Xc]
theorem RM {t:List ColB} {R G P n k c:Nat} {M M2:List ModF} (h:ModsOk t (LS R G P n k c) M) (h2:M2.length=(jh R G P k c).length) :
  jJ t 4 true (LS R G P n k c++jh R G P k c) (M++M2)=jJ t 4 true (LS R G P n k c) M++[4+(jn t (LS R G P n k c) M).length]:=by
 rw [QC _ _ _ _ _ _ (qV h),Bq,Gz h2]
theorem SW {t:List ColB} {R G P n k c:Nat} {M:List ModF} {rk:List UInt8} (hk:k < jY R G) (hc:c < n) (h:ModsOk t (LS R G P n k c) M) (hno:∀ M q,ModsOk t (jh R G P k c) M→rk≠jn t (jh R G P k c) M++q) :
  ∀ M' q,ModsOk t (qm R n G P) M'→jn t (LS R G P n k c) M++rk≠jn t (qm R n G P) M'++q:=by
 intro M' q hM' e
 obtain ⟨L3,hL3⟩:=Rt (R:=R) (P:=P) hk hc
 rw [hL3] at hM' e
 obtain ⟨M2,rfl,h2,h3⟩:=KL h hM' e
 obtain ⟨M3,M4,rfl,h4,h5⟩:=NX h2
 rw [zV _ _ _ _ (qV h4),List.append_assoc] at h3
 exact hno M3 _ h4 h3
theorem LA {t:List ColB} {R G P n k c:Nat} {M:List ModF} {rk:List UInt8} {pl:List Nat} (hk:k < jY R G) (hc:c < n) (h:ModsOk t (LS R G P n k c) M) (hi:k*n+c < pl.length) (hne:pl[k*n+c]≠4+(jn t (LS R G P n k c) M).length) :
  ∀ M' q,ModsOk t (qm R n G P) M'→jn t (LS R G P n k c) M++rk=jn t (qm R n G P) M'++q→pl≠jJ t 4 true (qm R n G P) M':=by
 intro M' q hM' e hpl
 obtain ⟨L3,hL3⟩:=Rt (R:=R) (P:=P) hk hc
 rw [hL3] at hM' e hpl
 obtain ⟨M2,rfl,h2,h3⟩:=KL h hM' e
 obtain ⟨M3,M4,rfl,h4,h5⟩:=NX h2
 rw [← List.append_assoc,← List.append_assoc,QC _ _ _ _ _ _ (qV (h.append h4)),RM h (qV h4),List.append_assoc] at hpl
 apply hne
 have hl:=Sa h
 subst hpl
 rw [List.getElem_append_right (by omega)]
 simp [hl]
end
section
open Go.RowKit
theorem Tryz.infoChunk:(Tryz.prog.info? 157).map (fun i=>(i.zero,i.size,i.bytes))=some (some (.agg #[.int .i64 0,.slice none 0 0,.string ⟨#[]⟩,.int .i64 0,.int .i64 0,.int .i64 0,.string ⟨#[]⟩,.string ⟨#[]⟩]),8,104):=by kernel_rfl
theorem Tryz.infoChunkS:(Tryz.prog.info? 154).map (fun i=>(i.zero,i.size,i.bytes))=some (some (.slice none 0 0),1,24):=by kernel_rfl
abbrev sheetH (f0 f1 f2 f3 f4 f5 f6 f7 f8 f9:Value) (R G P:Nat) (F b cv pv:Value):List Value:=[f0,f1,f2,f3,f4,f5,f6,f7,f8,f9,.int .i64 (R:Int),.int .i64 (G:Int),.int .i64 (P:Int),F,b,cv,pv]
theorem zn {w:World} {Q:Nat} {f0 f1 f2 f3 f4 f5 f6 f7 f8 f9:Value} {R G P:Nat} {F b cv pv x:Value} {T:TypeId} (h:w.heap[Q]?=some (.cells (sheetH f0 f1 f2 f3 f4 f5 f6 f7 f8 f9 R G P F b cv pv++[x]).toArray T (0,0))) :
  w.cell? ⟨Q,10,none⟩=some (.int .i64 (R:Int))∧w.cell? ⟨Q,11,none⟩=some (.int .i64 (G:Int))∧w.cell? ⟨Q,12,none⟩=some (.int .i64 (P:Int))∧w.cell? ⟨Q,15,none⟩=some cv∧w.cell? ⟨Q,16,none⟩=some pv∧w.cell? ⟨Q,17,none⟩=some x∧w.frozen? ⟨Q,17,none⟩=false :=
 ⟨by rw [jb h];rfl,by rw [jb h];rfl,by rw [jb h];rfl,by rw [jb h];rfl,by rw [jb h];rfl,by rw [jb h];rfl,frozen_of_row w Q 17 _ T h⟩
theorem Pl {w:World} {Q:Nat} {f0 f1 f2 f3 f4 f5 f6 f7 f8 f9:Value} {R G P:Nat} {F b cv pv x v:Value} {T:TypeId} (h:w.heap[Q]?=some (.cells (sheetH f0 f1 f2 f3 f4 f5 f6 f7 f8 f9 R G P F b cv pv++[x]).toArray T (0,0))) :
  (w.setCell ⟨Q,17,none⟩ v).heap[Q]?=some (.cells (sheetH f0 f1 f2 f3 f4 f5 f6 f7 f8 f9 R G P F b cv pv++[v]).toArray T (0,0)):=by
 rw [heap_setCell_same w Q 17 _ T v h];rfl
theorem Pw {t:List ColB} {R G P g c p:Nat} {s rest:List UInt8} {w:World} {e:Ending} {w':World} (h:MM t R G P g c p s rest w e w') (hn:∀ M q,ModsOk t (jh R G P g c) M→rest≠jn t (jh R G P g c) M++q):e=gaveUp∧w.grownBy w' (some p):=by
 obtain ⟨hg,⟨he,_⟩|⟨mp,mm,pv,r,hok,hml,rfl,hpv,hrd,hr⟩⟩:=h
 ·exact ⟨he,hg⟩
 ·exact absurd hr (hn _ _ hok)
theorem NK {t:List ColB} {R G P g c p:Nat} {s rest q:List UInt8} {w:World} {e:Ending} {w':World} {M:List ModF} (h:MM t R G P g c p s rest w e w') (hM:ModsOk t (jh R G P g c) M) (hr:rest=jn t (jh R G P g c) M++q) :
  ∃ (mp:List ModF) (mm:ModF) (pv:Value) (r:List UInt8),w.grownBy w' (some p)∧ModsOk t (jh R G P g c) (mp++[mm])∧mp.length=jY (jp R G g) P∧e=.returned (chunkV (jp R G g) g c (jf t c).key pv mm)∧w'.ownsRow w.heap.size 75 6 pv mp.length (xT (jf t c).key g c mp)∧qy w' p s r∧rest=jn t (jh R G P g c) (mp++[mm])++r:=by
 obtain ⟨hg,⟨he,hno⟩|⟨mp,mm,pv,r,hok,hml,he,hpv,hrd,hr'⟩⟩:=h
 ·exact absurd hr (hno M q hM)
 ·exact ⟨mp,mm,pv,r,hg,hok,hml,he,hpv,hrd,hr'⟩
def Bs (t:List ColB) (R G P n Q p:Nat) (H:List Value) (pl:List Nat) (s rest:List UInt8) (w:World) (e:Ending) (w':World):Prop :=
 Touch2 w w' p Q∧((e=gaveUp∧∀ (M':List ModF) (q:List UInt8),ModsOk t (qm R n G P) M'→rest=jn t (qm R n G P) M'++q→pl≠jJ t 4 true (qm R n G P) M') ∨
  ∃ Kb V Qp Qm Pv r,e=.returned (.tuple #[])∧ShAt t R G P n Q p Kb H w w' (jY R G) 0 V Qp Qm Pv∧qy w' p s r∧ModsOk t (qm R n G P) (xl (fun g c=>Qp g c++[Qm g c]) n (jY R G))∧rest=jn t (qm R n G P) (xl (fun g c=>Qp g c++[Qm g c]) n (jY R G))++r∧pl=jJ t 4 true (qm R n G P) (xl (fun g c=>Qp g c++[Qm g c]) n (jY R G)))
theorem Co {w:World} {base M:Nat} {v:Value} {pl:List Nat} (h:w.ownsRow base 3 1 v M (xJ pl)) (hl:pl.length=M):∃ (ps:Nat→Value) (pb pc:Nat),v=ps 0∧(0 < M→pb < w.heap.size∧M≤pc∧(∀ i,ps i=.slice (some ⟨pb,i,none⟩) (M - i) (pc - i))∧(∃ cur,w.heap[pb]?=some (.cells cur 3 (0,0)))∧∀ i (hi:i < pl.length),w.cell? ⟨pb,i,none⟩=some (.int .i64 ((pl[i]:Nat):Int))):=by
 rcases h.2 with ⟨rfl,h0⟩|⟨g,cap,cur,rfl,hb,hg,hcap,_⟩
 ·exact ⟨fun _=>.slice none 0 0,0,0,rfl,fun h=>by omega⟩
 ·refine ⟨fun i=>.slice (some ⟨g,i,none⟩) (M - i) (cap - i),g,cap,by simp,fun _=>⟨(h.lt g rfl).2,hcap,fun i=>rfl,⟨cur,hg⟩,fun i hi=>?_⟩⟩
  rw [h.cellAt i (by omega)]
  simp [xJ,hi]
theorem Lm {w1:World} {base n Kb:Nat} {x:Value} {e:TypeId} (h:w1.ownsRow base e 1 (.slice (some ⟨Kb,0,none⟩) n n) n (madeCells #[x] n).toList):w1.heap[Kb]?=some (.cells ((List.range n).map (fun _=>x)).toArray e (0,0)):=by
 rcases h.2 with ⟨h0,_⟩|⟨g,cap,cur,he,_,hg,_,_,hsz,htk⟩
 ·cases h0
 ·simp only [Value.slice.injEq,Option.some.injEq,Addr.mk.injEq,and_true,true_and] at he
  obtain ⟨rfl,rfl⟩:=he
  rw [hg]
  congr 2
  apply Array.ext'
  rw [← List.take_length (l:=cur.toList)] 
  have hl:cur.toList.length=n*1:=by rw [Array.length_toList,hsz]
  rw [hl,htk,madeCells]
  simp
  intro a _
  have:a % 1=0:=by omega
  simp [this]
theorem Rf (t:List ColB) (R G P n Q p base M:Nat) (f0 f1 f2 f3 f4 f5 f6 f7 f8 f9 F b cv pv:Value) (pl:List Nat) (s rest:List UInt8) (w:World) (hs:s.length≤maxLen) (hp:qy w p s rest) (hs4:s.length - rest.length=4) (hR:R≤60) (hG1:1≤G) (hG:G≤60) (hP1:1≤P) (hP:P≤60) (hn1:1≤n) (hn:n≤6) (htn:t.length=n) (hM:M=jY R G*n) (hpM:pl.length=M)
  (hQ:w.heap[Q]?=some (.cells (sheetH f0 f1 f2 f3 f4 f5 f6 f7 f8 f9 R G P F b cv pv++[Value.slice none 0 0]).toArray 82 (0,0))) (hcv:w.ownsRow base 31 4 cv n (Zp t)) (hpv:w.ownsRow base 3 1 pv M (xJ pl)) (hpQ:p≠Q) :
  Calls Tryz.prog 127 #[.pointer (some ⟨Q,0,none⟩),.pointer (some ⟨p,0,none⟩)] w (Bs t R G P n Q p (sheetH f0 f1 f2 f3 f4 f5 f6 f7 f8 f9 R G P F b cv pv) pl s rest w):=by
 obtain ⟨i0,hi,hz0,hz1,hz2⟩:=info_parts Tryz.infoChunk
 obtain ⟨i1,hi1,hy0,hy1,hy2⟩:=info_parts Tryz.infoChunkS
 have Hs:=hid hs
 have Hp:=hid hp
 have hplt:=xF hp
 have hQlt:=(Array.getElem?_eq_some_iff.1 hQ).1
 have hrb:=zd hp
 have HQ:=hid hQ
 have Hcv:=hid hcv
 have Hrb:=hid hrb
 obtain ⟨ps,pb,pc,rfl,hps⟩:=Co hpv hpM
 have Hps:=hid hps
 obtain ⟨ca,cc,rfl⟩:=jL hcv
 have HCA:Hid (∃ cb,ca=some ⟨cb,0,none⟩∧cb < w.heap.size∧(∃ cur,w.heap[cb]?=some (.cells cur 31 (0,0)))∧∀ c,c < n→w.cell? ⟨cb,c*4+2,none⟩=some (.int .i64 (jf t c).key)):=by
  rcases hcv.2 with ⟨_,h0⟩|⟨g,cap,cur,he,hb',hg',_⟩
  ·omega
  ·cases he
   refine ⟨g,rfl,(hcv.lt g rfl).2,⟨cur,hg'⟩,fun c hc=>?_⟩
   rw [hcv.cellAt (c*4+2) (by omega)]
   have:=Jw LH 4 (fun _=>rfl) t c 2 (by omega) (by omega)
   rw [xz (by omega)]
   exact this
 have HpM:=hid hpM
 have HM:=hid hM
 have Hs4:=hid hs4
 have Htn:=hid htn
 obtain ⟨c10,c11,c12,c15,c16,c17,z17⟩:=zn hQ
 clear hs hp hQ hcv hpv hrb hps hpM hM hs4 htn
 go_enter Tryz.func127,Tryz.ntmps127
 go_wp2_with (at_make;refine wpList_make_full _ rfl (.tmp 14) (.tmp 14) 80 rfl w.heap.size 154 i1 (.slice none 0 0) 1 Tryz.underlying80 hi1 hy0 hy1 .i64 .i64 _ _ n rfl rfl rfl rfl ?m1 ?m2 ?m3 ?_)
 case m1=>rw [hy2];omega
 case m2=>unfold maxLen;omega
 case m3=>exact Nat.le_refl _
 intro w1 hmk hg1
 have hkb1:=Lm hmk
 have hQ1:=(hg1.block Q hQlt (by simp)).trans HQ.out
 obtain ⟨_,_,_,_,_,d17,y17⟩:=zn hQ1
 have HQ2:=hid (Pl (v:=.slice (some ⟨w.heap.size,0,none⟩) n n) hQ1)
 have HG2:=hid (qv w1 Q 17 (.slice (some ⟨w.heap.size,0,none⟩) n n))
 have hl1:=hg1.size
 go_wp2_with fail
 clear c10 c11 c12 c15 c16 c17 z17 d17 y17
 have HT2:Hid (Touch2 w (w1.setCell ⟨Q,17,none⟩ (.slice (some ⟨w.heap.size,0,none⟩) n n)) p Q):=((Touch2.refl w p Q).grown hg1 (fun k hk=>by cases hk)).grown HG2.out (fun k hk=>by cases hk;exact .inr (.inl rfl))
 have hkb2:=jk HG2.out hkb1 (by omega)
 have hp1:qy w1 p s rest:=Zy Hp.out ((hg1.block p hplt (by simp)).trans Hrb.out)
 have hp2:=zF hp1 HG2.out hpQ
 have hz2':(w1.setCell ⟨Q,17,none⟩ (.slice (some ⟨w.heap.size,0,none⟩) n n)).heap.size=w1.heap.size:=by simp
 generalize w1.setCell _ _=w2 at *
 have Hkb2:=hid hkb2
 have Hp2:=hid hp2
 clear hkb1 hkb2 hQ1 hp1 hp2 hmk hg1
 obtain ⟨c10,c11,_,_,_,_,_⟩:=zn HQ2.out
 have HCT:=hid (fun w':World=>UQ R G w' (by omega) hG1 (by omega))
 have hQ2lt:Q < w2.heap.size:=by omega
 go_region_held3 (fun w'=>w'.cell? ⟨Q,10,none⟩=some (.int .i64 (R:Int))∧w'.cell? ⟨Q,11,none⟩=some (.int .i64 (G:Int))) (first|with_reducible exact ⟨k0,k1⟩|exact ⟨c10,c11⟩)
  (first|(go_at_call 95;refine (HCT.out _).mono ?_;rintro e w3 ⟨sv,rfl,hsp,hb3⟩;obtain ⟨sa,sc,rfl⟩:=jL hsp;have hb3':=jl hb3;have k0:=(hb3'.cell (p:=⟨Q,10,none⟩) hQ2lt).trans c10;have k1:=(hb3'.cell (p:=⟨Q,11,none⟩) hQ2lt).trans c11))
 have hSh:ShAt t R G P n Q p w.heap.size (sheetH f0 f1 f2 f3 f4 f5 f6 f7 f8 f9 R G P F b (.slice ca n cc) (ps 0)) w w2 0 0 (fun _=>.slice none 0 0) (fun _ _=>[]) (fun _ _=>⟨[],[],[]⟩) (fun _ _=>.slice none 0 0) :=
  ⟨HT2.out,HQ2.out,Nat.le_refl _,Hkb2.out,fun i hi=>⟨by simp only [Nat.not_lt_zero,if_false];exact World.ownsRow_nil _ _ _ _,fun g hg=>by simp at hg,fun g hg=>by simp at hg⟩,fun i j _ _ _=>.inl rfl⟩
 have HSh3:=hid (hSh.later hb3')
 have Hp3:=hid (qJ Hp2.out hb3' (xF Hp2.out))
 have Hsp:=hid (jS hsp (show w.heap.size≤w2.heap.size by omega))
 have hcle:=Ql (n:=R) hG1
 have HCL:=hid (fun k=>Ju (n:=R) (size:=G) (i:=k) hG1)
 have HCNe:Hid (jY R G=jY R G):=rfl
 have HALL:=hid (FI R G P n)
 have HLSP:=hid (fun (k c:Nat) (hk:k < jY R G) (hc:c < n)=>Rt (R:=R) (G:=G) (P:=P) hk hc)
 have HCNO:=hid (fun (k c:Nat) (M:List ModF) (rk:List UInt8) (hk:k < jY R G) (hc:c < n) (h:ModsOk t (LS R G P n k c) M)=>SW (rk:=rk) hk hc h)
 have HPNO:=hid (fun (k c:Nat) (M:List ModF) (rk:List UInt8) (hk:k < jY R G) (hc:c < n) (h:ModsOk t (LS R G P n k c) M)=>LA (rk:=rk) (pl:=pl) hk hc h)
 clear hb3 hb3' k0 k1 c10 c11 hsp hSh
 generalize hCN:jY R G=CN at *
 have HCN:=hid hCN
 clear hCN HCNe
 go_wp2
 go_loopw [4,36] (fun v i wr=>∃ (k:Nat) (V:Nat→Value) (Qp:Nat→Nat→List ModF) (Qm:Nat→Nat→ModF) (Pv:Nat→Nat→Value) (rk:List UInt8),k≤CN∧i=.int .i64 (k:Int)∧(k*n < M→v=ps (k*n))∧ShAt t R G P n Q p w.heap.size (sheetH f0 f1 f2 f3 f4 f5 f6 f7 f8 f9 R G P F b (.slice ca n cc) (ps 0)) w wr k 0 V Qp Qm Pv∧qy wr p s rk∧rest=jn t (LS R G P n k 0) (MS Qp Qm n k 0)++rk∧pl.take (k*n)=jJ t 4 true (LS R G P n k 0) (MS Qp Qm n k 0)∧wr.ownsRow w.heap.size 169 2 (.slice sa CN sc) CN (JJ R G CN)) (fun _ i _=>CN - (intOf i).toNat)
 case atStart=>exact ⟨0,_,_,_,_,rest,Nat.zero_le _,rfl,fun _=>by simp,HSh3.out,Hp3.out,by rw [Tf,CQ];rfl,by rw [Tf,CQ];simp [jJ],Hsp.out⟩
 case round =>
  clear HSh3 Hp3 Hsp
  obtain ⟨k,V,Qp,Qm,Pv,rk,hkC,rfl,hv4,hsh,hrd,hrk,hpk,hsp⟩:=hrel
  have Hv4:=hid hv4
  clear hv4
  have Hsh:=hid hsh
  have Hrd:=hid hrd
  have Hrk:=hid hrk
  have Hpk:=hid hpk
  have Hsp:=hid hsp
  clear hsh hrd hrk hpk hsp
  by_cases hlt:k < CN
  ·have hki:(k:Int) < (CN:Int):=by omega
   obtain ⟨sg,rfl,hsg,s1,s2⟩:=Vu Hsp.out hlt
   have hkG:k*G < R:=(HCL.out k).1 hlt
   obtain ⟨_,_,_,e15,_,_,_⟩:=zn Hsh.out.sheet
   have hpart:IntKind.i64.wrap (((min (k*G+G) R:Nat):Int) - ((k*G:Nat):Int))=((jp R G k:Nat):Int):=by
    have h1:=XB R G k hkG
    rw [← h1,IntKind.wrap_i64]
    have:=Jy R G k
    omega
   have hpR:=Jy R G k
   have hMk:k*n+n≤M:=by
    rw [HM.out]
    have:(k+1)*n≤CN*n:=Nat.mul_le_mul_right n hlt
    rw [Nat.succ_mul] at this
    exact this
   have hM0:0 < M:=by omega
   obtain ⟨hpb,hpc,hpsv,⟨pcur,hpblk⟩,hpcell⟩:=Hps.out hM0
   have hpbp:pb≠p:=by
    rintro rfl
    have:=Hrb.out
    rw [hpblk] at this
    cases this
   have hpbQ:pb≠Q:=by
    rintro rfl
    have:=HQ.out
    rw [hpblk] at this
    cases this
   have HPSV:=hid hpsv
   have HPC:=hid hpcell
   have HPB:=hid hpblk
   have HMK:Hid (k*n+n=(k+1)*n):=(Nat.succ_mul k n).symm
   have HKN:Hid (LS R G P n k n=LS R G P n (k+1) 0):=EB R G P n k
   have Hcall:=hid (fun (c cb:Nat) (rk:List UInt8) (w':World) (hc:c < n) (hr:qy w' p s rk)=>Yo t R G P k c Q p cb n cc s rk w' Hs.out hr (by omega) hP1 hP hc hn)
   generalize hkG0:k*G=kG at *
   generalize hE0:min (kG+G) R=E at *
   generalize hPN0:jp R G k=PN at *
   have HPN0:=hid hPN0
   generalize hkn0:k*n=kn at *
   have Hkn0:=hid hkn0
   clear hkG0 hE0 hkG hpsv hpcell hpblk hPN0 hkn0
   have e15a:=je (.cells #[.int .i64 (kG:Int),.int .i64 (E:Int)] 169) e15
   go_wp2_with fail
   obtain ⟨hbx,hsx,_,hhx⟩:=jK wr #[.int .i64 (kG:Int),.int .i64 (E:Int)] 169
   have Hhx:=hid hhx
   have Hshx:=hid (Hsh.out.later hbx)
   have Hspx:=hid (jN Hsp.out hbx)
   have Hrdx:=hid (qJ Hrd.out hbx (xF Hrd.out))
   have hbq0:=Hsh.out.touch.size
   clear s1 s2 hbx hsg hhx e15 e15a
   generalize wr.alloc _=wx at *
   generalize wr.heap.size=bq at *
   go_loopw [4,47] (fun v i w3=>∃ (c:Nat) (V:Nat→Value) (Qp:Nat→Nat→List ModF) (Qm:Nat→Nat→ModF) (Pv:Nat→Nat→Value) (rk:List UInt8),c≤n∧i=.int .i64 (c:Int)∧(kn+c < M→v=ps (kn+c))∧ShAt t R G P n Q p w.heap.size (sheetH f0 f1 f2 f3 f4 f5 f6 f7 f8 f9 R G P F b (.slice ca n cc) (ps 0)) w w3 k c V Qp Qm Pv∧qy w3 p s rk∧rest=jn t (LS R G P n k c) (MS Qp Qm n k c)++rk∧pl.take (kn+c)=jJ t 4 true (LS R G P n k c) (MS Qp Qm n k c)∧w3.ownsRow w.heap.size 169 2 (.slice (some ⟨sg,0,none⟩) CN sc) CN (JJ R G CN)∧w3.heap[bq]?=some (.cells #[.int .i64 (kG:Int),.int .i64 (E:Int)] 169 (0,0))) (fun _ i _=>n - (intOf i).toNat)
   case atStart=>exact ⟨0,V,Qp,Qm,Pv,rk,Nat.zero_le _,rfl,Hv4.out,Hshx.out,Hrdx.out,Hrk.out,Hpk.out,Hspx.out,Hhx.out⟩
   case round =>
    clear Hshx Hrdx Hspx Hhx Hsh Hrd Hrk Hpk Hsp
    obtain ⟨c,V,Qp,Qm,Pv,rk,hcn,rfl,hv5,hsh,hrd,hrk,hpk,hsp,hbx⟩:=hrel
    have Hsh:=hid hsh
    have Hrd:=hid hrd
    have Hrk:=hid hrk
    have Hpk:=hid hpk
    have Hsp:=hid hsp
    have Hbx:=hid hbx
    clear hsh hrd hrk hpk hsp hbx Hv4
    by_cases hlc:c < n
    ·have hci:(c:Int) < (n:Int):=by omega
     have hiM:kn+c < M:=by omega
     have HOK:Hid (ModsOk t (LS R G P n k c) (MS Qp Qm n k c)):=Hd hcn (fun i hi g hg=>((Hsh.out.cols i hi).ok g hg).1)
     have hx4:s.length - rk.length=4+(jn t (LS R G P n k c) (MS Qp Qm n k c)).length:=by
      have h1:=Hs4.out
      have h2:=congrArg List.length Hrk.out
      rw [List.length_append] at h2
      obtain ⟨at_,_,h4,h5⟩:=Hp.out
      have h6:=congrArg List.length h5
      rw [List.length_drop] at h6
      omega
     have hcell:wr.cell? ⟨pb,kn+c,none⟩=some (.int .i64 ((pl[kn+c]'(by rw [HpM.out];exact hiM):Nat):Int)):=(World.cell?_of_block (Hsh.out.touch.block pb hpb hpbp hpbQ)).trans (HPC.out (kn+c) (by rw [HpM.out];exact hiM))
     have hv6:=hv5 hiM
     rw [HPSV.out (kn+c)] at hv6
     subst hv6
     clear hv5
     have HPSN:Hid (ps (kn+(c+1))=.slice (some ⟨pb,kn+c+1,none⟩) (M - (kn+c) - 1) (pc - (kn+c) - 1)):=by
      show _=_
      rw [HPSV.out (kn+(c+1))]
      congr 1<;>omega
     have HPLX:Hid (pl.take (kn+(c+1))=pl.take (kn+c)++[pl[kn+c]'(by rw [HpM.out];exact hiM)]):=by
      show _=_
      rw [← Nat.add_assoc,List.take_succ_eq_append_getElem]
     have HPNOc:Hid (pl[kn+c]'(by rw [HpM.out];exact hiM)≠4+(jn t (LS R G P n k c) (MS Qp Qm n k c)).length→∀ (M':List ModF) (q:List UInt8),ModsOk t (qm R n G P) M'→rest=jn t (qm R n G P) M'++q→pl≠jJ t 4 true (qm R n G P) M'):=by
      intro hne M' q hM' h
      have hne':pl[k*n+c]'(by rw [Hkn0.out,HpM.out];exact hiM)≠4+(jn t (LS R G P n k c) (MS Qp Qm n k c)).length:=by simpa only [Hkn0.out] using hne
      exact HPNO.out k c _ rk hlt hlc HOK.out (by rw [Hkn0.out,HpM.out];exact hiM) hne' M' q hM' (by rw [← Hrk.out];exact h)
     generalize hplx:pl[kn+c]'(by rw [HpM.out];exact hiM)=px at *
     clear hplx
     have hL0:(0:Int) < ((M - (kn+c):Nat):Int):=by omega
     have hL1:1≤M - (kn+c):=by omega
     have hL2:M - (kn+c)≤pc - (kn+c):=by omega
     have hL1i:(1:Int)≤((M - (kn+c):Nat):Int):=by omega
     have hL2i:((M - (kn+c):Nat):Int)≤((pc - (kn+c):Nat):Int):=by omega
     have hL00:M - (kn+c)≠0:=by omega
     have hLp:0 < M - (kn+c):=by omega
     generalize hLL:M - (kn+c)=LL at *
     generalize hPC2:pc - (kn+c)=PC at *
     have HPCe:=hid hPC2
     clear hLL hPC2
     have HAT:Hid (∀ w',qy w' p s rk→Calls Tryz.prog 141 #[.pointer (some ⟨p,0,none⟩)] w' fun e w2=>Below w'.heap.size w' w2∧e=.returned (.int .i64 ((4+(jn t (LS R G P n k c) (MS Qp Qm n k c)).length:Nat):Int))):=by
      intro w' h'
      have:=Bc p s rk w' Hs.out h'
      rw [hx4] at this
      exact this
     clear hx4
     generalize hAB:4+(jn t (LS R G P n k c) (MS Qp Qm n k c)).length=AB at *
     have HAB:=hid hAB
     clear hAB
     by_cases hpe:px≠AB
     ·have HN:=hid (HPNOc.out hpe)
      have hbq:((AB:Int) == (px:Int))=false:=by simp;omega
      go_wp2_with fail
      have HCL2:=hid hcell
      clear hcell
      refine wp_region_held_drew (S:=fun w'=>w'.cell? ⟨pb,kn+c,none⟩=some (.int .i64 (px:Int))) (by kernel_rfl) ?_ (fun hHeld=>?_)
      ·exact HCL2.out
      refine tk 0 (.pointer (some ⟨p,0,none⟩)) ?_
      refine tk 2 (.slice (some ⟨pb,kn+c,none⟩) LL PC) ?_
      refine tk 3 (.pointer (some ⟨pb,kn+c,none⟩)) ?_
      refine tk 4 (.int .i64 (px:Int)) ?_
      simp only [jA,jB,jC,Act.put,jD,jE,jF]
      refine rd 1 (fun K hK=>?_)
      simp only [jA,jB,jC]
      go_simp
      go_at_call 141
      refine (HAT.out _ (show qy wr.drew p s rk from Hrd.out)).mono ?_
      rintro e w4 ⟨hb4,rfl⟩
      have hb4':=jl hb4
      have HC4:Hid (w4.cell? ⟨pb,kn+c,none⟩=some (.int .i64 (px:Int))):=(hb4'.cell (p:=⟨pb,kn+c,none⟩) (World.block_lt_of_cell? wr _ HCL2.out)).trans HCL2.out
      have HT4:=hid (Hsh.out.touch.later hb4')
      clear hb4 hb4'
      try go_wp2_with fail
      refine hK.out _ _ HC4.out (fun hHeld=>?_)
      clear hK K
      try simp only [jA,jB,jC,Act.put,jD,jE,jF]
      refine tk 5 (.bool false) ?_
      simp only [jA,jB,jC,Act.put,jD,jE,jF]
      refine rd 6 (fun K hK=>?_)
      simp only [jA,jB,jC]
      go_simp
      go_at_call 69
      refine (qU _).mono ?_
      rintro e w5 ⟨rfl,rfl⟩
      exact ⟨rfl,HT4.out,.inl ⟨rfl,HN.out⟩⟩
     ·have hpe':px=AB:=Decidable.not_not.1 hpe
      clear hpe
      subst hpe'
      have hpbw:=World.block_lt_of_cell? wr _ hcell
      clear HPNOc
      go_wp2_with fail
      go_region_held3 (fun w'=>w'.cell? ⟨pb,kn+c,none⟩=some (.int .i64 (px:Int))) (first|with_reducible exact k0|exact hcell)
       (first
        | (go_at_call 141;refine (HAT.out _ (show qy wr.drew p s rk from Hrd.out)).mono ?_;rintro e w4 ⟨hb4,rfl⟩;have hb4':=jl hb4;have k0:=(hb4'.cell (p:=⟨pb,kn+c,none⟩) hpbw).trans hcell)
        | (go_at_call 69;refine (qh _).mono ?_;rintro e w5 ⟨rfl,rfl⟩))
      have Hsh4:=hid (Hsh.out.later hb4')
      have Hrd4:=hid (qJ Hrd.out hb4' (xF Hrd.out))
      have Hsp4:=hid (jN Hsp.out hb4')
      have Hbx4:=hid (jd hb4' Hbx.out)
      clear hb4 hb4' k0 hcell HAT Hsh Hrd Hsp Hbx
      have hlv:=V c
      obtain ⟨_,_,g12,g15,_,g17,_⟩:=zn Hsh4.out.sheet
      have hcc0:=Hsh4.out.cols c hlc
      rw [if_neg (Nat.lt_irrefl c)] at hcc0
      obtain ⟨va,vc,hVc⟩:=jL hcc0.row
      obtain ⟨cb,rfl,hcb,⟨ccur,hcblk⟩,hkeys⟩:=HCA.out
      have hcbp:cb≠p:=by
       rintro rfl
       have:=Hrb.out
       rw [hcblk] at this
       cases this
      have hcbQ:cb≠Q:=by
       rintro rfl
       have:=HQ.out
       rw [hcblk] at this
       cases this
      have gky:w5.cell? ⟨cb,c*4+2,none⟩=some (.int .i64 (jf t c).key):=(World.cell?_of_block (Hsh4.out.touch.block cb hcb hcbp hcbQ)).trans (hkeys c hlc)
      have gvc:w5.cell? ⟨w.heap.size,c,none⟩=some (.slice va k vc):=by
       rw [jb Hsh4.out.kb,← hVc]
       simp [hlc]
      have gfz:w5.frozen? ⟨w.heap.size,c,none⟩=false:=frozen_of_row w5 w.heap.size c _ _ Hsh4.out.kb
      obtain ⟨gb0,gb1⟩:w5.cell? ⟨bq,0,none⟩=some (.int .i64 (kG:Int))∧w5.cell? ⟨bq,1,none⟩=some (.int .i64 (E:Int)):=⟨by rw [jb Hbx4.out];rfl,by rw [jb Hbx4.out];rfl⟩
      have Hrow:=hid hcc0.row
      have HVc:=hid hVc
      have HGQ:=hid (And.intro g12 (And.intro g15 gky))
      have HS0:=hid (And.intro g17 (And.intro gvc (And.intro gb0 gb1)))
      have HFZ:=hid gfz
      clear hcc0 hVc g12 g15 gky hkeys hcblk g17 gvc gb0 gb1 gfz
      go_wp2_with fail
      all_goals
       have HV4':Hid (kn+(c+1) < M→PC≠1):=by
        intro h1 h2
        have:=HPCe.out
        omega
       by_cases hx:¬ ∃ (M1:List ModF) (z:List UInt8),ModsOk t (jh R G P k c) M1∧rk=jn t (jh R G P k c) M1++z
       ·have HN:Hid (∀ (M':List ModF) (q:List UInt8),ModsOk t (qm R n G P) M'→rest=jn t (qm R n G P) M'++q→pl≠jJ t 4 true (qm R n G P) M'):=fun M' q hM' h _=>HCNO.out k c _ rk hlt hlc HOK.out (fun M1 z h1 h2=>hx ⟨M1,z,h1,h2⟩) M' q hM' (by rw [← Hrk.out];exact h)
        have HNX:Hid (∀ (M1:List ModF) (z:List UInt8),ModsOk t (jh R G P k c) M1→rk≠jn t (jh R G P k c) M1++z):=fun M1 z h1 h2=>hx ⟨M1,z,h1,h2⟩
        clear hx
        refine wp_region_held_drew (S:=fun w'=>w'.cell? ⟨Q,17,none⟩=some (.slice (some ⟨w.heap.size,0,none⟩) n n)∧w'.cell? ⟨w.heap.size,c,none⟩=some (.slice va k vc)∧w'.cell? ⟨bq,0,none⟩=some (.int .i64 (kG:Int))∧w'.cell? ⟨bq,1,none⟩=some (.int .i64 (E:Int))) (by kernel_rfl) ?_ (fun hHeld=>?_)
        ·exact HS0.out
        refine tk 0 (.pointer (some ⟨Q,0,none⟩)) ?_
        refine tk 1 (.pointer (some ⟨Q,0,none⟩)) ?_
        refine tk 2 (.pointer (some ⟨Q,17,none⟩)) ?_
        refine tk 3 (.slice (some ⟨w.heap.size,0,none⟩) n n) ?_
        refine tk 4 (.int .i64 (c:Int)) ?_
        refine tk 5 (.pointer (some ⟨Q,0,none⟩)) ?_
        refine tk 6 (.pointer (some ⟨Q,0,none⟩)) ?_
        refine tk 7 (.pointer (some ⟨Q,17,none⟩)) ?_
        refine tk 8 (.slice (some ⟨w.heap.size,0,none⟩) n n) ?_
        refine tk 9 (.int .i64 (c:Int)) ?_
        refine tk 10 (.pointer (some ⟨w.heap.size,c,none⟩)) ?_
        refine tk 11 (.slice va k vc) ?_
        refine tk 12 (.pointer (some ⟨Q,0,none⟩)) ?_
        refine tk 13 (.pointer (some ⟨p,0,none⟩)) ?_
        refine tk 14 (.int .i64 (k:Int)) ?_
        refine tk 15 (.int .i64 (c:Int)) ?_
        refine tk 16 (.pointer (some ⟨bq,1,none⟩)) ?_
        refine tk 17 (.int .i64 (E:Int)) ?_
        refine tk 18 (.pointer (some ⟨bq,0,none⟩)) ?_
        refine tk 19 (.int .i64 (kG:Int)) ?_
        refine tk 20 (.int .i64 ((PN:Nat):Int)) ?_
        simp only [jA,jB,jC,Act.put,jD,jE,jF]
        refine rd 21 (fun K hK=>?_)
        simp only [jA,jB,jC]
        go_simp
        go_at_call 142
        refine (Hcall.out c cb rk _ hlc (show qy w5.drew p s rk from Hrd4.out) HGQ.out.2.1 HGQ.out.2.2 HGQ.out.1).mono ?_
        intro e w6 h6
        obtain ⟨rfl,hg6⟩:=Pw h6 HNX.out
        exact ⟨rfl,Hsh4.out.touch.grown (jP hg6) (fun k hk=>by cases hk;exact .inl rfl),.inl ⟨rfl,HN.out⟩⟩
       ·obtain ⟨M1,z1,hx1,hx2⟩:=Classical.not_not.1 hx
        have HXY:=hid (And.intro hx1 hx2)
        clear hx hx1 hx2
        obtain ⟨g17,gvc,gb0,gb1⟩:=HS0.out
        have gfz:=HFZ.out
        have hownR:=Hrow.out
        rw [HVc.out] at hownR
        have hq17:=World.block_lt_of_cell? w5 _ g17
        have hqbq:=World.block_lt_of_cell? w5 _ gb0
        have hKlt:=World.block_lt_of_cell? w5 _ gvc
        have hbqp:bq≠p:=by
         rintro rfl
         have:=zd Hrd4.out
         rw [Hbx4.out] at this
         cases this
        have hKp:w.heap.size≠p:=by omega
        have hz5:=Hsh4.out.touch.size
        have hbqK:bq≠w.heap.size:=by
         rintro rfl
         have:=Hsh4.out.kb
         rw [Hbx4.out] at this
         simp only [Option.some.injEq,Obj.cells.injEq] at this
         exact absurd this.2.1 (by decide)
        have HS3:=hid (And.intro g17 (And.intro gb0 gb1))
        refine wp_region_held_drew (S:=fun w'=>w'.cell? ⟨Q,17,none⟩=some (.slice (some ⟨w.heap.size,0,none⟩) n n)∧w'.cell? ⟨bq,0,none⟩=some (.int .i64 (kG:Int))∧w'.cell? ⟨bq,1,none⟩=some (.int .i64 (E:Int))) (by kernel_rfl) ?_ (fun hHeld=>?_)
        ·exact HS3.out
        refine tk 0 (.pointer (some ⟨Q,0,none⟩)) ?_
        refine tk 1 (.pointer (some ⟨Q,0,none⟩)) ?_
        refine tk 2 (.pointer (some ⟨Q,17,none⟩)) ?_
        refine tk 3 (.slice (some ⟨w.heap.size,0,none⟩) n n) ?_
        refine tk 4 (.int .i64 (c:Int)) ?_
        refine tk 5 (.pointer (some ⟨Q,0,none⟩)) ?_
        refine tk 6 (.pointer (some ⟨Q,0,none⟩)) ?_
        refine tk 7 (.pointer (some ⟨Q,17,none⟩)) ?_
        refine tk 8 (.slice (some ⟨w.heap.size,0,none⟩) n n) ?_
        refine tk 9 (.int .i64 (c:Int)) ?_
        refine tk 10 (.pointer (some ⟨w.heap.size,c,none⟩)) ?_
        refine tk 12 (.pointer (some ⟨Q,0,none⟩)) ?_
        refine tk 13 (.pointer (some ⟨p,0,none⟩)) ?_
        refine tk 14 (.int .i64 (k:Int)) ?_
        refine tk 15 (.int .i64 (c:Int)) ?_
        refine tk 16 (.pointer (some ⟨bq,1,none⟩)) ?_
        refine tk 17 (.int .i64 (E:Int)) ?_
        refine tk 18 (.pointer (some ⟨bq,0,none⟩)) ?_
        refine tk 19 (.int .i64 (kG:Int)) ?_
        refine tk 20 (.int .i64 ((PN:Nat):Int)) ?_
        simp only [jA,jB,jC,Act.put,jD,jE,jF]
        refine wpAnyH_ready (rs:=[11,21]) (by kernel_rfl) (by simp) ?_
        refine AllReadyH.cons (o:=_) rfl (fun K hK=>?_) (AllReadyH.cons (o:=_) rfl (fun K hK=>?_) AllReadyH.nil)
        case' refine_1 =>
         simp only [jA,jB,jC]
         go_simp
         try go_wp2_with fail
         refine hK.out _ _ HS3.out (fun hHeld=>?_)
         clear hK K
         try simp only [jA,jB,jC,Act.put,jD,jE,jF]
         refine rd 21 (fun K hK=>?_)
         simp only [jA,jB,jC]
         go_simp
         go_at_call 142
         refine (Hcall.out c cb rk _ hlc (show qy w5.drew p s rk from Hrd4.out) HGQ.out.2.1 HGQ.out.2.2 HGQ.out.1).mono ?_
         intro e w14 h14
         obtain ⟨mp,mm,pvv,rn,hg14,hok14,hml14,he14,hpv14,hrd14,hr14⟩:=NK h14 HXY.out.1 HXY.out.2
         rw [HPN0.out] at he14
         subst he14
         have hg14':=jP hg14
         obtain ⟨pva,pvc,rfl⟩:=jL hpv14
         have HML14:=hid hml14
         clear hml14
         have hkb14:=jk hg14' Hsh4.out.kb hKp
         have hsh14:=jk hg14' Hsh4.out.sheet (Ne.symm hpQ)
         have hbx14:=jk hg14' Hbx4.out hbqp
         have hownB:=qu hownR hg14' (zd Hrd4.out) (by decide)
         have hl14:=hg14'.size
         obtain ⟨_,_,_,_,_,k17,_⟩:=zn hsh14
         have kb0:w14.cell? ⟨bq,0,none⟩=some (.int .i64 (kG:Int)):=(by rw [jb hbx14];rfl)
         have kb1:w14.cell? ⟨bq,1,none⟩=some (.int .i64 (E:Int)):=(by rw [jb hbx14];rfl)
         have kvc:w14.cell? ⟨w.heap.size,c,none⟩=some (.slice va k vc):=(by rw [jb hkb14,← HVc.out];simp [hlc])
         have j17:=je (.cells #[.int .i64 ((PN:Nat):Int),(.slice pva mp.length pvc),strB [77],.int .i64 (k:Int),.int .i64 (c:Int),.int .i64 0,strB (jO (jf t c).key mm).1,strB (jO (jf t c).key mm).2] 157) k17
         have jb0:=je (.cells #[.int .i64 ((PN:Nat):Int),(.slice pva mp.length pvc),strB [77],.int .i64 (k:Int),.int .i64 (c:Int),.int .i64 0,strB (jO (jf t c).key mm).1,strB (jO (jf t c).key mm).2] 157) kb0
         have jb1:=je (.cells #[.int .i64 ((PN:Nat):Int),(.slice pva mp.length pvc),strB [77],.int .i64 (k:Int),.int .i64 (c:Int),.int .i64 0,strB (jO (jf t c).key mm).1,strB (jO (jf t c).key mm).2] 157) kb1
         have jvc:=je (.cells #[.int .i64 ((PN:Nat):Int),(.slice pva mp.length pvc),strB [77],.int .i64 (k:Int),.int .i64 (c:Int),.int .i64 0,strB (jO (jf t c).key mm).1,strB (jO (jf t c).key mm).2] 157) kvc
         clear h14
         try go_wp2_with fail
         refine hK.out _ _ ⟨k17,kb0,kb1⟩ (fun hHeld=>?_)
         clear hK K
         try simp only [jA,jB,jC,Act.put,jD,jE,jF]
         refine rd 22 (fun K hK=>?_)
         simp only [jA,jB,jC]
         go_simp
         try go_wp2_with fail
         refine hK.out _ _ ⟨j17,jb0,jb1⟩ (fun hHeld=>?_)
         clear hK K
         try simp only [jA,jB,jC,Act.put,jD,jE,jF]
         refine rd 23 (fun K hK=>?_)
         simp only [jA,jB,jC]
         rw [if_pos (by simp [Region.wanted])]
         refine wp_append_lies _ (.tmp 70) (.tmp 81) 154 rfl w.heap.size 157 i0 _ 8 104 Tryz.underlying154 hi hz0 hz1 hz2 rfl (by omega) _ k (xX R G (jf t c).key c Qm Pv k) (by rfl) (hownB.alloc _) ⟨w14.heap.size,0,none⟩ 1 1 [.int .i64 ((PN:Nat):Int),(.slice pva mp.length pvc),strB [77],.int .i64 (k:Int),.int .i64 (c:Int),.int .i64 0,strB (jO (jf t c).key mm).1,strB (jO (jf t c).key mm).2] (by rfl) (by rfl) (World.news_of_block (cs:=#[.int .i64 ((PN:Nat):Int),(.slice pva mp.length pvc),strB [77],.int .i64 (k:Int),.int .i64 (c:Int),.int .i64 0,strB (jO (jf t c).key mm).1,strB (jO (jf t c).key mm).2]) (t:=157) (fr:=(0,0)) (heap_alloc_new w14 _)) (by simp [Value.oneCell']) (by omega) (by unfold maxLen;omega) (by omega) (by simp;omega) _ rfl ?_
         intro gg gc w15 hown15 hgr15 hat15 hlt15
         have hkb15:=jz hgr15 (hownB.alloc _) (jo _ hkb14) (by decide)
         have hsh15:=jz hgr15 (hownB.alloc _) (jo _ hsh14) (by decide)
         have hbx15:=jz hgr15 (hownB.alloc _) (jo _ hbx14) (by decide)
         obtain ⟨_,_,_,_,_,l17,_⟩:=zn hsh15
         have lb0:w15.cell? ⟨bq,0,none⟩=some (.int .i64 (kG:Int)):=(by rw [jb hbx15];rfl)
         have lb1:w15.cell? ⟨bq,1,none⟩=some (.int .i64 (E:Int)):=(by rw [jb hbx15];rfl)
         have lvc:w15.cell? ⟨w.heap.size,c,none⟩=some (.slice va k vc):=(by rw [jb hkb15,← HVc.out];simp [hlc])
         have lfz:w15.frozen? ⟨w.heap.size,c,none⟩=false:=frozen_of_row w15 w.heap.size c _ _ hkb15
         have m17:(w15.setCell ⟨w.heap.size,c,none⟩ (.slice (some ⟨gg,0,none⟩) (k+1) gc)).cell? ⟨Q,17,none⟩=some (.slice (some ⟨w.heap.size,0,none⟩) n n):=(World.cell?_of_block (heap_setCell_other w15 ⟨w.heap.size,c,none⟩ Q _ (by simp;omega))).trans l17
         have mb0:(w15.setCell ⟨w.heap.size,c,none⟩ (.slice (some ⟨gg,0,none⟩) (k+1) gc)).cell? ⟨bq,0,none⟩=some (.int .i64 (kG:Int)):=(World.cell?_of_block (heap_setCell_other w15 ⟨w.heap.size,c,none⟩ bq _ hbqK)).trans lb0
         have mb1:(w15.setCell ⟨w.heap.size,c,none⟩ (.slice (some ⟨gg,0,none⟩) (k+1) gc)).cell? ⟨bq,1,none⟩=some (.int .i64 (E:Int)):=(World.cell?_of_block (heap_setCell_other w15 ⟨w.heap.size,c,none⟩ bq _ hbqK)).trans lb1
         try go_wp2_with fail
         refine hK.out _ _ ⟨l17,lb0,lb1⟩ (fun hHeld=>?_)
         clear hK K
         try simp only [jA,jB,jC,Act.put,jD,jE,jF]
         refine tk 24 (.pointer (some ⟨w.heap.size,c,none⟩)) ?_
         simp only [jA,jB,jC,Act.put,jD,jE,jF]
         refine rd 25 (fun K hK=>?_)
         simp only [jA,jB,jC]
         try go_simp
         refine hK.out _ _ ⟨m17,mb0,mb1⟩ (fun hHeld=>?_)
         clear hK K
         refine wpAnyH_done (by kernel_rfl) ?_ _
        case' refine_2 =>
         simp only [jA,jB,jC]
         go_simp
         go_at_call 142
         refine (Hcall.out c cb rk _ hlc (show qy w5.drew p s rk from Hrd4.out) HGQ.out.2.1 HGQ.out.2.2 HGQ.out.1).mono ?_
         intro e w14 h14
         obtain ⟨mp,mm,pvv,rn,hg14,hok14,hml14,he14,hpv14,hrd14,hr14⟩:=NK h14 HXY.out.1 HXY.out.2
         rw [HPN0.out] at he14
         subst he14
         have hg14':=jP hg14
         obtain ⟨pva,pvc,rfl⟩:=jL hpv14
         have HML14:=hid hml14
         clear hml14
         have hkb14:=jk hg14' Hsh4.out.kb hKp
         have hsh14:=jk hg14' Hsh4.out.sheet (Ne.symm hpQ)
         have hbx14:=jk hg14' Hbx4.out hbqp
         have hownB:=qu hownR hg14' (zd Hrd4.out) (by decide)
         have hl14:=hg14'.size
         obtain ⟨_,_,_,_,_,k17,_⟩:=zn hsh14
         have kb0:w14.cell? ⟨bq,0,none⟩=some (.int .i64 (kG:Int)):=(by rw [jb hbx14];rfl)
         have kb1:w14.cell? ⟨bq,1,none⟩=some (.int .i64 (E:Int)):=(by rw [jb hbx14];rfl)
         have kvc:w14.cell? ⟨w.heap.size,c,none⟩=some (.slice va k vc):=(by rw [jb hkb14,← HVc.out];simp [hlc])
         have j17:=je (.cells #[.int .i64 ((PN:Nat):Int),(.slice pva mp.length pvc),strB [77],.int .i64 (k:Int),.int .i64 (c:Int),.int .i64 0,strB (jO (jf t c).key mm).1,strB (jO (jf t c).key mm).2] 157) k17
         have jb0:=je (.cells #[.int .i64 ((PN:Nat):Int),(.slice pva mp.length pvc),strB [77],.int .i64 (k:Int),.int .i64 (c:Int),.int .i64 0,strB (jO (jf t c).key mm).1,strB (jO (jf t c).key mm).2] 157) kb0
         have jb1:=je (.cells #[.int .i64 ((PN:Nat):Int),(.slice pva mp.length pvc),strB [77],.int .i64 (k:Int),.int .i64 (c:Int),.int .i64 0,strB (jO (jf t c).key mm).1,strB (jO (jf t c).key mm).2] 157) kb1
         have jvc:=je (.cells #[.int .i64 ((PN:Nat):Int),(.slice pva mp.length pvc),strB [77],.int .i64 (k:Int),.int .i64 (c:Int),.int .i64 0,strB (jO (jf t c).key mm).1,strB (jO (jf t c).key mm).2] 157) kvc
         clear h14
         try go_wp2_with fail
         refine hK.out _ _ ⟨k17,kb0,kb1⟩ (fun hHeld=>?_)
         clear hK K
         try simp only [jA,jB,jC,Act.put,jD,jE,jF]
         refine wpAnyH_ready (rs:=[11,22]) (by kernel_rfl) (by simp) ?_
         refine AllReadyH.cons (o:=_) rfl (fun K hK=>?_) (AllReadyH.cons (o:=_) rfl (fun K hK=>?_) AllReadyH.nil)
         case' refine_1 =>
          simp only [jA,jB,jC]
          go_simp
          try go_wp2_with fail
          refine hK.out _ _ ⟨k17,kb0,kb1⟩ (fun hHeld=>?_)
          clear hK K
          try simp only [jA,jB,jC,Act.put,jD,jE,jF]
          refine rd 22 (fun K hK=>?_)
          simp only [jA,jB,jC]
          go_simp
          try go_wp2_with fail
          refine hK.out _ _ ⟨j17,jb0,jb1⟩ (fun hHeld=>?_)
          clear hK K
          try simp only [jA,jB,jC,Act.put,jD,jE,jF]
          refine rd 23 (fun K hK=>?_)
          simp only [jA,jB,jC]
          rw [if_pos (by simp [Region.wanted])]
          refine wp_append_lies _ (.tmp 70) (.tmp 81) 154 rfl w.heap.size 157 i0 _ 8 104 Tryz.underlying154 hi hz0 hz1 hz2 rfl (by omega) _ k (xX R G (jf t c).key c Qm Pv k) (by rfl) (hownB.alloc _) ⟨w14.heap.size,0,none⟩ 1 1 [.int .i64 ((PN:Nat):Int),(.slice pva mp.length pvc),strB [77],.int .i64 (k:Int),.int .i64 (c:Int),.int .i64 0,strB (jO (jf t c).key mm).1,strB (jO (jf t c).key mm).2] (by rfl) (by rfl) (World.news_of_block (cs:=#[.int .i64 ((PN:Nat):Int),(.slice pva mp.length pvc),strB [77],.int .i64 (k:Int),.int .i64 (c:Int),.int .i64 0,strB (jO (jf t c).key mm).1,strB (jO (jf t c).key mm).2]) (t:=157) (fr:=(0,0)) (heap_alloc_new w14 _)) (by simp [Value.oneCell']) (by omega) (by unfold maxLen;omega) (by omega) (by simp;omega) _ rfl ?_
          intro gg gc w15 hown15 hgr15 hat15 hlt15
          have hkb15:=jz hgr15 (hownB.alloc _) (jo _ hkb14) (by decide)
          have hsh15:=jz hgr15 (hownB.alloc _) (jo _ hsh14) (by decide)
          have hbx15:=jz hgr15 (hownB.alloc _) (jo _ hbx14) (by decide)
          obtain ⟨_,_,_,_,_,l17,_⟩:=zn hsh15
          have lb0:w15.cell? ⟨bq,0,none⟩=some (.int .i64 (kG:Int)):=(by rw [jb hbx15];rfl)
          have lb1:w15.cell? ⟨bq,1,none⟩=some (.int .i64 (E:Int)):=(by rw [jb hbx15];rfl)
          have lvc:w15.cell? ⟨w.heap.size,c,none⟩=some (.slice va k vc):=(by rw [jb hkb15,← HVc.out];simp [hlc])
          have lfz:w15.frozen? ⟨w.heap.size,c,none⟩=false:=frozen_of_row w15 w.heap.size c _ _ hkb15
          have m17:(w15.setCell ⟨w.heap.size,c,none⟩ (.slice (some ⟨gg,0,none⟩) (k+1) gc)).cell? ⟨Q,17,none⟩=some (.slice (some ⟨w.heap.size,0,none⟩) n n):=(World.cell?_of_block (heap_setCell_other w15 ⟨w.heap.size,c,none⟩ Q _ (by simp;omega))).trans l17
          have mb0:(w15.setCell ⟨w.heap.size,c,none⟩ (.slice (some ⟨gg,0,none⟩) (k+1) gc)).cell? ⟨bq,0,none⟩=some (.int .i64 (kG:Int)):=(World.cell?_of_block (heap_setCell_other w15 ⟨w.heap.size,c,none⟩ bq _ hbqK)).trans lb0
          have mb1:(w15.setCell ⟨w.heap.size,c,none⟩ (.slice (some ⟨gg,0,none⟩) (k+1) gc)).cell? ⟨bq,1,none⟩=some (.int .i64 (E:Int)):=(World.cell?_of_block (heap_setCell_other w15 ⟨w.heap.size,c,none⟩ bq _ hbqK)).trans lb1
          try go_wp2_with fail
          refine hK.out _ _ ⟨l17,lb0,lb1⟩ (fun hHeld=>?_)
          clear hK K
          try simp only [jA,jB,jC,Act.put,jD,jE,jF]
          refine tk 24 (.pointer (some ⟨w.heap.size,c,none⟩)) ?_
          simp only [jA,jB,jC,Act.put,jD,jE,jF]
          refine rd 25 (fun K hK=>?_)
          simp only [jA,jB,jC]
          try go_simp
          refine hK.out _ _ ⟨m17,mb0,mb1⟩ (fun hHeld=>?_)
          clear hK K
          refine wpAnyH_done (by kernel_rfl) ?_ _
         case' refine_2 =>
          simp only [jA,jB,jC]
          go_simp
          try go_wp2_with fail
          refine hK.out _ _ ⟨j17,jb0,jb1⟩ (fun hHeld=>?_)
          clear hK K
          try simp only [jA,jB,jC,Act.put,jD,jE,jF]
          refine rd 11 (fun K hK=>?_)
          simp only [jA,jB,jC]
          go_simp
          try go_wp2_with fail
          refine hK.out _ _ ⟨j17,jb0,jb1⟩ (fun hHeld=>?_)
          clear hK K
          try simp only [jA,jB,jC,Act.put,jD,jE,jF]
          refine rd 23 (fun K hK=>?_)
          simp only [jA,jB,jC]
          rw [if_pos (by simp [Region.wanted])]
          refine wp_append_lies _ (.tmp 70) (.tmp 81) 154 rfl w.heap.size 157 i0 _ 8 104 Tryz.underlying154 hi hz0 hz1 hz2 rfl (by omega) _ k (xX R G (jf t c).key c Qm Pv k) (by rfl) (hownB.alloc _) ⟨w14.heap.size,0,none⟩ 1 1 [.int .i64 ((PN:Nat):Int),(.slice pva mp.length pvc),strB [77],.int .i64 (k:Int),.int .i64 (c:Int),.int .i64 0,strB (jO (jf t c).key mm).1,strB (jO (jf t c).key mm).2] (by rfl) (by rfl) (World.news_of_block (cs:=#[.int .i64 ((PN:Nat):Int),(.slice pva mp.length pvc),strB [77],.int .i64 (k:Int),.int .i64 (c:Int),.int .i64 0,strB (jO (jf t c).key mm).1,strB (jO (jf t c).key mm).2]) (t:=157) (fr:=(0,0)) (heap_alloc_new w14 _)) (by simp [Value.oneCell']) (by omega) (by unfold maxLen;omega) (by omega) (by simp;omega) _ rfl ?_
          intro gg gc w15 hown15 hgr15 hat15 hlt15
          have hkb15:=jz hgr15 (hownB.alloc _) (jo _ hkb14) (by decide)
          have hsh15:=jz hgr15 (hownB.alloc _) (jo _ hsh14) (by decide)
          have hbx15:=jz hgr15 (hownB.alloc _) (jo _ hbx14) (by decide)
          obtain ⟨_,_,_,_,_,l17,_⟩:=zn hsh15
          have lb0:w15.cell? ⟨bq,0,none⟩=some (.int .i64 (kG:Int)):=(by rw [jb hbx15];rfl)
          have lb1:w15.cell? ⟨bq,1,none⟩=some (.int .i64 (E:Int)):=(by rw [jb hbx15];rfl)
          have lvc:w15.cell? ⟨w.heap.size,c,none⟩=some (.slice va k vc):=(by rw [jb hkb15,← HVc.out];simp [hlc])
          have lfz:w15.frozen? ⟨w.heap.size,c,none⟩=false:=frozen_of_row w15 w.heap.size c _ _ hkb15
          have m17:(w15.setCell ⟨w.heap.size,c,none⟩ (.slice (some ⟨gg,0,none⟩) (k+1) gc)).cell? ⟨Q,17,none⟩=some (.slice (some ⟨w.heap.size,0,none⟩) n n):=(World.cell?_of_block (heap_setCell_other w15 ⟨w.heap.size,c,none⟩ Q _ (by simp;omega))).trans l17
          have mb0:(w15.setCell ⟨w.heap.size,c,none⟩ (.slice (some ⟨gg,0,none⟩) (k+1) gc)).cell? ⟨bq,0,none⟩=some (.int .i64 (kG:Int)):=(World.cell?_of_block (heap_setCell_other w15 ⟨w.heap.size,c,none⟩ bq _ hbqK)).trans lb0
          have mb1:(w15.setCell ⟨w.heap.size,c,none⟩ (.slice (some ⟨gg,0,none⟩) (k+1) gc)).cell? ⟨bq,1,none⟩=some (.int .i64 (E:Int)):=(World.cell?_of_block (heap_setCell_other w15 ⟨w.heap.size,c,none⟩ bq _ hbqK)).trans lb1
          try go_wp2_with fail
          refine hK.out _ _ ⟨l17,lb0,lb1⟩ (fun hHeld=>?_)
          clear hK K
          try simp only [jA,jB,jC,Act.put,jD,jE,jF]
          refine tk 24 (.pointer (some ⟨w.heap.size,c,none⟩)) ?_
          simp only [jA,jB,jC,Act.put,jD,jE,jF]
          refine rd 25 (fun K hK=>?_)
          simp only [jA,jB,jC]
          try go_simp
          refine hK.out _ _ ⟨m17,mb0,mb1⟩ (fun hHeld=>?_)
          clear hK K
          refine wpAnyH_done (by kernel_rfl) ?_ _
        all_goals
         have hstep:=Hsh4.out.step (o:=.cells #[.int .i64 ((PN:Nat):Int),(.slice pva mp.length pvc),strB [77],.int .i64 (k:Int),.int .i64 (c:Int),.int .i64 0,strB (jO (jf t c).key mm).1,strB (jO (jf t c).key mm).2] 157) (gg:=gg) (gc:=gc) (w2:=w15) hlc Hrd4.out hplt hQlt hpQ hg14' hpv14 hok14 HML14.out (by rw [HPN0.out];exact hown15) (by rw [HVc.out];exact hgr15) (by rw [HVc.out];exact hat15)
         have HSTEP:=hid hstep
         have hsp14:=(qu Hsp4.out hg14' (zd Hrd4.out) (by decide)).alloc (.cells #[.int .i64 ((PN:Nat):Int),(.slice pva mp.length pvc),strB [77],.int .i64 (k:Int),.int .i64 (c:Int),.int .i64 0,strB (jO (jf t c).key mm).1,strB (jO (jf t c).key mm).2] 157)
         have HSPE:=hid (qu (hsp14.kept hgr15 (zo hsp14 (hownB.alloc _) (by decide))) (qv w15 w.heap.size c (.slice (some ⟨gg,0,none⟩) (k+1) gc)) hkb15 (by decide))
         have HBXE:=hid (jk (qv w15 w.heap.size c (.slice (some ⟨gg,0,none⟩) (k+1) gc)) hbx15 hbqK)
         have hr15:=jz hgr15 (hownB.alloc _) (jo _ (zd hrd14)) (by decide)
         have HRDE:=hid (zF (Zy hrd14 hr15) (qv w15 w.heap.size c (.slice (some ⟨gg,0,none⟩) (k+1) gc)) (Ne.symm hKp))
         have HOK14:=hid hok14
         have HR14:=hid hr14
         clear hstep hsp14 hr15 hok14 hr14 hpv14 hrd14 hg14 hg14' hkb14 hsh14 hbx14 hownB k17 kb0 kb1 kvc j17 jb0 jb1 jvc hown15 hgr15 hat15 hlt15 hkb15 hsh15 hbx15 l17 lb0 lb1 lvc lfz m17 mb0 mb1 g17 gvc gb0 gb1 gfz hownR
         generalize w15.setCell _ _=wE at *
         go_wp2
         go_roundw
         case rel =>
          refine ⟨c+1,_,_,_,_,rn,by omega,by go_num,?_,HSTEP.out,HRDE.out,?_,?_,HSPE.out,HBXE.out⟩
          ·intro h1
           first
           | exact HPSN.out.symm
           | (exfalso;exact HV4'.out h1 (by assumption))
          ·rw [CV,LZ,zV _ _ _ _ (qV HOK.out),Hrk.out,HR14.out]
           simp only [List.append_assoc]
          ·rw [CV,LZ,RM HOK.out (qV HOK14.out),HPLX.out,Hpk.out,HAB.out]
         case measure=>simp [intOf];omega
    ·have hce:c=n:=by omega
     subst hce
     have hcii:¬ (c:Int) < (c:Int):=by omega
     have Hv5:=hid hv5
     clear hv5
     go_wp2
     go_roundw
     case rel =>
      refine ⟨k+1,V,Qp,Qm,Pv,rk,by omega,by go_num,?_,Hsh.out.next,Hrd.out,by rw [← EB,← CY];exact Hrk.out,?_,Hsp.out⟩
      ·intro h1
       rw [← HMK.out] at h1 ⊢
       exact Hv5.out h1
      ·rw [← EB,← CY,← HMK.out]
       exact Hpk.out
     case measure=>simp [intOf];omega
  ·have hke:k=CN:=by omega
   have hkii:¬ (k:Int) < (CN:Int):=by omega
   have HOK:Hid (ModsOk t (LS R G P n k 0) (MS Qp Qm n k 0)):=Hd (Nat.zero_le _) (fun i hi g hg=>((Hsh.out.cols i hi).ok g hg).1)
   have HF:Hid (ShAt t R G P n Q p w.heap.size (sheetH f0 f1 f2 f3 f4 f5 f6 f7 f8 f9 R G P F b (.slice ca n cc) (ps 0)) w wr (jY R G) 0 V Qp Qm Pv∧ModsOk t (qm R n G P) (xl (fun g c=>Qp g c++[Qm g c]) n (jY R G))∧rest=jn t (qm R n G P) (xl (fun g c=>Qp g c++[Qm g c]) n (jY R G))++rk∧pl=jJ t 4 true (qm R n G P) (xl (fun g c=>Qp g c++[Qm g c]) n (jY R G))):=by
    have e1:LS R G P n k 0=qm R n G P:=by rw [hke];exact HALL.out
    have e2:MS Qp Qm n k 0=xl (fun g c=>Qp g c++[Qm g c]) n (jY R G):=by rw [Fz,hke,HCN.out]
    have h1:=HOK.out
    have h2:=Hrk.out
    have h3:=Hpk.out
    rw [e1,e2] at h1 h2 h3
    refine ⟨by rw [HCN.out,← hke];exact Hsh.out,h1,h2,?_⟩
    rw [List.take_of_length_le (by rw [HpM.out,HM.out,hke];exact Nat.le_refl _)] at h3
    exact h3
   clear hke
   go_wp2
   go_end0
   exact ⟨HF.out.1.touch,.inr ⟨_,V,Qp,Qm,Pv,rk,rfl,HF.out.1,Hrd.out,HF.out.2.1,HF.out.2.2.1,HF.out.2.2.2⟩⟩
end
section
open Go.RowKit
theorem Xo {t:List ColB}:∀ (L:List SpotB) (M:List ModF) (n:Nat) (b:Bool),∀ x ∈ jJ t n b L M,x≤n+(jn t L M).length:=by
 intro L
 induction L with
 | nil=>intro M n b x hx;simp [jJ] at hx
 | cons s L ih =>
  intro M n b x hx
  cases M with
  | nil=>simp [jJ] at hx
  | cons m M =>
   simp only [jJ,List.mem_append] at hx
   simp only [jn,List.length_append]
   rcases hx with hx|hx
   ·split at hx
    ·simp at hx;omega
    ·simp at hx
   ·have:=ih M _ _ x hx
    omega
theorem Ct {foot:Nat} {parts footer:List UInt8} {S:SheetF} (hl:4+parts.length≤65000) (h:SheetOk foot parts footer S):FootOk foot S.rows S.plan S.cols (jJ S.cols 4 true (qr S) S.mods) :=
 ⟨h.rows,h.plan,h.told,h.foot,h.heads,h.bare,JW h,fun x hx=>by
  have:=Xo _ _ _ _ x hx
  rw [← h.parts] at this
  omega⟩
structure SheetIn (S:SheetF) (f:FormF) (base:Nat) (w:World) (v:Value) (cv pv:Value) (Kb:Nat) (V:Nat→Value) (Qp:Nat→Nat→List ModF) (Qm:Nat→Nat→ModF) (Pv:Nat→Nat→Value):Prop where
 val:v=.agg #[.int .i64 (f.foot:Int),.bool f.told,strB f.footer,strB [if f.told=true then 83 else 70],.int .i64 0,.int .i64 0,.int .i64 0,strB f.nonce,strB f.body,strB (qg f),.int .i64 (S.rows:Int),.int .i64 S.plan.group,.int .i64 S.plan.page,.int .i64 S.plan.foot,.bool false,cv,pv,.slice (some ⟨Kb,0,none⟩) S.cols.length S.cols.length]
 cols:w.ownsRow base 31 4 cv S.cols.length (Zp S.cols)
 pvs:∃ a m k,pv=.slice a m k
 small:∀ c ∈ S.cols,SmallC c
 new:base≤Kb
 kb:w.heap[Kb]?=some (.cells ((List.range S.cols.length).map V).toArray 154 (0,0))
 chunks:∀ i,i < S.cols.length→ColIn S.cols S.rows S.plan.group.toNat S.plan.page.toNat base w i (jY S.rows S.plan.group.toNat) (V i) Qp Qm Pv
 mods:S.mods=xl (fun g c=>Qp g c++[Qm g c]) S.cols.length (jY S.rows S.plan.group.toNat)
theorem ColIn.lower {t:List ColB} {R G P base b:Nat} {w:World} {c k:Nat} {v:Value} {Qp:Nat→Nat→List ModF} {Qm:Nat→Nat→ModF} {Pv:Nat→Nat→Value} (h:ColIn t R G P base w c k v Qp Qm Pv) (hb:b≤base):ColIn t R G P b w c k v Qp Qm Pv :=
 ⟨jS h.row hb,fun g hg=>jS (h.pages g hg) hb,h.ok⟩
theorem SheetIn.grown {S:SheetF} {f:FormF} {base q:Nat} {w w':World} {v cv pv:Value} {Kb:Nat} {V:Nat→Value} {Qp:Nat→Nat→List ModF} {Qm:Nat→Nat→ModF} {Pv:Nat→Nat→Value} {C:Array Value} {T:TypeId} (h:SheetIn S f base w v cv pv Kb V Qp Qm Pv) (hg:w.grownBy w' (some q)) (hq:w.heap[q]?=some (.cells C T (0,0))) (h1:T≠31) (h2:T≠154) (h3:T≠157) (h4:T≠75):SheetIn S f base w' v cv pv Kb V Qp Qm Pv:=by
 refine ⟨h.val,qu h.cols hg hq h1,h.pvs,h.small,h.new,jk hg h.kb ?_,fun i hi=>(h.chunks i hi).keep (fun n xs hu=>qu hu hg hq h3) (fun u n xs hu=>qu hu hg hq h4),h.mods⟩
 rintro rfl
 have:=h.kb
 rw [hq] at this
 simp only [Option.some.injEq,Obj.cells.injEq] at this
 exact h2 this.2.1
theorem SheetIn.later {S:SheetF} {f:FormF} {base:Nat} {w w':World} {v cv pv:Value} {Kb:Nat} {V:Nat→Value} {Qp:Nat→Nat→List ModF} {Qm:Nat→Nat→ModF} {Pv:Nat→Nat→Value} (h:SheetIn S f base w v cv pv Kb V Qp Qm Pv) (hb:Below w.heap.size w w'):SheetIn S f base w' v cv pv Kb V Qp Qm Pv :=
 ⟨h.val,jN h.cols hb,h.pvs,h.small,h.new,jd hb h.kb,fun i hi=>(h.chunks i hi).keep (fun n xs hu=>jN hu hb) (fun u n xs hu=>jN hu hb),h.mods⟩
theorem SheetIn.lower {S:SheetF} {f:FormF} {base b:Nat} {w:World} {v cv pv:Value} {Kb:Nat} {V:Nat→Value} {Qp:Nat→Nat→List ModF} {Qm:Nat→Nat→ModF} {Pv:Nat→Nat→Value} (h:SheetIn S f base w v cv pv Kb V Qp Qm Pv) (hb:b≤base):SheetIn S f b w v cv pv Kb V Qp Qm Pv :=
 ⟨h.val,jS h.cols hb,h.pvs,h.small,Nat.le_trans hb h.new,h.kb,fun i hi=>(h.chunks i hi).lower hb,h.mods⟩
def qR (S:SheetF) (f:FormF) (cv pv:Value) (Kb:Nat):Array Value:=#[.int .i64 (f.foot:Int),.bool f.told,strB f.footer,strB [if f.told=true then 83 else 70],.int .i64 0,.int .i64 0,.int .i64 0,strB f.nonce,strB f.body,strB (qg f),.int .i64 (S.rows:Int),.int .i64 S.plan.group,.int .i64 S.plan.page,.int .i64 S.plan.foot,.bool false,cv,pv,.slice (some ⟨Kb,0,none⟩) S.cols.length S.cols.length]
theorem SheetIn.one {S:SheetF} {f:FormF} {base:Nat} {w:World} {v cv pv:Value} {Kb:Nat} {V:Nat→Value} {Qp:Nat→Nat→List ModF} {Qm:Nat→Nat→ModF} {Pv:Nat→Nat→Value} (h:SheetIn S f base w v cv pv Kb V Qp Qm Pv):v=.agg (qR S f cv pv Kb)∧(qR S f cv pv Kb).size=18∧(qR S f cv pv Kb).all (·.oneCell')=true:=by
 refine ⟨h.val,rfl,?_⟩
 obtain ⟨a,m,k,rfl⟩:=h.pvs
 obtain ⟨ca,cc,rfl⟩:=jL h.cols
 simp [qR,Value.oneCell']
def Sy (f:FormF) (footer:List UInt8) (w:World) (e:Ending) (w':World):Prop :=
 Below w.heap.size w w'∧((e=gaveUp∧zh f.foot f.parts footer=none) ∨
  ∃ S v cv pv Kb V Qp Qm Pv,zh f.foot f.parts footer=some S∧SheetOk f.foot f.parts footer S∧e=.returned v∧SheetIn S f w.heap.size w' v cv pv Kb V Qp Qm Pv)
theorem Rm {text:List UInt8} {foot:Nat} {w:World} {e:Ending} {w':World} (h:Im text foot w e w') (hn:∀ R p t pl,FootOk foot R p t pl→text≠qn R p t pl):e=gaveUp∧Below w.heap.size w w':=by
 obtain ⟨hb,⟨he,_⟩|⟨R,p,t,pl,cv,pv,hok,ht,_⟩⟩:=h
 ·exact ⟨he,hb⟩
 ·exact absurd ht (hn R p t pl hok)
theorem GK {text:List UInt8} {foot:Nat} {w:World} {e:Ending} {w':World} {R:Nat} {p:PlanB} {t:List ColB} {pl:List Nat} (h:Im text foot w e w') (h1:FootOk foot R p t pl) (h2:text=qn R p t pl) :
  ∃ R p t pl cv pv,Below w.heap.size w w'∧FootOk foot R p t pl∧text=qn R p t pl∧(∀ c ∈ t,SmallC c)∧e=.returned (footV R p cv pv)∧w'.ownsRow w.heap.size 31 4 cv t.length (Zp t)∧w'.ownsRow w.heap.size 3 1 pv pl.length (xJ pl):=by
 obtain ⟨hb,⟨he,hno⟩|⟨R',p',t',pl',cv,pv,hok,ht,hsm,he,hc,hp⟩⟩:=h
 ·exact absurd h2 (hno R p t pl h1)
 ·exact ⟨R',p',t',pl',cv,pv,hb,hok,ht,hsm,he,hc,hp⟩
theorem Ak {foot R:Nat} {p:PlanB} {t:List ColB} {pl:List Nat} (h:FootOk foot R p t pl):∃ G P:Nat,p=⟨(G:Int),(P:Int),(foot:Int),false⟩∧1≤G∧G≤60∧1≤P∧P≤60:=by
 have h1:=h.plan
 simp only [qM,Bool.and_eq_true,decide_eq_true_eq] at h1
 refine ⟨p.group.toNat,p.page.toNat,?_,by omega,by omega,by omega,by omega⟩
 have h2:=h.foot
 have h3:=h.told
 cases p
 simp only [PlanB.mk.injEq] at *
 exact ⟨by omega,by omega,h2,h3⟩
theorem Zf (f:FormF):(qg f).drop 4=f.parts∧4≤(qg f).length∧(qg f).length=4+f.parts.length:=by
 have:(QG f.told f.foot).length=4:=rfl
 have h2:(qg f).length=4+f.parts.length:=by unfold qg;rw [List.length_append,this]
 exact ⟨by unfold qg;rw [← this,List.drop_left],by omega,h2⟩
theorem Mf {foot R:Nat} {G P:Nat} {t:List ColB} {pl:List Nat} {parts footer:List UInt8} {S:SheetF} (hF:FootOk foot R ⟨(G:Int),(P:Int),(foot:Int),false⟩ t pl) (hsm:∀ c ∈ t,SmallC c) (htx:footer=qn R ⟨(G:Int),(P:Int),(foot:Int),false⟩ t pl) (hS:SheetOk foot parts footer S) :
  S.rows=R∧S.plan=⟨(G:Int),(P:Int),(foot:Int),false⟩∧S.cols=t∧qr S=qm R t.length G P∧jJ t 4 true (qm R t.length G P) S.mods=pl∧ModsOk t (qm R t.length G P) S.mods∧parts=jn t (qm R t.length G P) S.mods:=by
 obtain ⟨e1,e2,e3,e4,e5,e6⟩:=Kd (JW hS) hF.len (hS.footer.symm.trans htx)
 have hp:=CR hS.plan hF.plan (hS.told.trans rfl) e2 e3 e4
 have hc:S.cols=t:=YY (Qw hS.heads hS.bare) hsm e5
 have hs:qr S=qm R t.length G P:=by unfold qr;rw [e1,hp,hc];rfl
 refine ⟨e1,hp,hc,hs,?_,?_,?_⟩
 ·rw [← hs,← hc];exact e6
 ·have:=hS.mods;rw [hs,hc] at this;exact this
 ·have:=hS.parts;rw [hs,hc] at this;exact this
theorem jy (w:World) (g:Nat) (cs:Array Value):w.grownBy (w.setRow g cs) (some g) :=
 ⟨rfl,rfl,rfl,by simp,fun k _ hk=>setRow_other w g k cs (fun e=>hk (by rw [e]))⟩
theorem TZ (f:FormF) (footer:List UInt8) (w:World) (hs:footer.length≤maxLen) (hl:(qg f).length≤65000) :
  Calls Tryz.prog 108 #[formV f,strB footer] w (Sy f footer w):=by
 have Hs:=hid hs
 have H100:Hid ((qg f).length≤maxLen):=Nat.le_trans hl (by decide)
 have hl4:4+f.parts.length≤65000:=by
  have:(qg f).length=4+f.parts.length:=by simp [qg,QG];omega
  omega
 clear hs
 generalize hsb:(if f.told=true then (83:UInt8) else 70)=sb at *
 have Hsb:=hid hsb
 have HFV:Hid (formV f=.agg #[.int .i64 (f.foot:Int),.bool f.told,strB f.footer,strB [sb],.int .i64 0,.int .i64 0,.int .i64 0,strB f.nonce,strB f.body,strB (qg f)]):=by show _=_;rw [formV,hsb]
 clear hsb
 have hfv:=HFV.out
 rw [hfv]
 clear hfv
 obtain ⟨hb0,hl0,hm0,ho0⟩:=JY w #[.int .i64 (f.foot:Int),.bool f.told,strB f.footer,strB [sb],.int .i64 0,.int .i64 0,.int .i64 0,strB f.nonce,strB f.body,strB (qg f)] 77 #[.int .i64 0,.bool false,Value.string { data:=#[] },Value.string { data:=#[] },.int .i64 0,.int .i64 0,.int .i64 0,Value.string { data:=#[] },Value.string { data:=#[] },Value.string { data:=#[] },.int .i64 0,.int .i64 0,.int .i64 0,.int .i64 0,.bool false,.slice none 0 0,.slice none 0 0,.slice none 0 0] 82
 go_enter Tryz.func108,Tryz.ntmps108
 go_wp2_with fail
 generalize (w.alloc _).alloc _=W0 at *
 have HB0:=hid hb0
 have Hm0:=hid hm0
 have Ho0:=hid ho0
 have HC0:=hid (xE hm0).1
 clear hb0 hm0 ho0
 by_cases hx:¬ ∃ R p t pl,FootOk f.foot R p t pl∧footer=qn R p t pl
 ·have HN:Hid (zh f.foot f.parts footer=none):=XO (fun S hS=>hx ⟨_,_,_,_,Ct hl4 hS,hS.footer⟩)
  have HNX:Hid (∀ R p t pl,FootOk f.foot R p t pl→footer≠qn R p t pl):=fun R p t pl h1 h2=>hx ⟨R,p,t,pl,h1,h2⟩
  clear hx
  refine wp_region_held_drew (S:=fun w'=>w'.cell? ⟨w.heap.size,0,none⟩=some (.int .i64 (f.foot:Int))∧w'.cell? ⟨w.heap.size,1,none⟩=some (.bool f.told)∧w'.cell? ⟨w.heap.size,2,none⟩=some (strB f.footer)∧w'.cell? ⟨w.heap.size,3,none⟩=some (strB [sb])∧w'.cell? ⟨w.heap.size,4,none⟩=some (.int .i64 0)∧w'.cell? ⟨w.heap.size,5,none⟩=some (.int .i64 0)∧w'.cell? ⟨w.heap.size,6,none⟩=some (.int .i64 0)∧w'.cell? ⟨w.heap.size,7,none⟩=some (strB f.nonce)∧w'.cell? ⟨w.heap.size,8,none⟩=some (strB f.body)∧w'.cell? ⟨w.heap.size,9,none⟩=some (strB (qg f))) (by kernel_rfl) ?_ (fun hHeld=>?_)
  ·exact HC0.out
  refine tk 0 (.agg #[.int .i64 (f.foot:Int),.bool f.told,strB f.footer,strB [sb],.int .i64 0,.int .i64 0,.int .i64 0,strB f.nonce,strB f.body,strB (qg f)]) ?_
  refine tk 1 (strB footer) ?_
  refine tk 2 (.pointer (some ⟨w.heap.size,0,none⟩)) ?_
  refine tk 3 (.int .i64 (f.foot:Int)) ?_
  simp only [jA,jB,jC,Act.put,jD,jE,jF]
  refine wpAnyH_ready (rs:=[4,6]) (by kernel_rfl) (by simp) ?_
  refine AllReadyH.cons (o:=_) rfl (fun K hK=>?_) (AllReadyH.cons (o:=_) rfl (fun K hK=>?_) AllReadyH.nil)
  ·simp only [jA,jB,jC]
   go_simp
   go_at_call 126
   refine (Qy footer f.foot _ Hs.out).mono ?_
   intro e w1 h1
   obtain ⟨rfl,hb1⟩:=Rm h1 HNX.out
   exact ⟨rfl,HB0.out.trans (jl (hb1.mono HB0.out.size)),.inl ⟨rfl,HN.out⟩⟩
  ·simp only [jA,jB,jC]
   go_simp
   try go_wp2_with fail
   have hbA:=(Below.refl W0.drew.heap.size W0.drew).alloc (Nat.le_refl _) (.cells #[.int .i64 0,.bool false,Value.string { data:=#[] },Value.string { data:=#[] },.int .i64 0,.int .i64 0,.int .i64 0,Value.string { data:=#[] },Value.string { data:=#[] },Value.string { data:=#[] },.int .i64 0,.int .i64 0,.int .i64 0,.int .i64 0,.bool false,.slice none 0 0,.slice none 0 0,.slice none 0 0] 82)
   have HCA:=hid (xE (jd (jl hbA) Hm0.out)).1
   refine hK.out _ _ HCA.out (fun hHeld=>?_)
   clear hK K
   try simp only [jA,jB,jC,Act.put,jD,jE,jF]
   refine rd 4 (fun K hK=>?_)
   simp only [jA,jB,jC]
   go_simp
   go_at_call 126
   refine (Qy footer f.foot _ Hs.out).mono ?_
   intro e w1 h1
   obtain ⟨rfl,hb1⟩:=Rm h1 HNX.out
   exact ⟨rfl,HB0.out.trans ((jl hbA).mono HB0.out.size |>.trans (hb1.mono (Nat.le_trans HB0.out.size (by simp)))),.inl ⟨rfl,HN.out⟩⟩
 ·obtain ⟨R,p0,t,pl,hF1,hF2⟩:=Classical.not_not.1 hx
  have HF:=hid (And.intro hF1 hF2)
  clear hx hF1 hF2
  obtain ⟨x0,x1,x2,x3,x4,x5,x6,x7,x8,x9⟩:=HC0.out
  have hsz0:=HB0.out.size
  have HR0:=hid Ho0.out
  refine wp_region_held_drew (S:=fun w'=>w'.cell? ⟨w.heap.size,0,none⟩=some (.int .i64 (f.foot:Int))∧w'.cell? ⟨w.heap.size,1,none⟩=some (.bool f.told)∧w'.cell? ⟨w.heap.size,2,none⟩=some (strB f.footer)∧w'.cell? ⟨w.heap.size,3,none⟩=some (strB [sb])∧w'.cell? ⟨w.heap.size,4,none⟩=some (.int .i64 0)∧w'.cell? ⟨w.heap.size,5,none⟩=some (.int .i64 0)∧w'.cell? ⟨w.heap.size,6,none⟩=some (.int .i64 0)∧w'.cell? ⟨w.heap.size,7,none⟩=some (strB f.nonce)∧w'.cell? ⟨w.heap.size,8,none⟩=some (strB f.body)∧w'.cell? ⟨w.heap.size,9,none⟩=some (strB (qg f))) (by kernel_rfl) ?_ (fun hHeld=>?_)
  ·exact HC0.out
  refine tk 0 (.agg #[.int .i64 (f.foot:Int),.bool f.told,strB f.footer,strB [sb],.int .i64 0,.int .i64 0,.int .i64 0,strB f.nonce,strB f.body,strB (qg f)]) ?_
  refine tk 1 (strB footer) ?_
  refine tk 2 (.pointer (some ⟨w.heap.size,0,none⟩)) ?_
  refine tk 3 (.int .i64 (f.foot:Int)) ?_
  simp only [jA,jB,jC,Act.put,jD,jE,jF]
  refine wpAnyH_ready (rs:=[4,6]) (by kernel_rfl) (by simp) ?_
  refine AllReadyH.cons (o:=_) rfl (fun K hK=>?_) (AllReadyH.cons (o:=_) rfl (fun K hK=>?_) AllReadyH.nil)
  case' refine_1 =>
   simp only [jA,jB,jC]
   go_simp
   go_at_call 126
   refine (Qy footer f.foot _ Hs.out).mono ?_
   intro e w1 h1
   obtain ⟨R1,p1,t1,pl1,cv,pv,hb1,hok1,htx1,hsm1,he1,hcv1,hpv1⟩:=GK h1 HF.out.1 HF.out.2
   obtain ⟨ca,cc,rfl⟩:=jL hcv1
   obtain ⟨pa,pc,rfl⟩:=jL hpv1
   obtain ⟨G1,P1,rfl,hG1,hG6,hP1,hP6⟩:=Ak hok1
   subst he1
   have hb1':=jl hb1
   have HD1:=hid (xE (jd hb1' Hm0.out)).1
   have Hm1:=hid (jd hb1' Hm0.out)
   have Hr1:=hid (jd hb1' Ho0.out)
   have HB1:=hid (HB0.out.trans (hb1'.mono HB0.out.size))
   have HK1:=hid (And.intro hok1 (And.intro htx1 hsm1))
   have Hc1:=hid (jS hcv1 (show w.heap.size≤W0.drew.heap.size from HB0.out.size))
   have Hp1:=hid (jS hpv1 (show w.heap.size≤W0.drew.heap.size from HB0.out.size))
   have hsz1:=hb1'.size
   clear hb1 hb1' h1 hok1 htx1 hsm1 hcv1 hpv1
   try go_wp2_with fail
   refine hK.out _ _ HD1.out (fun hHeld=>?_)
   clear hK K
   try simp only [jA,jB,jC,Act.put,jD,jE,jF]
   refine tk 5 (.agg #[.int .i64 (f.foot:Int),.bool f.told,strB f.footer,strB [sb],.int .i64 0,.int .i64 0,.int .i64 0,strB f.nonce,strB f.body,strB (qg f),.int .i64 (R1:Int),.int .i64 (G1:Int),.int .i64 (P1:Int),.int .i64 (f.foot:Int),.bool false,.slice ca t1.length cc,.slice pa pl1.length pc,.slice none 0 0]) ?_
   simp only [jA,jB,jC,Act.put,jD,jE,jF]
   refine rd 6 (fun K hK=>?_)
   simp only [jA,jB,jC]
   go_simp
   obtain ⟨hbW,hlW,_,hQW⟩:=jK w1 #[.int .i64 0,.bool false,Value.string { data:=#[] },Value.string { data:=#[] },.int .i64 0,.int .i64 0,.int .i64 0,Value.string { data:=#[] },Value.string { data:=#[] },Value.string { data:=#[] },.int .i64 0,.int .i64 0,.int .i64 0,.int .i64 0,.bool false,.slice none 0 0,.slice none 0 0,.slice none 0 0] 82
   generalize w1.alloc _=WW at *
   have HQ:=hid hQW
   have HmW:=hid (jd hbW Hm1.out)
   have HrW:=hid (jd hbW Hr1.out)
   have HDW:=hid (xE HmW.out).1
   have HBW:=hid (HB1.out.trans (hbW.mono HB1.out.size))
   have Hcv:=hid (jN Hc1.out hbW)
   have Hpv:=hid (jN Hp1.out hbW)
   generalize hQQ:w1.heap.size=QQ at *
   have hQlo:w.heap.size+1 < QQ:=by omega
   clear hbW hQW hQQ
   try go_wp2_with fail
   refine hK.out _ _ HDW.out (fun hHeld=>?_)
   clear hK K
   try simp only [jA,jB,jC,Act.put,jD,jE,jF]
   refine rd 7 (fun K hK=>?_)
   simp only [jA,jB,jC]
   rw [if_pos (by simp [Region.wanted])]
   refine wp_store_row 82 (.tmp 5) (.tmp 12) rfl QQ #[.int .i64 (f.foot:Int),.bool f.told,strB f.footer,strB [sb],.int .i64 0,.int .i64 0,.int .i64 0,strB f.nonce,strB f.body,strB (qg f),.int .i64 (R1:Int),.int .i64 (G1:Int),.int .i64 (P1:Int),.int .i64 (f.foot:Int),.bool false,.slice ca t1.length cc,.slice pa pl1.length pc,.slice none 0 0] rfl rfl 82 #[.int .i64 0,.bool false,Value.string { data:=#[] },Value.string { data:=#[] },.int .i64 0,.int .i64 0,.int .i64 0,Value.string { data:=#[] },Value.string { data:=#[] },Value.string { data:=#[] },.int .i64 0,.int .i64 0,.int .i64 0,.int .i64 0,.bool false,.slice none 0 0,.slice none 0 0,.slice none 0 0] HQ.out (by kernel_rfl) rfl (by simp [Value.oneCell']) ?_
   have HoE:=hid (setRow_heap WW QQ _ #[.int .i64 (f.foot:Int),.bool f.told,strB f.footer,strB [sb],.int .i64 0,.int .i64 0,.int .i64 0,strB f.nonce,strB f.body,strB (qg f),.int .i64 (R1:Int),.int .i64 (G1:Int),.int .i64 (P1:Int),.int .i64 (f.foot:Int),.bool false,.slice ca t1.length cc,.slice pa pl1.length pc,.slice none 0 0] 82 (0,0) HQ.out)
   have HgE:=hid (jy WW QQ #[.int .i64 (f.foot:Int),.bool f.told,strB f.footer,strB [sb],.int .i64 0,.int .i64 0,.int .i64 0,strB f.nonce,strB f.body,strB (qg f),.int .i64 (R1:Int),.int .i64 (G1:Int),.int .i64 (P1:Int),.int .i64 (f.foot:Int),.bool false,.slice ca t1.length cc,.slice pa pl1.length pc,.slice none 0 0])
   generalize WW.setRow _ _=WE at *
   have HmE:=hid (jk HgE.out HmW.out (by omega))
   have HrE:=hid (jk HgE.out HrW.out (by omega))
   have HcE:=hid (qu Hcv.out HgE.out HQ.out (by decide))
   have HpE:=hid (qu Hpv.out HgE.out HQ.out (by decide))
   have HBE:=hid (HBW.out.trans (jq HgE.out (by omega) HBW.out.size))
   have HCE:=hid (xE HmE.out).1
   refine hK.out _ _ HCE.out (fun hHeld=>?_)
   clear hK K
   refine wpAnyH_done (by kernel_rfl) ?_ _
  case' refine_2 =>
   simp only [jA,jB,jC]
   go_simp
   try go_wp2_with fail
   obtain ⟨hbA,hlA,_,hQA⟩:=jK W0 #[.int .i64 0,.bool false,Value.string { data:=#[] },Value.string { data:=#[] },.int .i64 0,.int .i64 0,.int .i64 0,Value.string { data:=#[] },Value.string { data:=#[] },Value.string { data:=#[] },.int .i64 0,.int .i64 0,.int .i64 0,.int .i64 0,.bool false,.slice none 0 0,.slice none 0 0,.slice none 0 0] 82
   have hbA':=hbA
   generalize W0.alloc _=WA at *
   have HmA:=hid (jd hbA' Hm0.out)
   have HrA:=hid (jd hbA' Ho0.out)
   have HDA:=hid (xE HmA.out).1
   have HBA:=hid (HB0.out.trans (hbA'.mono HB0.out.size))
   have HQA:=hid hQA
   have hszA:W0.heap.size < WA.heap.size:=hlA
   clear hbA hbA' hQA
   refine hK.out _ _ HDA.out (fun hHeld=>?_)
   clear hK K
   try simp only [jA,jB,jC,Act.put,jD,jE,jF]
   refine rd 4 (fun K hK=>?_)
   simp only [jA,jB,jC]
   go_simp
   go_at_call 126
   refine (Qy footer f.foot _ Hs.out).mono ?_
   intro e WW h1
   obtain ⟨R1,p1,t1,pl1,cv,pv,hb1q,hok1,htx1,hsm1,he1,hcv1,hpv1⟩:=GK h1 HF.out.1 HF.out.2
   obtain ⟨ca,cc,rfl⟩:=jL hcv1
   obtain ⟨pa,pc,rfl⟩:=jL hpv1
   obtain ⟨G1,P1,rfl,hG1,hG6,hP1,hP6⟩:=Ak hok1
   subst he1
   have hb1':=jl hb1q
   have HmW:=hid (jd hb1' HmA.out)
   have HDW:=hid (xE HmW.out).1
   have HrW:=hid (jd hb1' HrA.out)
   have HBW:=hid (HBA.out.trans (hb1'.mono HBA.out.size))
   have HK1:=hid (And.intro hok1 (And.intro htx1 hsm1))
   have Hcv:=hid (jS hcv1 (show w.heap.size≤WA.heap.size from HBA.out.size))
   have Hpv:=hid (jS hpv1 (show w.heap.size≤WA.heap.size from HBA.out.size))
   have hsz1:=hb1'.size
   have hQ0:=jd hb1' HQA.out
   have HQ:Hid (WW.heap[W0.heap.size]?=some (.cells #[.int .i64 0,.bool false,Value.string { data:=#[] },Value.string { data:=#[] },.int .i64 0,.int .i64 0,.int .i64 0,Value.string { data:=#[] },Value.string { data:=#[] },Value.string { data:=#[] },.int .i64 0,.int .i64 0,.int .i64 0,.int .i64 0,.bool false,.slice none 0 0,.slice none 0 0,.slice none 0 0] 82 (0,0))):=hQ0
   have hlW:W0.heap.size < WW.heap.size:=by omega
   clear hb1' hb1q h1 hok1 htx1 hsm1 hcv1 hpv1 hQ0
   generalize hQQ:W0.heap.size=QQ at *
   have hQlo:w.heap.size+1 < QQ:=by omega
   clear hQQ
   try go_wp2_with fail
   refine hK.out _ _ HDW.out (fun hHeld=>?_)
   clear hK K
   try simp only [jA,jB,jC,Act.put,jD,jE,jF]
   refine tk 5 (.agg #[.int .i64 (f.foot:Int),.bool f.told,strB f.footer,strB [sb],.int .i64 0,.int .i64 0,.int .i64 0,strB f.nonce,strB f.body,strB (qg f),.int .i64 (R1:Int),.int .i64 (G1:Int),.int .i64 (P1:Int),.int .i64 (f.foot:Int),.bool false,.slice ca t1.length cc,.slice pa pl1.length pc,.slice none 0 0]) ?_
   simp only [jA,jB,jC,Act.put,jD,jE,jF]
   refine rd 7 (fun K hK=>?_)
   simp only [jA,jB,jC]
   rw [if_pos (by simp [Region.wanted])]
   refine wp_store_row 82 (.tmp 5) (.tmp 12) rfl QQ #[.int .i64 (f.foot:Int),.bool f.told,strB f.footer,strB [sb],.int .i64 0,.int .i64 0,.int .i64 0,strB f.nonce,strB f.body,strB (qg f),.int .i64 (R1:Int),.int .i64 (G1:Int),.int .i64 (P1:Int),.int .i64 (f.foot:Int),.bool false,.slice ca t1.length cc,.slice pa pl1.length pc,.slice none 0 0] rfl rfl 82 #[.int .i64 0,.bool false,Value.string { data:=#[] },Value.string { data:=#[] },.int .i64 0,.int .i64 0,.int .i64 0,Value.string { data:=#[] },Value.string { data:=#[] },Value.string { data:=#[] },.int .i64 0,.int .i64 0,.int .i64 0,.int .i64 0,.bool false,.slice none 0 0,.slice none 0 0,.slice none 0 0] HQ.out (by kernel_rfl) rfl (by simp [Value.oneCell']) ?_
   have HoE:=hid (setRow_heap WW QQ _ #[.int .i64 (f.foot:Int),.bool f.told,strB f.footer,strB [sb],.int .i64 0,.int .i64 0,.int .i64 0,strB f.nonce,strB f.body,strB (qg f),.int .i64 (R1:Int),.int .i64 (G1:Int),.int .i64 (P1:Int),.int .i64 (f.foot:Int),.bool false,.slice ca t1.length cc,.slice pa pl1.length pc,.slice none 0 0] 82 (0,0) HQ.out)
   have HgE:=hid (jy WW QQ #[.int .i64 (f.foot:Int),.bool f.told,strB f.footer,strB [sb],.int .i64 0,.int .i64 0,.int .i64 0,strB f.nonce,strB f.body,strB (qg f),.int .i64 (R1:Int),.int .i64 (G1:Int),.int .i64 (P1:Int),.int .i64 (f.foot:Int),.bool false,.slice ca t1.length cc,.slice pa pl1.length pc,.slice none 0 0])
   generalize WW.setRow _ _=WE at *
   have HmE:=hid (jk HgE.out HmW.out (by omega))
   have HrE:=hid (jk HgE.out HrW.out (by omega))
   have HcE:=hid (qu Hcv.out HgE.out HQ.out (by decide))
   have HpE:=hid (qu Hpv.out HgE.out HQ.out (by decide))
   have HBE:=hid (HBW.out.trans (jq HgE.out (by omega) HBW.out.size))
   have HCE:=hid (xE HmE.out).1
   refine hK.out _ _ HCE.out (fun hHeld=>?_)
   clear hK K
   refine wpAnyH_done (by kernel_rfl) ?_ _
  all_goals
   have hszW:=HBE.out.size
   obtain ⟨_,_,_,_,_,_,_,_,_,x9⟩:=(xE HmE.out).1
   have hQE:=(Array.getElem?_eq_some_iff.1 HoE.out).1
   clear hHeld
   go_wp2_with fail
   clear x9
   refine (Zl (qg f) WE).mono ?_
   rintro e w3 ⟨rfl,hrd3,hb3⟩
   have HQ3:=hid (jd hb3 HoE.out)
   have HR3:=hid (jd hb3 HrE.out)
   have HC3:=hid (jN HcE.out hb3)
   have HP3:=hid (jN HpE.out hb3)
   have HB3:=hid (HBE.out.trans (hb3.mono HBE.out.size))
   have hz3:=hb3.size
   generalize hpp:WE.heap.size=p at *
   clear hb3 hpp
   go_wp2_with fail
   obtain ⟨hd1,hd2,hd3⟩:=Zf f
   refine (Js p (qg f) (qg f) 4 w3 H100.out (by decide) hrd3).mono ?_
   rintro e w4 ⟨hg4,⟨hlt,rfl⟩|⟨hle,rfl,hp4⟩⟩
   ·exact absurd hd2 (Nat.not_le_of_lt hlt)
   rw [hd1] at hp4
   have HQ4:=hid (jk hg4 HQ3.out (by omega))
   have HR4:=hid (jk hg4 HR3.out (by omega))
   have HC4:=hid (qu HC3.out hg4 (zd hrd3) (by decide))
   have HP4:=hid (qu HP3.out hg4 (zd hrd3) (by decide))
   have HB4:=hid (HB3.out.trans (jq hg4 (by omega) (by omega)))
   have hz4:=hg4.size
   have Hp4:=hid hp4
   have Hd3:=hid hd3
   clear hg4 hp4 hrd3 hd1 hd2 hd3 hle
   generalize (qg f).take 4=hd4 at *
   obtain ⟨hok1,htx1,hsm1⟩:=HK1.out
   have hh1:=hok1.heads
   simp only [jX,Bool.and_eq_true,decide_eq_true_eq] at hh1
   have HOK1:=hid hok1
   have HTX:=hid htx1
   have HSM:=hid hsm1
   have hR60:=hok1.rows
   have hn16:=hh1.2
   have HLEN:=hid hok1.len
   clear hok1 htx1 hsm1 hh1
   go_wp2_with fail
   refine (Rf t1 R1 G1 P1 t1.length QQ p w.heap.size pl1.length _ _ _ _ _ _ _ _ _ _ _ _ _ _ pl1 (qg f) f.parts w4 H100.out Hp4.out (by rw [Hd3.out];exact Nat.add_sub_cancel _ _) hR60 hG1 hG6 hP1 hP6 hn16.1 hn16.2 rfl (by rw [HLEN.out];rfl) rfl HQ4.out HC4.out HP4.out (by omega)).mono ?_
   have HSAME:Hid (∀ S,SheetOk f.foot f.parts footer S→S.rows=R1∧S.plan=⟨(G1:Int),(P1:Int),(f.foot:Int),false⟩∧S.cols=t1∧qr S=qm R1 t1.length G1 P1∧jJ t1 4 true (qm R1 t1.length G1 P1) S.mods=pl1∧ModsOk t1 (qm R1 t1.length G1 P1) S.mods∧f.parts=jn t1 (qm R1 t1.length G1 P1) S.mods):=fun S hS=>Mf HOK1.out HSM.out HTX.out hS
   rintro e w5 ⟨hT,⟨rfl,hno⟩|⟨Kb,V,Qp,Qm,Pv,r,rfl,hSh,hrd5,hmok,hbytes,hpl⟩⟩
   ·have HN:Hid (zh f.foot f.parts footer=none):=XO (fun S hS=>by
     obtain ⟨_,_,_,_,h5,h6,h7⟩:=HSAME.out S hS
     exact hno S.mods [] h6 (by rw [List.append_nil];exact h7) h5.symm)
    have HB5:=hid (HB4.out.trans (hT.below (by omega) (by omega) HB4.out.size))
    clear hno hT
    go_wp2
    exact ⟨rfl,HB5.out,.inl ⟨rfl,HN.out⟩⟩
   have HB5:=hid (HB4.out.trans (hT.below (by omega) (by omega) HB4.out.size))
   have HC5:=hid (hT.owns HC4.out (zd Hp4.out) HQ4.out (by decide) (by decide))
   have HR5:=hid (hT.keeps HR4.out (by omega) (by omega))
   have HSh:=hid hSh
   have Hrd5:=hid hrd5
   have HM5:=hid (And.intro hmok (And.intro hbytes hpl))
   have hz5:=hT.size
   clear hT hSh hrd5 hmok hbytes hpl
   go_wp2_with fail
   refine (Yb p (qg f) r w5 H100.out Hrd5.out).mono ?_
   rintro e w6 ⟨hb6,⟨hne,rfl⟩|⟨hnil,rfl⟩⟩
   ·have HN:Hid (zh f.foot f.parts footer=none):=XO (fun S hS=>by
     obtain ⟨_,_,_,_,h5,h6,h7⟩:=HSAME.out S hS
     obtain ⟨m1,m2,_⟩:=HM5.out
     rw [m2] at h7
     have h6':ModsOk t1 (qm R1 t1.length G1 P1++[]) S.mods:=by rw [List.append_nil];exact h6
     obtain ⟨M2,_,h9,h10⟩:=KL (rest:=r) (q:=[]) m1 h6' (by rw [List.append_nil,List.append_nil];exact h7)
     cases h9 using ModsOk.ind
     exact hne (by simpa [jn] using h10))
    have HB6:=hid (HB5.out.trans (hb6.mono HB5.out.size))
    clear hne hb6
    go_wp2
    exact ⟨rfl,HB6.out,.inl ⟨rfl,HN.out⟩⟩
   have HB6:=hid (HB5.out.trans (hb6.mono HB5.out.size))
   have HC6:=hid (jN HC5.out hb6)
   have HR6:=hid (jd hb6 HR5.out)
   have HSh6:=hid (HSh.out.later hb6)
   have hz6:=hb6.size
   have HSOK:Hid (SheetOk f.foot f.parts footer ⟨R1,⟨(G1:Int),(P1:Int),(f.foot:Int),false⟩,t1,xl (fun g c=>Qp g c++[Qm g c]) t1.length (jY R1 G1)⟩):=by
    obtain ⟨m1,m2,m3⟩:=HM5.out
    have hk:=HOK1.out
    refine ⟨hk.rows,hk.plan,rfl,rfl,hk.heads,hk.bare,m1,?_,?_⟩
    ·rw [m2,hnil,List.append_nil];rfl
    ·rw [HTX.out,m3];rfl
   clear hb6 hnil
   have HQ6:Hid (w6.heap[QQ]?=some (.cells #[.int .i64 (f.foot:Int),.bool f.told,strB f.footer,strB [sb],.int .i64 0,.int .i64 0,.int .i64 0,strB f.nonce,strB f.body,strB (qg f),.int .i64 (R1:Int),.int .i64 (G1:Int),.int .i64 (P1:Int),.int .i64 (f.foot:Int),.bool false,.slice ca t1.length cc,.slice pa pl1.length pc,.slice (some ⟨Kb,0,none⟩) t1.length t1.length] 82 (0,0))):=HSh6.out.sheet
   go_wp2_with (first|(refine wpList_load_row rfl 82 (.tmp 5) rfl QQ rfl 82 #[.int .i64 (f.foot:Int),.bool f.told,strB f.footer,strB [sb],.int .i64 0,.int .i64 0,.int .i64 0,strB f.nonce,strB f.body,strB (qg f),.int .i64 (R1:Int),.int .i64 (G1:Int),.int .i64 (P1:Int),.int .i64 (f.foot:Int),.bool false,.slice ca t1.length cc,.slice pa pl1.length pc,.slice (some ⟨Kb,0,none⟩) t1.length t1.length] (0,0) _ HQ6.out Tryz.underlying82 rfl (by kernel_rfl) ?_)|(refine wpList_store_row rfl 82 (.tmp 4) (.tmp 22) rfl (w.heap.size+1) #[.int .i64 (f.foot:Int),.bool f.told,strB f.footer,strB [sb],.int .i64 0,.int .i64 0,.int .i64 0,strB f.nonce,strB f.body,strB (qg f),.int .i64 (R1:Int),.int .i64 (G1:Int),.int .i64 (P1:Int),.int .i64 (f.foot:Int),.bool false,.slice ca t1.length cc,.slice pa pl1.length pc,.slice (some ⟨Kb,0,none⟩) t1.length t1.length] rfl rfl 82 #[.int .i64 0,.bool false,Value.string { data:=#[] },Value.string { data:=#[] },.int .i64 0,.int .i64 0,.int .i64 0,Value.string { data:=#[] },Value.string { data:=#[] },Value.string { data:=#[] },.int .i64 0,.int .i64 0,.int .i64 0,.int .i64 0,.bool false,.slice none 0 0,.slice none 0 0,.slice none 0 0] HR6.out (by kernel_rfl) rfl (by simp [Value.oneCell']) ?_))
   have HoF:=hid (setRow_heap w6 (w.heap.size+1) _ #[.int .i64 (f.foot:Int),.bool f.told,strB f.footer,strB [sb],.int .i64 0,.int .i64 0,.int .i64 0,strB f.nonce,strB f.body,strB (qg f),.int .i64 (R1:Int),.int .i64 (G1:Int),.int .i64 (P1:Int),.int .i64 (f.foot:Int),.bool false,.slice ca t1.length cc,.slice pa pl1.length pc,.slice (some ⟨Kb,0,none⟩) t1.length t1.length] 82 (0,0) HR6.out)
   have HgF:=hid (jy w6 (w.heap.size+1) #[.int .i64 (f.foot:Int),.bool f.told,strB f.footer,strB [sb],.int .i64 0,.int .i64 0,.int .i64 0,strB f.nonce,strB f.body,strB (qg f),.int .i64 (R1:Int),.int .i64 (G1:Int),.int .i64 (P1:Int),.int .i64 (f.foot:Int),.bool false,.slice ca t1.length cc,.slice pa pl1.length pc,.slice (some ⟨Kb,0,none⟩) t1.length t1.length])
   have HCF:=hid (qu HC6.out HgF.out HR6.out (by decide))
   have HKF:=hid (jk HgF.out HSh6.out.kb (by have:=HSh6.out.new;omega))
   have HVF:=hid (fun i (hi:i < t1.length)=>(HSh6.out.cols i hi).keep (fun n xs hu=>qu hu HgF.out HR6.out (by decide)) (fun u n xs hu=>qu hu HgF.out HR6.out (by decide)))
   have HBF:=hid (HB6.out.trans (jq HgF.out (by omega) HB6.out.size))
   generalize w6.setRow _ _=WF at *
   refine bodyPost_ret (v:=.agg #[.int .i64 (f.foot:Int),.bool f.told,strB f.footer,strB [sb],.int .i64 0,.int .i64 0,.int .i64 0,strB f.nonce,strB f.body,strB (qg f),.int .i64 (R1:Int),.int .i64 (G1:Int),.int .i64 (P1:Int),.int .i64 (f.foot:Int),.bool false,.slice ca t1.length cc,.slice pa pl1.length pc,.slice (some ⟨Kb,0,none⟩) t1.length t1.length]) (results_cell_row (P:=Tryz.prog) (p:=4) (ty:=82) rfl _ _ (w.heap.size+1) 82 #[.int .i64 (f.foot:Int),.bool f.told,strB f.footer,strB [sb],.int .i64 0,.int .i64 0,.int .i64 0,strB f.nonce,strB f.body,strB (qg f),.int .i64 (R1:Int),.int .i64 (G1:Int),.int .i64 (P1:Int),.int .i64 (f.foot:Int),.bool false,.slice ca t1.length cc,.slice pa pl1.length pc,.slice (some ⟨Kb,0,none⟩) t1.length t1.length] (0,0) _ rfl HoF.out Tryz.underlying82 rfl (by kernel_rfl)) rfl ⟨HBF.out,.inr ⟨⟨R1,⟨(G1:Int),(P1:Int),(f.foot:Int),false⟩,t1,xl (fun g c=>Qp g c++[Qm g c]) t1.length (jY R1 G1)⟩,_,.slice ca t1.length cc,.slice pa pl1.length pc,Kb,V,Qp,Qm,Pv,KH HSOK.out,HSOK.out,rfl,⟨?_,HCF.out,⟨_,_,_,rfl⟩,HSM.out,?_,HKF.out,fun i hi=>?_,rfl⟩⟩⟩
   ·rw [Hsb.out]
   ·have:=HSh6.out.new
    have:=HB4.out.size
    omega
   ·have:=HVF.out i hi
    rw [if_neg (Nat.not_lt_zero i)] at this
    exact this.lower HB4.out.size
end
end Go.Proofs.YthhpbhpfagoapabGreat
