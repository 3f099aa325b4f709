import Derived.Test.YthhpbhpfagoapabGreatRTk
import Derived.Test.YthhpbhpfagoapabGreatJAZ
import Derived.Test.YthhpbhpfagoapabGreatWChunk
import Derived.OwnWalk
namespace Go.Proofs.YthhpbhpfagoapabGreat
set_option linter.unusedVariables false
set_option linter.unusedSimpArgs false
set_option maxRecDepth 100000
set_option maxHeartbeats 16000000
open Go.RowKit
theorem Tryz.infoChunk:(Tryz.prog.info? 157).map (fun i=>(i.zero,i.size,i.bytes))=some (some (.agg #[.int .i64 0,.slice none 0 0,.string ⟨#[]⟩,.int .i64 0,.int .i64 0,.int .i64 0,.string ⟨#[]⟩,.string ⟨#[]⟩]),8,104):=by kernel_rfl
theorem Tryz.infoChunkS:(Tryz.prog.info? 154).map (fun i=>(i.zero,i.size,i.bytes))=some (some (.slice none 0 0),1,24):=by kernel_rfl
abbrev sheetH (f0 f1 f2 f3 f4 f5 f6 f7 f8 f9:Value) (R G P:Nat) (F b cv pv:Value):List Value:=[f0,f1,f2,f3,f4,f5,f6,f7,f8,f9,.int .i64 (R:Int),.int .i64 (G:Int),.int .i64 (P:Int),F,b,cv,pv]
theorem zm {w:World} {Q:Nat} {f0 f1 f2 f3 f4 f5 f6 f7 f8 f9:Value} {R G P:Nat} {F b cv pv x:Value} {T:TypeId} (h:w.heap[Q]?=some (.cells (sheetH f0 f1 f2 f3 f4 f5 f6 f7 f8 f9 R G P F b cv pv++[x]).toArray T (0,0))) :
  w.cell? ⟨Q,10,none⟩=some (.int .i64 (R:Int))∧w.cell? ⟨Q,11,none⟩=some (.int .i64 (G:Int))∧w.cell? ⟨Q,12,none⟩=some (.int .i64 (P:Int))∧w.cell? ⟨Q,15,none⟩=some cv∧w.cell? ⟨Q,16,none⟩=some pv∧w.cell? ⟨Q,17,none⟩=some x∧w.frozen? ⟨Q,17,none⟩=false :=
 ⟨by rw [jb h];rfl,by rw [jb h];rfl,by rw [jb h];rfl,by rw [jb h];rfl,by rw [jb h];rfl,by rw [jb h];rfl,frozen_of_row w Q 17 _ T h⟩
theorem CH {w:World} {Q:Nat} {f0 f1 f2 f3 f4 f5 f6 f7 f8 f9:Value} {R G P:Nat} {F b cv pv x v:Value} {T:TypeId} (h:w.heap[Q]?=some (.cells (sheetH f0 f1 f2 f3 f4 f5 f6 f7 f8 f9 R G P F b cv pv++[x]).toArray T (0,0))) :
  (w.setCell ⟨Q,17,none⟩ v).heap[Q]?=some (.cells (sheetH f0 f1 f2 f3 f4 f5 f6 f7 f8 f9 R G P F b cv pv++[v]).toArray T (0,0)):=by
 rw [heap_setCell_same w Q 17 _ T v h];rfl
theorem Te {t:List ColB} {R G P g c p:Nat} {s rest:List UInt8} {w:World} {e:Ending} {w':World} (h:Mm t R G P g c p s rest w e w') (hn:∀ M q,ModsOk t (jh R G P g c) M→rest≠jn t (jh R G P g c) M++q):e=gaveUp∧w.grownBy w' (some p):=by
 obtain ⟨hg,⟨he,_⟩|⟨mp,mm,pv,r,hok,hml,rfl,hpv,hrd,hr⟩⟩:=h
 ·exact ⟨he,hg⟩
 ·exact absurd hr (hn _ _ hok)
theorem RO {t:List ColB} {R G P g c p:Nat} {s rest q:List UInt8} {w:World} {e:Ending} {w':World} {M:List ModF} (h:Mm t R G P g c p s rest w e w') (hM:ModsOk t (jh R G P g c) M) (hr:rest=jn t (jh R G P g c) M++q) :
  ∃ (mp:List ModF) (mm:ModF) (pv:Value) (r:List UInt8),w.grownBy w' (some p)∧ModsOk t (jh R G P g c) (mp++[mm])∧mp.length=jX (jp R G g) P∧e=.returned (chunkV (jp R G g) g c (jg t c).key pv mm)∧w'.ownsRow w.heap.size 75 6 pv mp.length (xQ (jg t c).key g c mp)∧qv w' p s r∧rest=jn t (jh R G P g c) (mp++[mm])++r:=by
 obtain ⟨hg,⟨he,hno⟩|⟨mp,mm,pv,r,hok,hml,he,hpv,hrd,hr'⟩⟩:=h
 ·exact absurd hr (hno M q hM)
 ·exact ⟨mp,mm,pv,r,hg,hok,hml,he,hpv,hrd,hr'⟩
def LH (t:List ColB) (R G P n Q p:Nat) (H:List Value) (pl:List Nat) (s rest:List UInt8) (w:World) (e:Ending) (w':World):Prop :=
 Touch2 w w' p Q∧((e=gaveUp∧∀ (M':List ModF) (q:List UInt8),ModsOk t (qk R n G P) M'→rest=jn t (qk R n G P) M'++q→pl≠jL t 4 true (qk R n G P) M') ∨
  ∃ Kb V Qp Qm Pv r,e=.returned (.tuple #[])∧ShAt t R G P n Q p Kb H w w' (jX R G) 0 V Qp Qm Pv∧qv w' p s r∧ModsOk t (qk R n G P) (xk (fun g c=>Qp g c++[Qm g c]) n (jX R G))∧rest=jn t (qk R n G P) (xk (fun g c=>Qp g c++[Qm g c]) n (jX R G))++r∧pl=jL t 4 true (qk R n G P) (xk (fun g c=>Qp g c++[Qm g c]) n (jX R G)))
theorem MQ {w:World} {base M:Nat} {v:Value} {pl:List Nat} (h:w.ownsRow base 3 1 v M (xG pl)) (hl:pl.length=M):∃ (ps:Nat→Value) (pb pc:Nat),v=ps 0∧(0 < M→pb < w.heap.size∧M≤pc∧(∀ i,ps i=.slice (some ⟨pb,i,none⟩) (M - i) (pc - i))∧(∃ cur,w.heap[pb]?=some (.cells cur 3 (0,0)))∧∀ i (hi:i < pl.length),w.cell? ⟨pb,i,none⟩=some (.int .i64 ((pl[i]:Nat):Int))):=by
 rcases h.2 with ⟨rfl,h0⟩|⟨g,cap,cur,rfl,hb,hg,hcap,_⟩
 ·exact ⟨fun _=>.slice none 0 0,0,0,rfl,fun h=>by omega⟩
 ·refine ⟨fun i=>.slice (some ⟨g,i,none⟩) (M - i) (cap - i),g,cap,by simp,fun _=>⟨(h.lt g rfl).2,hcap,fun i=>rfl,⟨cur,hg⟩,fun i hi=>?_⟩⟩
  rw [h.cellAt i (by omega)]
  simp [xG,hi]
theorem PO {w1:World} {base n Kb:Nat} {x:Value} {e:TypeId} (h:w1.ownsRow base e 1 (.slice (some ⟨Kb,0,none⟩) n n) n (madeCells #[x] n).toList):w1.heap[Kb]?=some (.cells ((List.range n).map (fun _=>x)).toArray e (0,0)):=by
 rcases h.2 with ⟨h0,_⟩|⟨g,cap,cur,he,_,hg,_,_,hsz,htk⟩
 ·cases h0
 ·simp only [Value.slice.injEq,Option.some.injEq,Addr.mk.injEq,and_true,true_and] at he
  obtain ⟨rfl,rfl⟩:=he
  rw [hg]
  congr 2
  apply Array.ext'
  rw [← List.take_length (l:=cur.toList)] 
  have hl:cur.toList.length=n*1:=by rw [Array.length_toList,hsz]
  rw [hl,htk,madeCells]
  simp
  intro a _
  have:a % 1=0:=by omega
  simp [this]
theorem RK (t:List ColB) (R G P n Q p base M:Nat) (f0 f1 f2 f3 f4 f5 f6 f7 f8 f9 F b cv pv:Value) (pl:List Nat) (s rest:List UInt8) (w:World) (hs:s.length≤maxLen) (hp:qv w p s rest) (hs4:s.length - rest.length=4) (hR:R≤60) (hG1:1≤G) (hG:G≤60) (hP1:1≤P) (hP:P≤60) (hn1:1≤n) (hn:n≤6) (htn:t.length=n) (hM:M=jX R G*n) (hpM:pl.length=M)
  (hQ:w.heap[Q]?=some (.cells (sheetH f0 f1 f2 f3 f4 f5 f6 f7 f8 f9 R G P F b cv pv++[Value.slice none 0 0]).toArray 82 (0,0))) (hcv:w.ownsRow base 31 4 cv n (XU t)) (hpv:w.ownsRow base 3 1 pv M (xG pl)) (hpQ:p≠Q) :
  Calls Tryz.prog 127 #[.pointer (some ⟨Q,0,none⟩),.pointer (some ⟨p,0,none⟩)] w (LH t R G P n Q p (sheetH f0 f1 f2 f3 f4 f5 f6 f7 f8 f9 R G P F b cv pv) pl s rest w):=by
 obtain ⟨i0,hi,hz0,hz1,hz2⟩:=info_parts Tryz.infoChunk
 obtain ⟨i1,hi1,hy0,hy1,hy2⟩:=info_parts Tryz.infoChunkS
 have Hs:=hid hs
 have Hp:=hid hp
 have hplt:=xD hp
 have hQlt:=(Array.getElem?_eq_some_iff.1 hQ).1
 have hrb:=ze hp
 have HQ:=hid hQ
 have Hcv:=hid hcv
 have Hrb:=hid hrb
 obtain ⟨ps,pb,pc,rfl,hps⟩:=MQ hpv hpM
 have Hps:=hid hps
 obtain ⟨ca,cc,rfl⟩:=jK hcv
 have HCA:Hid (∃ cb,ca=some ⟨cb,0,none⟩∧cb < w.heap.size∧(∃ cur,w.heap[cb]?=some (.cells cur 31 (0,0)))∧∀ c,c < n→w.cell? ⟨cb,c*4+2,none⟩=some (.int .i64 (jg t c).key)):=by
  rcases hcv.2 with ⟨_,h0⟩|⟨g,cap,cur,he,hb',hg',_⟩
  ·omega
  ·cases he
   refine ⟨g,rfl,(hcv.lt g rfl).2,⟨cur,hg'⟩,fun c hc=>?_⟩
   rw [hcv.cellAt (c*4+2) (by omega)]
   have:=Jt Sb 4 (fun _=>rfl) t c 2 (by omega) (by omega)
   rw [xy (by omega)]
   exact this
 have HpM:=hid hpM
 have HM:=hid hM
 have Hs4:=hid hs4
 have Htn:=hid htn
 obtain ⟨c10,c11,c12,c15,c16,c17,z17⟩:=zm hQ
 clear hs hp hQ hcv hpv hrb hps hpM hM hs4 htn
 go_enter Tryz.func127,Tryz.ntmps127
 go_wp2_with (at_make;refine wpList_make_full _ rfl (.tmp 14) (.tmp 14) 80 rfl w.heap.size 154 i1 (.slice none 0 0) 1 Tryz.underlying80 hi1 hy0 hy1 .i64 .i64 _ _ n rfl rfl rfl rfl ?m1 ?m2 ?m3 ?_)
 case m1=>rw [hy2];omega
 case m2=>unfold maxLen;omega
 case m3=>exact Nat.le_refl _
 intro w1 hmk hg1
 have hkb1:=PO hmk
 have hQ1:=(hg1.block Q hQlt (by simp)).trans HQ.out
 obtain ⟨_,_,_,_,_,d17,y17⟩:=zm hQ1
 have HQ2:=hid (CH (v:=.slice (some ⟨w.heap.size,0,none⟩) n n) hQ1)
 have HG2:=hid (qr w1 Q 17 (.slice (some ⟨w.heap.size,0,none⟩) n n))
 have hl1:=hg1.size
 go_wp2_with fail
 clear c10 c11 c12 c15 c16 c17 z17 d17 y17
 have HT2:Hid (Touch2 w (w1.setCell ⟨Q,17,none⟩ (.slice (some ⟨w.heap.size,0,none⟩) n n)) p Q):=((Touch2.refl w p Q).grown hg1 (fun k hk=>by cases hk)).grown HG2.out (fun k hk=>by cases hk;exact .inr (.inl rfl))
 have hkb2:=jk HG2.out hkb1 (by omega)
 have hp1:qv w1 p s rest:=Zo Hp.out ((hg1.block p hplt (by simp)).trans Hrb.out)
 have hp2:=zH hp1 HG2.out hpQ
 have hz2':(w1.setCell ⟨Q,17,none⟩ (.slice (some ⟨w.heap.size,0,none⟩) n n)).heap.size=w1.heap.size:=by simp
 generalize w1.setCell _ _=w2 at *
 have Hkb2:=hid hkb2
 have Hp2:=hid hp2
 clear hkb1 hkb2 hQ1 hp1 hp2 hmk hg1
 obtain ⟨c10,c11,_,_,_,_,_⟩:=zm HQ2.out
 have HCT:=hid (fun w':World=>Ut R G w' (by omega) hG1 (by omega))
 have hQ2lt:Q < w2.heap.size:=by omega
 go_region_held3 (fun w'=>w'.cell? ⟨Q,10,none⟩=some (.int .i64 (R:Int))∧w'.cell? ⟨Q,11,none⟩=some (.int .i64 (G:Int))) (first|with_reducible exact ⟨k0,k1⟩|exact ⟨c10,c11⟩)
  (first|(go_at_call 95;refine (HCT.out _).mono ?_;rintro e w3 ⟨sv,rfl,hsp,hb3⟩;obtain ⟨sa,sc,rfl⟩:=jK hsp;have hb3':=jl hb3;have k0:=(hb3'.cell (p:=⟨Q,10,none⟩) hQ2lt).trans c10;have k1:=(hb3'.cell (p:=⟨Q,11,none⟩) hQ2lt).trans c11))
 have hSh:ShAt t R G P n Q p w.heap.size (sheetH f0 f1 f2 f3 f4 f5 f6 f7 f8 f9 R G P F b (.slice ca n cc) (ps 0)) w w2 0 0 (fun _=>.slice none 0 0) (fun _ _=>[]) (fun _ _=>⟨[],[],[]⟩) (fun _ _=>.slice none 0 0) :=
  ⟨HT2.out,HQ2.out,Nat.le_refl _,Hkb2.out,fun i hi=>⟨by simp only [Nat.not_lt_zero,if_false];exact World.ownsRow_nil _ _ _ _,fun g hg=>by simp at hg,fun g hg=>by simp at hg⟩,fun i j _ _ _=>.inl rfl⟩
 have HSh3:=hid (hSh.later hb3')
 have Hp3:=hid (qH Hp2.out hb3' (xD Hp2.out))
 have Hsp:=hid (jS hsp (show w.heap.size≤w2.heap.size by omega))
 have hcle:=JZ (n:=R) hG1
 have HCL:=hid (fun k=>Jr (n:=R) (size:=G) (i:=k) hG1)
 have HCNe:Hid (jX R G=jX R G):=rfl
 have HALL:=hid (Bz R G P n)
 have HLSP:=hid (fun (k c:Nat) (hk:k < jX R G) (hc:c < n)=>NO (R:=R) (G:=G) (P:=P) hk hc)
 have HCNO:=hid (fun (k c:Nat) (M:List ModF) (rk:List UInt8) (hk:k < jX R G) (hc:c < n) (h:ModsOk t (LS R G P n k c) M)=>Se (rk:=rk) hk hc h)
 have HPNO:=hid (fun (k c:Nat) (M:List ModF) (rk:List UInt8) (hk:k < jX R G) (hc:c < n) (h:ModsOk t (LS R G P n k c) M)=>Sm (rk:=rk) (pl:=pl) hk hc h)
 clear hb3 hb3' k0 k1 c10 c11 hsp hSh
 generalize hCN:jX R G=CN at *
 have HCN:=hid hCN
 clear hCN HCNe
 go_wp2
 go_loopw [4,36] (fun v i wr=>∃ (k:Nat) (V:Nat→Value) (Qp:Nat→Nat→List ModF) (Qm:Nat→Nat→ModF) (Pv:Nat→Nat→Value) (rk:List UInt8),k≤CN∧i=.int .i64 (k:Int)∧(k*n < M→v=ps (k*n))∧ShAt t R G P n Q p w.heap.size (sheetH f0 f1 f2 f3 f4 f5 f6 f7 f8 f9 R G P F b (.slice ca n cc) (ps 0)) w wr k 0 V Qp Qm Pv∧qv wr p s rk∧rest=jn t (LS R G P n k 0) (MS Qp Qm n k 0)++rk∧pl.take (k*n)=jL t 4 true (LS R G P n k 0) (MS Qp Qm n k 0)∧wr.ownsRow w.heap.size 169 2 (.slice sa CN sc) CN (Jy R G CN)) (fun _ i _=>CN - (intOf i).toNat)
 case atStart=>exact ⟨0,_,_,_,_,rest,Nat.zero_le _,rfl,fun _=>by simp,HSh3.out,Hp3.out,by rw [Cf,Ce];rfl,by rw [Cf,Ce];simp [jL],Hsp.out⟩
 case round =>
  clear HSh3 Hp3 Hsp
  obtain ⟨k,V,Qp,Qm,Pv,rk,hkC,rfl,hv4,hsh,hrd,hrk,hpk,hsp⟩:=hrel
  have Hv4:=hid hv4
  clear hv4
  have Hsh:=hid hsh
  have Hrd:=hid hrd
  have Hrk:=hid hrk
  have Hpk:=hid hpk
  have Hsp:=hid hsp
  clear hsh hrd hrk hpk hsp
  by_cases hlt:k < CN
  ·have hki:(k:Int) < (CN:Int):=by omega
   obtain ⟨sg,rfl,hsg,s1,s2⟩:=Vg Hsp.out hlt
   have hkG:k*G < R:=(HCL.out k).1 hlt
   obtain ⟨_,_,_,e15,_,_,_⟩:=zm Hsh.out.sheet
   have hpart:IntKind.i64.wrap (((min (k*G+G) R:Nat):Int) - ((k*G:Nat):Int))=((jp R G k:Nat):Int):=by
    have h1:=Xv R G k hkG
    rw [← h1,IntKind.wrap_i64]
    have:=Ju R G k
    omega
   have hpR:=Ju R G k
   have hMk:k*n+n≤M:=by
    rw [HM.out]
    have:(k+1)*n≤CN*n:=Nat.mul_le_mul_right n hlt
    rw [Nat.succ_mul] at this
    exact this
   have hM0:0 < M:=by omega
   obtain ⟨hpb,hpc,hpsv,⟨pcur,hpblk⟩,hpcell⟩:=Hps.out hM0
   have hpbp:pb≠p:=by
    rintro rfl
    have:=Hrb.out
    rw [hpblk] at this
    cases this
   have hpbQ:pb≠Q:=by
    rintro rfl
    have:=HQ.out
    rw [hpblk] at this
    cases this
   have HPSV:=hid hpsv
   have HPC:=hid hpcell
   have HPB:=hid hpblk
   have HMK:Hid (k*n+n=(k+1)*n):=(Nat.succ_mul k n).symm
   have HKN:Hid (LS R G P n k n=LS R G P n (k+1) 0):=Ei R G P n k
   have Hcall:=hid (fun (c cb:Nat) (rk:List UInt8) (w':World) (hc:c < n) (hr:qv w' p s rk)=>Yb t R G P k c Q p cb n cc s rk w' Hs.out hr (by omega) hP1 hP hc hn)
   generalize hkG0:k*G=kG at *
   generalize hE0:min (kG+G) R=E at *
   generalize hPN0:jp R G k=PN at *
   have HPN0:=hid hPN0
   generalize hkn0:k*n=kn at *
   have Hkn0:=hid hkn0
   clear hkG0 hE0 hkG hpsv hpcell hpblk hPN0 hkn0
   have e15a:=je (.cells #[.int .i64 (kG:Int),.int .i64 (E:Int)] 169) e15
   go_wp2_with fail
   obtain ⟨hbx,hsx,_,hhx⟩:=jJ wr #[.int .i64 (kG:Int),.int .i64 (E:Int)] 169
   have Hhx:=hid hhx
   have Hshx:=hid (Hsh.out.later hbx)
   have Hspx:=hid (jN Hsp.out hbx)
   have Hrdx:=hid (qH Hrd.out hbx (xD Hrd.out))
   have hbq0:=Hsh.out.touch.size
   clear s1 s2 hbx hsg hhx e15 e15a
   generalize wr.alloc _=wx at *
   generalize wr.heap.size=bq at *
   go_loopw [4,47] (fun v i w3=>∃ (c:Nat) (V:Nat→Value) (Qp:Nat→Nat→List ModF) (Qm:Nat→Nat→ModF) (Pv:Nat→Nat→Value) (rk:List UInt8),c≤n∧i=.int .i64 (c:Int)∧(kn+c < M→v=ps (kn+c))∧ShAt t R G P n Q p w.heap.size (sheetH f0 f1 f2 f3 f4 f5 f6 f7 f8 f9 R G P F b (.slice ca n cc) (ps 0)) w w3 k c V Qp Qm Pv∧qv w3 p s rk∧rest=jn t (LS R G P n k c) (MS Qp Qm n k c)++rk∧pl.take (kn+c)=jL t 4 true (LS R G P n k c) (MS Qp Qm n k c)∧w3.ownsRow w.heap.size 169 2 (.slice (some ⟨sg,0,none⟩) CN sc) CN (Jy R G CN)∧w3.heap[bq]?=some (.cells #[.int .i64 (kG:Int),.int .i64 (E:Int)] 169 (0,0))) (fun _ i _=>n - (intOf i).toNat)
   case atStart=>exact ⟨0,V,Qp,Qm,Pv,rk,Nat.zero_le _,rfl,Hv4.out,Hshx.out,Hrdx.out,Hrk.out,Hpk.out,Hspx.out,Hhx.out⟩
   case round =>
    clear Hshx Hrdx Hspx Hhx Hsh Hrd Hrk Hpk Hsp
    obtain ⟨c,V,Qp,Qm,Pv,rk,hcn,rfl,hv5,hsh,hrd,hrk,hpk,hsp,hbx⟩:=hrel
    have Hsh:=hid hsh
    have Hrd:=hid hrd
    have Hrk:=hid hrk
    have Hpk:=hid hpk
    have Hsp:=hid hsp
    have Hbx:=hid hbx
    clear hsh hrd hrk hpk hsp hbx Hv4
    by_cases hlc:c < n
    ·have hci:(c:Int) < (n:Int):=by omega
     have hiM:kn+c < M:=by omega
     have HOK:Hid (ModsOk t (LS R G P n k c) (MS Qp Qm n k c)):=LW hcn (fun i hi g hg=>((Hsh.out.cols i hi).ok g hg).1)
     have hx4:s.length - rk.length=4+(jn t (LS R G P n k c) (MS Qp Qm n k c)).length:=by
      have h1:=Hs4.out
      have h2:=congrArg List.length Hrk.out
      rw [List.length_append] at h2
      obtain ⟨at_,_,h4,h5⟩:=Hp.out
      have h6:=congrArg List.length h5
      rw [List.length_drop] at h6
      omega
     have hcell:wr.cell? ⟨pb,kn+c,none⟩=some (.int .i64 ((pl[kn+c]'(by rw [HpM.out];exact hiM):Nat):Int)):=(World.cell?_of_block (Hsh.out.touch.block pb hpb hpbp hpbQ)).trans (HPC.out (kn+c) (by rw [HpM.out];exact hiM))
     have hv6:=hv5 hiM
     rw [HPSV.out (kn+c)] at hv6
     subst hv6
     clear hv5
     have HPSN:Hid (ps (kn+(c+1))=.slice (some ⟨pb,kn+c+1,none⟩) (M - (kn+c) - 1) (pc - (kn+c) - 1)):=by
      show _=_
      rw [HPSV.out (kn+(c+1))]
      congr 1<;>omega
     have HPLX:Hid (pl.take (kn+(c+1))=pl.take (kn+c)++[pl[kn+c]'(by rw [HpM.out];exact hiM)]):=by
      show _=_
      rw [← Nat.add_assoc,List.take_succ_eq_append_getElem]
     have HPNOc:Hid (pl[kn+c]'(by rw [HpM.out];exact hiM)≠4+(jn t (LS R G P n k c) (MS Qp Qm n k c)).length→∀ (M':List ModF) (q:List UInt8),ModsOk t (qk R n G P) M'→rest=jn t (qk R n G P) M'++q→pl≠jL t 4 true (qk R n G P) M'):=by
      intro hne M' q hM' h
      have hne':pl[k*n+c]'(by rw [Hkn0.out,HpM.out];exact hiM)≠4+(jn t (LS R G P n k c) (MS Qp Qm n k c)).length:=by simpa only [Hkn0.out] using hne
      exact HPNO.out k c _ rk hlt hlc HOK.out (by rw [Hkn0.out,HpM.out];exact hiM) hne' M' q hM' (by rw [← Hrk.out];exact h)
     generalize hplx:pl[kn+c]'(by rw [HpM.out];exact hiM)=px at *
     clear hplx
     have hL0:(0:Int) < ((M - (kn+c):Nat):Int):=by omega
     have hL1:1≤M - (kn+c):=by omega
     have hL2:M - (kn+c)≤pc - (kn+c):=by omega
     have hL1i:(1:Int)≤((M - (kn+c):Nat):Int):=by omega
     have hL2i:((M - (kn+c):Nat):Int)≤((pc - (kn+c):Nat):Int):=by omega
     have hL00:M - (kn+c)≠0:=by omega
     have hLp:0 < M - (kn+c):=by omega
     generalize hLL:M - (kn+c)=LL at *
     generalize hPC2:pc - (kn+c)=PC at *
     have HPCe:=hid hPC2
     clear hLL hPC2
     have HAT:Hid (∀ w',qv w' p s rk→Calls Tryz.prog 141 #[.pointer (some ⟨p,0,none⟩)] w' fun e w2=>Below w'.heap.size w' w2∧e=.returned (.int .i64 ((4+(jn t (LS R G P n k c) (MS Qp Qm n k c)).length:Nat):Int))):=by
      intro w' h'
      have:=Lo p s rk w' Hs.out h'
      rw [hx4] at this
      exact this
     clear hx4
     generalize hAB:4+(jn t (LS R G P n k c) (MS Qp Qm n k c)).length=AB at *
     have HAB:=hid hAB
     clear hAB
     by_cases hpe:px≠AB
     ·have HN:=hid (HPNOc.out hpe)
      have hbq:((AB:Int) == (px:Int))=false:=by simp;omega
      go_wp2_with fail
      have HCL2:=hid hcell
      clear hcell
      refine wp_region_held_drew (S:=fun w'=>w'.cell? ⟨pb,kn+c,none⟩=some (.int .i64 (px:Int))) (by kernel_rfl) ?_ (fun hHeld=>?_)
      ·exact HCL2.out
      refine tk 0 (.pointer (some ⟨p,0,none⟩)) ?_
      refine tk 2 (.slice (some ⟨pb,kn+c,none⟩) LL PC) ?_
      refine tk 3 (.pointer (some ⟨pb,kn+c,none⟩)) ?_
      refine tk 4 (.int .i64 (px:Int)) ?_
      simp only [jA,jB,jC,Act.put,jD,jE,jF]
      refine rd 1 (fun K hK=>?_)
      simp only [jA,jB,jC]
      go_simp
      go_at_call 141
      refine (HAT.out _ (show qv wr.drew p s rk from Hrd.out)).mono ?_
      rintro e w4 ⟨hb4,rfl⟩
      have hb4':=jl hb4
      have HC4:Hid (w4.cell? ⟨pb,kn+c,none⟩=some (.int .i64 (px:Int))):=(hb4'.cell (p:=⟨pb,kn+c,none⟩) (World.block_lt_of_cell? wr _ HCL2.out)).trans HCL2.out
      have HT4:=hid (Hsh.out.touch.later hb4')
      clear hb4 hb4'
      try go_wp2_with fail
      refine hK.out _ _ HC4.out (fun hHeld=>?_)
      clear hK K
      try simp only [jA,jB,jC,Act.put,jD,jE,jF]
      refine tk 5 (.bool false) ?_
      simp only [jA,jB,jC,Act.put,jD,jE,jF]
      refine rd 6 (fun K hK=>?_)
      simp only [jA,jB,jC]
      go_simp
      go_at_call 69
      refine (qS _).mono ?_
      rintro e w5 ⟨rfl,rfl⟩
      exact ⟨rfl,HT4.out,.inl ⟨rfl,HN.out⟩⟩
     ·have hpe':px=AB:=Decidable.not_not.1 hpe
      clear hpe
      subst hpe'
      have hpbw:=World.block_lt_of_cell? wr _ hcell
      clear HPNOc
      go_wp2_with fail
      go_region_held3 (fun w'=>w'.cell? ⟨pb,kn+c,none⟩=some (.int .i64 (px:Int))) (first|with_reducible exact k0|exact hcell)
       (first
        | (go_at_call 141;refine (HAT.out _ (show qv wr.drew p s rk from Hrd.out)).mono ?_;rintro e w4 ⟨hb4,rfl⟩;have hb4':=jl hb4;have k0:=(hb4'.cell (p:=⟨pb,kn+c,none⟩) hpbw).trans hcell)
        | (go_at_call 69;refine (qe _).mono ?_;rintro e w5 ⟨rfl,rfl⟩))
      have Hsh4:=hid (Hsh.out.later hb4')
      have Hrd4:=hid (qH Hrd.out hb4' (xD Hrd.out))
      have Hsp4:=hid (jN Hsp.out hb4')
      have Hbx4:=hid (jd hb4' Hbx.out)
      clear hb4 hb4' k0 hcell HAT Hsh Hrd Hsp Hbx
      have hlv:=V c
      obtain ⟨_,_,g12,g15,_,g17,_⟩:=zm Hsh4.out.sheet
      have hcc0:=Hsh4.out.cols c hlc
      rw [if_neg (Nat.lt_irrefl c)] at hcc0
      obtain ⟨va,vc,hVc⟩:=jK hcc0.row
      obtain ⟨cb,rfl,hcb,⟨ccur,hcblk⟩,hkeys⟩:=HCA.out
      have hcbp:cb≠p:=by
       rintro rfl
       have:=Hrb.out
       rw [hcblk] at this
       cases this
      have hcbQ:cb≠Q:=by
       rintro rfl
       have:=HQ.out
       rw [hcblk] at this
       cases this
      have gky:w5.cell? ⟨cb,c*4+2,none⟩=some (.int .i64 (jg t c).key):=(World.cell?_of_block (Hsh4.out.touch.block cb hcb hcbp hcbQ)).trans (hkeys c hlc)
      have gvc:w5.cell? ⟨w.heap.size,c,none⟩=some (.slice va k vc):=by
       rw [jb Hsh4.out.kb,← hVc]
       simp [hlc]
      have gfz:w5.frozen? ⟨w.heap.size,c,none⟩=false:=frozen_of_row w5 w.heap.size c _ _ Hsh4.out.kb
      obtain ⟨gb0,gb1⟩:w5.cell? ⟨bq,0,none⟩=some (.int .i64 (kG:Int))∧w5.cell? ⟨bq,1,none⟩=some (.int .i64 (E:Int)):=⟨by rw [jb Hbx4.out];rfl,by rw [jb Hbx4.out];rfl⟩
      have Hrow:=hid hcc0.row
      have HVc:=hid hVc
      have HGQ:=hid (And.intro g12 (And.intro g15 gky))
      have HS0:=hid (And.intro g17 (And.intro gvc (And.intro gb0 gb1)))
      have HFZ:=hid gfz
      clear hcc0 hVc g12 g15 gky hkeys hcblk g17 gvc gb0 gb1 gfz
      go_wp2_with fail
      all_goals
       have HV4':Hid (kn+(c+1) < M→PC≠1):=by
        intro h1 h2
        have:=HPCe.out
        omega
       by_cases hx:¬ ∃ (M1:List ModF) (z:List UInt8),ModsOk t (jh R G P k c) M1∧rk=jn t (jh R G P k c) M1++z
       ·have HN:Hid (∀ (M':List ModF) (q:List UInt8),ModsOk t (qk R n G P) M'→rest=jn t (qk R n G P) M'++q→pl≠jL t 4 true (qk R n G P) M'):=fun M' q hM' h _=>HCNO.out k c _ rk hlt hlc HOK.out (fun M1 z h1 h2=>hx ⟨M1,z,h1,h2⟩) M' q hM' (by rw [← Hrk.out];exact h)
        have HNX:Hid (∀ (M1:List ModF) (z:List UInt8),ModsOk t (jh R G P k c) M1→rk≠jn t (jh R G P k c) M1++z):=fun M1 z h1 h2=>hx ⟨M1,z,h1,h2⟩
        clear hx
        refine wp_region_held_drew (S:=fun w'=>w'.cell? ⟨Q,17,none⟩=some (.slice (some ⟨w.heap.size,0,none⟩) n n)∧w'.cell? ⟨w.heap.size,c,none⟩=some (.slice va k vc)∧w'.cell? ⟨bq,0,none⟩=some (.int .i64 (kG:Int))∧w'.cell? ⟨bq,1,none⟩=some (.int .i64 (E:Int))) (by kernel_rfl) ?_ (fun hHeld=>?_)
        ·exact HS0.out
        refine tk 0 (.pointer (some ⟨Q,0,none⟩)) ?_
        refine tk 1 (.pointer (some ⟨Q,0,none⟩)) ?_
        refine tk 2 (.pointer (some ⟨Q,17,none⟩)) ?_
        refine tk 3 (.slice (some ⟨w.heap.size,0,none⟩) n n) ?_
        refine tk 4 (.int .i64 (c:Int)) ?_
        refine tk 5 (.pointer (some ⟨Q,0,none⟩)) ?_
        refine tk 6 (.pointer (some ⟨Q,0,none⟩)) ?_
        refine tk 7 (.pointer (some ⟨Q,17,none⟩)) ?_
        refine tk 8 (.slice (some ⟨w.heap.size,0,none⟩) n n) ?_
        refine tk 9 (.int .i64 (c:Int)) ?_
        refine tk 10 (.pointer (some ⟨w.heap.size,c,none⟩)) ?_
        refine tk 11 (.slice va k vc) ?_
        refine tk 12 (.pointer (some ⟨Q,0,none⟩)) ?_
        refine tk 13 (.pointer (some ⟨p,0,none⟩)) ?_
        refine tk 14 (.int .i64 (k:Int)) ?_
        refine tk 15 (.int .i64 (c:Int)) ?_
        refine tk 16 (.pointer (some ⟨bq,1,none⟩)) ?_
        refine tk 17 (.int .i64 (E:Int)) ?_
        refine tk 18 (.pointer (some ⟨bq,0,none⟩)) ?_
        refine tk 19 (.int .i64 (kG:Int)) ?_
        refine tk 20 (.int .i64 ((PN:Nat):Int)) ?_
        simp only [jA,jB,jC,Act.put,jD,jE,jF]
        refine rd 21 (fun K hK=>?_)
        simp only [jA,jB,jC]
        go_simp
        go_at_call 142
        refine (Hcall.out c cb rk _ hlc (show qv w5.drew p s rk from Hrd4.out) HGQ.out.2.1 HGQ.out.2.2 HGQ.out.1).mono ?_
        intro e w6 h6
        obtain ⟨rfl,hg6⟩:=Te h6 HNX.out
        exact ⟨rfl,Hsh4.out.touch.grown (jP hg6) (fun k hk=>by cases hk;exact .inl rfl),.inl ⟨rfl,HN.out⟩⟩
       ·obtain ⟨M1,z1,hx1,hx2⟩:=Classical.not_not.1 hx
        have HXY:=hid (And.intro hx1 hx2)
        clear hx hx1 hx2
        obtain ⟨g17,gvc,gb0,gb1⟩:=HS0.out
        have gfz:=HFZ.out
        have hownR:=Hrow.out
        rw [HVc.out] at hownR
        have hq17:=World.block_lt_of_cell? w5 _ g17
        have hqbq:=World.block_lt_of_cell? w5 _ gb0
        have hKlt:=World.block_lt_of_cell? w5 _ gvc
        have hbqp:bq≠p:=by
         rintro rfl
         have:=ze Hrd4.out
         rw [Hbx4.out] at this
         cases this
        have hKp:w.heap.size≠p:=by omega
        have hz5:=Hsh4.out.touch.size
        have hbqK:bq≠w.heap.size:=by
         rintro rfl
         have:=Hsh4.out.kb
         rw [Hbx4.out] at this
         simp only [Option.some.injEq,Obj.cells.injEq] at this
         exact absurd this.2.1 (by decide)
        have HS3:=hid (And.intro g17 (And.intro gb0 gb1))
        refine wp_region_held_drew (S:=fun w'=>w'.cell? ⟨Q,17,none⟩=some (.slice (some ⟨w.heap.size,0,none⟩) n n)∧w'.cell? ⟨bq,0,none⟩=some (.int .i64 (kG:Int))∧w'.cell? ⟨bq,1,none⟩=some (.int .i64 (E:Int))) (by kernel_rfl) ?_ (fun hHeld=>?_)
        ·exact HS3.out
        refine tk 0 (.pointer (some ⟨Q,0,none⟩)) ?_
        refine tk 1 (.pointer (some ⟨Q,0,none⟩)) ?_
        refine tk 2 (.pointer (some ⟨Q,17,none⟩)) ?_
        refine tk 3 (.slice (some ⟨w.heap.size,0,none⟩) n n) ?_
        refine tk 4 (.int .i64 (c:Int)) ?_
        refine tk 5 (.pointer (some ⟨Q,0,none⟩)) ?_
        refine tk 6 (.pointer (some ⟨Q,0,none⟩)) ?_
        refine tk 7 (.pointer (some ⟨Q,17,none⟩)) ?_
        refine tk 8 (.slice (some ⟨w.heap.size,0,none⟩) n n) ?_
        refine tk 9 (.int .i64 (c:Int)) ?_
        refine tk 10 (.pointer (some ⟨w.heap.size,c,none⟩)) ?_
        refine tk 12 (.pointer (some ⟨Q,0,none⟩)) ?_
        refine tk 13 (.pointer (some ⟨p,0,none⟩)) ?_
        refine tk 14 (.int .i64 (k:Int)) ?_
        refine tk 15 (.int .i64 (c:Int)) ?_
        refine tk 16 (.pointer (some ⟨bq,1,none⟩)) ?_
        refine tk 17 (.int .i64 (E:Int)) ?_
        refine tk 18 (.pointer (some ⟨bq,0,none⟩)) ?_
        refine tk 19 (.int .i64 (kG:Int)) ?_
        refine tk 20 (.int .i64 ((PN:Nat):Int)) ?_
        simp only [jA,jB,jC,Act.put,jD,jE,jF]
        refine wpAnyH_ready (rs:=[11,21]) (by kernel_rfl) (by simp) ?_
        refine AllReadyH.cons (o:=_) rfl (fun K hK=>?_) (AllReadyH.cons (o:=_) rfl (fun K hK=>?_) AllReadyH.nil)
        case' refine_1 =>
         simp only [jA,jB,jC]
         go_simp
         try go_wp2_with fail
         refine hK.out _ _ HS3.out (fun hHeld=>?_)
         clear hK K
         try simp only [jA,jB,jC,Act.put,jD,jE,jF]
         refine rd 21 (fun K hK=>?_)
         simp only [jA,jB,jC]
         go_simp
         go_at_call 142
         refine (Hcall.out c cb rk _ hlc (show qv w5.drew p s rk from Hrd4.out) HGQ.out.2.1 HGQ.out.2.2 HGQ.out.1).mono ?_
         intro e w14 h14
         obtain ⟨mp,mm,pvv,rn,hg14,hok14,hml14,he14,hpv14,hrd14,hr14⟩:=RO h14 HXY.out.1 HXY.out.2
         rw [HPN0.out] at he14
         subst he14
         have hg14':=jP hg14
         obtain ⟨pva,pvc,rfl⟩:=jK hpv14
         have HML14:=hid hml14
         clear hml14
         have hkb14:=jk hg14' Hsh4.out.kb hKp
         have hsh14:=jk hg14' Hsh4.out.sheet (Ne.symm hpQ)
         have hbx14:=jk hg14' Hbx4.out hbqp
         have hownB:=qq hownR hg14' (ze Hrd4.out) (by decide)
         have hl14:=hg14'.size
         obtain ⟨_,_,_,_,_,k17,_⟩:=zm hsh14
         have kb0:w14.cell? ⟨bq,0,none⟩=some (.int .i64 (kG:Int)):=(by rw [jb hbx14];rfl)
         have kb1:w14.cell? ⟨bq,1,none⟩=some (.int .i64 (E:Int)):=(by rw [jb hbx14];rfl)
         have kvc:w14.cell? ⟨w.heap.size,c,none⟩=some (.slice va k vc):=(by rw [jb hkb14,← HVc.out];simp [hlc])
         have j17:=je (.cells #[.int .i64 ((PN:Nat):Int),(.slice pva mp.length pvc),strB [77],.int .i64 (k:Int),.int .i64 (c:Int),.int .i64 0,strB (jO (jg t c).key mm).1,strB (jO (jg t c).key mm).2] 157) k17
         have jb0:=je (.cells #[.int .i64 ((PN:Nat):Int),(.slice pva mp.length pvc),strB [77],.int .i64 (k:Int),.int .i64 (c:Int),.int .i64 0,strB (jO (jg t c).key mm).1,strB (jO (jg t c).key mm).2] 157) kb0
         have jb1:=je (.cells #[.int .i64 ((PN:Nat):Int),(.slice pva mp.length pvc),strB [77],.int .i64 (k:Int),.int .i64 (c:Int),.int .i64 0,strB (jO (jg t c).key mm).1,strB (jO (jg t c).key mm).2] 157) kb1
         have jvc:=je (.cells #[.int .i64 ((PN:Nat):Int),(.slice pva mp.length pvc),strB [77],.int .i64 (k:Int),.int .i64 (c:Int),.int .i64 0,strB (jO (jg t c).key mm).1,strB (jO (jg t c).key mm).2] 157) kvc
         clear h14
         try go_wp2_with fail
         refine hK.out _ _ ⟨k17,kb0,kb1⟩ (fun hHeld=>?_)
         clear hK K
         try simp only [jA,jB,jC,Act.put,jD,jE,jF]
         refine rd 22 (fun K hK=>?_)
         simp only [jA,jB,jC]
         go_simp
         try go_wp2_with fail
         refine hK.out _ _ ⟨j17,jb0,jb1⟩ (fun hHeld=>?_)
         clear hK K
         try simp only [jA,jB,jC,Act.put,jD,jE,jF]
         refine rd 23 (fun K hK=>?_)
         simp only [jA,jB,jC]
         rw [if_pos (by simp [Region.wanted])]
         refine wp_append_lies _ (.tmp 70) (.tmp 81) 154 rfl w.heap.size 157 i0 _ 8 104 Tryz.underlying154 hi hz0 hz1 hz2 rfl (by omega) _ k (xW R G (jg t c).key c Qm Pv k) (by rfl) (hownB.alloc _) ⟨w14.heap.size,0,none⟩ 1 1 [.int .i64 ((PN:Nat):Int),(.slice pva mp.length pvc),strB [77],.int .i64 (k:Int),.int .i64 (c:Int),.int .i64 0,strB (jO (jg t c).key mm).1,strB (jO (jg t c).key mm).2] (by rfl) (by rfl) (World.news_of_block (cs:=#[.int .i64 ((PN:Nat):Int),(.slice pva mp.length pvc),strB [77],.int .i64 (k:Int),.int .i64 (c:Int),.int .i64 0,strB (jO (jg t c).key mm).1,strB (jO (jg t c).key mm).2]) (t:=157) (fr:=(0,0)) (heap_alloc_new w14 _)) (by simp [Value.oneCell']) (by omega) (by unfold maxLen;omega) (by omega) (by simp;omega) _ rfl ?_
         intro gg gc w15 hown15 hgr15 hat15 hlt15
         have hkb15:=jz hgr15 (hownB.alloc _) (jo _ hkb14) (by decide)
         have hsh15:=jz hgr15 (hownB.alloc _) (jo _ hsh14) (by decide)
         have hbx15:=jz hgr15 (hownB.alloc _) (jo _ hbx14) (by decide)
         obtain ⟨_,_,_,_,_,l17,_⟩:=zm hsh15
         have lb0:w15.cell? ⟨bq,0,none⟩=some (.int .i64 (kG:Int)):=(by rw [jb hbx15];rfl)
         have lb1:w15.cell? ⟨bq,1,none⟩=some (.int .i64 (E:Int)):=(by rw [jb hbx15];rfl)
         have lvc:w15.cell? ⟨w.heap.size,c,none⟩=some (.slice va k vc):=(by rw [jb hkb15,← HVc.out];simp [hlc])
         have lfz:w15.frozen? ⟨w.heap.size,c,none⟩=false:=frozen_of_row w15 w.heap.size c _ _ hkb15
         have m17:(w15.setCell ⟨w.heap.size,c,none⟩ (.slice (some ⟨gg,0,none⟩) (k+1) gc)).cell? ⟨Q,17,none⟩=some (.slice (some ⟨w.heap.size,0,none⟩) n n):=(World.cell?_of_block (heap_setCell_other w15 ⟨w.heap.size,c,none⟩ Q _ (by simp;omega))).trans l17
         have mb0:(w15.setCell ⟨w.heap.size,c,none⟩ (.slice (some ⟨gg,0,none⟩) (k+1) gc)).cell? ⟨bq,0,none⟩=some (.int .i64 (kG:Int)):=(World.cell?_of_block (heap_setCell_other w15 ⟨w.heap.size,c,none⟩ bq _ hbqK)).trans lb0
         have mb1:(w15.setCell ⟨w.heap.size,c,none⟩ (.slice (some ⟨gg,0,none⟩) (k+1) gc)).cell? ⟨bq,1,none⟩=some (.int .i64 (E:Int)):=(World.cell?_of_block (heap_setCell_other w15 ⟨w.heap.size,c,none⟩ bq _ hbqK)).trans lb1
         try go_wp2_with fail
         refine hK.out _ _ ⟨l17,lb0,lb1⟩ (fun hHeld=>?_)
         clear hK K
         try simp only [jA,jB,jC,Act.put,jD,jE,jF]
         refine tk 24 (.pointer (some ⟨w.heap.size,c,none⟩)) ?_
         simp only [jA,jB,jC,Act.put,jD,jE,jF]
         refine rd 25 (fun K hK=>?_)
         simp only [jA,jB,jC]
         try go_simp
         refine hK.out _ _ ⟨m17,mb0,mb1⟩ (fun hHeld=>?_)
         clear hK K
         refine wpAnyH_done (by kernel_rfl) ?_ _
        case' refine_2 =>
         simp only [jA,jB,jC]
         go_simp
         go_at_call 142
         refine (Hcall.out c cb rk _ hlc (show qv w5.drew p s rk from Hrd4.out) HGQ.out.2.1 HGQ.out.2.2 HGQ.out.1).mono ?_
         intro e w14 h14
         obtain ⟨mp,mm,pvv,rn,hg14,hok14,hml14,he14,hpv14,hrd14,hr14⟩:=RO h14 HXY.out.1 HXY.out.2
         rw [HPN0.out] at he14
         subst he14
         have hg14':=jP hg14
         obtain ⟨pva,pvc,rfl⟩:=jK hpv14
         have HML14:=hid hml14
         clear hml14
         have hkb14:=jk hg14' Hsh4.out.kb hKp
         have hsh14:=jk hg14' Hsh4.out.sheet (Ne.symm hpQ)
         have hbx14:=jk hg14' Hbx4.out hbqp
         have hownB:=qq hownR hg14' (ze Hrd4.out) (by decide)
         have hl14:=hg14'.size
         obtain ⟨_,_,_,_,_,k17,_⟩:=zm hsh14
         have kb0:w14.cell? ⟨bq,0,none⟩=some (.int .i64 (kG:Int)):=(by rw [jb hbx14];rfl)
         have kb1:w14.cell? ⟨bq,1,none⟩=some (.int .i64 (E:Int)):=(by rw [jb hbx14];rfl)
         have kvc:w14.cell? ⟨w.heap.size,c,none⟩=some (.slice va k vc):=(by rw [jb hkb14,← HVc.out];simp [hlc])
         have j17:=je (.cells #[.int .i64 ((PN:Nat):Int),(.slice pva mp.length pvc),strB [77],.int .i64 (k:Int),.int .i64 (c:Int),.int .i64 0,strB (jO (jg t c).key mm).1,strB (jO (jg t c).key mm).2] 157) k17
         have jb0:=je (.cells #[.int .i64 ((PN:Nat):Int),(.slice pva mp.length pvc),strB [77],.int .i64 (k:Int),.int .i64 (c:Int),.int .i64 0,strB (jO (jg t c).key mm).1,strB (jO (jg t c).key mm).2] 157) kb0
         have jb1:=je (.cells #[.int .i64 ((PN:Nat):Int),(.slice pva mp.length pvc),strB [77],.int .i64 (k:Int),.int .i64 (c:Int),.int .i64 0,strB (jO (jg t c).key mm).1,strB (jO (jg t c).key mm).2] 157) kb1
         have jvc:=je (.cells #[.int .i64 ((PN:Nat):Int),(.slice pva mp.length pvc),strB [77],.int .i64 (k:Int),.int .i64 (c:Int),.int .i64 0,strB (jO (jg t c).key mm).1,strB (jO (jg t c).key mm).2] 157) kvc
         clear h14
         try go_wp2_with fail
         refine hK.out _ _ ⟨k17,kb0,kb1⟩ (fun hHeld=>?_)
         clear hK K
         try simp only [jA,jB,jC,Act.put,jD,jE,jF]
         refine wpAnyH_ready (rs:=[11,22]) (by kernel_rfl) (by simp) ?_
         refine AllReadyH.cons (o:=_) rfl (fun K hK=>?_) (AllReadyH.cons (o:=_) rfl (fun K hK=>?_) AllReadyH.nil)
         case' refine_1 =>
          simp only [jA,jB,jC]
          go_simp
          try go_wp2_with fail
          refine hK.out _ _ ⟨k17,kb0,kb1⟩ (fun hHeld=>?_)
          clear hK K
          try simp only [jA,jB,jC,Act.put,jD,jE,jF]
          refine rd 22 (fun K hK=>?_)
          simp only [jA,jB,jC]
          go_simp
          try go_wp2_with fail
          refine hK.out _ _ ⟨j17,jb0,jb1⟩ (fun hHeld=>?_)
          clear hK K
          try simp only [jA,jB,jC,Act.put,jD,jE,jF]
          refine rd 23 (fun K hK=>?_)
          simp only [jA,jB,jC]
          rw [if_pos (by simp [Region.wanted])]
          refine wp_append_lies _ (.tmp 70) (.tmp 81) 154 rfl w.heap.size 157 i0 _ 8 104 Tryz.underlying154 hi hz0 hz1 hz2 rfl (by omega) _ k (xW R G (jg t c).key c Qm Pv k) (by rfl) (hownB.alloc _) ⟨w14.heap.size,0,none⟩ 1 1 [.int .i64 ((PN:Nat):Int),(.slice pva mp.length pvc),strB [77],.int .i64 (k:Int),.int .i64 (c:Int),.int .i64 0,strB (jO (jg t c).key mm).1,strB (jO (jg t c).key mm).2] (by rfl) (by rfl) (World.news_of_block (cs:=#[.int .i64 ((PN:Nat):Int),(.slice pva mp.length pvc),strB [77],.int .i64 (k:Int),.int .i64 (c:Int),.int .i64 0,strB (jO (jg t c).key mm).1,strB (jO (jg t c).key mm).2]) (t:=157) (fr:=(0,0)) (heap_alloc_new w14 _)) (by simp [Value.oneCell']) (by omega) (by unfold maxLen;omega) (by omega) (by simp;omega) _ rfl ?_
          intro gg gc w15 hown15 hgr15 hat15 hlt15
          have hkb15:=jz hgr15 (hownB.alloc _) (jo _ hkb14) (by decide)
          have hsh15:=jz hgr15 (hownB.alloc _) (jo _ hsh14) (by decide)
          have hbx15:=jz hgr15 (hownB.alloc _) (jo _ hbx14) (by decide)
          obtain ⟨_,_,_,_,_,l17,_⟩:=zm hsh15
          have lb0:w15.cell? ⟨bq,0,none⟩=some (.int .i64 (kG:Int)):=(by rw [jb hbx15];rfl)
          have lb1:w15.cell? ⟨bq,1,none⟩=some (.int .i64 (E:Int)):=(by rw [jb hbx15];rfl)
          have lvc:w15.cell? ⟨w.heap.size,c,none⟩=some (.slice va k vc):=(by rw [jb hkb15,← HVc.out];simp [hlc])
          have lfz:w15.frozen? ⟨w.heap.size,c,none⟩=false:=frozen_of_row w15 w.heap.size c _ _ hkb15
          have m17:(w15.setCell ⟨w.heap.size,c,none⟩ (.slice (some ⟨gg,0,none⟩) (k+1) gc)).cell? ⟨Q,17,none⟩=some (.slice (some ⟨w.heap.size,0,none⟩) n n):=(World.cell?_of_block (heap_setCell_other w15 ⟨w.heap.size,c,none⟩ Q _ (by simp;omega))).trans l17
          have mb0:(w15.setCell ⟨w.heap.size,c,none⟩ (.slice (some ⟨gg,0,none⟩) (k+1) gc)).cell? ⟨bq,0,none⟩=some (.int .i64 (kG:Int)):=(World.cell?_of_block (heap_setCell_other w15 ⟨w.heap.size,c,none⟩ bq _ hbqK)).trans lb0
          have mb1:(w15.setCell ⟨w.heap.size,c,none⟩ (.slice (some ⟨gg,0,none⟩) (k+1) gc)).cell? ⟨bq,1,none⟩=some (.int .i64 (E:Int)):=(World.cell?_of_block (heap_setCell_other w15 ⟨w.heap.size,c,none⟩ bq _ hbqK)).trans lb1
          try go_wp2_with fail
          refine hK.out _ _ ⟨l17,lb0,lb1⟩ (fun hHeld=>?_)
          clear hK K
          try simp only [jA,jB,jC,Act.put,jD,jE,jF]
          refine tk 24 (.pointer (some ⟨w.heap.size,c,none⟩)) ?_
          simp only [jA,jB,jC,Act.put,jD,jE,jF]
          refine rd 25 (fun K hK=>?_)
          simp only [jA,jB,jC]
          try go_simp
          refine hK.out _ _ ⟨m17,mb0,mb1⟩ (fun hHeld=>?_)
          clear hK K
          refine wpAnyH_done (by kernel_rfl) ?_ _
         case' refine_2 =>
          simp only [jA,jB,jC]
          go_simp
          try go_wp2_with fail
          refine hK.out _ _ ⟨j17,jb0,jb1⟩ (fun hHeld=>?_)
          clear hK K
          try simp only [jA,jB,jC,Act.put,jD,jE,jF]
          refine rd 11 (fun K hK=>?_)
          simp only [jA,jB,jC]
          go_simp
          try go_wp2_with fail
          refine hK.out _ _ ⟨j17,jb0,jb1⟩ (fun hHeld=>?_)
          clear hK K
          try simp only [jA,jB,jC,Act.put,jD,jE,jF]
          refine rd 23 (fun K hK=>?_)
          simp only [jA,jB,jC]
          rw [if_pos (by simp [Region.wanted])]
          refine wp_append_lies _ (.tmp 70) (.tmp 81) 154 rfl w.heap.size 157 i0 _ 8 104 Tryz.underlying154 hi hz0 hz1 hz2 rfl (by omega) _ k (xW R G (jg t c).key c Qm Pv k) (by rfl) (hownB.alloc _) ⟨w14.heap.size,0,none⟩ 1 1 [.int .i64 ((PN:Nat):Int),(.slice pva mp.length pvc),strB [77],.int .i64 (k:Int),.int .i64 (c:Int),.int .i64 0,strB (jO (jg t c).key mm).1,strB (jO (jg t c).key mm).2] (by rfl) (by rfl) (World.news_of_block (cs:=#[.int .i64 ((PN:Nat):Int),(.slice pva mp.length pvc),strB [77],.int .i64 (k:Int),.int .i64 (c:Int),.int .i64 0,strB (jO (jg t c).key mm).1,strB (jO (jg t c).key mm).2]) (t:=157) (fr:=(0,0)) (heap_alloc_new w14 _)) (by simp [Value.oneCell']) (by omega) (by unfold maxLen;omega) (by omega) (by simp;omega) _ rfl ?_
          intro gg gc w15 hown15 hgr15 hat15 hlt15
          have hkb15:=jz hgr15 (hownB.alloc _) (jo _ hkb14) (by decide)
          have hsh15:=jz hgr15 (hownB.alloc _) (jo _ hsh14) (by decide)
          have hbx15:=jz hgr15 (hownB.alloc _) (jo _ hbx14) (by decide)
          obtain ⟨_,_,_,_,_,l17,_⟩:=zm hsh15
          have lb0:w15.cell? ⟨bq,0,none⟩=some (.int .i64 (kG:Int)):=(by rw [jb hbx15];rfl)
          have lb1:w15.cell? ⟨bq,1,none⟩=some (.int .i64 (E:Int)):=(by rw [jb hbx15];rfl)
          have lvc:w15.cell? ⟨w.heap.size,c,none⟩=some (.slice va k vc):=(by rw [jb hkb15,← HVc.out];simp [hlc])
          have lfz:w15.frozen? ⟨w.heap.size,c,none⟩=false:=frozen_of_row w15 w.heap.size c _ _ hkb15
          have m17:(w15.setCell ⟨w.heap.size,c,none⟩ (.slice (some ⟨gg,0,none⟩) (k+1) gc)).cell? ⟨Q,17,none⟩=some (.slice (some ⟨w.heap.size,0,none⟩) n n):=(World.cell?_of_block (heap_setCell_other w15 ⟨w.heap.size,c,none⟩ Q _ (by simp;omega))).trans l17
          have mb0:(w15.setCell ⟨w.heap.size,c,none⟩ (.slice (some ⟨gg,0,none⟩) (k+1) gc)).cell? ⟨bq,0,none⟩=some (.int .i64 (kG:Int)):=(World.cell?_of_block (heap_setCell_other w15 ⟨w.heap.size,c,none⟩ bq _ hbqK)).trans lb0
          have mb1:(w15.setCell ⟨w.heap.size,c,none⟩ (.slice (some ⟨gg,0,none⟩) (k+1) gc)).cell? ⟨bq,1,none⟩=some (.int .i64 (E:Int)):=(World.cell?_of_block (heap_setCell_other w15 ⟨w.heap.size,c,none⟩ bq _ hbqK)).trans lb1
          try go_wp2_with fail
          refine hK.out _ _ ⟨l17,lb0,lb1⟩ (fun hHeld=>?_)
          clear hK K
          try simp only [jA,jB,jC,Act.put,jD,jE,jF]
          refine tk 24 (.pointer (some ⟨w.heap.size,c,none⟩)) ?_
          simp only [jA,jB,jC,Act.put,jD,jE,jF]
          refine rd 25 (fun K hK=>?_)
          simp only [jA,jB,jC]
          try go_simp
          refine hK.out _ _ ⟨m17,mb0,mb1⟩ (fun hHeld=>?_)
          clear hK K
          refine wpAnyH_done (by kernel_rfl) ?_ _
        all_goals
         have hstep:=Hsh4.out.step (o:=.cells #[.int .i64 ((PN:Nat):Int),(.slice pva mp.length pvc),strB [77],.int .i64 (k:Int),.int .i64 (c:Int),.int .i64 0,strB (jO (jg t c).key mm).1,strB (jO (jg t c).key mm).2] 157) (gg:=gg) (gc:=gc) (w2:=w15) hlc Hrd4.out hplt hQlt hpQ hg14' hpv14 hok14 HML14.out (by rw [HPN0.out];exact hown15) (by rw [HVc.out];exact hgr15) (by rw [HVc.out];exact hat15)
         have HSTEP:=hid hstep
         have hsp14:=(qq Hsp4.out hg14' (ze Hrd4.out) (by decide)).alloc (.cells #[.int .i64 ((PN:Nat):Int),(.slice pva mp.length pvc),strB [77],.int .i64 (k:Int),.int .i64 (c:Int),.int .i64 0,strB (jO (jg t c).key mm).1,strB (jO (jg t c).key mm).2] 157)
         have HSPE:=hid (qq (hsp14.kept hgr15 (zn hsp14 (hownB.alloc _) (by decide))) (qr w15 w.heap.size c (.slice (some ⟨gg,0,none⟩) (k+1) gc)) hkb15 (by decide))
         have HBXE:=hid (jk (qr w15 w.heap.size c (.slice (some ⟨gg,0,none⟩) (k+1) gc)) hbx15 hbqK)
         have hr15:=jz hgr15 (hownB.alloc _) (jo _ (ze hrd14)) (by decide)
         have HRDE:=hid (zH (Zo hrd14 hr15) (qr w15 w.heap.size c (.slice (some ⟨gg,0,none⟩) (k+1) gc)) (Ne.symm hKp))
         have HOK14:=hid hok14
         have HR14:=hid hr14
         clear hstep hsp14 hr15 hok14 hr14 hpv14 hrd14 hg14 hg14' hkb14 hsh14 hbx14 hownB k17 kb0 kb1 kvc j17 jb0 jb1 jvc hown15 hgr15 hat15 hlt15 hkb15 hsh15 hbx15 l17 lb0 lb1 lvc lfz m17 mb0 mb1 g17 gvc gb0 gb1 gfz hownR
         generalize w15.setCell _ _=wE at *
         go_wp2
         go_roundw
         case rel =>
          refine ⟨c+1,_,_,_,_,rn,by omega,by go_num,?_,HSTEP.out,HRDE.out,?_,?_,HSPE.out,HBXE.out⟩
          ·intro h1
           first
           | exact HPSN.out.symm
           | (exfalso;exact HV4'.out h1 (by assumption))
          ·rw [Cu,PX,zU _ _ _ _ (qT HOK.out),Hrk.out,HR14.out]
           simp only [List.append_assoc]
          ·rw [Cu,PX,Nv HOK.out (qT HOK14.out),HPLX.out,Hpk.out,HAB.out]
         case measure=>simp [intOf];omega
    ·have hce:c=n:=by omega
     subst hce
     have hcii:¬ (c:Int) < (c:Int):=by omega
     have Hv5:=hid hv5
     clear hv5
     go_wp2
     go_roundw
     case rel =>
      refine ⟨k+1,V,Qp,Qm,Pv,rk,by omega,by go_num,?_,Hsh.out.next,Hrd.out,by rw [← Ei,← Cw];exact Hrk.out,?_,Hsp.out⟩
      ·intro h1
       rw [← HMK.out] at h1 ⊢
       exact Hv5.out h1
      ·rw [← Ei,← Cw,← HMK.out]
       exact Hpk.out
     case measure=>simp [intOf];omega
  ·have hke:k=CN:=by omega
   have hkii:¬ (k:Int) < (CN:Int):=by omega
   have HOK:Hid (ModsOk t (LS R G P n k 0) (MS Qp Qm n k 0)):=LW (Nat.zero_le _) (fun i hi g hg=>((Hsh.out.cols i hi).ok g hg).1)
   have HF:Hid (ShAt t R G P n Q p w.heap.size (sheetH f0 f1 f2 f3 f4 f5 f6 f7 f8 f9 R G P F b (.slice ca n cc) (ps 0)) w wr (jX R G) 0 V Qp Qm Pv∧ModsOk t (qk R n G P) (xk (fun g c=>Qp g c++[Qm g c]) n (jX R G))∧rest=jn t (qk R n G P) (xk (fun g c=>Qp g c++[Qm g c]) n (jX R G))++rk∧pl=jL t 4 true (qk R n G P) (xk (fun g c=>Qp g c++[Qm g c]) n (jX R G))):=by
    have e1:LS R G P n k 0=qk R n G P:=by rw [hke];exact HALL.out
    have e2:MS Qp Qm n k 0=xk (fun g c=>Qp g c++[Qm g c]) n (jX R G):=by rw [Bm,hke,HCN.out]
    have h1:=HOK.out
    have h2:=Hrk.out
    have h3:=Hpk.out
    rw [e1,e2] at h1 h2 h3
    refine ⟨by rw [HCN.out,← hke];exact Hsh.out,h1,h2,?_⟩
    rw [List.take_of_length_le (by rw [HpM.out,HM.out,hke];exact Nat.le_refl _)] at h3
    exact h3
   clear hke
   go_wp2
   go_end0
   exact ⟨HF.out.1.touch,.inr ⟨_,V,Qp,Qm,Pv,rk,rfl,HF.out.1,Hrd.out,HF.out.2.1,HF.out.2.2.1,HF.out.2.2.2⟩⟩
end Go.Proofs.YthhpbhpfagoapabGreat
