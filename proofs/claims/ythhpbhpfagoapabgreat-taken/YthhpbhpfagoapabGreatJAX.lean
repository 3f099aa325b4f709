import Derived.Test.YthhpbhpfagoapabGreatJAW
import Derived.Test.YthhpbhpfagoapabGreatJBI
import Derived.Test.YthhpbhpfagoapabGreatXRForm2
import Derived.Defers
import Derived.Recover
import Derived.Laws.Pointers
import Derived.Laws.Tables
import Derived.Laws.Rows
namespace Go.Proofs.YthhpbhpfagoapabGreat
set_option linter.unusedVariables false
set_option linter.unusedSimpArgs false
set_option maxRecDepth 100000
set_option maxHeartbeats 16000000
open Go.RowKit
section
theorem KeptT.above {T:List TypeId} {B:Nat} {a b c:World} {row:Option Nat} (h:KeptT T B a b) (hg:b.grownBy c row) (hB:B≤a.heap.size) (hr:∀ k,row=some k→a.heap.size≤k):KeptT T B a c:=by
 have hbl:∀ k,k < a.heap.size→c.heap[k]?=b.heap[k]?:=fun k hk=>hg.block k (Nat.lt_of_lt_of_le hk h.size) (fun e=>by have:=hr k e.symm;omega)
 refine ⟨hg.os.trans h.os,hg.tape.trans h.tape,hg.output.trans h.output,Nat.le_trans h.size hg.size,fun k hk=>(hbl k (by omega)).trans (h.block k hk),fun k o hk ho=>?_⟩
 exact (hbl k (Array.getElem?_eq_some_iff.1 hk).1).trans (h.other k o hk ho)
theorem YN (q:Nat) (ta:Option Addr) (tcap:Nat) (rv:Value) (j:JobB) (st:StB) (B:Nat) (w:World) (h1:0 < j.table.length) (hl:LiesT w ta j.table) (hp:PressAt w B q (.slice ta j.table.length tcap) rv j st) :
  Calls Tryz.prog 66 #[.pointer (some ⟨q,0,none⟩)] w fun e w'=>e=.returned (.int .i64 (qb j.table:Int))∧w'=w:=by
 obtain ⟨ov,lv,hrow,_⟩:=hp
 have c0:=(qO hrow).1.1
 obtain ⟨b,off,rfl,hbw,hcell⟩:=hl.at_ (List.ne_nil_of_length_pos (by omega))
 obtain ⟨_,_,_,v0,f4,ca0,cap0,rfl,hcc0,_⟩:=hcell 0 h1
 simp only [Nat.zero_mul,Nat.add_zero] at f4
 have h0i:(0:Int) < (j.table.length:Int):=by omega
 have HR:=hid (NL h1)
 clear hcell hrow
 go_enter Tryz.func66,Tryz.ntmps66
 go_wp2
 go_ret
 exact ⟨xd (by rw [HR.out]),rfl⟩
theorem Tryz.infoIntW:(Tryz.prog.info? 3).map (fun i=>(i.zero,i.size,i.bytes))=some (some (.int .i64 0),1,8):=by kernel_rfl
theorem EA (ps:List Nat) (n:Nat):xJ (ps++[n])=xJ ps++[.int .i64 (n:Int)]:=by simp [xJ]
theorem AT (q:Nat) (ta:Option Addr) (tcap:Nat) (ra:Option Addr) (rcap:Nat) (r:List KeyB) (j:JobB) (st:StB) (w0 w:World) (hL:Laid w0 ta tcap ra rcap j r) (hb:Below w0.heap.size w0 w)
  (hs:st.out.length≤4) (hg:st.log.length=0) (hp:PressAt w w0.heap.size q (.slice ta j.table.length tcap) (.slice ra r.length rcap) j st) :
  Calls Tryz.prog 64 #[.pointer (some ⟨q,0,none⟩)] w
   fun e w'=>∃ v,e=.returned v∧w'.ownsRow w.heap.size 3 1 v (qP j r st true (qG j)).length (xJ (qP j r st true (qG j))) ∧
    PressAt w' w0.heap.size q (.slice ta j.table.length tcap) (.slice ra r.length rcap) j (qA j r st (qG j))∧KeptT pressT w0.heap.size w w':=by
 obtain ⟨i0,hi,hz0,hz1,hz2⟩:=info_parts Tryz.infoIntW
 have Hp:=hid hp
 have HL:=hid hL
 have Hb:=hid hb
 have h1:=hL.good.table.few.1
 have hC6:=hL.good.table.few.2
 obtain ⟨⟨hG1,hG6⟩,⟨hP1,hP6⟩,_⟩:=hL.good.sizes
 have hR:=hL.good.table.rows
 have hplan:=hL.good.plan
 simp only [qM,Bool.and_eq_true,decide_eq_true_eq] at hplan
 obtain ⟨G,hG⟩:∃ G:Nat,j.plan.group=(G:Int):=⟨j.plan.group.toNat,by omega⟩
 have hGG:j.plan.group.toNat=G:=by omega
 have HGG:=hid hGG
 have HSJ:Hid (qG j=jH (qb j.table) j.table.length G j.plan.page.toNat (jY (qb j.table) G)):=by show _=_;unfold qG qm;rw [hGG]
 rw [hGG] at hG1 hG6
 obtain ⟨ov,lv,hrow,hBq,_⟩:=hp
 have c1:=(qO hrow).1.2.1
 rw [hG] at c1
 have Hrw:=hid (YN q ta tcap (.slice ra r.length rcap) j st w0.heap.size)
 have Hsl:=hid (Un (r:=r) hL.good.table)
 generalize hRR:qb j.table=R at *
 have HRR:=hid hRR
 generalize hPP:j.plan.page.toNat=P at *
 have HPP:=hid hPP
 clear hL hb hplan hG hGG hRR hPP
 go_enter Tryz.func64,Tryz.ntmps64
 go_wp2_with fail
 have hq:q < w.heap.size:=(Array.getElem?_eq_some_iff.1 hrow).1
 go_region_held3 (fun w'=>w'.cell? ⟨q,1,none⟩=some (.int .i64 (G:Int)))
  (first|exact (hb2.cell (p:=⟨q,1,none⟩) hq).trans c1|exact c1)
  (first
   | (go_at_call 66;refine (Hrw.out _ (by omega) ((HL.out.table.later Hb.out).later (Xf _)) (Hp.out.later (Xf _))).mono ?_;rintro e w1 ⟨rfl,rfl⟩)
   | (go_at_call 95;refine (UQ R G _ (by omega) hG1 (by omega)).mono ?_;rintro e w2 ⟨sv,rfl,hsp,hb2⟩;replace hb2:=jl hb2;obtain ⟨sa,sc,rfl⟩:=jL hsp))
 have hsp2:w2.ownsRow w.heap.size 169 2 (.slice sa (jY R G) sc) (jY R G) (JJ R G (jY R G)):=hsp
 have Hsp:=hid hsp2
 have HP2:=hid (Hp.out.later hb2)
 have HK2:=hid (Below.keptT (T:=pressT) hb2 Hb.out.size)
 have hcle:=Ql (n:=R) hG1
 have HCL:=hid (fun k=>Ju (n:=R) (size:=G) (i:=k) hG1)
 clear hsp hsp2 hb2 c1 hrow hq
 generalize jY R G=CN at *
 go_wp2_with fail
 go_loopw [3,17] (fun v i wr=>∃ k:Nat,k≤CN∧i=.int .i64 (k:Int)∧PressAt wr w0.heap.size q (.slice ta j.table.length tcap) (.slice ra r.length rcap) j (qA j r st (jH R j.table.length G P k))∧wr.ownsRow w.heap.size 3 1 v (qP j r st true (jH R j.table.length G P k)).length (xJ (qP j r st true (jH R j.table.length G P k)))∧wr.ownsRow w.heap.size 169 2 (.slice sa CN sc) CN (JJ R G CN)∧KeptT pressT w0.heap.size w wr) (fun _ i _=>CN - (intOf i).toNat)
 case atStart=>exact ⟨0,Nat.zero_le _,rfl,HP2.out,World.ownsRow_nil _ _ _ _,Hsp.out,HK2.out⟩
 case round =>
  clear HP2 Hsp HK2 Hp
  obtain ⟨k,hkl,rfl,hpr,hown,hsp,hK⟩:=hrel
  have Hpr:=hid hpr
  have Hown:=hid hown
  have Hsp:=hid hsp
  have hBw0:=Hb.out.trans hK.below
  clear hpr hown hsp
  by_cases hlt:k < CN
  ·have hki:(k:Int) < (CN:Int):=by omega
   obtain ⟨sg,rfl,hsg,s1,s2⟩:=Vu Hsp.out hlt
   have hkG:k*G < R:=(HCL.out k).1 hlt
   have hprx:=Hpr.out
   obtain ⟨ov,lv,hrow,hBq,_⟩:=hprx
   have c0:=(qO hrow).1.1
   have hq:q < wr.heap.size:=(Array.getElem?_eq_some_iff.1 hrow).1
   have HCH:Hid (∀ c (st':StB) (w':World),Below w0.heap.size w0 w'→st'.out.length≤80000000→st'.log.length≤22000→c < j.table.length→PressAt w' w0.heap.size q (.slice ta j.table.length tcap) (.slice ra r.length rcap) j st' →
     Calls Tryz.prog 96 #[.pointer (some ⟨q,0,none⟩),.int .i64 (k:Int),.int .i64 (c:Int),.agg #[.int .i64 ((k*G:Nat):Int),.int .i64 ((min (k*G+G) R:Nat):Int)]] w'
      fun e w2=>e=.returned (.tuple #[])∧PressAt w2 w0.heap.size q (.slice ta j.table.length tcap) (.slice ra r.length rcap) j (qA j r st' (jh R G P k c))∧KeptT pressT w0.heap.size w' w2):=by
    intro c st' w' hw' ho hlg hc hp'
    have:=MQ q ta tcap ra rcap r j st' k c w0 w' HL.out hw' ho hlg (by rw [HGG.out,HRR.out];exact hkG) hc hp'
    rw [HGG.out,HRR.out,HPP.out] at this
    exact this
   have HSG:=hid (zK R j.table.length G P k)
   have hml:=ZJ R j.table.length G P k
   generalize hkG0:k*G=kG at *
   generalize hE0:min (kG+G) R=E at *
   have HSP:Hid (∀ s ∈ jH R j.table.length G P k,s.c < j.table.length∧s.many≤60):=fun s hs2=>⟨(Dr s hs2).1,by have:=(Dr s hs2).2;omega⟩
   have hsl3:=Ea R j.table.length G P k (by omega) hG6 hC6
   have Hml:=hid hml
   clear hkG0 hE0 hkG hml
   go_wp2_with fail
   obtain ⟨hbx,hsx,_,hhx⟩:=jK wr #[.int .i64 (kG:Int),.int .i64 (E:Int)] 169
   have HKx:=hid (hK.trans (Below.keptT hbx (by have:=hBw0.size;omega)))
   have Hhx:=hid hhx
   have Hprx:=hid (Hpr.out.later hbx)
   have Hownx:=hid (ju Hown.out hbx)
   have Hspx:=hid (ju Hsp.out hbx)
   clear s1 s2 hbx hK hsg hhx hBw0 c0 hrow
   generalize wr.alloc _=wx at *
   generalize wr.heap.size=bq at *
   go_loopw [3,28] (fun v i w3=>∃ c:Nat,c≤j.table.length∧i=.int .i64 (c:Int)∧PressAt w3 w0.heap.size q (.slice ta j.table.length tcap) (.slice ra r.length rcap) j (qA j r st (jH R j.table.length G P k++jr R G P k c))∧w3.ownsRow w.heap.size 3 1 v (qP j r st true (jH R j.table.length G P k++jr R G P k c)).length (xJ (qP j r st true (jH R j.table.length G P k++jr R G P k c)))∧w3.ownsRow w.heap.size 169 2 (.slice (some ⟨sg,0,none⟩) CN sc) CN (JJ R G CN)∧w3.heap[bq]?=some (.cells #[.int .i64 (kG:Int),.int .i64 (E:Int)] 169 (0,0))∧KeptT pressT w0.heap.size w w3) (fun _ i _=>j.table.length - (intOf i).toNat)
   case atStart=>exact ⟨0,Nat.zero_le _,rfl,by simpa [jr] using Hprx.out,by simpa [jr] using Hownx.out,Hspx.out,Hhx.out,HKx.out⟩
   case round =>
    clear Hprx Hownx Hspx Hhx HKx Hpr Hown Hsp
    obtain ⟨c,hcl,rfl,hpr,hown,hsp,hbx,hK⟩:=hrel
    have Hpr:=hid hpr
    have Hsp:=hid hsp
    have Hbx:=hid hbx
    have hBw0:=Hb.out.trans hK.below
    have hgs:∀ s ∈ jH R j.table.length G P k++jr R G P k c,s.c < j.table.length∧s.many≤60:=by
     intro s hs2
     rcases List.mem_append.1 hs2 with h|h
     ·exact HSP.out s h
     ·exact ⟨by have:=(Uf s h).1;omega,by have:=(Uf s h).2;omega⟩
    have hlk:=Hsl.out (jH R j.table.length G P k++jr R G P k c) st hgs
    have hgl:=YS R G P k c (by omega) hG6
    rw [List.length_append] at hlk
    have Hpl:Hid ((qP j r st true (jH R j.table.length G P k++jr R G P k c)).length≤366):=by
     show _≤_
     have e1:=JZ j r st R j.table.length G P k
     rw [zW,List.length_append,e1,Hml.out,Xc]
     have:k*j.table.length≤60*6:=Nat.mul_le_mul (by omega) hC6
     omega
    clear hpr hsp hbx hgs
    by_cases hlc:c < j.table.length
    ·have hci:(c:Int) < (j.table.length:Int):=by omega
     have HPS:Hid (qP j r st true (jH R j.table.length G P k++jr R G P k (c+1))=qP j r st true (jH R j.table.length G P k++jr R G P k c)++[(qA j r st (jH R j.table.length G P k++jr R G P k c)).out.length]):=by
      show _=_
      rw [zL,← List.append_assoc,zW (l:=jH R j.table.length G P k++jr R G P k c)]
      have hm2:xS true (jH R j.table.length G P k++jr R G P k c)=true:=by rw [Jp,Hml.out,QB]
      rw [hm2,VF]
     have HSS:Hid (qA j r st (jH R j.table.length G P k++jr R G P k (c+1))=qA j r (qA j r st (jH R j.table.length G P k++jr R G P k c)) (jh R G P k c)):=by
      show _=_
      rw [zL,← List.append_assoc,XY]
     have hplx:=Hpl.out
     generalize qA j r st (jH R j.table.length G P k++jr R G P k c)=st1 at *
     generalize qP j r st true (jH R j.table.length G P k++jr R G P k c)=pl1 at *
     have hprx:=Hpr.out
     obtain ⟨ov,lv,hrow,hBq,hout,hlog⟩:=hprx
     obtain ⟨oa,oc,rfl⟩:=jL hout
     have c8:=(qO hrow).1.2.2.2.2.2.2.1
     have hrb:=hBw0.size
     have hrw:=hK.size
     clear hrow hout hlog
     go_wp2_with (at_builtin;refine wpList_append_own _ rfl (.tmp 31) (.tmp 37) 22 rfl w.heap.size 3 i0 (.int .i64 0) 1 8 Tryz.underlying22 hi hz0 hz1 hz2 rfl (by decide) _ _ _ rfl (hown.alloc _) ⟨_,0,none⟩ 1 1 [.int .i64 (st1.out.length:Int)] rfl rfl ?c1 ?c2 ?c3 ?c4 ?c5 ?_)
     case c1=>exact qE wr #[.int .i64 (st1.out.length:Int)] 3
     case c2=>intro u hu;simp at hu;subst hu;rfl
     case c3=>unfold maxLen;omega
     case c4=>omega
     case c5=>simp;omega
     intro v3 w4 hown4 hgr4 _
     have hpr4:PressAt w4 w0.heap.size q (.slice ta j.table.length tcap) (.slice ra r.length rcap) j st1:=by
      obtain ⟨ov',lv',h1',h2',h3',h4'⟩:=Hpr.out.later ((Below.refl _ _).alloc (Nat.le_refl _) (.cells #[.int .i64 (st1.out.length:Int)] 3))
      exact ⟨ov',lv',jz hgr4 (hown.alloc _) h1' (by decide),h2',h3'.kept hgr4 (zo h3' (hown.alloc _) (by decide)),h4'.kept hgr4 (zo h4' (hown.alloc _) (by decide))⟩
     have hoa:=hown.alloc (.cells #[.int .i64 (st1.out.length:Int)] 3)
     have hsp4:=(Hsp.out.alloc (.cells #[.int .i64 (st1.out.length:Int)] 3)).kept hgr4 (zo (Hsp.out.alloc (.cells #[.int .i64 (st1.out.length:Int)] 3)) hoa (by decide))
     have hbx4:=jz hgr4 hoa (jo _ Hbx.out) (by decide)
     have hK4:KeptT pressT w0.heap.size w w4:=(hK.alloc hrb _).above hgr4 Hb.out.size (fun k hk=>(hown.lt k hk).1)
     have hB4:=Hb.out.trans hK4.below
     have HO4:Hid (w4.ownsRow w.heap.size 3 1 v3 (qP j r st true (jH R j.table.length G P k++jr R G P k (c+1))).length (xJ (qP j r st true (jH R j.table.length G P k++jr R G P k (c+1))))):=by
      show World.ownsRow _ _ _ _ _ _ _
      rw [HPS.out,EA,List.length_append]
      exact hown4
     obtain ⟨y0,y1⟩:=Bw hbx4
     have Hbx4:=hid hbx4
     have Hsp4:=hid hsp4
     have Hpr4:=hid hpr4
     clear hown hgr4 hown4 hoa hsp4 hbx4 hpr4 c8 hK
     go_wp2_with fail
     refine (HCH.out c st1 w4 hB4 (by omega) (by omega) hlc Hpr4.out).mono ?_
     rintro e w5 ⟨rfl,hp5,hk5⟩
     have HP5:=hid hp5
     have HK5:=hid (hK4.trans hk5)
     have HS5:=hid (hk5.owns Hsp4.out (by decide))
     have HX5:=hid (hk5.row Hbx4.out (by decide))
     have HO5:=hid (hk5.owns HO4.out (by decide))
     clear hp5 hk5 y0 y1 hK4 hB4
     go_wp2
     go_roundw
     case rel=>exact ⟨c+1,by omega,by go_num,by rw [HSS.out];exact HP5.out,HO5.out,HS5.out,HX5.out,HK5.out⟩
     case measure=>simp [intOf];omega
    ·have hce:c=j.table.length:=by omega
     subst hce
     have HO:=hid hown
     have HK:=hid hK
     clear hown hK
     go_wp2
     go_roundw
     case rel=>exact ⟨k+1,by omega,by go_num,by rw [HSG.out];exact Hpr.out,by rw [HSG.out];exact HO.out,Hsp.out,HK.out⟩
     case measure=>simp [intOf];omega
  ·have hke:k=CN:=by omega
   subst hke
   go_wp2
   go_ret
   exact ⟨_,rfl,by rw [HSJ.out];exact Hown.out,by rw [HSJ.out];exact Hpr.out,hK⟩
end
section
theorem FL (j:JobB) (r:List KeyB) (hJ:GoodJ j r) (a:Option Addr) (cap:Nat) (pv:Value) (places:List Nat) (base:Nat) (w:World) (hps:places.length≤360) (hpb:∀ x ∈ places,x≤80000000)
  (hl:LiesT w a j.table) (hpl:w.ownsRow base 3 1 pv places.length (xJ places)) :
  Calls Tryz.prog 97 #[.agg #[.int .i64 (qb j.table:Int),.int .i64 j.plan.group,.int .i64 j.plan.page,.int .i64 j.plan.foot,.bool j.plan.told,.slice a j.table.length cap,pv]] w
   fun e w'=>e=.returned (strB (qn (qb j.table) j.plan j.table places))∧Below w.heap.size w w':=by
 have hplan:=hJ.plan
 simp only [qM,Bool.and_eq_true,decide_eq_true_eq] at hplan
 have hR:=hJ.table.rows
 have h6:=hJ.table.few.2
 have h:=Pu (qb j.table) j.plan.group.toNat j.plan.page.toNat j.plan.foot.toNat j.plan.told a cap j.table pv places base w hR (by omega) (by omega) (by omega) h6 hps hpb (by
  intro c hc
  obtain ⟨k,hk,rfl⟩:=List.mem_iff_getElem.1 hc
  obtain ⟨a1,a2,a3,a4⟩:=hJ.table.head k hk
  exact ⟨(Ku a1).2,by omega,a3,a4⟩) hl hpl
 have e1:((j.plan.group.toNat:Nat):Int)=j.plan.group:=by omega
 have e2:((j.plan.page.toNat:Nat):Int)=j.plan.page:=by omega
 have e3:((j.plan.foot.toNat:Nat):Int)=j.plan.foot:=by omega
 rw [e1,e2,e3] at h
 exact h
theorem YV (s:List UInt8) (G:Nat) (w:World) (hs:s.length≤100000) (h:w.heap[G]?=some (.cells #[strB s] 9 (0,0))):SX w (.slice (some ⟨G,0,none⟩) 1 1) s:=by
 intro w' hw
 have h':=jd hw h
 have:=Kt [s] G 1 w' (by simp) (by simp;omega) (Array.getElem?_eq_some_iff.1 h').1 (by
  intro i hi
  have h0:i=0:=by simpa using hi
  subst h0
  rw [jb h']
  rfl)
 simpa using this
theorem RT {w:World} {b q:Nat} {x0 x1 x2 x3 x4 x5 x6:Value} {t:TypeId} {tv rv ov lv:Value} {j:JobB} (h:w.heap[b]?=some (.cells #[x0,x1,x2,x3,x4,x5,x6] t (0,0))) (hp:w.heap[q]?=some (.cells (pressC tv rv ov lv j) 131 (0,0))) :
  w.cell? ⟨b,0,none⟩=some x0∧w.cell? ⟨b,1,none⟩=some x1∧w.cell? ⟨b,2,none⟩=some x2∧w.cell? ⟨b,3,none⟩=some x3∧w.cell? ⟨b,4,none⟩=some x4∧w.cell? ⟨b,5,none⟩=some x5∧w.cell? ⟨b,6,none⟩=some x6∧w.cell? ⟨q,5,none⟩=some (strB j.pre) :=
 ⟨by rw [jb h];rfl,by rw [jb h];rfl,by rw [jb h];rfl,by rw [jb h];rfl,by rw [jb h];rfl,by rw [jb h];rfl,by rw [jb h];rfl,(qO hp).1.2.2.2.1⟩
theorem By (j:JobB) (r:List KeyB) (f:List UInt8) (st:StB) (hf:f.length≤3900):st.out.length≤(Jb j r f st).out.length∧(Jb j r f st).out.length≤st.out.length+4000:=by
 unfold Jb
 split
 ·have h1:=(QD j.draw (ji r j.plan.foot) (jR j.pre 83 0 0 0++f) [] (zU f st)).1
  have h2:=VR f st
  rw [h1,h2]
  simp only [List.length_nil]
  omega
 ·have h1:=(QD j.draw (ji r j.plan.foot) (jR j.pre 70 0 0 0) f st).1
  omega
theorem Lo (q:Nat) (ta:Option Addr) (tcap:Nat) (ra:Option Addr) (rcap:Nat) (r:List KeyB) (j:JobB) (st:StB) (pv:Value) (places:List Nat) (base:Nat) (w0 w:World) (hL:Laid w0 ta tcap ra rcap j r) (hb:Below w0.heap.size w0 w)
  (hs:st.out.length≤80000000) (hg:st.log.length≤22000) (hps:places.length≤360) (hpb:∀ x ∈ places,x≤80000000) (hfl:(qn (qb j.table) j.plan j.table places).length≤3900)
  (hpl:w.ownsRow base 3 1 pv places.length (xJ places))
  (hp:PressAt w w0.heap.size q (.slice ta j.table.length tcap) (.slice ra r.length rcap) j st) :
  Calls Tryz.prog 65 #[.pointer (some ⟨q,0,none⟩),.agg #[.int .i64 (qb j.table:Int),.int .i64 j.plan.group,.int .i64 j.plan.page,.int .i64 j.plan.foot,.bool j.plan.told,.slice ta j.table.length tcap,pv]] w
   fun e w'=>e=.returned (.tuple #[])∧PressAt w' w0.heap.size q (.slice ta j.table.length tcap) (.slice ra r.length rcap) j ⟨(Jb j r (qn (qb j.table) j.plan j.table places) st).out++(qz (((Jb j r (qn (qb j.table) j.plan j.table places) st).out.length - st.out.length:Nat):Int)++[67,70]),(Jb j r (qn (qb j.table) j.plan j.table places) st).log⟩∧KeptT pressT w0.heap.size w w':=by
 have Hp:=hid hp
 have HL:=hid hL
 have Hb:=hid hb
 have HTX:Hid (∀ w',Below w.heap.size w w'→Calls Tryz.prog 97 #[.agg #[.int .i64 (qb j.table:Int),.int .i64 j.plan.group,.int .i64 j.plan.page,.int .i64 j.plan.foot,.bool j.plan.told,.slice ta j.table.length tcap,pv]] w'
   fun e w2=>e=.returned (strB (qn (qb j.table) j.plan j.table places))∧Below w'.heap.size w' w2):=fun w' hw=>FL j r hL.good ta tcap pv places base w' hps hpb ((hL.table.later hb).later hw) (ju hpl hw)
 obtain ⟨pa,pc,rfl,_⟩:=Gb hpl
 generalize hFF:qn (qb j.table) j.plan j.table places=f at *
 have hel:=By j r f st hfl
 have HES:Hid (Jb j r f st=if j.plan.told=true then zx j.draw (ji r j.plan.foot) (jR j.pre 83 0 0 0++f) [] (zU f st) else zx j.draw (ji r j.plan.foot) (jR j.pre 70 0 0 0) f st):=rfl
 have hbl1:=JO j.pre 83 0 0 0 hL.good.pre
 have hbl2:=JO j.pre 70 0 0 0 hL.good.pre
 have hopl:=VR f st
 obtain ⟨ov,lv,hrow,hBq,hout,hlog⟩:=hp
 obtain ⟨oa,oc,rfl⟩:=jL hout
 have c8:=(qO hrow).1.2.2.2.2.2.2.1
 have hq:q < w.heap.size:=(Array.getElem?_eq_some_iff.1 hrow).1
 have Hrow:=hid hrow
 have Hsec:=hid (hL.secret j.plan.foot)
 clear hFF hpl hrow hout hlog hL hb hpb
 go_enter Tryz.func65,Tryz.ntmps65
 go_wp2_with fail
 obtain ⟨hbx,hsx,_,hhx⟩:=jK w #[.int .i64 (qb j.table:Int),.int .i64 j.plan.group,.int .i64 j.plan.page,.int .i64 j.plan.foot,.bool j.plan.told,.slice ta j.table.length tcap,.slice pa places.length pc] 79
 have Hbx:=hid hbx
 have hrx:=jd hbx Hrow.out
 clear hbx c8
 generalize w.alloc _=wx at *
 go_region_held3 (fun w'=>w'.cell? ⟨w.heap.size,0,none⟩=some (.int .i64 (qb j.table:Int))∧w'.cell? ⟨w.heap.size,1,none⟩=some (.int .i64 j.plan.group)∧w'.cell? ⟨w.heap.size,2,none⟩=some (.int .i64 j.plan.page)∧w'.cell? ⟨w.heap.size,3,none⟩=some (.int .i64 j.plan.foot)∧w'.cell? ⟨w.heap.size,4,none⟩=some (.bool j.plan.told)∧w'.cell? ⟨w.heap.size,5,none⟩=some (.slice ta j.table.length tcap)∧w'.cell? ⟨w.heap.size,6,none⟩=some (.slice pa places.length pc)∧w'.cell? ⟨q,5,none⟩=some (strB j.pre))
  (first|exact RT Y1 Z1|exact RT hhx hrx)
  (first
   | (go_at_call 97;refine (HTX.out _ Hbx.out.drew).mono ?_;rintro e w1 ⟨rfl,hb1⟩;replace hb1:=jl hb1;have Y1:=jd hb1 hhx;have Z1:=jd hb1 hrx))
 have hB1:=Hbx.out.trans (hb1.mono Hbx.out.size)
 have hBw1:=Hb.out.trans (hB1.mono Hb.out.size)
 have Hp1:=hid (Hp.out.later hB1)
 have HK1:=hid (Below.keptT (T:=pressT) hB1 Hb.out.size)
 have y4:=(RT Y1 Z1).2.2.2.2.1
 have Hr1:=hid (HL.out.ring.later hBw1)
 clear Y1 Z1 hhx hrx hb1
 go_simp
 have hfin:∀ (w3:World),PressAt w3 w0.heap.size q (.slice ta j.table.length tcap) (.slice ra r.length rcap) j (Jb j r f st)→KeptT pressT w0.heap.size w w3→True:=fun _ _ _=>trivial
 clear hfin
 cases htd:j.plan.told with
 | true =>
  have HES2:Hid (Jb j r f st=zx j.draw (ji r j.plan.foot) (jR j.pre 83 0 0 0++f) [] (zU f st)):=by show _=_;rw [HES.out,htd];rfl
  clear HES y4
  go_wp2_with fail
  refine (El w0.heap.size q (.slice ta j.table.length tcap) (.slice ra r.length rcap) j st f w1 (by omega) (by omega) hBw1.size Hp1.out).mono ?_
  rintro e w2 ⟨rfl,hp2,hk2⟩
  have Hp2:=hid hp2
  have hBw2:=hBw1.trans hk2.below
  have HK2:=hid (HK1.out.trans hk2)
  clear hp2 hk2 htd
  go_wp2_with fail
  obtain ⟨hb3,_,_,hh3⟩:=jK w2 #[strB f] 9
  have hJ3:=YV f w2.heap.size _ (by omega) hh3
  have hBw3:=hBw2.trans (hb3.mono hBw2.size)
  have Hp3:=hid (Hp2.out.later hb3)
  have HK3:=hid (HK2.out.trans (Below.keptT (T:=pressT) hb3 hBw2.size))
  clear hb3 hh3
  generalize w2.alloc _=w3 at *
  refine (XW 83 0 0 0 j.pre (.slice (some ⟨w2.heap.size,0,none⟩) 1 1) f w3 (by decide) (by decide) (by decide) HL.out.good.pre (by omega) hJ3).mono ?_
  rintro e w4 ⟨rfl,hb4⟩
  have hBw4:=hBw3.trans (hb4.mono hBw3.size)
  have Hp4:=hid (Hp3.out.later hb4)
  have HK4:=hid (HK3.out.trans (Below.keptT (T:=pressT) hb4 hBw3.size))
  have hexl:(jR j.pre 83 0 0 0++f).length≤5000:=by rw [List.length_append];omega
  generalize jR j.pre 83 0 0 0++f=ex at *
  clear hb4 hJ3
  go_wp2_with fail
  refine (Gw w0.heap.size q (.slice ta j.table.length tcap) ra rcap r j (zU f st) j.plan.foot [] ex w4 (by rw [hopl];omega) (by simp only [zU];omega) (by decide) hexl HL.out.good.draw.1 HL.out.good.draw.2 Hsec.out HL.out.len (HL.out.ring.later hBw4) hBw4.size Hp4.out).mono ?_
  rintro e w5 ⟨rfl,hp5,hk5⟩
  rw [← HES2.out] at hp5
  have HK5:=hid (HK4.out.trans hk5)
  have hBw5:=hBw4.trans hk5.below
  have Hp5:=hid hp5
  obtain ⟨ov5,lv5,hrow5,_,hout5,_⟩:=hp5
  obtain ⟨oa5,oc5,rfl⟩:=jL hout5
  have c8:=(qO hrow5).1.2.2.2.2.2.2.1
  clear hrow5 hout5 hk5 HES2
  generalize hS5:Jb j r f st=st5 at *
  have HS5:=hid hS5
  clear hS5
  obtain ⟨he1,he2⟩:=hel
  have hsub:IntKind.i64.wrap ((st5.out.length:Int) - (st.out.length:Int))=((st5.out.length - st.out.length:Nat):Int):=by rw [IntKind.wrap_i64];omega
  go_wp2_with fail
  refine (Qf ((st5.out.length - st.out.length:Nat):Int) w5 (by omega) (by omega)).mono ?_
  rintro e w6 ⟨rfl,hb6⟩
  have hBw6:=hBw5.trans (hb6.mono hBw5.size)
  have h2c:(qz ((st5.out.length - st.out.length:Nat):Int)).length≤2:=Nat.le_of_eq (jx _)
  generalize hTT:qz ((st5.out.length - st.out.length:Nat):Int)=TT at *
  have HTT:=hid hTT
  clear hTT
  clear hsub c8
  go_wp2_with fail
  obtain ⟨hb7,_,_,hh7⟩:=jK w6 #[strB TT,strB [67,70]] 9
  have hBw7:=hBw6.trans (hb7.mono hBw6.size)
  refine (Zh w0.heap.size q w6.heap.size 2 (.slice ta j.table.length tcap) (.slice ra r.length rcap) j st5 [TT,[67,70]] _ rfl (by decide) (by simp;omega) hBw7.size ((Hp5.out.later hb6).later hb7) hh7).mono ?_
  rintro e w8 ⟨rfl,hp8,hk8⟩
  have HK8:=hid (((HK5.out.trans (Below.keptT (T:=pressT) hb6 hBw5.size)).trans (Below.keptT (T:=pressT) hb7 hBw6.size)).trans hk8)
  have HP8:=hid hp8
  clear hp8 hk8 hb6 hb7 hh7
  go_wp2
  go_end0
  exact ⟨rfl,by rw [HS5.out,HTT.out];simpa using HP8.out,HK8.out⟩
 | false =>
  have HES2:Hid (Jb j r f st=zx j.draw (ji r j.plan.foot) (jR j.pre 70 0 0 0) f st):=by show _=_;rw [HES.out,htd];rfl
  clear HES y4
  go_wp2_with fail
  refine (XW 70 0 0 0 j.pre (.slice none 0 0) [] w1 (by decide) (by decide) (by decide) HL.out.good.pre (by decide) (KK w1)).mono ?_
  rw [List.append_nil]
  rintro e w4 ⟨rfl,hb4⟩
  have hBw4:=hBw1.trans (hb4.mono hBw1.size)
  have Hp4:=hid (Hp1.out.later hb4)
  have HK4:=hid (HK1.out.trans (Below.keptT (T:=pressT) hb4 hBw1.size))
  generalize jR j.pre 70 0 0 0=ex at *
  clear hb4 htd
  go_wp2_with fail
  refine (Gw w0.heap.size q (.slice ta j.table.length tcap) ra rcap r j st j.plan.foot f ex w4 (by omega) (by omega) (by omega) (by omega) HL.out.good.draw.1 HL.out.good.draw.2 Hsec.out HL.out.len (HL.out.ring.later hBw4) hBw4.size Hp4.out).mono ?_
  rintro e w5 ⟨rfl,hp5,hk5⟩
  rw [← HES2.out] at hp5
  have HK5:=hid (HK4.out.trans hk5)
  have hBw5:=hBw4.trans hk5.below
  have Hp5:=hid hp5
  obtain ⟨ov5,lv5,hrow5,_,hout5,_⟩:=hp5
  obtain ⟨oa5,oc5,rfl⟩:=jL hout5
  have c8:=(qO hrow5).1.2.2.2.2.2.2.1
  clear hrow5 hout5 hk5 HES2
  generalize hS5:Jb j r f st=st5 at *
  have HS5:=hid hS5
  clear hS5
  obtain ⟨he1,he2⟩:=hel
  have hsub:IntKind.i64.wrap ((st5.out.length:Int) - (st.out.length:Int))=((st5.out.length - st.out.length:Nat):Int):=by rw [IntKind.wrap_i64];omega
  go_wp2_with fail
  refine (Qf ((st5.out.length - st.out.length:Nat):Int) w5 (by omega) (by omega)).mono ?_
  rintro e w6 ⟨rfl,hb6⟩
  have hBw6:=hBw5.trans (hb6.mono hBw5.size)
  have h2c:(qz ((st5.out.length - st.out.length:Nat):Int)).length≤2:=Nat.le_of_eq (jx _)
  generalize hTT:qz ((st5.out.length - st.out.length:Nat):Int)=TT at *
  have HTT:=hid hTT
  clear hTT
  clear hsub c8
  go_wp2_with fail
  obtain ⟨hb7,_,_,hh7⟩:=jK w6 #[strB TT,strB [67,70]] 9
  have hBw7:=hBw6.trans (hb7.mono hBw6.size)
  refine (Zh w0.heap.size q w6.heap.size 2 (.slice ta j.table.length tcap) (.slice ra r.length rcap) j st5 [TT,[67,70]] _ rfl (by decide) (by simp;omega) hBw7.size ((Hp5.out.later hb6).later hb7) hh7).mono ?_
  rintro e w8 ⟨rfl,hp8,hk8⟩
  have HK8:=hid (((HK5.out.trans (Below.keptT (T:=pressT) hb6 hBw5.size)).trans (Below.keptT (T:=pressT) hb7 hBw6.size)).trans hk8)
  have HP8:=hid hp8
  clear hp8 hk8 hb6 hb7 hh7
  go_wp2
  go_end0
  exact ⟨rfl,by rw [HS5.out,HTT.out];simpa using HP8.out,HK8.out⟩
end
section
theorem Vw {w:World} {b b' e s n:Nat} {v:Value} {xs:List Value} (h:w.ownsRow b e s v n xs) (hb:b'≤b):w.ownsRow b' e s v n xs:=by
 obtain ⟨h1,h2⟩:=h
 refine ⟨h1,?_⟩
 rcases h2 with h2|⟨g,cap,cur,hv,hg,rest⟩
 ·exact .inl h2
 ·exact .inr ⟨g,cap,cur,hv,Nat.le_trans hb hg,rest⟩
theorem YM {w:World} {a:Option Addr} {t:List ColB} (h:LiesT w a t):∀ c ∈ t,∀ x ∈ c.cells,-9223372036854775808≤x.int∧x.int≤9223372036854775807:=by
 intro c hc x hx
 obtain ⟨k,hk,rfl⟩:=List.mem_iff_getElem.1 hc
 obtain ⟨b,off,_,_,hcell⟩:=h.at_ (List.ne_nil_of_length_pos (by omega))
 obtain ⟨_,_,_,v,_,ca,cap,_,_,hl,_⟩:=hcell k hk
 obtain ⟨h0,h1,_⟩:=hl.ok x hx
 exact ⟨h0,h1⟩
theorem GE {j:JobB} {r:List KeyB} (h:zH j r=0) (hf:∀ c ∈ j.table,∀ x ∈ c.cells,-9223372036854775808≤x.int∧x.int≤9223372036854775807):GoodJ j r:=by
 unfold zH at h
 split at h
 ·omega
 ·rename_i h1
  split at h
  ·omega
  ·rename_i h2
   split at h
   ·omega
   ·rename_i h3
    split at h
    ·omega
    ·rename_i h4
     simp only [Bool.not_eq_false,Bool.and_eq_true,decide_eq_true_eq] at h1 h2 h3 h4
     exact ⟨⟨h1,hf⟩,h2.1,h2.2.1,h2.2.2,h3,by simpa using h4⟩
theorem CW {w:World} {b:Nat} {v:Value} {j:JobB} (h:w.heap[b]?=some (.cells #[v,.int .i64 j.plan.group,.int .i64 j.plan.page,.int .i64 j.plan.foot,.bool j.plan.told,strB j.pre,.int .i64 j.draw] 27 (0,0))) :
  w.cell? ⟨b,0,none⟩=some v∧w.cell? ⟨b,1,none⟩=some (.int .i64 j.plan.group)∧w.cell? ⟨b,2,none⟩=some (.int .i64 j.plan.page)∧w.cell? ⟨b,3,none⟩=some (.int .i64 j.plan.foot)∧w.cell? ⟨b,4,none⟩=some (.bool j.plan.told) :=
 ⟨by rw [jb h];rfl,by rw [jb h];rfl,by rw [jb h];rfl,by rw [jb h];rfl,by rw [jb h];rfl⟩
theorem Mk (ta:Option Addr) (tcap:Nat) (ra:Option Addr) (rcap:Nat) (r:List KeyB) (j:JobB) (w:World) (hL:Laid w ta tcap ra rcap j r) :
  Calls Tryz.prog 37 #[jobV (.slice ta j.table.length tcap) j,.slice ra r.length rcap] w
   fun e w'=>∃ lv,e=.returned (.tuple #[strB (zr j r),lv])∧w'.ownsRow w.heap.size 54 4 lv (Jg j r).length (qI (Jg j r))∧Below w.heap.size w w':=by
 have HL:=hid hL
 obtain ⟨hpl,hpb,hft⟩:=hL.good.foot
 have Hpb:=hid hpb
 obtain ⟨hbo,hbg⟩:=hL.good.body (qG j).length
 rw [List.take_length] at hbo hbg
 have hf0:=hL.good.sizes.2.2
 have h1:=hL.good.table.few.1
 have HFB:Hid (zr j r=(Jb j r (xZ j r) (xC j r)).out++(qz (((Jb j r (xZ j r) (xC j r)).out.length - (xC j r).out.length:Nat):Int)++[67,70])):=rfl
 have HLB:Hid (Jg j r=(Jb j r (xZ j r) (xC j r)).log):=rfl
 clear hL hpb
 go_enter Tryz.func37,Tryz.ntmps37
 go_wp2_with fail
 obtain ⟨hbA,_,_,hhA⟩:=jK w #[.slice ta j.table.length tcap,.int .i64 j.plan.group,.int .i64 j.plan.page,.int .i64 j.plan.foot,.bool j.plan.told,strB j.pre,.int .i64 j.draw] 27
 have hsz:(w.alloc (.cells #[.slice ta j.table.length tcap,.int .i64 j.plan.group,.int .i64 j.plan.page,.int .i64 j.plan.foot,.bool j.plan.told,strB j.pre,.int .i64 j.draw] 27)).heap.size=w.heap.size+1:=by simp
 generalize w.alloc (.cells #[.slice ta j.table.length tcap,.int .i64 j.plan.group,.int .i64 j.plan.page,.int .i64 j.plan.foot,.bool j.plan.told,strB j.pre,.int .i64 j.draw] 27)=wa at *
 obtain ⟨hbB,_,_,hhB⟩:=jK wa (pressC (.slice ta j.table.length tcap) (.slice ra r.length rcap) (.slice none 0 0) (.slice none 0 0) j) 131
 have HLA:Hid (Laid wa ta tcap ra rcap j r):=⟨HL.out.table.later hbA,HL.out.ring.later hbA,HL.out.len,HL.out.good,HL.out.caps⟩
 have HP0:Hid (PressAt (wa.alloc (.cells (pressC (.slice ta j.table.length tcap) (.slice ra r.length rcap) (.slice none 0 0) (.slice none 0 0) j) 131)) wa.heap.size wa.heap.size (.slice ta j.table.length tcap) (.slice ra r.length rcap) j ⟨[],[]⟩) :=
  ⟨_,_,hhB,Nat.le_refl _,World.ownsRow_nil _ _ _ _,World.ownsRow_nil _ _ _ _⟩
 have hjB:=jd hbB hhA
 rw [← hsz]
 clear hhB hsz
 generalize wa.alloc _=wb at *
 have HbA:=hid hbA
 have HbB:=hid hbB
 have HjB:=hid hjB
 clear hbA hbB hjB hhA
 generalize hqq:wa.heap.size=q at *
 have Hqq:=hid hqq
 have hqb:q≤wb.heap.size:=by have:=HbB.out.size;rw [hqq] at this;exact this
 clear hqq
 refine (So j.plan wb hf0.1 hf0.2).mono ?_
 rintro e w1 ⟨rfl,hb1⟩
 have hB1:Below q wa w1:=HbB.out.trans (hb1.mono hqb)
 go_wp2_with fail
 obtain ⟨hb2,_,_,hh2⟩:=jK w1 #[strB (zw j.plan)] 9
 have hB2:Below q wa (w1.alloc (.cells #[strB (zw j.plan)] 9)):=hB1.trans (hb2.mono (Nat.le_trans hqb hb1.size))
 refine (Zh q q w1.heap.size 1 (.slice ta j.table.length tcap) (.slice ra r.length rcap) j ⟨[],[]⟩ [zw j.plan] _ rfl (by decide) (by simp [zw]) ?_ ((HP0.out.later hb1).later hb2) hh2).mono ?_
 ·exact Nat.le_trans hqb (Nat.le_trans hb1.size hb2.size)
 rintro e w3 ⟨rfl,hp3,hk3⟩
 have hp3':PressAt w3 q q (.slice ta j.table.length tcap) (.slice ra r.length rcap) j ⟨zw j.plan,[]⟩:=by simpa using hp3
 have Hp3:=hid hp3'
 have hB3:Below q wa w3:=hB2.trans hk3.below
 have HJ3:=hid (hk3.row (jd hb2 (jd hb1 HjB.out)) (by decide))
 clear hp3 hp3' hk3 hh2 hb2 hb1 hB1 hB2 HjB HP0
 go_wp2_with fail
 have Hch:=AT q ta tcap ra rcap r j ⟨zw j.plan,[]⟩ wa w3 HLA.out (by rw [Hqq.out];exact hB3) (by simp [zw]) rfl (by rw [Hqq.out];exact Hp3.out)
 rw [Hqq.out] at Hch
 refine Hch.mono ?_
 clear Hch
 rintro e w4 ⟨pv,rfl,ho4,hp4,hk4⟩
 have Ho4:Hid (w4.ownsRow w3.heap.size 3 1 pv (zI j r).length (xJ (zI j r))):=ho4
 have Hp4:Hid (PressAt w4 q q (.slice ta j.table.length tcap) (.slice ra r.length rcap) j (xC j r)):=hp4
 have hB4:Below q wa w4:=hB3.trans hk4.below
 have HJ4:=hid (hk4.row HJ3.out (by decide))
 clear ho4 hp4 hk4 HJ3 hB3 Hp3
 obtain ⟨pa,pc,rfl,_⟩:=Gb Ho4.out
 go_wp2_with fail
 have hj4:=HJ4.out
 have HRW:=hid (fun w'=>YN q ta tcap (.slice ra r.length rcap) j (xC j r) q w' (by omega))
 have HEN:Hid (∀ w',Below q wa w'→w'.ownsRow w3.heap.size 3 1 (.slice pa (zI j r).length pc) (zI j r).length (xJ (zI j r))→PressAt w' q q (.slice ta j.table.length tcap) (.slice ra r.length rcap) j (xC j r) →
   Calls Tryz.prog 65 #[.pointer (some ⟨q,0,none⟩),.agg #[.int .i64 (qb j.table:Int),.int .i64 j.plan.group,.int .i64 j.plan.page,.int .i64 j.plan.foot,.bool j.plan.told,.slice ta j.table.length tcap,.slice pa (zI j r).length pc]] w'
    fun e w2=>e=.returned (.tuple #[])∧PressAt w2 q q (.slice ta j.table.length tcap) (.slice ra r.length rcap) j ⟨zr j r,Jg j r⟩∧KeptT pressT q w' w2):=by
  intro w' hw' ho' hp'
  have:=Lo q ta tcap ra rcap r j (xC j r) (.slice pa (zI j r).length pc) (zI j r) w3.heap.size wa w' HLA.out (by rw [Hqq.out];exact hw') hbo (Nat.le_trans hbg (by decide)) hpl Hpb.out hft ho' (by rw [Hqq.out];exact hp')
  rw [Hqq.out] at this
  exact this
 clear hbo hbg
 generalize xC j r=bst at *
 generalize zI j r=plj at *
 go_region_held3 (fun w'=>w'.cell? ⟨w.heap.size,0,none⟩=some (.slice ta j.table.length tcap)∧w'.cell? ⟨w.heap.size,1,none⟩=some (.int .i64 j.plan.group)∧w'.cell? ⟨w.heap.size,2,none⟩=some (.int .i64 j.plan.page)∧w'.cell? ⟨w.heap.size,3,none⟩=some (.int .i64 j.plan.foot)∧w'.cell? ⟨w.heap.size,4,none⟩=some (.bool j.plan.told))
  (first|exact CW Y6|exact CW hj4)
  (first
   | (go_at_call 66;refine (HRW.out _ (HLA.out.table.later (by rw [Hqq.out];exact hB4.drew)) (Hp4.out.later (Xf _))).mono ?_;rintro e w5 ⟨rfl,rfl⟩)
   | (go_at_call 65;refine (HEN.out _ hB4.drew (ju Ho4.out (Xf _)) (Hp4.out.later (Xf _))).mono ?_;rintro e w6 ⟨rfl,hp6,hk6⟩;have Y6:=(KeptT.undrew hk6).row hj4 (by decide)))
 have hk6':=KeptT.undrew hk6
 have HB6:Hid (Below w.heap.size w w6):=by
  have h6:Below q wa w6:=hB4.trans hk6'.below
  exact HbA.out.trans (h6.mono (by rw [← Hqq.out];exact HbA.out.size))
 have hBq6:w.heap.size≤q:=by rw [← Hqq.out];exact HbA.out.size
 obtain ⟨ov,lv,hrow6,_,hout6,hlog6⟩:=hp6
 simp only at hout6 hlog6
 obtain ⟨oa,oc,rfl⟩:=jL hout6
 obtain ⟨la,lc,rfl⟩:=jL hlog6
 have HL6:=hid (Vw hlog6 hBq6)
 have c8:=(qO hrow6).1.2.2.2.2.2.2.1
 have c9:=(qO hrow6).1.2.2.2.2.2.2.2
 have hcv:∀ n,Sem.run Tryz.prog (convert 64 9 (.slice oa (zr j r).length oc)) (w6.drewN n)=.ok (strB (zr j r)) (w6.drewN n):=fun n=>Km (W:=w6.drewN n) (base:=q) (n:=(zr j r).length) hout6
 clear Y6 hj4 hrow6 hout6 hlog6 hk6 hk6' hB4 HFB HLB
 generalize hFF:zr j r=FF at *
 have HFF:=hid hFF
 generalize hLG:Jg j r=LG at *
 have HLG:=hid hLG
 clear hFF hLG
 go_wp2_with fail
 go_quiet (fail)
 go_wp2
 go_ret2
 rw [HFF.out,HLG.out]
 exact ⟨_,rfl,HL6.out,below_drewN HB6.out nq⟩
theorem Rv (ta:Option Addr) (tcap:Nat) (ra:Option Addr) (rcap:Nat) (r:List KeyB) (j:JobB) (w:World) (hj:LiesJ w ta tcap j) (hr:LiesK w ra r) (hrm:r.length≤maxLen) :
  Calls Tryz.prog 22 #[jobV (.slice ta j.table.length tcap) j,.slice ra r.length rcap] w
   fun e w'=>Below w.heap.size w w'∧((zH j r≠0∧e=.returned (.tuple #[strB [],.slice none 0 0,.int .i64 (zH j r)])) ∨
    (zH j r=0∧∃ lv,e=.returned (.tuple #[strB (zr j r),lv,.int .i64 0])∧w'.ownsRow w.heap.size 54 4 lv (Jg j r).length (qI (Jg j r)))):=by
 have Hj:=hid hj
 have Hr:=hid hr
 have HGE:=hid (fun h=>GE (j:=j) (r:=r) h (YM hj.table))
 clear hj hr
 go_enter Tryz.func22,Tryz.ntmps22
 go_wp2_with fail
 obtain ⟨hb0,hs1,_,_⟩:=jK w #[.slice ta j.table.length tcap,.int .i64 j.plan.group,.int .i64 j.plan.page,.int .i64 j.plan.foot,.bool j.plan.told,strB j.pre,.int .i64 j.draw] 27
 have Hx0:=hid (NR w (.slice ta j.table.length tcap) j 27)
 have Hj0:=hid (Hj.out.later hb0)
 have Hr0:=hid (Hr.out.later hb0)
 have Hb0:=hid hb0
 clear hb0
 generalize w.alloc _=w0 at *
 refine (ES ta tcap j ra rcap r w0 Hj0.out Hr0.out hrm).mono ?_
 rintro e w1 ⟨rfl,hb1⟩
 have hB1:=Hb0.out.trans (hb1.mono Hb0.out.size)
 by_cases hz:zH j r=0
 ·have HG:=hid (HGE.out hz)
  have Hz:=hid hz
  rw [hz]
  clear hz
  obtain ⟨x0,x1,x2,x3,x4,x5,x6⟩:=Hx0.out.later hs1 hb1
  go_wp2_with fail
  refine (Mk ta tcap ra rcap r j w1 ⟨Hj0.out.table.later hb1,Hr0.out.later hb1,hrm,HG.out,Hj0.out.cap_⟩).mono ?_
  rintro e w2 ⟨lv,rfl,ho2,hb2⟩
  have HB2:=hid (hB1.trans (hb2.mono hB1.size))
  have HO2:=hid (Vw ho2 hB1.size)
  clear x0 x1 x2 x3 x4 x5 x6 ho2 hb2 hb1 hB1
  generalize hFF:zr j r=FF at *
  have HFF:=hid hFF
  generalize hLG:Jg j r=LG at *
  have HLG:=hid hLG
  clear hFF hLG
  go_wp2
  refine bodyPost_ret (v:=.tuple #[strB FF,lv,.int .i64 0]) (by simp [results,Tryz.results22,go_sem]) rfl ?_
  rw [HFF.out,HLG.out]
  exact ⟨HB2.out,.inr ⟨Hz.out,lv,rfl,HO2.out⟩⟩
 ·have hz2:(zH j r != 0)=true:=by simpa using hz
  have Hz:=hid hz
  clear hz
  generalize hER:zH j r=er at *
  have HER:=hid hER
  clear hER
  go_wp2
  refine bodyPost_ret (v:=.tuple #[strB [],.slice none 0 0,.int .i64 er]) (by simp [results,Tryz.results22,go_sem]) rfl ?_
  rw [HER.out]
  exact ⟨hB1,.inl ⟨Hz.out,rfl⟩⟩
end
section
abbrev formC (f:FormF):Array Value:=#[.int .i64 (f.foot:Int),.bool f.told,strB f.footer,strB [if f.told=true then 83 else 70],.int .i64 0,.int .i64 0,.int .i64 0,strB f.nonce,strB f.body,strB (qg f)]
abbrev form0:Array Value:=#[.int .i64 0,.bool false,Value.string { data:=#[] },Value.string { data:=#[] },.int .i64 0,.int .i64 0,.int .i64 0,Value.string { data:=#[] },Value.string { data:=#[] },Value.string { data:=#[] }]
theorem UF (f:FormF):(formC f).all (·.oneCell')=true:=by simp [Value.oneCell']
theorem Va (w:World) (g:Nat) (cs:Array Value):w.grownBy (w.setRow g cs) (some g) :=
 ⟨rfl,rfl,rfl,by simp,fun k _ hk=>setRow_other w g k cs (fun e=>hk (by rw [e]))⟩
theorem SS (file:List UInt8) (B:Nat) (w:World) (hs:file.length≤maxLen) (hB:w.cell? ⟨B,0,none⟩=some (strB file)) :
  Calls Tryz.prog 41 #[.pointer (some ⟨B,0,none⟩)] w (BY file w):=by
 have Hs:=hid hs
 have hBa:=je (.cells form0 77) hB
 clear hs
 obtain ⟨hb0,hl0,_,ho0⟩:=jK w form0 77
 go_enter Tryz.func41,Tryz.ntmps41
 go_wp2_with fail
 clear hBa hB
 refine (II file (w.alloc (.cells form0 77)) Hs.out).mono ?_
 generalize w.alloc _=W0 at *
 have HB0:=hid hb0
 have Ho0:=hid ho0
 clear hb0 ho0
 rintro e w1 ⟨hb1,⟨rfl,hn⟩|⟨f,hf,rfl⟩⟩
 ·have HN:=hid hn
  have HB1:=hid (HB0.out.trans (hb1.mono HB0.out.size))
  clear hb1 hn
  go_wp2
  exact ⟨rfl,HB1.out,.inl ⟨rfl,HN.out⟩⟩
 ·have HF:=hid hf
  have HB1:=hid (HB0.out.trans (hb1.mono HB0.out.size))
  have Ho1:=hid (jd hb1 Ho0.out)
  clear hb1 hf
  go_wp2_with (refine wpList_store_row rfl 77 (.tmp 1) (.tmp 3) rfl w.heap.size (formC f) rfl rfl 77 form0 Ho1.out (by kernel_rfl) rfl (UF f) ?_)
  have HoF:=hid (setRow_heap w1 w.heap.size _ (formC f) 77 (0,0) Ho1.out)
  have HBF:=hid (HB1.out.trans (jq (Va w1 w.heap.size (formC f)) (Nat.le_refl _) HB1.out.size))
  generalize w1.setRow _ _=WF at *
  exact bodyPost_ret (v:=formV f) (results_cell_row (P:=Tryz.prog) (p:=1) (ty:=77) rfl _ _ w.heap.size 77 (formC f) (0,0) _ rfl HoF.out Tryz.underlying77 rfl (by kernel_rfl)) rfl ⟨HBF.out,.inr ⟨f,HF.out,rfl⟩⟩
theorem Gu (p:Addr) (b:Bool) (u:TypeId) (pv:Value) (older:List PanicEntry) (w:World) (hc:w.cell? p=some (.bool b)) (hz:w.frozen? p=false) :
  CallsD Tryz.prog 68 #[.pointer (some p)] (.panicking ({ v:=.iface u pv,recovered:=false } :: older)) w fun e u' w' =>
   e=.returned (.tuple #[])∧u'=.panicking ({ v:=.iface u pv,recovered:=true } :: older)∧w'=w.setCell p (.bool false):=by
 refine callsD_of_wpS Tryz.func68 rfl fun c₀ cs hu=>?_
 apply wpS_region
 simp [wpOpsS,go_sem,recoverD,hu,Tryz.ntmps68,Exit.thenS,hc,hz,bodyPostS,results,Tryz.results68]
theorem De (p:Addr) (b:Bool) (w:World) (hc:w.cell? p=some (.bool b)) (hz:w.frozen? p=false) :
  CallsD Tryz.prog 68 #[.pointer (some p)] .returning w fun e u' w'=>e=.returned (.tuple #[])∧u'=.returning∧w'=w.setCell p (.bool true):=by
 refine callsD_of_wpS Tryz.func68 rfl fun c₀ cs hu=>?_
 apply wpS_region
 simp [wpOpsS,go_sem,recoverD,hu,Tryz.ntmps68,Exit.thenS,hc,hz,bodyPostS,results,Tryz.results68]
 cases c₀
 simp_all
theorem BA (file:List UInt8) (B:Nat) (w:World) (hs:file.length≤maxLen) (hB:w.cell? ⟨B,0,none⟩=some (strB file)) :
  Calls Tryz.prog 40 #[.func (.func 41) #[] #[.pointer (some ⟨B,0,none⟩)]] w fun e w'=>Below w.heap.size w w' ∧
   ((zq file=none∧e=.returned (.tuple #[.agg form0,.bool false]))∨∃ f,zq file=some f∧e=.returned (.tuple #[formV f,.bool true])):=by
 have hmf:∀ (fn:Fn) (first cap:Array Value) (w:World),(Instr.makeFunc fn first cap).run Tryz.prog w=.ok (.func fn first cap) w:=fun _ _ _ _=>rfl
 have Hs:=hid hs
 have hBa:=je (.cells #[.bool false] 4) (je (.cells form0 77) hB)
 obtain ⟨hb0,hl0,ho0,hk0⟩:=JY w form0 77 #[.bool false] 4
 have HBa:=hid hBa
 clear hs hB hBa
 go_enter_defers Tryz.func40,Tryz.ntmps40
 go_wp2_with fail
 refine (SS file B ((w.alloc (.cells form0 77)).alloc (.cells #[.bool false] 4)) Hs.out HBa.out).mono ?_
 clear HBa
 generalize (w.alloc _).alloc _=W0 at *
 have HB0:=hid hb0
 have Ho0:=hid ho0
 have Hk0:=hid hk0
 clear hb0 ho0 hk0
 rintro e w2 ⟨hb2,ho⟩
 have HB2:=hid (HB0.out.trans (hb2.mono HB0.out.size))
 have Ho2:=hid (jd hb2 Ho0.out)
 have Hk2:=hid (jd hb2 Hk0.out)
 have hc2:w2.cell? ⟨w.heap.size+1,0,none⟩=some (.bool false):=by rw [jb Hk2.out];rfl
 have hz2:w2.frozen? ⟨w.heap.size+1,0,none⟩=false:=frozen_of_row w2 _ _ _ _ Hk2.out
 rcases ho with ⟨rfl,hn⟩|⟨f,hf,rfl⟩
 ·have Hn:=hid hn
  clear hn hb2
  go_wp2
  refine leaves_cons (f:=68) (args:=#[.pointer (some ⟨w.heap.size+1,0,none⟩)]) (by simp) (by simp [go_sem]) ?_
  refine (Gu ⟨w.heap.size+1,0,none⟩ false 9 _ [] _ hc2 hz2).mono ?_
  rintro e u' w'' ⟨rfl,rfl,rfl⟩
  have hW:=World.cell?_setCell_same w2 ⟨w.heap.size+1,0,none⟩ (.bool false) hc2
  have HBW:=hid (HB2.out.setCell (p:=⟨w.heap.size+1,0,none⟩) (by simp) (.bool false))
  have HoW:=hid (jk (qv w2 (w.heap.size+1) 0 (.bool false)) Ho2.out (by omega))
  generalize w2.setCell _ _=W at *
  obtain ⟨⟨o0,o1,o2,o3,o4,o5,o6,o7,o8,o9⟩,_⟩:=xE HoW.out
  simp [Leaves,settle,results,Tryz.results40,go_sem,hW,o0,o1,o2,o3,o4,o5,o6,o7,o8,o9]
  exact ⟨HBW.out,Hn.out⟩
 ·have Hf:=hid hf
  have hg3:=Va w2 w.heap.size (formC f)
  have Hk3:=hid (jk hg3 Hk2.out (by omega))
  have Ho3:=hid (setRow_heap w2 w.heap.size _ (formC f) 77 (0,0) Ho2.out)
  have HB3:=hid (HB2.out.trans (jq hg3 (Nat.le_refl _) HB2.out.size))
  have hc3:(w2.setRow w.heap.size (formC f)).cell? ⟨w.heap.size+1,0,none⟩=some (.bool false):=by rw [jb Hk3.out];rfl
  have hz3:(w2.setRow w.heap.size (formC f)).frozen? ⟨w.heap.size+1,0,none⟩=false:=frozen_of_row _ _ _ _ _ Hk3.out
  clear hf hb2 hg3 hc2 hz2
  go_wp2_with (refine wpList_store_row rfl 77 (.tmp 2) (.tmp 6) rfl w.heap.size (formC f) rfl rfl 77 form0 Ho2.out (by kernel_rfl) rfl (UF f) ?_)
  generalize w2.setRow _ _=w3 at *
  refine leaves_cons (f:=68) (args:=#[.pointer (some ⟨w.heap.size+1,0,none⟩)]) (by simp) (by simp [go_sem]) ?_
  refine (De ⟨w.heap.size+1,0,none⟩ true _ ?_ ?_).mono ?_
  ·exact World.cell?_setCell_same w3 ⟨w.heap.size+1,0,none⟩ (.bool true) hc3
  ·simp [hz3]
  rintro e u' w'' ⟨rfl,rfl,rfl⟩
  have hW1:=World.cell?_setCell_same w3 ⟨w.heap.size+1,0,none⟩ (.bool true) hc3
  have hW:=World.cell?_setCell_same _ ⟨w.heap.size+1,0,none⟩ (.bool true) hW1
  have HBW:=hid ((HB3.out.setCell (p:=⟨w.heap.size+1,0,none⟩) (by simp) (.bool true)).setCell (p:=⟨w.heap.size+1,0,none⟩) (by simp) (.bool true))
  have HoW:=hid (jk (qv (w3.setCell ⟨w.heap.size+1,0,none⟩ (.bool true)) (w.heap.size+1) 0 (.bool true)) (jk (qv w3 (w.heap.size+1) 0 (.bool true)) Ho3.out (by omega)) (by omega))
  clear hW1 hc3 hz3
  generalize (w3.setCell _ _).setCell _ _=W at *
  obtain ⟨⟨o0,o1,o2,o3,o4,o5,o6,o7,o8,o9⟩,_⟩:=xE HoW.out
  simp [Leaves,settle,results,Tryz.results40,go_sem,hW,o0,o1,o2,o3,o4,o5,o6,o7,o8,o9]
  exact ⟨HBW.out,f,Hf.out,rfl,rfl,rfl,rfl,rfl,rfl,rfl⟩
end
end Go.Proofs.YthhpbhpfagoapabGreat
