import Derived.Test.YthhpbhpfagoapaaGreatJAW
import Derived.Test.YthhpbhpfagoapaaGreatJBJ
namespace Go.Proofs.YthhpbhpfagoapaaGreat
set_option linter.unusedVariables false
set_option linter.unusedSimpArgs false
set_option maxRecDepth 100000
set_option maxHeartbeats 16000000
open Go.RowKit
section
theorem KeptT.above {T:List TypeId} {B:Nat} {a b c:World} {row:Option Nat} (h:KeptT T B a b) (hg:b.grownBy c row) (hB:B≤a.heap.size) (hr:∀ k,row=some k→a.heap.size≤k):KeptT T B a c:=by
 have hbl:∀ k,k < a.heap.size→c.heap[k]?=b.heap[k]?:=fun k hk=>hg.block k (Nat.lt_of_lt_of_le hk h.size) (fun e=>by have:=hr k e.symm;omega)
 refine ⟨hg.os.trans h.os,hg.tape.trans h.tape,hg.output.trans h.output,Nat.le_trans h.size hg.size,fun k hk=>(hbl k (by omega)).trans (h.block k hk),fun k o hk ho=>?_⟩
 exact (hbl k (Array.getElem?_eq_some_iff.1 hk).1).trans (h.other k o hk ho)
theorem RT (q:Nat) (ta:Option Addr) (tcap:Nat) (rv:Value) (j:JobB) (st:StB) (B:Nat) (w:World) (h1:0 < j.table.length) (hl:LiesT w ta j.table) (hp:PressAt w B q (.slice ta j.table.length tcap) rv j st) :
  Calls Tryz.prog 142 #[.pointer (some ⟨q,0,none⟩)] w fun e w'=>e=.returned (.int .i64 (jY j.table:Int))∧w'=w:=by
 obtain ⟨ov,lv,hrow,_⟩:=hp
 have c0:=(qA hrow).1.1
 obtain ⟨b,off,rfl,hbw,hcell⟩:=hl.at_ (List.ne_nil_of_length_pos (by omega))
 obtain ⟨_,_,_,v0,f4,ca0,cap0,rfl,hcc0,_⟩:=hcell 0 h1
 simp only [Nat.zero_mul,Nat.add_zero] at f4
 have h0i:(0:Int) < (j.table.length:Int):=by omega
 have HR:=hid (NI h1)
 clear hcell hrow
 go_enter Tryz.func142,Tryz.ntmps142
 go_wp2
 go_ret
 exact ⟨qY (by rw [HR.out]),rfl⟩
theorem Tryz.infoIntW:(Tryz.prog.info? 3).map (fun i=>(i.zero,i.size,i.bytes))=some (some (.int .i64 0),1,8):=by kernel_rfl
theorem Eb (ps:List Nat) (n:Nat):xp (ps++[n])=xp ps++[.int .i64 (n:Int)]:=by simp [xp]
theorem ET (q:Nat) (ta:Option Addr) (tcap:Nat) (ra:Option Addr) (rcap:Nat) (r:List KeyB) (j:JobB) (st:StB) (w0 w:World) (hL:Laid w0 ta tcap ra rcap j r) (hb:Below w0.heap.size w0 w)
  (hs:st.out.length≤4) (hg:st.log.length=0) (hp:PressAt w w0.heap.size q (.slice ta j.table.length tcap) (.slice ra r.length rcap) j st) :
  Calls Tryz.prog 140 #[.pointer (some ⟨q,0,none⟩)] w
   fun e w'=>∃ v,e=.returned v∧w'.ownsRow w.heap.size 3 1 v (qC j r st true (qS j)).length (xp (qC j r st true (qS j))) ∧
    PressAt w' w0.heap.size q (.slice ta j.table.length tcap) (.slice ra r.length rcap) j (qw j r st (qS j))∧KeptT pressT w0.heap.size w w':=by
 obtain ⟨i0,hi,hz0,hz1,hz2⟩:=info_parts Tryz.infoIntW
 have Hp:=hid hp
 have HL:=hid hL
 have Hb:=hid hb
 have h1:=hL.good.table.few.1
 have hC6:=hL.good.table.few.2
 obtain ⟨⟨hG1,hG6⟩,⟨hP1,hP6⟩,_⟩:=hL.good.sizes
 have hR:=hL.good.table.rows
 have hplan:=hL.good.plan
 simp only [qB,Bool.and_eq_true,decide_eq_true_eq] at hplan
 obtain ⟨G,hG⟩:∃ G:Nat,j.plan.group=(G:Int):=⟨j.plan.group.toNat,by omega⟩
 have hGG:j.plan.group.toNat=G:=by omega
 have HGG:=hid hGG
 have HSJ:Hid (qS j=jy (jY j.table) j.table.length G j.plan.page.toNat (jZ (jY j.table) G)):=by show _=_;unfold qS qi;rw [hGG]
 rw [hGG] at hG1 hG6
 obtain ⟨ov,lv,hrow,hBq,_⟩:=hp
 have c1:=(qA hrow).1.2.1
 rw [hG] at c1
 have Hrw:=hid (RT q ta tcap (.slice ra r.length rcap) j st w0.heap.size)
 have Hsl:=hid (Ku (r:=r) hL.good.table)
 generalize hRR:jY j.table=R at *
 have HRR:=hid hRR
 generalize hPP:j.plan.page.toNat=P at *
 have HPP:=hid hPP
 clear hL hb hplan hG hGG hRR hPP
 go_enter Tryz.func140,Tryz.ntmps140
 go_wp2_with fail
 have hq:q < w.heap.size:=(Array.getElem?_eq_some_iff.1 hrow).1
 go_region_held3 (fun w'=>w'.cell? ⟨q,1,none⟩=some (.int .i64 (G:Int)))
  (first|exact (hb2.cell (p:=⟨q,1,none⟩) hq).trans c1|exact c1)
  (first
   | (go_at_call 142;refine (Hrw.out _ (by omega) ((HL.out.table.later Hb.out).later (Ql _)) (Hp.out.later (Ql _))).mono ?_;rintro e w1 ⟨rfl,rfl⟩)
   | (go_at_call 215;refine (KU R G _ (by omega) hG1 (by omega)).mono ?_;rintro e w2 ⟨sv,rfl,hsp,hb2⟩;replace hb2:=ji hb2;obtain ⟨sa,sc,rfl⟩:=jO hsp))
 have hsp2:w2.ownsRow w.heap.size 290 2 (.slice sa (jZ R G) sc) (jZ R G) (zV R G (jZ R G)):=hsp
 have Hsp:=hid hsp2
 have HP2:=hid (Hp.out.later hb2)
 have HK2:=hid (Below.keptT (T:=pressT) hb2 Hb.out.size)
 have hcle:=Qq (n:=R) hG1
 have HCL:=hid (fun k=>Ju (n:=R) (size:=G) (i:=k) hG1)
 clear hsp hsp2 hb2 c1 hrow hq
 generalize jZ R G=CN at *
 go_wp2_with fail
 go_loopw [3,17] (fun v i wr=>∃ k:Nat,k≤CN∧i=.int .i64 (k:Int)∧PressAt wr w0.heap.size q (.slice ta j.table.length tcap) (.slice ra r.length rcap) j (qw j r st (jy R j.table.length G P k))∧wr.ownsRow w.heap.size 3 1 v (qC j r st true (jy R j.table.length G P k)).length (xp (qC j r st true (jy R j.table.length G P k)))∧wr.ownsRow w.heap.size 290 2 (.slice sa CN sc) CN (zV R G CN)∧KeptT pressT w0.heap.size w wr) (fun _ i _=>CN - (intOf i).toNat)
 case atStart=>exact ⟨0,Nat.zero_le _,rfl,HP2.out,World.ownsRow_nil _ _ _ _,Hsp.out,HK2.out⟩
 case round =>
  clear HP2 Hsp HK2 Hp
  obtain ⟨k,hkl,rfl,hpr,hown,hsp,hK⟩:=hrel
  have Hpr:=hid hpr
  have Hown:=hid hown
  have Hsp:=hid hsp
  have hBw0:=Hb.out.trans hK.below
  clear hpr hown hsp
  by_cases hlt:k < CN
  ·have hki:(k:Int) < (CN:Int):=by omega
   obtain ⟨sg,rfl,hsg,s1,s2⟩:=UT Hsp.out hlt
   have hkG:k*G < R:=(HCL.out k).1 hlt
   have hprx:=Hpr.out
   obtain ⟨ov,lv,hrow,hBq,_⟩:=hprx
   have c0:=(qA hrow).1.1
   have hq:q < wr.heap.size:=(Array.getElem?_eq_some_iff.1 hrow).1
   have HCH:Hid (∀ c (st':StB) (w':World),Below w0.heap.size w0 w'→st'.out.length≤80000000→st'.log.length≤22000→c < j.table.length→PressAt w' w0.heap.size q (.slice ta j.table.length tcap) (.slice ra r.length rcap) j st' →
     Calls Tryz.prog 216 #[.pointer (some ⟨q,0,none⟩),.int .i64 (k:Int),.int .i64 (c:Int),.agg #[.int .i64 ((k*G:Nat):Int),.int .i64 ((min (k*G+G) R:Nat):Int)]] w'
      fun e w2=>e=.returned (.tuple #[])∧PressAt w2 w0.heap.size q (.slice ta j.table.length tcap) (.slice ra r.length rcap) j (qw j r st' (jg R G P k c))∧KeptT pressT w0.heap.size w' w2):=by
    intro c st' w' hw' ho hlg hc hp'
    have:=Da q ta tcap ra rcap r j st' k c w0 w' HL.out hw' ho hlg (by rw [HGG.out,HRR.out];exact hkG) hc hp'
    rw [HGG.out,HRR.out,HPP.out] at this
    exact this
   have HSG:=hid (zC R j.table.length G P k)
   have hml:=XZ R j.table.length G P k
   generalize hkG0:k*G=kG at *
   generalize hE0:min (kG+G) R=E at *
   have HSP:Hid (∀ s ∈ jy R j.table.length G P k,s.c < j.table.length∧s.many≤60):=fun s hs2=>⟨(IS s hs2).1,by have:=(IS s hs2).2;omega⟩
   have hsl3:=RX R j.table.length G P k (by omega) hG6 hC6
   have Hml:=hid hml
   clear hkG0 hE0 hkG hml
   go_wp2_with fail
   obtain ⟨hbx,hsx,_,hhx⟩:=qa wr #[.int .i64 (kG:Int),.int .i64 (E:Int)] 290
   have HKx:=hid (hK.trans (Below.keptT hbx (by have:=hBw0.size;omega)))
   have Hhx:=hid hhx
   have Hprx:=hid (Hpr.out.later hbx)
   have Hownx:=hid (jm Hown.out hbx)
   have Hspx:=hid (jm Hsp.out hbx)
   clear s1 s2 hbx hK hsg hhx hBw0 c0 hrow
   generalize wr.alloc _=wx at *
   generalize wr.heap.size=bq at *
   go_loopw [3,28] (fun v i w3=>∃ c:Nat,c≤j.table.length∧i=.int .i64 (c:Int)∧PressAt w3 w0.heap.size q (.slice ta j.table.length tcap) (.slice ra r.length rcap) j (qw j r st (jy R j.table.length G P k++jp R G P k c))∧w3.ownsRow w.heap.size 3 1 v (qC j r st true (jy R j.table.length G P k++jp R G P k c)).length (xp (qC j r st true (jy R j.table.length G P k++jp R G P k c)))∧w3.ownsRow w.heap.size 290 2 (.slice (some ⟨sg,0,none⟩) CN sc) CN (zV R G CN)∧w3.heap[bq]?=some (.cells #[.int .i64 (kG:Int),.int .i64 (E:Int)] 290 (0,0))∧KeptT pressT w0.heap.size w w3) (fun _ i _=>j.table.length - (intOf i).toNat)
   case atStart=>exact ⟨0,Nat.zero_le _,rfl,by simpa [jp] using Hprx.out,by simpa [jp] using Hownx.out,Hspx.out,Hhx.out,HKx.out⟩
   case round =>
    clear Hprx Hownx Hspx Hhx HKx Hpr Hown Hsp
    obtain ⟨c,hcl,rfl,hpr,hown,hsp,hbx,hK⟩:=hrel
    have Hpr:=hid hpr
    have Hsp:=hid hsp
    have Hbx:=hid hbx
    have hBw0:=Hb.out.trans hK.below
    have hgs:∀ s ∈ jy R j.table.length G P k++jp R G P k c,s.c < j.table.length∧s.many≤60:=by
     intro s hs2
     rcases List.mem_append.1 hs2 with h|h
     ·exact HSP.out s h
     ·exact ⟨by have:=(Kk s h).1;omega,by have:=(Kk s h).2;omega⟩
    have hlk:=Hsl.out (jy R j.table.length G P k++jp R G P k c) st hgs
    have hgl:=RN R G P k c (by omega) hG6
    rw [List.length_append] at hlk
    have Hpl:Hid ((qC j r st true (jy R j.table.length G P k++jp R G P k c)).length≤366):=by
     show _≤_
     have e1:=Qz j r st R j.table.length G P k
     rw [zu,List.length_append,e1,Hml.out,Qo]
     have:k*j.table.length≤60*6:=Nat.mul_le_mul (by omega) hC6
     omega
    clear hpr hsp hbx hgs
    by_cases hlc:c < j.table.length
    ·have hci:(c:Int) < (j.table.length:Int):=by omega
     have HPS:Hid (qC j r st true (jy R j.table.length G P k++jp R G P k (c+1))=qC j r st true (jy R j.table.length G P k++jp R G P k c)++[(qw j r st (jy R j.table.length G P k++jp R G P k c)).out.length]):=by
      show _=_
      rw [zE,← List.append_assoc,zu (l:=jy R j.table.length G P k++jp R G P k c)]
      have hm2:xD true (jy R j.table.length G P k++jp R G P k c)=true:=by rw [zK,Hml.out,JP]
      rw [hm2,UD]
     have HSS:Hid (qw j r st (jy R j.table.length G P k++jp R G P k (c+1))=qw j r (qw j r st (jy R j.table.length G P k++jp R G P k c)) (jg R G P k c)):=by
      show _=_
      rw [zE,← List.append_assoc,Xo]
     have hplx:=Hpl.out
     generalize qw j r st (jy R j.table.length G P k++jp R G P k c)=st1 at *
     generalize qC j r st true (jy R j.table.length G P k++jp R G P k c)=pl1 at *
     have hprx:=Hpr.out
     obtain ⟨ov,lv,hrow,hBq,hout,hlog⟩:=hprx
     obtain ⟨oa,oc,rfl⟩:=jO hout
     have c8:=(qA hrow).1.2.2.2.2.2.2.1
     have hrb:=hBw0.size
     have hrw:=hK.size
     clear hrow hout hlog
     go_wp2_with (at_builtin;refine wpList_append_own _ rfl (.tmp 31) (.tmp 37) 82 rfl w.heap.size 3 i0 (.int .i64 0) 1 8 Tryz.underlying82 hi hz0 hz1 hz2 rfl (by decide) _ _ _ rfl (hown.alloc _) ⟨_,0,none⟩ 1 1 [.int .i64 (st1.out.length:Int)] rfl rfl ?c1 ?c2 ?c3 ?c4 ?c5 ?_)
     case c1=>exact qx wr #[.int .i64 (st1.out.length:Int)] 3
     case c2=>intro u hu;simp at hu;subst hu;rfl
     case c3=>unfold maxLen;omega
     case c4=>omega
     case c5=>simp;omega
     intro v3 w4 hown4 hgr4 _
     have hpr4:PressAt w4 w0.heap.size q (.slice ta j.table.length tcap) (.slice ra r.length rcap) j st1:=by
      obtain ⟨ov',lv',h1',h2',h3',h4'⟩:=Hpr.out.later ((Below.refl _ _).alloc (Nat.le_refl _) (.cells #[.int .i64 (st1.out.length:Int)] 3))
      exact ⟨ov',lv',ju hgr4 (hown.alloc _) h1' (by decide),h2',h3'.kept hgr4 (zd h3' (hown.alloc _) (by decide)),h4'.kept hgr4 (zd h4' (hown.alloc _) (by decide))⟩
     have hoa:=hown.alloc (.cells #[.int .i64 (st1.out.length:Int)] 3)
     have hsp4:=(Hsp.out.alloc (.cells #[.int .i64 (st1.out.length:Int)] 3)).kept hgr4 (zd (Hsp.out.alloc (.cells #[.int .i64 (st1.out.length:Int)] 3)) hoa (by decide))
     have hbx4:=ju hgr4 hoa (jq _ Hbx.out) (by decide)
     have hK4:KeptT pressT w0.heap.size w w4:=(hK.alloc hrb _).above hgr4 Hb.out.size (fun k hk=>(hown.lt k hk).1)
     have hB4:=Hb.out.trans hK4.below
     have HO4:Hid (w4.ownsRow w.heap.size 3 1 v3 (qC j r st true (jy R j.table.length G P k++jp R G P k (c+1))).length (xp (qC j r st true (jy R j.table.length G P k++jp R G P k (c+1))))):=by
      show World.ownsRow _ _ _ _ _ _ _
      rw [HPS.out,Eb,List.length_append]
      exact hown4
     obtain ⟨y0,y1⟩:=SA hbx4
     have Hbx4:=hid hbx4
     have Hsp4:=hid hsp4
     have Hpr4:=hid hpr4
     clear hown hgr4 hown4 hoa hsp4 hbx4 hpr4 c8 hK
     go_wp2_with fail
     refine (HCH.out c st1 w4 hB4 (by omega) (by omega) hlc Hpr4.out).mono ?_
     rintro e w5 ⟨rfl,hp5,hk5⟩
     have HP5:=hid hp5
     have HK5:=hid (hK4.trans hk5)
     have HS5:=hid (hk5.owns Hsp4.out (by decide))
     have HX5:=hid (hk5.row Hbx4.out (by decide))
     have HO5:=hid (hk5.owns HO4.out (by decide))
     clear hp5 hk5 y0 y1 hK4 hB4
     go_wp2
     go_roundw
     case rel=>exact ⟨c+1,by omega,by go_num,by rw [HSS.out];exact HP5.out,HO5.out,HS5.out,HX5.out,HK5.out⟩
     case measure=>simp [intOf];omega
    ·have hce:c=j.table.length:=by omega
     subst hce
     have HO:=hid hown
     have HK:=hid hK
     clear hown hK
     go_wp2
     go_roundw
     case rel=>exact ⟨k+1,by omega,by go_num,by rw [HSG.out];exact Hpr.out,by rw [HSG.out];exact HO.out,Hsp.out,HK.out⟩
     case measure=>simp [intOf];omega
  ·have hke:k=CN:=by omega
   subst hke
   go_wp2
   go_ret
   exact ⟨_,rfl,by rw [HSJ.out];exact Hown.out,by rw [HSJ.out];exact Hpr.out,hK⟩
end
section
theorem Lu (j:JobB) (r:List KeyB) (hJ:GoodJ j r) (a:Option Addr) (cap:Nat) (pv:Value) (places:List Nat) (base:Nat) (w:World) (hps:places.length≤360) (hpb:∀ x ∈ places,x≤80000000)
  (hl:LiesT w a j.table) (hpl:w.ownsRow base 3 1 pv places.length (xp places)) :
  Calls Tryz.prog 217 #[.agg #[.int .i64 (jY j.table:Int),.int .i64 j.plan.group,.int .i64 j.plan.page,.int .i64 j.plan.foot,.bool j.plan.told,.slice a j.table.length cap,pv]] w
   fun e w'=>e=.returned (strB (qd (jY j.table) j.plan j.table places))∧Below w.heap.size w w':=by
 have hplan:=hJ.plan
 simp only [qB,Bool.and_eq_true,decide_eq_true_eq] at hplan
 have hR:=hJ.table.rows
 have h6:=hJ.table.few.2
 have h:=CJ (jY j.table) j.plan.group.toNat j.plan.page.toNat j.plan.foot.toNat j.plan.told a cap j.table pv places base w hR (by omega) (by omega) (by omega) h6 hps hpb (by
  intro c hc
  obtain ⟨k,hk,rfl⟩:=List.mem_iff_getElem.1 hc
  obtain ⟨a1,a2,a3,a4⟩:=hJ.table.head k hk
  exact ⟨(ZF a1).2,by omega,a3,a4⟩) hl hpl
 have e1:((j.plan.group.toNat:Nat):Int)=j.plan.group:=by omega
 have e2:((j.plan.page.toNat:Nat):Int)=j.plan.page:=by omega
 have e3:((j.plan.foot.toNat:Nat):Int)=j.plan.foot:=by omega
 rw [e1,e2,e3] at h
 exact h
theorem RU (s:List UInt8) (G:Nat) (w:World) (hs:s.length≤100000) (h:w.heap[G]?=some (.cells #[strB s] 9 (0,0))):Tn w (.slice (some ⟨G,0,none⟩) 1 1) s:=by
 intro w' hw
 have h':=jb hw h
 have:=ZA [s] G 1 w' (by simp) (by simp;omega) (Array.getElem?_eq_some_iff.1 h').1 (by
  intro i hi
  have h0:i=0:=by simpa using hi
  subst h0
  rw [ja h']
  rfl)
 simpa using this
theorem GK {w:World} {b q:Nat} {x0 x1 x2 x3 x4 x5 x6:Value} {t:TypeId} {tv rv ov lv:Value} {j:JobB} (h:w.heap[b]?=some (.cells #[x0,x1,x2,x3,x4,x5,x6] t (0,0))) (hp:w.heap[q]?=some (.cells (pressC tv rv ov lv j) 231 (0,0))) :
  w.cell? ⟨b,0,none⟩=some x0∧w.cell? ⟨b,1,none⟩=some x1∧w.cell? ⟨b,2,none⟩=some x2∧w.cell? ⟨b,3,none⟩=some x3∧w.cell? ⟨b,4,none⟩=some x4∧w.cell? ⟨b,5,none⟩=some x5∧w.cell? ⟨b,6,none⟩=some x6∧w.cell? ⟨q,5,none⟩=some (strB j.pre) :=
 ⟨by rw [ja h];rfl,by rw [ja h];rfl,by rw [ja h];rfl,by rw [ja h];rfl,by rw [ja h];rfl,by rw [ja h];rfl,by rw [ja h];rfl,(qA hp).1.2.2.2.1⟩
theorem Sj (j:JobB) (r:List KeyB) (f:List UInt8) (st:StB) (hf:f.length≤3900):st.out.length≤(Jf j r f st).out.length∧(Jf j r f st).out.length≤st.out.length+4000:=by
 unfold Jf
 split
 ·have h1:=(Kq j.draw (jl r j.plan.foot) (qE j.pre 83 0 0 0++f) [] (zP f st)).1
  have h2:=Ux f st
  rw [h1,h2]
  simp only [List.length_nil]
  omega
 ·have h1:=(Kq j.draw (jl r j.plan.foot) (qE j.pre 70 0 0 0) f st).1
  omega
theorem Pj (q:Nat) (ta:Option Addr) (tcap:Nat) (ra:Option Addr) (rcap:Nat) (r:List KeyB) (j:JobB) (st:StB) (pv:Value) (places:List Nat) (base:Nat) (w0 w:World) (hL:Laid w0 ta tcap ra rcap j r) (hb:Below w0.heap.size w0 w)
  (hs:st.out.length≤80000000) (hg:st.log.length≤22000) (hps:places.length≤360) (hpb:∀ x ∈ places,x≤80000000) (hfl:(qd (jY j.table) j.plan j.table places).length≤3900)
  (hpl:w.ownsRow base 3 1 pv places.length (xp places))
  (hp:PressAt w w0.heap.size q (.slice ta j.table.length tcap) (.slice ra r.length rcap) j st) :
  Calls Tryz.prog 141 #[.pointer (some ⟨q,0,none⟩),.agg #[.int .i64 (jY j.table:Int),.int .i64 j.plan.group,.int .i64 j.plan.page,.int .i64 j.plan.foot,.bool j.plan.told,.slice ta j.table.length tcap,pv]] w
   fun e w'=>e=.returned (.tuple #[])∧PressAt w' w0.heap.size q (.slice ta j.table.length tcap) (.slice ra r.length rcap) j ⟨(Jf j r (qd (jY j.table) j.plan j.table places) st).out++(qv (((Jf j r (qd (jY j.table) j.plan j.table places) st).out.length - st.out.length:Nat):Int)++[67,70]),(Jf j r (qd (jY j.table) j.plan j.table places) st).log⟩∧KeptT pressT w0.heap.size w w':=by
 have Hp:=hid hp
 have HL:=hid hL
 have Hb:=hid hb
 have HTX:Hid (∀ w',Below w.heap.size w w'→Calls Tryz.prog 217 #[.agg #[.int .i64 (jY j.table:Int),.int .i64 j.plan.group,.int .i64 j.plan.page,.int .i64 j.plan.foot,.bool j.plan.told,.slice ta j.table.length tcap,pv]] w'
   fun e w2=>e=.returned (strB (qd (jY j.table) j.plan j.table places))∧Below w'.heap.size w' w2):=fun w' hw=>Lu j r hL.good ta tcap pv places base w' hps hpb ((hL.table.later hb).later hw) (jm hpl hw)
 obtain ⟨pa,pc,rfl,_⟩:=Vt hpl
 generalize hFF:qd (jY j.table) j.plan j.table places=f at *
 have hel:=Sj j r f st hfl
 have HES:Hid (Jf j r f st=if j.plan.told=true then zA j.draw (jl r j.plan.foot) (qE j.pre 83 0 0 0++f) [] (zP f st) else zA j.draw (jl r j.plan.foot) (qE j.pre 70 0 0 0) f st):=rfl
 have hbl1:=Xm j.pre 83 0 0 0 hL.good.pre
 have hbl2:=Xm j.pre 70 0 0 0 hL.good.pre
 have hopl:=Ux f st
 obtain ⟨ov,lv,hrow,hBq,hout,hlog⟩:=hp
 obtain ⟨oa,oc,rfl⟩:=jO hout
 have c8:=(qA hrow).1.2.2.2.2.2.2.1
 have hq:q < w.heap.size:=(Array.getElem?_eq_some_iff.1 hrow).1
 have Hrow:=hid hrow
 have Hsec:=hid (hL.secret j.plan.foot)
 clear hFF hpl hrow hout hlog hL hb hpb
 go_enter Tryz.func141,Tryz.ntmps141
 go_wp2_with fail
 obtain ⟨hbx,hsx,_,hhx⟩:=qa w #[.int .i64 (jY j.table:Int),.int .i64 j.plan.group,.int .i64 j.plan.page,.int .i64 j.plan.foot,.bool j.plan.told,.slice ta j.table.length tcap,.slice pa places.length pc] 117
 have Hbx:=hid hbx
 have hrx:=jb hbx Hrow.out
 clear hbx c8
 generalize w.alloc _=wx at *
 go_region_held3 (fun w'=>w'.cell? ⟨w.heap.size,0,none⟩=some (.int .i64 (jY j.table:Int))∧w'.cell? ⟨w.heap.size,1,none⟩=some (.int .i64 j.plan.group)∧w'.cell? ⟨w.heap.size,2,none⟩=some (.int .i64 j.plan.page)∧w'.cell? ⟨w.heap.size,3,none⟩=some (.int .i64 j.plan.foot)∧w'.cell? ⟨w.heap.size,4,none⟩=some (.bool j.plan.told)∧w'.cell? ⟨w.heap.size,5,none⟩=some (.slice ta j.table.length tcap)∧w'.cell? ⟨w.heap.size,6,none⟩=some (.slice pa places.length pc)∧w'.cell? ⟨q,5,none⟩=some (strB j.pre))
  (first|exact GK Y1 Z1|exact GK hhx hrx)
  (first
   | (go_at_call 217;refine (HTX.out _ Hbx.out.drew).mono ?_;rintro e w1 ⟨rfl,hb1⟩;replace hb1:=ji hb1;have Y1:=jb hb1 hhx;have Z1:=jb hb1 hrx))
 have hB1:=Hbx.out.trans (hb1.mono Hbx.out.size)
 have hBw1:=Hb.out.trans (hB1.mono Hb.out.size)
 have Hp1:=hid (Hp.out.later hB1)
 have HK1:=hid (Below.keptT (T:=pressT) hB1 Hb.out.size)
 have y4:=(GK Y1 Z1).2.2.2.2.1
 have Hr1:=hid (HL.out.ring.later hBw1)
 clear Y1 Z1 hhx hrx hb1
 go_simp
 have hfin:∀ (w3:World),PressAt w3 w0.heap.size q (.slice ta j.table.length tcap) (.slice ra r.length rcap) j (Jf j r f st)→KeptT pressT w0.heap.size w w3→True:=fun _ _ _=>trivial
 clear hfin
 cases htd:j.plan.told with
 | true =>
  have HES2:Hid (Jf j r f st=zA j.draw (jl r j.plan.foot) (qE j.pre 83 0 0 0++f) [] (zP f st)):=by show _=_;rw [HES.out,htd];rfl
  clear HES y4
  go_wp2_with fail
  refine (RZ w0.heap.size q (.slice ta j.table.length tcap) (.slice ra r.length rcap) j st f w1 (by omega) (by omega) hBw1.size Hp1.out).mono ?_
  rintro e w2 ⟨rfl,hp2,hk2⟩
  have Hp2:=hid hp2
  have hBw2:=hBw1.trans hk2.below
  have HK2:=hid (HK1.out.trans hk2)
  clear hp2 hk2 htd
  go_wp2_with fail
  obtain ⟨hb3,_,_,hh3⟩:=qa w2 #[strB f] 9
  have hJ3:=RU f w2.heap.size _ (by omega) hh3
  have hBw3:=hBw2.trans (hb3.mono hBw2.size)
  have Hp3:=hid (Hp2.out.later hb3)
  have HK3:=hid (HK2.out.trans (Below.keptT (T:=pressT) hb3 hBw2.size))
  clear hb3 hh3
  generalize w2.alloc _=w3 at *
  refine (Zw 83 0 0 0 j.pre (.slice (some ⟨w2.heap.size,0,none⟩) 1 1) f w3 (by decide) (by decide) (by decide) HL.out.good.pre (by omega) hJ3).mono ?_
  rintro e w4 ⟨rfl,hb4⟩
  have hBw4:=hBw3.trans (hb4.mono hBw3.size)
  have Hp4:=hid (Hp3.out.later hb4)
  have HK4:=hid (HK3.out.trans (Below.keptT (T:=pressT) hb4 hBw3.size))
  have hexl:(qE j.pre 83 0 0 0++f).length≤5000:=by rw [List.length_append];omega
  generalize qE j.pre 83 0 0 0++f=ex at *
  clear hb4 hJ3
  go_wp2_with fail
  refine (VC w0.heap.size q (.slice ta j.table.length tcap) ra rcap r j (zP f st) j.plan.foot [] ex w4 (by rw [hopl];omega) (by simp only [zP];omega) (by decide) hexl HL.out.good.draw.1 HL.out.good.draw.2 Hsec.out HL.out.len (HL.out.ring.later hBw4) hBw4.size Hp4.out).mono ?_
  rintro e w5 ⟨rfl,hp5,hk5⟩
  rw [← HES2.out] at hp5
  have HK5:=hid (HK4.out.trans hk5)
  have hBw5:=hBw4.trans hk5.below
  have Hp5:=hid hp5
  obtain ⟨ov5,lv5,hrow5,_,hout5,_⟩:=hp5
  obtain ⟨oa5,oc5,rfl⟩:=jO hout5
  have c8:=(qA hrow5).1.2.2.2.2.2.2.1
  clear hrow5 hout5 hk5 HES2
  generalize hS5:Jf j r f st=st5 at *
  have HS5:=hid hS5
  clear hS5
  obtain ⟨he1,he2⟩:=hel
  have hsub:IntKind.i64.wrap ((st5.out.length:Int) - (st.out.length:Int))=((st5.out.length - st.out.length:Nat):Int):=by rw [IntKind.wrap_i64];omega
  go_wp2_with fail
  refine (Jx ((st5.out.length - st.out.length:Nat):Int) w5 (by omega) (by omega)).mono ?_
  rintro e w6 ⟨rfl,hb6⟩
  have hBw6:=hBw5.trans (hb6.mono hBw5.size)
  have h2c:(qv ((st5.out.length - st.out.length:Nat):Int)).length≤2:=Nat.le_of_eq (jv _)
  generalize hTT:qv ((st5.out.length - st.out.length:Nat):Int)=TT at *
  have HTT:=hid hTT
  clear hTT
  clear hsub c8
  go_wp2_with fail
  obtain ⟨hb7,_,_,hh7⟩:=qa w6 #[strB TT,strB [67,70]] 9
  have hBw7:=hBw6.trans (hb7.mono hBw6.size)
  refine (Xw w0.heap.size q w6.heap.size 2 (.slice ta j.table.length tcap) (.slice ra r.length rcap) j st5 [TT,[67,70]] _ rfl (by decide) (by simp;omega) hBw7.size ((Hp5.out.later hb6).later hb7) hh7).mono ?_
  rintro e w8 ⟨rfl,hp8,hk8⟩
  have HK8:=hid (((HK5.out.trans (Below.keptT (T:=pressT) hb6 hBw5.size)).trans (Below.keptT (T:=pressT) hb7 hBw6.size)).trans hk8)
  have HP8:=hid hp8
  clear hp8 hk8 hb6 hb7 hh7
  go_wp2
  go_end0
  exact ⟨rfl,by rw [HS5.out,HTT.out];simpa using HP8.out,HK8.out⟩
 | false =>
  have HES2:Hid (Jf j r f st=zA j.draw (jl r j.plan.foot) (qE j.pre 70 0 0 0) f st):=by show _=_;rw [HES.out,htd];rfl
  clear HES y4
  go_wp2_with fail
  refine (Zw 70 0 0 0 j.pre (.slice none 0 0) [] w1 (by decide) (by decide) (by decide) HL.out.good.pre (by decide) (Uo w1)).mono ?_
  rw [List.append_nil]
  rintro e w4 ⟨rfl,hb4⟩
  have hBw4:=hBw1.trans (hb4.mono hBw1.size)
  have Hp4:=hid (Hp1.out.later hb4)
  have HK4:=hid (HK1.out.trans (Below.keptT (T:=pressT) hb4 hBw1.size))
  generalize qE j.pre 70 0 0 0=ex at *
  clear hb4 htd
  go_wp2_with fail
  refine (VC w0.heap.size q (.slice ta j.table.length tcap) ra rcap r j st j.plan.foot f ex w4 (by omega) (by omega) (by omega) (by omega) HL.out.good.draw.1 HL.out.good.draw.2 Hsec.out HL.out.len (HL.out.ring.later hBw4) hBw4.size Hp4.out).mono ?_
  rintro e w5 ⟨rfl,hp5,hk5⟩
  rw [← HES2.out] at hp5
  have HK5:=hid (HK4.out.trans hk5)
  have hBw5:=hBw4.trans hk5.below
  have Hp5:=hid hp5
  obtain ⟨ov5,lv5,hrow5,_,hout5,_⟩:=hp5
  obtain ⟨oa5,oc5,rfl⟩:=jO hout5
  have c8:=(qA hrow5).1.2.2.2.2.2.2.1
  clear hrow5 hout5 hk5 HES2
  generalize hS5:Jf j r f st=st5 at *
  have HS5:=hid hS5
  clear hS5
  obtain ⟨he1,he2⟩:=hel
  have hsub:IntKind.i64.wrap ((st5.out.length:Int) - (st.out.length:Int))=((st5.out.length - st.out.length:Nat):Int):=by rw [IntKind.wrap_i64];omega
  go_wp2_with fail
  refine (Jx ((st5.out.length - st.out.length:Nat):Int) w5 (by omega) (by omega)).mono ?_
  rintro e w6 ⟨rfl,hb6⟩
  have hBw6:=hBw5.trans (hb6.mono hBw5.size)
  have h2c:(qv ((st5.out.length - st.out.length:Nat):Int)).length≤2:=Nat.le_of_eq (jv _)
  generalize hTT:qv ((st5.out.length - st.out.length:Nat):Int)=TT at *
  have HTT:=hid hTT
  clear hTT
  clear hsub c8
  go_wp2_with fail
  obtain ⟨hb7,_,_,hh7⟩:=qa w6 #[strB TT,strB [67,70]] 9
  have hBw7:=hBw6.trans (hb7.mono hBw6.size)
  refine (Xw w0.heap.size q w6.heap.size 2 (.slice ta j.table.length tcap) (.slice ra r.length rcap) j st5 [TT,[67,70]] _ rfl (by decide) (by simp;omega) hBw7.size ((Hp5.out.later hb6).later hb7) hh7).mono ?_
  rintro e w8 ⟨rfl,hp8,hk8⟩
  have HK8:=hid (((HK5.out.trans (Below.keptT (T:=pressT) hb6 hBw5.size)).trans (Below.keptT (T:=pressT) hb7 hBw6.size)).trans hk8)
  have HP8:=hid hp8
  clear hp8 hk8 hb6 hb7 hh7
  go_wp2
  go_end0
  exact ⟨rfl,by rw [HS5.out,HTT.out];simpa using HP8.out,HK8.out⟩
end
end Go.Proofs.YthhpbhpfagoapaaGreat
