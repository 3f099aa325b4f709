import Derived.Test.YthhpbhpfagoapaaGreatJAA
import Derived.Laws.AppendOwn
import Derived.Maps.AppendAt
import Derived.Test.YthhpbhpfagoapaaGreatJAR
import Derived.Test.YthhpbhpfagoapaaGreatJBA
import Derived.Test.YthhpbhpfagoapaaGreatJBG
namespace Go.Proofs.YthhpbhpfagoapaaGreat
set_option linter.unusedVariables false
set_option linter.unusedSimpArgs false
set_option maxRecDepth 100000
set_option maxHeartbeats 16000000
section
open Go
theorem UF {P:Program} (w:World) (t ty e:TypeId) (i:TypeInfo) (ht:P.underlying t=some (.slice e)) (hi:P.info? e=some i) (b:Option Addr) (n cap:Nat) (h:n≤cap) (a:Option Addr) (c:Nat) :
  (Builtin.append_ #[t,t] ty #[.slice b n cap,.slice a 0 c]).run P w=.ok (.slice b n cap) w:=by
 cases b<;>cases a<;>simp [Builtin.append_,run_underlying ht,sizeOf,typeInfo,hi,Builtin.lenOf,Builtin.firstCells,loadCells,loadCellsFrom,storeCells,h]
theorem VC {P:Program} {w:World} {o:Oper} {a:Act} {K:Act→World→Prop} {Q:Exit→Act→World→Prop} (s x:Operand) (t:TypeId)
  (ho:o.op=.call { callee:=.builtin .append,args:=#[s,x],argTypes:=#[t,t] })
  (e:TypeId) (i:TypeInfo) (ht:P.underlying t=some (.slice e)) (hi:P.info? e=some i) (b:Option Addr) (n cap:Nat) (hs:a.eval s=.slice b n cap) (hc:n≤cap) (b2:Option Addr) (c:Nat) (hx:a.eval x=.slice b2 0 c)
  (h:K (a.put o.dst (.slice b n cap)) w):o.wp P a w K Q:=by
 have hr:=UF (P:=P) w t o.type e i ht hi b n cap hc b2 c
 unfold Oper.wp execOp
 simp only [ho,resolve,invoke,builtin,bQ,bP,bu,List.map_toArray,cK,List.map_nil,hs,hx,hr]
 exact h
theorem xS {P:Program} {w:World} {ops:Array Oper} {rest:List Oper} {o:Oper} {a:Act} {Q:Exit→Act→World→Prop} (hgd:o.guard=none) (s x:Operand) (t:TypeId)
  (ho:o.op=.call { callee:=.builtin .append,args:=#[s,x],argTypes:=#[t,t] })
  (e:TypeId) (i:TypeInfo) (ht:P.underlying t=some (.slice e)) (hi:P.info? e=some i) (b:Option Addr) (n cap:Nat) (hs:a.eval s=.slice b n cap) (hc:n≤cap) (b2:Option Addr) (c:Nat) (hx:a.eval x=.slice b2 0 c)
  (h:wpList P ops Q rest (a.put o.dst (.slice b n cap)) w):wpList P ops Q (o :: rest) a w :=
 wpList_plain hgd fun _ hK=>VC s x t ho e i ht hi b n cap hs hc b2 c hx (hK _ _ h)
theorem Ng {w:World} {b e s n m:Nat} {a:Option Addr} {c:Nat} {xs:List Value} (h:w.ownsRow b e s (.slice a m c) n xs):n≤c∧m=n:=by
 rcases h.2 with ⟨h1,h2⟩|⟨g,cap,cur,h1,_,_,h3,_⟩
 ·injection h1 with _ h4 h5
  omega
 ·injection h1 with _ h4 h5
  omega
end
section
open Go.RowKit
theorem Tq (st:Option (List UInt8)):qk 2 st=([],none)∨∃ a b r,st=some (a :: b :: r)∧qk 2 st=([a,b],some r):=by
 rcases st with _|l
 ·exact .inl rfl
 rcases l with _|⟨a,_|⟨b,r⟩⟩
 ·exact .inl (Qz (.inr (by simp)))
 ·exact .inl (Qz (.inr (by simp)))
 ·refine .inr ⟨a,b,r,rfl,?_⟩
  rw [Ja (by decide) (by simp;omega)]
  rfl
theorem Lm (a b:UInt8):wrap64 (wrap64 (((⟨#[a,b]⟩:ByteArray)[0]'(by simp [ByteArray.size])).toNat:Int)+wrap64 (256*wrap64 (((⟨#[a,b]⟩:ByteArray)[1]'(by simp [ByteArray.size])).toNat:Int)))=((Qv [a,b]:Nat):Int):=by
 have h1:=a.toNat_lt
 have h2:=b.toNat_lt
 show wrap64 (wrap64 (a.toNat:Int)+wrap64 (256*wrap64 (b.toNat:Int)))=((a.toNat+256*b.toNat:Nat):Int)
 generalize a.toNat=x at *
 generalize b.toNat=y at *
 simp only [wrap64]
 omega
theorem Nu (p:Nat) (s:List UInt8) (st:Option (List UInt8)) (w:World) (hs:s.length≤maxLen) (hp:jY w p s st) :
  Calls Tryz.prog 148 #[.pointer (some ⟨p,0,none⟩)] w fun e w'=>e=.returned (.int .i64 ((xC st).1:Int))∧jY w' p s (xC st).2∧w.grownBy w' (some p):=by
 have Hp:=hid hp
 clear hp
 go_enter Tryz.func148,Tryz.ntmps148
 go_wp2_with fail
 refine (QJ p s st 2 _ hs (by decide) (by decide) Hp.out).mono ?_
 rintro e w1 ⟨rfl,hsp1,hg1⟩
 have hb1:=KB hsp1
 have Hsp1:=hid hsp1
 have HG1:=hid hg1
 have HT:Hid (xC st=(Qv (qk 2 st).1,(qk 2 st).2)):=rfl
 clear hsp1 hg1
 rcases Tq st with ht|⟨a,b,r,rfl,ht⟩
 ·rw [ht] at hb1 Hsp1 HT ⊢
  simp only [Qa] at hb1
  clear ht
  go_wp2
  go_ret
  rw [HT.out]
  exact ⟨rfl,Hsp1.out,HG1.out⟩
 ·rw [ht] at hb1 Hsp1 HT ⊢
  simp only [Qa] at hb1
  clear ht
  have ha:=a.toNat_lt
  have hb:=b.toNat_lt
  go_wp2_with fail
  go_quiet (fail)
  go_wp2
  go_ret
  rw [HT.out]
  exact ⟨xm (Lm a b),Hsp1.out,Je HG1.out nq⟩
theorem qp {w w':World} {p B:Nat} {o:Obj} (hg:w.grownBy w' (some p)) (h:w.heap[B]?=some o) (hne:B≠p):w'.heap[B]?=some o:=by
 have hlt:=(ag.1 h).1
 rw [hg.block B hlt (by intro e;injection e with e;exact hne e)]
 exact h
theorem JK {w:World} {q:Nat} {o:Obj} (o':Obj) (h:w.heap[q]?=some o):(w.alloc o').heap[q]?=some o:=by
 have hlt:=(ag.1 h).1
 rw [(World.grownBy_alloc w o' none).block q hlt (by simp)]
 exact h
theorem Jc (w:World) (q i:Nat) (v:Value):w.grownBy (w.setCell ⟨q,i,none⟩ v) (some q) :=
 ⟨rfl,rfl,rfl,by simp,fun k _ hk=>heap_setCell_other w ⟨q,i,none⟩ k v (fun e=>hk (by simp [e]))⟩
theorem QN (w:World) (q:Nat) (cs:Array Value):w.grownBy (w.setRow q cs) (some q) :=
 ⟨rfl,rfl,rfl,by simp,fun k _ hk=>setRow_other w q k cs (fun e=>hk (by rw [e]))⟩
theorem zo {w w' w2:World} {p q:Nat} (h:w.grownBy w' (some p)) (h2:w'.grownBy w2 (some q)) (hq:w.heap.size≤q):w.grownBy w2 (some p) :=
 ⟨h2.os.trans h.os,h2.tape.trans h.tape,h2.output.trans h.output,ar h.size h2.size,fun i hi hne=>(h2.block i (aa hi h.size) (by intro e;injection e with e;omega)).trans (h.block i hi hne)⟩
theorem Qe {w:World} {p:Nat} {s:List UInt8} {st:Option (List UInt8)} (h:jY w p s st):p < w.heap.size:=by
 obtain ⟨_,_,h,_⟩:=h
 exact (ag.1 h).1
theorem xw {w w':World} {p q:Nat} {s:List UInt8} {st:Option (List UInt8)} (h:jY w p s st) (hg:w.grownBy w' (some q)) (hq:p≠q):jY w' p s st:=by
 obtain ⟨at_,bad,hrow,hat,hst⟩:=h
 exact ⟨at_,bad,qp hg hrow hq,hat,hst⟩
theorem Ky (p:Nat) (s:List UInt8) (st:Option (List UInt8)) (w:World) (hs:s.length≤maxLen) (hp:jY w p s st) :
  Calls Tryz.prog 150 #[.pointer (some ⟨p,0,none⟩)] w fun e w'=>e=.returned (.agg #[strB (qv st).1.1,strB (qv st).1.2])∧jY w' p s (qv st).2∧w.grownBy w' (some p):=by
 have hpw:=Qe hp
 obtain ⟨hb0,hl0,_,ho0⟩:=qm w #[Value.string { data:=#[] },Value.string { data:=#[] }] 167
 have HS0:=hid (zz hp hpw (.cells #[Value.string { data:=#[] },Value.string { data:=#[] }] 167))
 have HR:Hid (qv st=(((qk 4 (xC st).2).1,(qk ((xC st).1:Int) (qk 4 (xC st).2).2).1),if (xC st).1 < 2 then none else (qk ((xC st).1:Int) (qk 4 (xC st).2).2).2)):=rfl
 have hn:=Nr (qk 2 st).1
 have hn2:(xC st).1≤65535:=hn
 have HA0:=hid (World.grownBy_alloc w (.cells #[Value.string { data:=#[] },Value.string { data:=#[] }] 167) (some p))
 have Ho0:=hid ho0
 clear hp hb0 ho0 hn
 go_enter Tryz.func150,Tryz.ntmps150
 go_wp2_with fail
 generalize w.alloc _=W0 at *
 refine (Nu p s st W0 hs HS0.out).mono ?_
 rintro e w1 ⟨rfl,hsp1,hg1⟩
 have HG1:=hid (ja HA0.out hg1)
 have Ho1:=hid (qp hg1 Ho0.out (by omega))
 have HS1:=hid hsp1
 clear hg1 hsp1 HS0
 generalize xC st=x at *
 obtain ⟨n,st1⟩:=x
 simp only at HR hn2 HS1 ⊢
 go_wp2_with fail
 refine (QJ p s st1 4 w1 hs (by decide) (by decide) HS1.out).mono ?_
 rintro e w2 ⟨rfl,hsp2,hg2⟩
 have HG2:=hid (ja HG1.out hg2)
 have Ho2:=hid (qp hg2 Ho1.out (by omega))
 have HS2:=hid hsp2
 clear hg2 hsp2 HS1 Ho1 HG1 Ho0
 generalize qk 4 st1=x at *
 obtain ⟨non,st2⟩:=x
 simp only at HR HS2 ⊢
 go_wp2_with fail
 obtain ⟨hb3,_,_,hB3⟩:=qm w2 #[Value.string { data:=non.toArray },Value.string { data:=#[] }] 167
 have hpB:=Qe HS2.out
 have hwB:w.heap.size < w2.heap.size:=(ag.1 Ho2.out).1
 have HS3:=hid (zz HS2.out hpB (.cells #[Value.string { data:=non.toArray },Value.string { data:=#[] }] 167))
 have Ho3:=hid (JK (.cells #[Value.string { data:=non.toArray },Value.string { data:=#[] }] 167) Ho2.out)
 have HG3:=hid (zj HG2.out (.cells #[Value.string { data:=non.toArray },Value.string { data:=#[] }] 167))
 have HB3:=hid hB3
 clear hb3 hB3 HS2 Ho2
 generalize hW:w2.alloc _=W2 at *
 clear hW
 generalize w2.heap.size=B at *
 refine (QJ p s st2 (n:Int) W2 hs (by omega) (by omega) HS3.out).mono ?_
 rintro e w3 ⟨rfl,hsp4,hg4⟩
 have HG4:=hid (ja HG3.out hg4)
 have Ho4:=hid (qp hg4 Ho3.out (by omega))
 have HB4:=hid (qp hg4 HB3.out (by omega))
 have HS4:=hid hsp4
 clear hg4 hsp4 HG3 Ho3 HB3 HS3
 generalize qk (n:Int) st2=x at *
 obtain ⟨body,st3⟩:=x
 simp only at HR HS4 ⊢
 have hB0:w3.cell? ⟨B,1,none⟩=some (Value.string { data:=#[] }):=by rw [cell_of_row w3 B 1 _ _ (0,0) HB4.out];rfl
 have hz0:=frozen_of_row w3 B 1 _ _ HB4.out
 go_upto_region 4 with fail
 clear hB0 hz0
 have HB5:=hid (heap_setCell_same w3 B 1 _ _ (strB body) HB4.out)
 have HS5:=hid (Uv HS4.out (q:=⟨B,1,none⟩) (by show p≠B;omega) (strB body))
 have Ho5:=hid (qp (Jc w3 B 1 (strB body)) Ho4.out (by omega))
 have HG5:=hid (zo HG4.out (Jc w3 B 1 (strB body)) (by omega))
 clear HB4 HS4 Ho4 HG4
 generalize w3.setCell _ _=w5 at *
 obtain ⟨at_,bad,hrow,hat,hst⟩:=HS5.out
 obtain ⟨⟨c0,c1,c2⟩,cf⟩:=xt hrow
 have f2:=cf 2
 have Hrow:=hid hrow
 clear hrow cf c0 c1
 cases bad with
 | true =>
  go_upto_region 5 with fail
  obtain ⟨hb1,hb2⟩:=XB (v:=.bool true) Hrow.out
  have HSX:Hid (jY (w5.setCell ⟨p,2,none⟩ (.bool true)) p s (qv st).2):=⟨at_,true,hb1,hat,by rw [HR.out];rw [hst];simp⟩
  have Ho6:=hid (qp hb2 Ho5.out (by omega))
  have HB6:=hid (qp hb2 HB5.out (by omega))
  have HG6:=hid (ja HG5.out hb2)
  clear hb1 hb2 c2 f2
  generalize w5.setCell _ _=w6 at *
  go_wp2_with (first|(refine wpList_load_row rfl 167 (.tmp 4) rfl B rfl 167 #[strB non,strB body] (0,0) _ HB6.out Tryz.underlying167 rfl (by kernel_rfl) ?_)|(refine wpList_store_row rfl 167 (.tmp 2) (.tmp 25) rfl w.heap.size #[strB non,strB body] rfl rfl 167 #[Value.string { data:=#[] },Value.string { data:=#[] }] Ho6.out (by kernel_rfl) rfl (by simp [Value.oneCell']) ?_))
  have HR1:Hid ((qv st).1=(non,body)):=by show _=_;rw [HR.out]
  rw [HR1.out]
  have Ho7:=hid (setRow_heap w6 w.heap.size _ #[strB non,strB body] 167 (0,0) Ho6.out)
  have HS7:=hid (xw HSX.out (QN w6 w.heap.size #[strB non,strB body]) (by omega))
  have HG7:=hid (zo HG6.out (QN w6 w.heap.size #[strB non,strB body]) (ae _))
  generalize w6.setRow _ _=w7 at *
  exact bodyPost_ret (v:=.agg #[strB non,strB body]) (results_cell_row (P:=Tryz.prog) (p:=2) (ty:=167) rfl _ _ w.heap.size 167 #[strB non,strB body] (0,0) _ rfl Ho7.out Tryz.underlying167 rfl (by kernel_rfl)) rfl ⟨rfl,HS7.out,HG7.out⟩
 | false =>
  by_cases hlt:n < 2
  ·have hni:(n:Int) < 2:=by omega
   have hd:decide ((n:Int) < 2)=true:=cH hni
   go_upto_region 5 with fail
   obtain ⟨hb1,hb2⟩:=XB (v:=.bool true) Hrow.out
   have HSX:Hid (jY (w5.setCell ⟨p,2,none⟩ (.bool true)) p s (qv st).2):=⟨at_,true,hb1,hat,by rw [HR.out];simp [hlt]⟩
   have Ho6:=hid (qp hb2 Ho5.out (by omega))
   have HB6:=hid (qp hb2 HB5.out (by omega))
   have HG6:=hid (ja HG5.out hb2)
   clear hb1 hb2 c2 f2
   generalize w5.setCell _ _=w6 at *
   go_wp2_with (first|(refine wpList_load_row rfl 167 (.tmp 4) rfl B rfl 167 #[strB non,strB body] (0,0) _ HB6.out Tryz.underlying167 rfl (by kernel_rfl) ?_)|(refine wpList_store_row rfl 167 (.tmp 2) (.tmp 25) rfl w.heap.size #[strB non,strB body] rfl rfl 167 #[Value.string { data:=#[] },Value.string { data:=#[] }] Ho6.out (by kernel_rfl) rfl (by simp [Value.oneCell']) ?_))
   have HR1:Hid ((qv st).1=(non,body)):=by show _=_;rw [HR.out]
   rw [HR1.out]
   have Ho7:=hid (setRow_heap w6 w.heap.size _ #[strB non,strB body] 167 (0,0) Ho6.out)
   have HS7:=hid (xw HSX.out (QN w6 w.heap.size #[strB non,strB body]) (by omega))
   have HG7:=hid (zo HG6.out (QN w6 w.heap.size #[strB non,strB body]) (ae _))
   generalize w6.setRow _ _=w7 at *
   exact bodyPost_ret (v:=.agg #[strB non,strB body]) (results_cell_row (P:=Tryz.prog) (p:=2) (ty:=167) rfl _ _ w.heap.size 167 #[strB non,strB body] (0,0) _ rfl Ho7.out Tryz.underlying167 rfl (by kernel_rfl)) rfl ⟨rfl,HS7.out,HG7.out⟩
  ·have hni:¬ (n:Int) < 2:=by omega
   have hd:decide ((n:Int) < 2)=false:=aS hni
   go_upto_region 5 with fail
   obtain ⟨hb1,hb2⟩:=XB (v:=.bool false) Hrow.out
   have HSX:Hid (jY (w5.setCell ⟨p,2,none⟩ (.bool false)) p s (qv st).2):=⟨at_,false,hb1,hat,by rw [HR.out];rw [hst];simp [hlt]⟩
   have Ho6:=hid (qp hb2 Ho5.out (by omega))
   have HB6:=hid (qp hb2 HB5.out (by omega))
   have HG6:=hid (ja HG5.out hb2)
   clear hb1 hb2 c2 f2
   generalize w5.setCell _ _=w6 at *
   go_wp2_with (first|(refine wpList_load_row rfl 167 (.tmp 4) rfl B rfl 167 #[strB non,strB body] (0,0) _ HB6.out Tryz.underlying167 rfl (by kernel_rfl) ?_)|(refine wpList_store_row rfl 167 (.tmp 2) (.tmp 25) rfl w.heap.size #[strB non,strB body] rfl rfl 167 #[Value.string { data:=#[] },Value.string { data:=#[] }] Ho6.out (by kernel_rfl) rfl (by simp [Value.oneCell']) ?_))
   have HR1:Hid ((qv st).1=(non,body)):=by show _=_;rw [HR.out]
   rw [HR1.out]
   have Ho7:=hid (setRow_heap w6 w.heap.size _ #[strB non,strB body] 167 (0,0) Ho6.out)
   have HS7:=hid (xw HSX.out (QN w6 w.heap.size #[strB non,strB body]) (by omega))
   have HG7:=hid (zo HG6.out (QN w6 w.heap.size #[strB non,strB body]) (ae _))
   generalize w6.setRow _ _=w7 at *
   exact bodyPost_ret (v:=.agg #[strB non,strB body]) (results_cell_row (P:=Tryz.prog) (p:=2) (ty:=167) rfl _ _ w.heap.size 167 #[strB non,strB body] (0,0) _ rfl Ho7.out Tryz.underlying167 rfl (by kernel_rfl)) rfl ⟨rfl,HS7.out,HG7.out⟩
end
end Go.Proofs.YthhpbhpfagoapaaGreat
