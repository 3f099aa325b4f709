import Derived.Test.YthhpbhpfagoapaaGreatJAA
import Derived.Test.YthhpbhpfagoapaaGreatJAS
import Derived.Test.YthhpbhpfagoapaaGreatJAQ
import Derived.Test.YthhpbhpfagoapaaGreatJAN
import Derived.Deep.DeepCutAuto
import Derived.Deep.RegionWith
import Derived.Deep.LoopGhost
import Derived.Deep.CutBlock
import Derived.Maps.AppendAt
import Derived.Test.YthhpbhpfagoapaaGreatJAZ
namespace Go.Proofs.YthhpbhpfagoapaaGreat
set_option linter.unusedVariables false
set_option linter.unusedSimpArgs false
set_option maxRecDepth 100000
set_option maxHeartbeats 16000000
open Go.RowKit
section
set_option maxRecDepth 100000 in
theorem Jz (p:Nat) (s:List UInt8) (st:Option (List UInt8)) (max:Int) (w:World) (hs:s.length≤maxLen) (h0:0≤max) (h1:max≤1000000000000) (hp:jY w p s st) :
  Calls Tryz.prog 172 #[.pointer (some ⟨p,0,none⟩),.int .i64 max] w fun e w'=>e=.returned (.int .i64 ((jQ max.toNat st).1:Int))∧jY w' p s (jQ max.toNat st).2∧w.grownBy w' (some p):=by
 have Hp:=hid hp
 clear hp
 obtain ⟨m,rfl⟩:=bk h0
 rw [aY]
 have hul:=MM st
 go_enter Tryz.func172,Tryz.ntmps172
 go_wp2_with fail
 refine (PL p s st _ hs Hp.out).mono ?_
 rintro e w1 ⟨rfl,hsp1,hg1⟩
 have HF:Hid (jQ m st=if m < (uR st).1 then (0,none) else uR st):=rfl
 have e1:uP 10 0 1 st=uR st:=rfl
 rw [e1] at hsp1 ⊢
 have Hsp1:=hid hsp1
 have Hg1:=hid hg1
 have Hul:=hid hul
 clear e1 hsp1 hg1 hul
 generalize hx:uR st=x at *
 obtain ⟨n,st1⟩:=x
 simp only at Hsp1 HF Hul ⊢
 clear hx
 by_cases hlt:m < n
 ·have HF2:Hid (jQ m st=(0,none)):=by have:=HF.out;rw [aw hlt] at this;exact this
  obtain ⟨at_,bad,hrow,hat,_⟩:=Hsp1.out
  have f2:=(xt hrow).2 2
  have c2:=(xt hrow).1.2.2
  have Hrow:=hid hrow
  have hi:(m:Int) < (n:Int):=by omega
  clear hrow HF hlt
  go_wp2
  go_ret
  rw [HF2.out]
  have hb:=XB (v:=.bool true) Hrow.out
  exact ⟨rfl,⟨at_,true,hb.1,hat,rfl⟩,ja Hg1.out hb.2⟩
 ·have HF2:Hid (jQ m st=(n,st1)):=by have:=HF.out;rw [aj hlt] at this;exact this
  have hi:(n:Int)≤(m:Int):=by omega
  clear HF hlt
  go_wp2
  go_ret
  rw [HF2.out]
  exact ⟨rfl,Hsp1.out,Hg1.out⟩
theorem YI (p:Nat) (s:List UInt8) (st:Option (List UInt8)) (max:Int) (w:World) (hs:s.length≤maxLen) (h0:0≤max) (h1:max≤1000000000000) (hp:jY w p s st) :
  Calls Tryz.prog 222 #[.pointer (some ⟨p,0,none⟩),.int .i64 max] w fun e w'=>e=.returned (strB (xR max.toNat st).1)∧jY w' p s (xR max.toNat st).2∧w.grownBy w' (some p):=by
 have Hp:=hid hp
 clear hp
 have hle:=xO max.toNat st
 go_enter Tryz.func222,Tryz.ntmps222
 go_wp2_with fail
 refine (Jz p s st max _ hs h0 h1 Hp.out).mono ?_
 rintro e w1 ⟨rfl,hsp1,hg1⟩
 have HX:Hid (xR max.toNat st=qk ((jQ max.toNat st).1:Int) (jQ max.toNat st).2):=rfl
 have Hsp1:=hid hsp1
 clear hsp1
 generalize jQ max.toNat st=x at *
 go_wp2_with fail
 refine (QJ p s x.2 _ _ hs (by omega) (by omega) Hsp1.out).mono ?_
 rintro e w2 ⟨rfl,hsp2,hg2⟩
 go_wp2
 go_ret
 rw [HX.out]
 exact ⟨rfl,hsp2,ja hg1 hg2⟩
theorem LT (n:Nat) (h:n < 18446744073709551616):wrap64 (IntKind.u64.wrap ((n:Int) / 2))=(n:Int) / 2:=by
 rw [IntKind.wrap_u64];unfold wrap64;omega
theorem BE (n:Nat) (h:n < 18446744073709551616):wrap64 (wrap64 (-wrap64 (IntKind.u64.wrap ((n:Int) / 2))) - 1)=-((n:Int) / 2) - 1:=by
 rw [IntKind.wrap_u64];unfold wrap64;omega
theorem Ub {n:Int} (h0:0≤n) (h1:n≤9223372036854775807):IntKind.i64.wrap n=n:=IntWalk.i64_in n ⟨by omega,by omega⟩
set_option maxRecDepth 100000 in
theorem Po (p:Nat) (s:List UInt8) (st:Option (List UInt8)) (w:World) (hs:s.length≤maxLen) (hp:jY w p s st) :
  Calls Tryz.prog 238 #[.pointer (some ⟨p,0,none⟩)] w fun e w'=>e=.returned (.int .i64 (zOf (uR st).1))∧jY w' p s (uR st).2∧w.grownBy w' (some p):=by
 have Hp:=hid hp
 clear hp
 have hul:=MM st
 go_enter Tryz.func238,Tryz.ntmps238
 go_wp2_with fail
 refine (PL p s st _ hs Hp.out).mono ?_
 rintro e w1 ⟨rfl,hsp1,hg1⟩
 have e1:uP 10 0 1 st=uR st:=rfl
 rw [e1] at hsp1 ⊢
 have Hsp1:=hid hsp1
 have HZ:Hid (∀ n,n=(uR st).1→zOf n=zOf (uR st).1):=by intro n h;rw [h]
 clear e1 hsp1
 have hux:∃ n,n=(uR st).1:=⟨_,rfl⟩
 obtain ⟨n,hn⟩:=hux
 rw [← hn] at hul ⊢
 have HN:=hid hn
 clear hn
 have Hul:=hid hul
 by_cases hev:n % 2=0
 ·have hb:((n:Int) % 2 == 0)=true:=by simp;omega
  have HE:Hid (zOf n=(n:Int) / 2):=by simp [Hid,zOf,hev]
  clear hev hul
  go_wp2
  go_ret
  exact ⟨xm (by rw [← HZ.out n HN.out,HE.out];exact LT n Hul.out),Hsp1.out,hg1⟩
 ·have hb:((n:Int) % 2 == 0)=false:=by simp;omega
  have HE:Hid (zOf n=-((n:Int) / 2) - 1):=by simp [Hid,zOf,hev]
  clear hev hul
  go_wp2
  go_ret
  exact ⟨xm (by rw [← HZ.out n HN.out,HE.out];exact BE n Hul.out),Hsp1.out,hg1⟩
theorem BS (n c:Nat) (h:n < 18446744073709551616) (hc:c < 256):IntKind.u64.wrap (IntKind.u64.wrap (256*(n:Int))+IntKind.u64.wrap (c:Int))=(((256*n+c) % 18446744073709551616:Nat):Int):=by
 rw [IntKind.wrap_u64,IntKind.wrap_u64,IntKind.wrap_u64];omega
set_option maxRecDepth 100000 in
theorem Br (p:Nat) (s:List UInt8) (st:Option (List UInt8)) (w:World) (hs:s.length≤maxLen) (hp:jY w p s st) :
  Calls Tryz.prog 237 #[.pointer (some ⟨p,0,none⟩)] w fun e w'=>e=.returned (.int .i64 (bR st).1)∧jY w' p s (bR st).2∧w.grownBy w' (some p):=by
 have Hp:=hid hp
 clear hp
 go_enter Tryz.func237,Tryz.ntmps237
 go_wp2_with fail
 refine (QJ p s st 8 _ hs (by decide) (by decide) Hp.out).mono ?_
 rintro e w1 ⟨rfl,hsp1,hg1⟩
 have HB:Hid (bR st=(wrap64 (UH (qk 8 st).1:Int),(qk 8 st).2)):=rfl
 have Hsp1:=hid hsp1
 have Hg1:=hid hg1
 have hl8:=AX st
 clear hsp1 hg1
 generalize (qk 8 st).1=t at *
 go_wp2_with fail
 go_loop [4,5] (fun n i=>∃ k:Nat,k≤t.length∧i=.int .i64 ((k:Int) - 1)∧n=.int .u64 (UH (t.drop k):Int)) (fun _ i=>((intOf i)+1).toNat)
 case atStart=>exact ⟨t.length,ae _,rfl,by simp [UH]⟩
 case round =>
  obtain ⟨k,hk,rfl,rfl⟩:=hrel
  by_cases hk0:k=0
  ·subst hk0
   go_wp2
   go_ret
   rw [HB.out]
   exact ⟨rfl,Hsp1.out,Hg1.out⟩
  ·obtain ⟨m,rfl⟩:∃ m,k=m+1:=⟨k - 1,by omega⟩
   have hm:m < t.length:=by omega
   have HS:=hid (PH t m hm)
   have Hlt:=hid (Ls (t.drop (m+1)))
   generalize UH (t.drop (m+1))=n1 at *
   have e1:((m+1:Nat):Int) - 1=(m:Int):=by omega
   rw [e1]
   have hmi:(m:Int) < (t.length:Int):=by omega
   clear e1 hk0
   go_wp2
   go_round
   case rel=>exact ⟨m,by omega,rfl,by rw [HS.out];exact aT (Value.int IntKind.u64) (BS n1 (t[m]).toNat Hlt.out (t[m]).toNat_lt)⟩
   case measure=>simp [intOf]
end
section
theorem qZ {wr w1:World} {B p e sz n:Nat} {v:Value} {xs:List Value} (h:wr.ownsRow B e sz v n xs) (hp:p < B) (hg:wr.grownBy w1 (some p)):w1.ownsRow B e sz v n xs:=by
 refine h.kept hg ?_
 cases hv:v.ownBlock with
 | none=>exact .inl rfl
 | some k =>
  right
  have:=(h.lt k hv).1
  simp only [ne_eq,aP]
  omega
theorem zz {w:World} {p:Nat} {s:List UInt8} {st:Option (List UInt8)} (h:jY w p s st) (hp:p < w.heap.size) (o:Obj):jY (w.alloc o) p s st:=by
 obtain ⟨at_,bad,hrow,hat,hst⟩:=h
 exact ⟨at_,bad,by rw [Below.heap_alloc w o p hp];exact hrow,hat,hst⟩
theorem Uv {w:World} {p:Nat} {s:List UInt8} {st:Option (List UInt8)} (h:jY w p s st) {q:Addr} (hq:p≠q.block) (v:Value):jY (w.setCell q v) p s st:=by
 obtain ⟨at_,bad,hrow,hat,hst⟩:=h
 exact ⟨at_,bad,by rw [Below.heap_setCell w q v p hq];exact hrow,hat,hst⟩
theorem zj {w wr:World} {p:Option Nat} (h:w.grownBy wr p) (o:Obj):w.grownBy (wr.alloc o) p:=ja h (World.grownBy_alloc wr o p)
theorem YB {w wr:World} {p:Option Nat} (h:w.grownBy wr p) {q:Addr} (hq:w.heap.size≤q.block) (v:Value):w.grownBy (wr.setCell q v) p :=
 ⟨h.os,h.tape,h.output,by have:=h.size;simp;omega,fun k hk hne=>by rw [Below.heap_setCell wr q v k (by omega)];exact h.block k hk hne⟩
def Block3 (w:World) (g:Nat) (c:CellB):Prop:=w.heap[g]?=some (.cells #[.bool c.null,.int .i64 c.int,strB c.text] 58 (0,0))
theorem Block3.kept {w w1:World} {p g:Nat} {c:CellB} (h:Block3 w g c) (hg:w.grownBy w1 (some p)) (hlt:g < w.heap.size) (hne:g≠p):Block3 w1 g c:=by
 unfold Block3
 rw [hg.block g hlt (by simp [hne])]
 exact h
theorem JC {w:World} {p:Nat} {s:List UInt8} {st:Option (List UInt8)} (h:jY w p s st):w.cell? ⟨p,2,none⟩=some (.bool (Qa st))∧w.frozen? ⟨p,2,none⟩=false:=by
 refine ⟨KB h,?_⟩
 obtain ⟨at_,bad,hrow,_,_⟩:=h
 exact (xt hrow).2 2
structure Guess (w wr:World) (p g14:Nat) (s:List UInt8) (st:Option (List UInt8)) (lv:Value) (l:List CellB) (last:CellB):Prop where
 row:wr.ownsRow (g14+1) 58 3 lv l.length (jO l)
 spot:jY wr p s st
 grown:w.grownBy wr (some p)
 lastAt:Block3 wr g14 last
 ok:∀ c ∈ l,okC c
 lastOk:okC last
 lastLen:last.text.length≤12*l.length
theorem PZ (kind:Int) (e:Nat) (words:List (List UInt8)) (n len:Nat) (last:CellB) (st:Option (List UInt8)) (hw:∀ x ∈ words,x.length≤12) (hl:last.text.length≤1000) :
  okC (qW kind e words n len last st).1∧(qW kind e words n len last st).1.text.length≤last.text.length+12:=by
 have hx:∀ st',(xR 12 st').1.length≤12:=by
  intro st'
  unfold xR
  have h1:=xO 12 st'
  cases h2:(jQ 12 st').2 with
  | none=>simp [qk]
  | some r =>
   by_cases hc:((jQ 12 st').1:Int) < 0∨(r.length:Int) < ((jQ 12 st').1:Int)
   ·rw [Qz hc];simp
   ·rw [Ja (by omega) (by omega)]
    simp only [aq,aY];omega
 have hz:∀ k:Nat,k < 18446744073709551616→-9223372036854775808≤zOf k∧zOf k≤9223372036854775807:=by
  intro k hk
  unfold zOf;split<;>omega
 have hm:(2000:Nat)≤maxLen:=by decide
 unfold qW
 split
 ·have:=zr (UH (qk 8 st).1:Int)
  exact ⟨⟨this.1,this.2,ah _⟩,ah _⟩
 split
 ·have:=zr (last.int+zOf (uR st).1)
  exact ⟨⟨this.1,this.2,ah _⟩,ah _⟩
 split
 ·have:=hz _ (MM (jQ (n - len) st).2)
  exact ⟨⟨this.1,this.2,ah _⟩,ah _⟩
 split
 ·have:=hx st
  exact ⟨⟨by simp,by simp,by simp only;omega⟩,by simp only;omega⟩
 split
 ·have h5:(words.getD (jQ (words.length - 1) st).1 []).length≤12:=by
   by_cases h6:(jQ (words.length - 1) st).1 < words.length
   ·simp only [List.getD,ay h6,Option.getD_some]
    exact hw _ (al h6)
   ·simp [List.getD,cq (Nat.le_of_not_lt h6)]
  exact ⟨⟨by simp,by simp,by simp only;omega⟩,by simp only;omega⟩
 split
 ·have h7:=hx (jQ last.text.length st).2
  have h8:(last.text.take (jQ last.text.length st).1++(xR 12 (jQ last.text.length st).2).1).length≤last.text.length+12:=by
   rw [ab,aq];omega
  exact ⟨⟨by simp,by simp,by simp only;omega⟩,h8⟩
 ·exact ⟨⟨by simp,by simp,by simp only [aR];omega⟩,by simp⟩
def QB (l:List (List UInt8)):List Value:=l.map strB
theorem Tryz.infoString:(Tryz.prog.info? 9).map (fun i=>(i.zero,i.size,i.bytes))=some (some (.string ⟨#[]⟩),1,16):=by kernel_rfl
theorem JT {w w':World} {p:Nat} {s:List UInt8} {st:Option (List UInt8)} {q:Option Nat} (h:jY w p s st) (hp:p < w.heap.size) (hg:w.grownBy w' q) (hq:∀ k,q=some k→p < k):jY w' p s st:=by
 obtain ⟨at_,bad,hrow,hat,hst⟩:=h
 refine ⟨at_,bad,?_,hat,hst⟩
 rw [hg.block p hp (fun e=>absurd (hq p e.symm) (by omega))]
 exact hrow
theorem zy {w wr w2:World} {p q:Option Nat} (h:w.grownBy wr p) (hg:wr.grownBy w2 q) (hq:∀ k,q=some k→w.heap.size≤k):w.grownBy w2 p:=by
 refine ⟨hg.os.trans h.os,hg.tape.trans h.tape,hg.output.trans h.output,ar h.size hg.size,fun i hi hne=>?_⟩
 rw [hg.block i (aa hi h.size) (fun e=>absurd (hq i e.symm) (by omega))]
 exact h.block i hi hne
theorem CA {w w3 w4:World} {v v':Value} {p:Nat} {s:List UInt8} {st:Option (List UInt8)} {words:List (List UInt8)} {x:List UInt8} {o:Obj} (hp:p < w.heap.size)
  (hl:w3.ownsRow w.heap.size 9 1 v words.length (QB words)) (hl2:w4.ownsRow w.heap.size 9 1 v' (words.length+1) (QB words++[strB x])) (hg:(w3.alloc o).grownBy w4 v.ownBlock)
  (hsp:jY w3 p s st) (hg3:w.grownBy w3 (some p)) :
  w4.ownsRow w.heap.size 9 1 v' (words++[x]).length (QB (words++[x]))∧jY w4 p s st∧w.grownBy w4 (some p):=by
 have hz:=hg3.size
 have hb:∀ k,v.ownBlock=some k→w.heap.size≤k:=fun k hk=>(hl.lt k hk).1
 refine ⟨?_,?_,zy (zj hg3 o) hg hb⟩
 ·rw [ab,QB,cT];exact hl2
 ·exact JT (zz hsp (by omega) o) (by simp;omega) hg (fun k hk=>by have:=hb k hk;omega)
theorem SB (m:Nat) (st:Option (List UInt8)):(xR m st).1.length≤m:=by
 unfold xR
 have h1:=xO m st
 cases h2:(jQ m st).2 with
 | none=>simp [qk]
 | some r =>
  by_cases hc:((jQ m st).1:Int) < 0∨(r.length:Int) < ((jQ m st).1:Int)
  ·rw [Qz hc];simp
  ·rw [Ja (by omega) (by omega)]
   simp only [aq,aY];omega
theorem AG {k j:Nat} {words:List (List UInt8)} {sr sw:Option (List UInt8)} (h:j < k) (e1:words++(zi (k - j) sr).1=(zi k sw).1) (e2:(zi (k - j) sr).2=(zi k sw).2) :
  (words++[(xR 12 sr).1])++(zi (k - (j+1)) (xR 12 sr).2).1=(zi k sw).1∧(zi (k - (j+1)) (xR 12 sr).2).2=(zi k sw).2:=by
 rw [show k - j=(k - (j+1))+1 by omega] at e1 e2
 simp only [zi] at e1 e2
 exact ⟨by rw [af];exact e1,e2⟩
theorem Ae {w wc:World} {p n:Nat} {s:List UInt8} {st:Option (List UInt8)} (hp:p < w.heap.size) (hsp:jY wc p s st) (hg:w.grownBy wc (some p)) :
  Guess w (wc.alloc (Obj.cells #[Value.bool false,Value.int IntKind.i64 0,Value.string { data:=#[] }] 58)) p wc.heap.size s st (.slice none 0 0) [] qG where
 row:=World.ownsRow_nil _ _ _ _
 spot:=zz hsp (aa hp hg.size) _
 grown:=zj hg _
 lastAt:=by
  unfold Block3
  rw [World.alloc]
  simp [qG,strB]
 ok:=by simp
 lastOk:=⟨by simp [qG],by simp [qG],by simp [qG]⟩
 lastLen:=by simp [qG]
theorem Ic (kind:Int) (e:Nat) (words:List (List UInt8)) (n gk:Nat) (l:List CellB) (last:CellB) (st:Option (List UInt8)) (h:¬ (l.length < n∧st.isSome=true)):xM kind e words n gk l last st=(l,st):=by
 cases gk with
 | zero=>rfl
 | succ f=>rw [xM,aj h]
structure GuessPre (w wr wa:World) (p g14 g15:Nat) (s:List UInt8) (st:Option (List UInt8)) (wv:Value) (last:CellB) (words:List (List UInt8)):Prop where
 words:wa.ownsRow w.heap.size 9 1 wv words.length (QB words)
 spot:jY wa p s st
 lastAt:Block3 wa g14 last
 newAt:Block3 wa g15 qG
 grown:wr.grownBy wa (some p)
 size:wa.heap.size=g15+1
theorem CB {w wr:World} {p g14 g15:Nat} {s:List UInt8} {st:Option (List UInt8)} {lv wv:Value} {l:List CellB} {last:CellB} {words:List (List UInt8)} (h15:g15=wr.heap.size) (hp:p < wr.heap.size) (h14:g14 < wr.heap.size)
  (hG:Guess w wr p g14 s st lv l last) (hw:wr.ownsRow w.heap.size 9 1 wv words.length (QB words)) :
  GuessPre w wr (wr.alloc (Obj.cells #[Value.bool false,Value.int IntKind.i64 0,Value.string { data:=#[] }] 58)) p g14 g15 s st wv last words:=by
 subst h15
 refine ⟨hw.alloc _,zz hG.spot hp _,?_,?_,World.grownBy_alloc _ _ _,by simp⟩
 ·unfold Block3
  rw [Below.heap_alloc wr _ g14 h14]
  exact hG.lastAt
 ·unfold Block3
  rw [World.alloc]
  simp [qG,strB]
structure GuessMid (w wc:World) (p g14 g15:Nat) (s:List UInt8) (st:Option (List UInt8)) (lv wv:Value) (l:List CellB) (last v:CellB) (words:List (List UInt8)):Prop where
 row:wc.ownsRow (g14+1) 58 3 lv l.length (jO l)
 words:wc.ownsRow w.heap.size 9 1 wv words.length (QB words)
 spot:jY wc p s st
 grown:w.grownBy wc (some p)
 last:Block3 wc g14 last
 new:Block3 wc g15 v
 lt:g15 < wc.heap.size
 apart:lv.ownBlock≠some g15
theorem Ix {w:World} {g:Nat} {c:CellB} (h:Block3 w g c):g < w.heap.size:=by
 unfold Block3 at h
 exact (ag.1 h).1
theorem CU {w wr wc:World} {p g14 g15:Nat} {s:List UInt8} {st st2:Option (List UInt8)} {lv wv:Value} {l:List CellB} {last v:CellB} {words:List (List UInt8)} (h15:g15=wr.heap.size) (hp:p < g15) (h14:g14 < g15) (h14p:p < g14) (hpw:p < w.heap.size)
  (hG:Guess w wr p g14 s st lv l last) (hw:wr.ownsRow w.heap.size 9 1 wv words.length (QB words)) (hb:Block3 wc g15 v) (hsp:jY wc p s st2) (hgr:wr.grownBy wc (some p)) :
  GuessMid w wc p g14 g15 s st2 lv wv l last v words:=by
 subst h15
 exact ⟨qZ hG.row (by omega) hgr,qZ hw hpw hgr,hsp,ja hG.grown hgr,hG.lastAt.kept hgr h14 (by omega),hb,Ix hb,fun e=>absurd (hG.row.lt _ e).2 (by omega)⟩
theorem AW (kind:Int) (e:Nat) (words:List (List UInt8)) (n len:Nat) (last:CellB) (st:Option (List UInt8)) (hlt:len < n) :
  (qW kind e words n len last st).2.1≤n - len∧((qW kind e words n len last st).2.2.isSome=true→1≤(qW kind e words n len last st).2.1):=by
 unfold qW
 split
 ·exact ⟨by show 1≤_;omega,fun _=>ae 1⟩
 split
 ·exact ⟨by show 1≤_;omega,fun _=>ae 1⟩
 split
 ·refine ⟨xO _ _,?_⟩
  show (if (jQ (n - len) st).1=0 then none else (uR (jQ (n - len) st).2).2).isSome=true→1≤(jQ (n - len) st).1
  split
  ·intro h;simp at h
  ·intro _;omega
 split
 ·exact ⟨by show 1≤_;omega,fun _=>ae 1⟩
 split
 ·exact ⟨by show 1≤_;omega,fun _=>ae 1⟩
 split
 ·exact ⟨by show 1≤_;omega,fun _=>ae 1⟩
 ·exact ⟨by show 1≤_;omega,fun _=>ae 1⟩
theorem Vr {w:World} {b e s n g:Nat} {v:Value} {xs:List Value} {C:Array Value} {t:TypeId} {m:Nat × Nat} (h:w.ownsRow b e s v n xs) (hg:w.heap[g]?=some (.cells C t m)) (he:e≠t):v.ownBlock≠some g:=by
 rcases h.2 with ⟨rfl,_⟩|⟨g',cap,cur,rfl,_,hg',_⟩
 ·simp [Value.ownBlock]
 ·simp only [Value.ownBlock,ne_eq,aP]
  intro hgg
  subst hgg
  rw [hg] at hg'
  simp at hg'
  exact he hg'.2.1.symm
theorem Iu {W:World} {b b' e e' s s' n n':Nat} {v v':Value} {xs xs':List Value} (h:W.ownsRow b e s v n xs) (h':W.ownsRow b' e' s' v' n' xs') (he:e≠e') :
  v.ownBlock=none∨v.ownBlock≠v'.ownBlock:=by
 rcases h'.2 with ⟨rfl,_⟩|⟨g',cap',cur',rfl,_,hg',_⟩
 ·cases hv:v.ownBlock with
  | none=>exact .inl rfl
  | some k=>right;simp [Value.ownBlock]
 ·exact .inr (Vr h hg' he)
theorem jw {w:World} {b b' e s n:Nat} {v:Value} {xs:List Value} (h:w.ownsRow b e s v n xs) (hb:b'≤b):w.ownsRow b' e s v n xs:=by
 refine ⟨h.1,?_⟩
 rcases h.2 with h|⟨g,cap,cur,rfl,hg,rest⟩
 ·exact .inl h
 ·exact .inr ⟨g,cap,cur,rfl,ar hb hg,rest⟩
theorem BJ {w:World} {g:Nat} {x y z a b c:Value} {t:TypeId} (h:w.heap[g]?=some (.cells #[x,y,z] t (0,0))) :
  (((w.setCell ⟨g,0,none⟩ a).setCell ⟨g,1,none⟩ b).setCell ⟨g,2,none⟩ c).heap[g]?=some (.cells #[a,b,c] t (0,0))∧w.grownBy (((w.setCell ⟨g,0,none⟩ a).setCell ⟨g,1,none⟩ b).setCell ⟨g,2,none⟩ c) (some g):=by
 have h1:(w.setCell ⟨g,0,none⟩ a).heap[g]?=some (.cells #[a,y,z] t (0,0)):=by rw [heap_setCell_same w g 0 _ t a h];rfl
 have h2:((w.setCell ⟨g,0,none⟩ a).setCell ⟨g,1,none⟩ b).heap[g]?=some (.cells #[a,b,z] t (0,0)):=by rw [heap_setCell_same _ g 1 _ t b h1];rfl
 refine ⟨by rw [heap_setCell_same _ g 2 _ t c h2];rfl,⟨rfl,rfl,rfl,by simp,fun k _ hk=>?_⟩⟩
 have hne:k≠g:=fun e=>hk (by rw [e])
 rw [heap_setCell_other _ ⟨g,2,none⟩ k c hne,heap_setCell_other _ ⟨g,1,none⟩ k b hne,heap_setCell_other _ ⟨g,0,none⟩ k a hne]
theorem Ty {w wc:World} {p g14 g15:Nat} {s:List UInt8} {st:Option (List UInt8)} {lv wv:Value} {l:List CellB} {last:CellB} {vn:Bool} {vi:Int} {vt:List UInt8} {words:List (List UInt8)} (h14:g14 < g15) (hp:p < g14) (hw:w.heap.size≤g14)
  (h:GuessMid w wc p g14 g15 s st lv wv l last ⟨vn,vi,vt⟩ words) :
  GuessMid w (((wc.setCell ⟨g14,0,none⟩ (.bool vn)).setCell ⟨g14,1,none⟩ (.int .i64 vi)).setCell ⟨g14,2,none⟩ (.string ⟨vt.toArray⟩)) p g14 g15 s st lv wv (l++List.replicate 0 ⟨vn,vi,vt⟩) ⟨vn,vi,vt⟩ ⟨vn,vi,vt⟩ words:=by
 obtain ⟨hs,hg⟩:=BJ (a:=.bool vn) (b:=.int .i64 vi) (c:=.string ⟨vt.toArray⟩) h.last
 have hlt:=h.lt
 refine ⟨?_,?_,?_,?_,hs,?_,aa hlt hg.size,h.apart⟩
 ·rw [List.replicate_zero,aB]
  exact qZ h.row (by omega) hg
 ·exact h.words.kept hg (.inr (Vr h.words h.last (by decide)))
 ·exact JT h.spot (by omega) hg (fun k hk=>by simp at hk;omega)
 ·exact zy h.grown hg (fun k hk=>by simp at hk;omega)
 ·unfold Block3
  rw [hg.block g15 hlt (by simp;omega)]
  exact h.new
theorem Gu (l:List CellB) (c:CellB):jO (l++[c])=jO l++[.bool c.null,.int .i64 c.int,strB c.text]:=by
 rw [Js];simp [jO]
theorem KD {α:Type} (l:List α) (k:Nat) (v:α):l++List.replicate (k+1) v=(l++List.replicate k v)++[v]:=by
 rw [List.replicate_succ',af]
theorem DK {w w3 w4:World} {p g14 g15 k:Nat} {s:List UInt8} {st:Option (List UInt8)} {lv lv' wv:Value} {l:List CellB} {v:CellB} {words:List (List UInt8)} {o:Obj} (h14:g14 < g15) (hp:p < g14) (hw:w.heap.size≤g14)
  (h:GuessMid w w3 p g14 g15 s st lv wv (l++List.replicate k v) v v words)
  (hl:w4.ownsRow (g14+1) 58 3 lv' ((l++List.replicate k v).length+1) (jO (l++List.replicate k v)++[.bool v.null,.int .i64 v.int,strB v.text]))
  (hg:(w3.alloc o).grownBy w4 lv.ownBlock) (ha:lv'.ownBlock=lv.ownBlock∨lv'.ownBlock=some (w3.heap.size+1)) :
  GuessMid w w4 p g14 g15 s st lv' wv (l++List.replicate (k+1) v) v v words:=by
 have hlt:=h.lt
 have hb:∀ j,lv.ownBlock=some j→g14+1≤j:=fun j hj=>(h.row.lt j hj).1
 have hz:=hg.size
 rw [KD]
 generalize l++List.replicate k v=l' at *
 refine ⟨?_,?_,?_,?_,?_,?_,?_,?_⟩
 ·rw [Gu,ab];exact hl
 ·exact (h.words.alloc o).kept hg (Iu h.words h.row (by decide))
 ·exact JT (zz h.spot (by omega) o) (by simp;omega) hg (fun j hj=>by have:=hb j hj;omega)
 ·exact zy (zj h.grown o) hg (fun j hj=>by have:=hb j hj;omega)
 ·unfold Block3
  rw [hg.block g14 (by simp;omega) (fun e=>by have:=hb g14 e.symm;omega),Below.heap_alloc w3 o g14 (by omega)]
  exact h.last
 ·unfold Block3
  rw [hg.block g15 (by simp;omega) (fun e=>h.apart e.symm),Below.heap_alloc w3 o g15 hlt]
  exact h.new
 ·simp at hz;omega
 ·rcases ha with ha|ha
  ·rw [ha];exact h.apart
  ·rw [ha];simp;omega
theorem Dm {w w3:World} {p g14 g15 n times:Nat} {s:List UInt8} {st:Option (List UInt8)} {lv wv:Value} {l:List CellB} {last v:CellB} {words:List (List UInt8)} (hn:n≤60) (hln:l.length≤n) (hlast:last.text.length≤12*l.length) (hok:∀ c ∈ l,okC c)
  (h:GuessMid w w3 p g14 g15 s st lv wv (l++List.replicate times v) v v words) (ht:times≤n - l.length) (h1:1≤times∨v.text.length≤12*l.length) (hv:okC v) (hvl:v.text.length≤last.text.length+12) :
  Guess w w3 p g14 s st lv (l++List.replicate times v) v:=by
 refine ⟨h.row,h.spot,h.grown,h.last,?_,hv,?_⟩
 ·intro c hc
  rcases aM.1 hc with hc|hc
  ·exact hok c hc
  ·rw [(bC.1 hc).2];exact hv
 ·rw [ab,aE]
  rcases h1 with h1|h1<;>omega
theorem Ds (kind:Int) (e:Nat) (words:List (List UInt8)) (n len:Nat) (last:CellB) (st:Option (List UInt8)):1≤(qW kind e words n len last st).2.1∨(qW kind e words n len last st).1.text.length=0:=by
 unfold qW
 split
 ·exact .inl (ae 1)
 split
 ·exact .inl (ae 1)
 split
 ·exact .inr rfl
 split
 ·exact .inl (ae 1)
 split
 ·exact .inl (ae 1)
 split
 ·exact .inl (ae 1)
 ·exact .inl (ae 1)
theorem VG {wr w5:World} {p g15:Nat} {s:List UInt8} {st:Option (List UInt8)} {x y:Int} {t:List UInt8} {b:Bool} (h15:g15=wr.heap.size) (hp:p < g15) (hb:Block3 w5 g15 ⟨b,y,t⟩) (hsp:jY w5 p s st) (hg:wr.grownBy w5 (some p)) :
  Block3 (w5.setCell ⟨g15,1,none⟩ (.int .i64 x)) g15 ⟨b,x,t⟩∧jY (w5.setCell ⟨g15,1,none⟩ (.int .i64 x)) p s st∧wr.grownBy (w5.setCell ⟨g15,1,none⟩ (.int .i64 x)) (some p):=by
 refine ⟨(DR hb).1,Uv hsp (by show p≠g15;omega) _,YB hg (by show _≤g15;omega) _⟩
theorem Ux {wr w5:World} {p g15:Nat} {s:List UInt8} {st:Option (List UInt8)} {x t:List UInt8} {y:Int} {b:Bool} {v:Value} (hv:v=strB x) (h15:g15=wr.heap.size) (hp:p < g15) (hb:Block3 w5 g15 ⟨b,y,t⟩) (hsp:jY w5 p s st) (hg:wr.grownBy w5 (some p)) :
  Block3 (w5.setCell ⟨g15,2,none⟩ v) g15 ⟨b,y,x⟩∧jY (w5.setCell ⟨g15,2,none⟩ v) p s st∧wr.grownBy (w5.setCell ⟨g15,2,none⟩ v) (some p):=by
 subst hv
 refine ⟨(XB hb).1,Uv hsp (by show p≠g15;omega) _,YB hg (by show _≤g15;omega) _⟩
theorem XE {wr w5:World} {p g15:Nat} {s:List UInt8} {st:Option (List UInt8)} {c:CellB} (b:Bool) (hq:Qa st=true→b=true) (hp:p < g15) (hb:Block3 w5 g15 c) (hsp:jY w5 p s st) (hg:wr.grownBy w5 (some p)) :
  Block3 (w5.setCell ⟨p,2,none⟩ (.bool b)) g15 c∧jY (w5.setCell ⟨p,2,none⟩ (.bool b)) p s (if b=true then none else st)∧wr.grownBy (w5.setCell ⟨p,2,none⟩ (.bool b)) (some p):=by
 obtain ⟨at_,bad,hrow,hat,hst⟩:=hsp
 obtain ⟨h1,h2⟩:=XB (v:=.bool b) hrow
 refine ⟨?_,⟨at_,b,h1,hat,?_⟩,ja hg h2⟩
 ·unfold Block3
  rw [h2.block g15 (Ix hb) (by simp;omega)]
  exact hb
 ·cases b with
  | true=>rfl
  | false =>
   cases bad with
   | true=>subst hst;exact absurd (hq rfl) (by decide)
   | false=>subst hst;rfl
theorem jz {a b:World} {p:Option Nat} (h:(a.drew).grownBy b p):a.grownBy b p:=⟨h.os,h.tape,h.output,h.size,h.block⟩
theorem Pp {w:World} {B:Nat} {v:Value} {words:List (List UInt8)} (h:w.ownsRow B 9 1 v words.length (QB words)) (hn:0 < words.length) :
  ∃ g cap,v=.slice (some ⟨g,0,none⟩) words.length cap∧True:=by
 rcases h.2 with ⟨_,h0⟩|⟨g,cap,cur,rfl,_⟩
 ·omega
 ·exact ⟨g,cap,rfl,trivial⟩
theorem AV {w:World} {B g cap:Nat} {words:List (List UInt8)} (h:w.ownsRow B 9 1 (.slice (some ⟨g,0,none⟩) words.length cap) words.length (QB words)) (k:Nat) (hk:k < words.length) :
  w.cell? ⟨g,k,none⟩=some (strB words[k]):=by
 rw [h.cellAt k (by omega)]
 simp [QB,hk]
theorem RX {w:World} {p:Nat} {s:List UInt8} {st:Option (List UInt8)} (h:jY w p s st):jY w.drew p s st:=h
theorem Pb (t x:List UInt8) (k:Nat):Value.string ((⟨t.toArray⟩:ByteArray).extract 0 k++⟨x.toArray⟩)=strB (t.take k++x):=by
 have h:(⟨t.toArray⟩:ByteArray).extract 0 k=⟨(t.take k).toArray⟩:=by
  apply ByteArray.ext
  apply Array.ext'
  rw [Lib.extract_data,Vv]
  simp
 rw [h]
 exact aT Value.string (xo _ _)
end
section
set_option maxRecDepth 100000 in
theorem Em (p:Nat) (s:List UInt8) (st:Option (List UInt8)) (kind:Int) (n:Nat) (w:World) (hs:s.length≤maxLen) (hpw:p < w.heap.size) (hn:n≤60) (hk:kind=0∨kind=1) (hp:jY w p s st) :
  Calls Tryz.prog 173 #[.pointer (some ⟨p,0,none⟩),.int .i64 kind,.int .i64 (n:Int)] w fun e w'=>∃ v,e=.returned v ∧
   w'.ownsRow w.heap.size 58 3 v (zk kind n st).1.length (jO (zk kind n st).1)∧(∀ c ∈ (zk kind n st).1,okC c)∧jY w' p s (zk kind n st).2∧w.grownBy w' (some p):=by
 have Hp:=hid hp
 clear hp
 obtain ⟨i0,hi0,hz0,hz1,hz2⟩:=info_parts Tryz.infoString
 obtain ⟨i1,hi1,hy0,hy1,hy2⟩:=info_parts Tryz.infoCell
 go_enter Tryz.func173,Tryz.ntmps173
 go_wp2_with fail
 refine (QJ p s st 1 _ hs (by decide) (by decide) Hp.out).mono ?_
 rintro e w1 ⟨rfl,hsp1,hg1⟩
 have Hg1:=hid hg1
 have Hsp1:=hid hsp1
 have hb1:=KB hsp1
 clear hg1 hsp1
 rcases YC st with ht|⟨c,r,rfl,ht⟩
 ·have HG:Hid (zk kind n st=([],none)):=by simp only [Hid,zk,ht]
  rw [ht] at hb1 Hsp1 ⊢
  simp only [Qa] at hb1
  clear ht
  go_wp2
  go_ret
  rw [HG.out]
  exact ⟨_,rfl,World.ownsRow_nil _ _ _ _,by simp,Hsp1.out,Hg1.out⟩
 ·have HG:=hid (Xk kind n c r)
  rw [ht] at hb1 Hsp1 ⊢
  simp only [Qa] at hb1
  clear ht
  have hcw:((⟨#[c]⟩:ByteArray)[0]'(by simp [ByteArray.size]))=c:=rfl
  have hcb:=c.toNat_lt
  go_upto_region 7 with fail
  go_cut [33] (fun t wc=>t=.bool (decide (kind=1∧c.toNat=3))∧w1=wc)
  case first =>
   rcases hk with rfl|rfl
   ·go_wp2_with fail
    go_meet
    case rel=>exact ⟨rfl,rfl⟩
   ·by_cases hc3:c.toNat=3
    ·have hci:((c.toNat:Int) == 3)=true:=by simp;omega
     have Hc3:=hid hc3
     clear hc3
     go_wp2_with fail
     go_meet
     case rel=>exact ⟨by simp [Hc3.out],rfl⟩
    ·have hci:((c.toNat:Int) == 3)=false:=by simp;omega
     go_wp2_with fail
     go_meet
     case rel=>exact ⟨by simp [hc3],rfl⟩
  case rest =>
   obtain ⟨rfl,rfl⟩:=hcut
   go_upto_if 33 with fail
   go_cut [8,11,12,13] (fun wv _ _ _ wc=>∃ (words:List (List UInt8)) (stw:Option (List UInt8)),wc.ownsRow w.heap.size 9 1 wv words.length (QB words)∧(∀ x ∈ words,x.length≤12)∧words.length≤60∧jY wc p s stw∧w.grownBy wc (some p)∧zk kind n (some (c :: r))=xM kind c.toNat words n (n+1) [] qG stw)
   case first =>
    by_cases hw3:kind=1∧c.toNat=3
    ·have HG2:Hid (zk kind n (some (c :: r))=xM kind c.toNat (zi (jQ 60 (some r)).1 (jQ 60 (some r)).2).1 n (n+1) [] qG (zi (jQ 60 (some r)).1 (jQ 60 (some r)).2).2):=by
      have:=HG.out
      rw [aw hw3] at this
      rw [hw3.2]
      exact this
     have hd3:decide (kind=1∧c.toNat=3)=true:=by simp [hw3]
     rw [hd3]
     clear hw3 hd3 HG
     go_wp2_with fail
     refine (Jz p s (some r) 60 _ hs (by decide) (by decide) Hsp1.out).mono ?_
     rintro e w2 ⟨rfl,hsp2,hg2⟩
     have HG3:=hid (ja Hg1.out hg2)
     have Hsp2:=hid hsp2
     have hfl:=xO 60 (some r)
     have e60:(60:Int).toNat=60:=rfl
     rw [e60] at Hsp2 ⊢
     clear hsp2 hg2 e60
     generalize jQ 60 (some r)=fw at *
     obtain ⟨k,sw⟩:=fw
     simp only at hfl Hsp2 HG2 ⊢
     go_wp2_with fail
     go_loopw [8,12,13] (fun wv i _ wr=>∃ (j:Nat) (words:List (List UInt8)) (sr:Option (List UInt8)),j≤k∧i=.int .i64 (j:Int)∧wr.ownsRow w.heap.size 9 1 wv words.length (QB words)∧words.length=j∧(∀ x ∈ words,x.length≤12)∧jY wr p s sr∧w.grownBy wr (some p)∧words++(zi (k - j) sr).1=(zi k sw).1∧(zi (k - j) sr).2=(zi k sw).2)
      (fun _ i _ _=>k - (intOf i).toNat)
     case atStart=>exact ⟨0,[],sw,ah _,rfl,World.ownsRow_nil _ _ _ _,rfl,by simp,Hsp2.out,HG3.out,by simp,by simp⟩
     case round =>
      obtain ⟨j,words,sr,hj,rfl,hown,hwl,hw12,hsp,hg,he1,he2⟩:=hrel
      have Hsp:=hid hsp
      have Hg:=hid hg
      have He1:=hid he1
      have He2:=hid he2
      have Hwl:=hid hwl
      have Hw12:=hid hw12
      clear hsp hg he1 he2 hwl hw12
      by_cases hlt:j < k
      ·go_wp2_with fail
       refine (YI p s sr 12 _ hs (by decide) (by decide) Hsp.out).mono ?_
       rintro e w3 ⟨rfl,hsp3,hg3⟩
       have e12:(12:Int).toNat=12:=rfl
       rw [e12] at hsp3 ⊢
       have hx12:=SB 12 sr
       have HS:=hid (AG hlt He1.out He2.out)
       clear e12
       have hown3:=qZ hown hpw hg3
       have Hsp3:=hid hsp3
       have Hg3:=hid (ja Hg.out hg3)
       have hz3:=Hg3.out.size
       have hwk:words.length < k:=by have:=Hwl.out;omega
       clear hown hsp3 hg3
       generalize xR 12 sr=x at *
       go_wp2_with (at_builtin;refine wpList_append_own _ rfl (.tmp 43) (.tmp 45) 71 rfl w.heap.size 9 i0 (.string ⟨#[]⟩) 1 16 Tryz.underlying71 hi0 hz0 hz1 hz2 rfl (by decide) _ _ _ rfl (hown3.alloc _) ⟨_,0,none⟩ 1 1 [strB x.1] rfl rfl ?c1 ?c2 ?c3 ?c4 ?c5 ?_)
       case c1=>exact qq w3 #[strB x.1] 9
       case c2=>intro u hu;simp at hu;subst hu;rfl
       case c3=>unfold maxLen;omega
       case c4=>omega
       case c5=>simp;omega
       intro v4 w4 hl4 hg4 _
       have HR:=hid (CA hpw hown3 hl4 hg4 Hsp3.out Hg3.out)
       clear hl4 hg4 hown3
       go_wp2
       go_roundw
       case rel=>exact ⟨j+1,_,_,by omega,by go_num,HR.out.1,by have:=Hwl.out;simp;omega,by
        intro y hy
        rcases aM.1 hy with hy|hy
        ·exact Hw12.out y hy
        ·simp at hy;subst hy;exact hx12,HR.out.2.1,HR.out.2.2,HS.out.1,HS.out.2⟩
       case measure=>simp [intOf];omega
      ·have hjk:j=k:=by omega
       subst hjk
       have HE:Hid (words=(zi j sw).1∧sr=(zi j sw).2):=by
        have h1:=He1.out
        have h2:=He2.out
        rw [Nat.sub_self] at h1 h2
        simp only [zi,aB] at h1 h2
        exact ⟨h1,h2⟩
       go_wp2_with fail
       go_meet
       case rel=>exact ⟨words,sr,hown,Hw12.out,by have:=Hwl.out;omega,Hsp.out,Hg.out,by rw [HG2.out,HE.out.1,HE.out.2]⟩
    ·have HG2:Hid (zk kind n (some (c :: r))=xM kind c.toNat [] n (n+1) [] qG (some r)):=by
      have:=HG.out
      rw [aj hw3] at this
      exact this
     have hd3:decide (kind=1∧c.toNat=3)=false:=by simp only [cC];exact hw3
     rw [hd3]
     clear hw3 hd3 HG
     go_wp2_with fail
     go_meet
     case rel=>exact ⟨[],some r,World.ownsRow_nil _ _ _ _,by simp,by simp,Hsp1.out,Hg1.out,HG2.out⟩
   case rest =>
    obtain ⟨words,stw,hwords,hwl,hwn,hsp,hg,hGs⟩:=hcut
    have HGs:=hid hGs
    have Hsp:=hid hsp
    have Hg:=hid hg
    have hzc:=hg.size
    have Hwl:=hid hwl
    clear hGs hsp hg hwl hb1 hcw HG Hsp1 Hg1
    go_wp2_with fail
    have HW:∃ o:Obj,o=Obj.cells #[Value.bool false,Value.int IntKind.i64 0,Value.string { data:=#[] }] 58∧True:=⟨_,rfl,trivial⟩
    have HA:=hid (Ae (n:=n) hpw Hsp.out Hg.out)
    have Hwo:=hid (hwords.alloc (Obj.cells #[Value.bool false,Value.int IntKind.i64 0,Value.string { data:=#[] }] 58))
    have HAz:Hid (wc.heap.size < (wc.alloc (Obj.cells #[Value.bool false,Value.int IntKind.i64 0,Value.string { data:=#[] }] 58)).heap.size):=by simp [Hid]
    clear HW hwords
    generalize c.toNat=e at *
    generalize wc.heap.size=g14 at *
    go_loopg [7,15,16,17,18] (n+1) (fun gk lv _ _ _ _ wr=>∃ (l:List CellB) (last:CellB) (str:Option (List UInt8)),Guess w wr p g14 s str lv l last∧wr.ownsRow w.heap.size 9 1 u8 words.length (QB words)∧l.length≤n∧g14 < wr.heap.size∧xM kind e words n gk l last str=xM kind e words n (n+1) [] qG stw∧(str.isSome=true→n+1≤gk+l.length))
    case atStart=>exact ⟨[],qG,stw,HA.out,Hwo.out,ah _,HAz.out,rfl,fun _=>by simp⟩
    case round =>
     obtain ⟨l,last,str,hG,hwr,hln,hgz,hgf,hfu⟩:=hrel
     have HG:=hid hG
     have Hwr:=hid hwr
     have Hgf:=hid hgf
     have Hfu:=hid hfu
     obtain ⟨a,cap,rfl,_,_⟩:=JF hG.row hG.ok
     have hp14:p < g14:=by omega
     obtain ⟨hbad,hbf⟩:=JC hG.spot
     clear hG hwr hgf hfu HA Hwo HAz
     by_cases hgo:l.length < n∧str.isSome=true
     ·obtain ⟨hlt,hsome⟩:=hgo
      obtain ⟨r0,rfl⟩:=Option.isSome_iff_exists.1 hsome
      simp only [Qa] at hbad
      have Hfu2:Hid (n+1≤gk+l.length):=Hfu.out rfl
      clear hsome Hfu
      go_upto_block 4 with fail
      have hpr:p < wr.heap.size:=aa hpw HG.out.grown.size
      have HG15:∃ g15,g15=wr.heap.size:=⟨_,rfl⟩
      obtain ⟨g15,hg15⟩:=HG15
      have HP:=hid (CB hg15 hpr hgz HG.out Hwr.out)
      rw [← hg15] at hpr hgz
      rw [← hg15]
      have Hg15:=hid hg15
      clear hg15 hbad hbf
      generalize wr.alloc (Obj.cells #[Value.bool false,Value.int IntKind.i64 0,Value.string { data:=#[] }] 58)=wa at *
      have HSl:=hid (AW kind e words n l.length last (some r0) hlt)
      have HSz:=hid (Ds kind e words n l.length last (some r0))
      have HSo:=hid (PZ kind e words n l.length last (some r0) Hwl.out (by have:=HG.out.lastLen;omega))
      go_cut [16,17] (fun tv _ wc2=>tv=.int .i64 ((qW kind e words n l.length last (some r0)).2.1:Int)∧Block3 wc2 g15 (qW kind e words n l.length last (some r0)).1∧jY wc2 p s (qW kind e words n l.length last (some r0)).2.2∧wr.grownBy wc2 (some p))
      case first =>
       have hb15:=HP.out.newAt
       obtain ⟨⟨n0,n1,n2⟩,nf⟩:=xt hb15
       clear nf
       rcases hk with rfl|rfl
       ·by_cases h0:e=0
        ·subst h0
         have HS:Hid (qW 0 0 words n l.length last (some r0)=(⟨false,(bR (some r0)).1,[]⟩,1,(bR (some r0)).2)):=by simp [Hid,qW]
         go_wp2_with fail
         refine (Br p s (some r0) _ hs HP.out.spot).mono ?_
         rintro e5 w5 ⟨rfl,hsp5,hg5⟩
         have hb5:=hb15.kept hg5 (by have:=HP.out.size;omega) (by omega)
         obtain ⟨⟨m0,m1,m2⟩,mf⟩:=xt hb5
         have mf1:=mf 1
         have Hsp5:=hid hsp5
         have Hg5:=hid (ja HP.out.grown hg5)
         have Hb5:=hid hb5
         clear hsp5 hg5 hb5 mf n0 n1 n2
         generalize bR (some r0)=br at *
         go_wp2_with fail
         go_meet
         case rel =>
          rw [HS.out]
          have:=VG (x:=br.1) Hg15.out hpr Hb5.out Hsp5.out Hg5.out
          exact ⟨rfl,this.1,this.2.1,this.2.2⟩
        ·have q0:((e:Int) == 0)=false:=by simp;omega
         by_cases h1:e=1
         ·have HS:Hid (qW 0 e words n l.length last (some r0)=(⟨false,wrap64 (last.int+zOf (uR (some r0)).1),[]⟩,1,(uR (some r0)).2)):=by simp [Hid,qW,h1]
          have q1:((e:Int) == 1)=true:=by simp;omega
          clear h0 h1
          obtain ⟨⟨_,k1,_⟩,_⟩:=xt HP.out.lastAt
          have hz15:=HP.out.size
          have HZ:=hid (fun W (hW:jY W p s (some r0))=>Po p s (some r0) W hs hW)
          have Hsp0:=hid HP.out.spot
          have Hb15:=hid hb15
          have Hl14:=hid HP.out.lastAt
          have Hgw:=hid HP.out.grown
          clear n0 n1 n2 hb15
          generalize uR (some r0)=ur at *
          go_wp2_with fail
          go_region_with (go_at_call 238;refine (HZ.out _ ?_).mono ?_;exact RX Hsp0.out;rintro e5 w5 ⟨rfl,hsp5,hg5⟩;have Hg6:=hid (ja Hgw.out (jz hg5));have Hb5:=hid (Hb15.out.kept (jz hg5) (by omega) (by omega));have Hsp5:=hid hsp5;have x1:=(xt (Hl14.out.kept (jz hg5) (by omega) (by omega))).1.2.1;have x2:=(xt Hb5.out).1.2.1;have x3:=(xt Hb5.out).2 1;clear hsp5 hg5)
          all_goals
           go_wp2_with fail
           go_meet
           case rel =>
            rw [HS.out]
            rw [show IntKind.i64.wrap (last.int+zOf ur.1)=wrap64 (last.int+zOf ur.1) from IntWalk.i64_left _]
            have:=VG (x:=wrap64 (last.int+zOf ur.1)) Hg15.out hpr Hb5.out Hsp5.out Hg6.out
            exact ⟨rfl,this.1,this.2.1,this.2.2⟩
         ·have q1:((e:Int) == 1)=false:=by simp;omega
          by_cases h2:e=2
          ·have HS:Hid (qW 0 e words n l.length last (some r0)=(⟨false,zOf (uR (jQ (n - l.length) (some r0)).2).1,[]⟩,(jQ (n - l.length) (some r0)).1,if (jQ (n - l.length) (some r0)).1=0 then none else (uR (jQ (n - l.length) (some r0)).2).2)):=by simp [Hid,qW,h2]
           have q2:((e:Int) == 2)=true:=by simp;omega
           clear h0 h1 h2
           have hpz:=HP.out.size
           go_wp2_with fail
           refine (Jz p s (some r0) _ _ hs (by omega) (by omega) HP.out.spot).mono ?_
           rintro e5 w5 ⟨rfl,hsp5,hg5⟩
           have e12:((n:Int) - (l.length:Int)).toNat=n - l.length:=by omega
           rw [e12] at hsp5 ⊢
           have hfl:=xO (n - l.length) (some r0)
           have hb5:=hb15.kept hg5 (by have:=HP.out.size;omega) (by omega)
           have hz5:=hg5.size
           have Hsp5:=hid hsp5
           have Hg5:=hid (ja HP.out.grown hg5)
           have Hb5:=hid hb5
           clear hsp5 hg5 hb5 n0 n1 n2 e12
           generalize jQ (n - l.length) (some r0)=fr at *
           obtain ⟨times,st5⟩:=fr
           simp only at hfl Hsp5 HS ⊢
           go_wp2_with fail
           refine (Po p s st5 _ hs Hsp5.out).mono ?_
           rintro e6 w6 ⟨rfl,hsp6,hg6⟩
           have hb6:=Hb5.out.kept hg6 (by omega) (by omega)
           obtain ⟨⟨m0,m1,m2⟩,mf⟩:=xt hb6
           have mf1:=mf 1
           have Hsp6:=hid hsp6
           have Hg6:=hid (ja Hg5.out hg6)
           have Hb6:=hid hb6
           obtain ⟨k1,k2⟩:=JC hsp6
           clear hsp6 hg6 hb6 mf
           generalize uR st5=ur at *
           obtain ⟨un,st6⟩:=ur
           simp only at HS Hsp6 k1 k2 ⊢
           have HI:=hid (VG (x:=zOf un) Hg15.out hpr Hb6.out Hsp6.out Hg6.out)
           have hp15:p≠g15:=by omega
           have hps:g15≠p:=by omega
           cases hib:Qa st6 with
           | true =>
            rw [hib] at k1
            have HS6:Hid (st6=none):=by
             cases st6 with
             | none=>rfl
             | some x=>simp [Qa] at hib
            have HB:=hid (XE true (fun _=>rfl) hpr HI.out.1 HI.out.2.1 HI.out.2.2)
            clear hib
            go_wp2_with fail
            go_meet
            case rel =>
             rw [HS.out]
             have hB:=HB.out
             rw [HS6.out]
             refine ⟨rfl,hB.1,?_,hB.2.2⟩
             have h2:=hB.2.1
             simp only [bG] at h2
             simpa using h2
           | false =>
            rw [hib] at k1
            by_cases ht0:times=0
            ·have q5:((times:Int) == 0)=true:=by simp;omega
             have HB:=hid (XE true (fun _=>rfl) hpr HI.out.1 HI.out.2.1 HI.out.2.2)
             have Ht0:=hid ht0
             clear hib ht0
             go_wp2_with fail
             go_meet
             case rel =>
              rw [HS.out]
              have hB:=HB.out
              refine ⟨rfl,hB.1,?_,hB.2.2⟩
              have h2:=hB.2.1
              simp only [bG] at h2
              simpa [Ht0.out] using h2
            ·have q5:((times:Int) == 0)=false:=by simp;omega
             have HB:=hid (XE false (fun h=>by rw [hib] at h;exact absurd h (by decide)) hpr HI.out.1 HI.out.2.1 HI.out.2.2)
             have Ht0:=hid ht0
             clear hib ht0
             go_wp2_with fail
             go_meet
             case rel =>
              rw [HS.out]
              have hB:=HB.out
              refine ⟨rfl,hB.1,?_,hB.2.2⟩
              have h2:=hB.2.1
              simp only [bl,bU] at h2
              simpa [Ht0.out] using h2
          ·have HS:Hid (qW 0 e words n l.length last (some r0)=(⟨false,0,[]⟩,1,none)):=by simp [Hid,qW,h0,h1,h2]
           have q2:((e:Int) == 2)=false:=by simp;omega
           clear h0 h1 h2
           clear n0 n1 n2
           obtain ⟨c2,f2⟩:=JC HP.out.spot
           go_wp2_with fail
           go_meet
           case rel =>
            rw [HS.out]
            have:=XE true (fun _=>rfl) hpr hb15 HP.out.spot HP.out.grown
            exact ⟨rfl,this.1,this.2.1,this.2.2⟩
       ·by_cases h0:e=0
        ·have HS:Hid (qW 1 e words n l.length last (some r0)=(⟨false,0,(xR 12 (some r0)).1⟩,1,(xR 12 (some r0)).2)):=by simp [Hid,qW,h0]
         have q0:((e:Int) == 0)=true:=by simp;omega
         clear h0
         go_wp2_with fail
         refine (YI p s (some r0) 12 _ hs (by decide) (by decide) HP.out.spot).mono ?_
         rintro e5 w5 ⟨rfl,hsp5,hg5⟩
         have e12:(12:Int).toNat=12:=rfl
         rw [e12] at hsp5 ⊢
         clear e12
         have hb5:=hb15.kept hg5 (by have:=HP.out.size;omega) (by omega)
         obtain ⟨⟨m0,m1,m2⟩,mf⟩:=xt hb5
         have mf2:=mf 2
         have Hsp5:=hid hsp5
         have Hg5:=hid (ja HP.out.grown hg5)
         have Hb5:=hid hb5
         clear hsp5 hg5 hb5 mf n0 n1 n2
         generalize xR 12 (some r0)=xr at *
         go_wp2_with fail
         go_meet
         case rel =>
          rw [HS.out]
          have:=Ux (x:=xr.1) rfl Hg15.out hpr Hb5.out Hsp5.out Hg5.out
          exact ⟨rfl,this.1,this.2.1,this.2.2⟩
        ·have q0:((e:Int) == 0)=false:=by simp;omega
         by_cases h3:e=3
         ·have q3:((e:Int) == 3)=true:=by simp;omega
          have q4:((e:Int) == 4)=false:=by simp;omega
          by_cases hw0:words=[]
          ·have HS:Hid (qW 1 e words n l.length last (some r0)=(⟨false,0,[]⟩,1,none)):=by simp [Hid,qW,h3,hw0]
           clear h0 h3
           subst hw0
           clear n0 n1 n2
           obtain ⟨c2,f2⟩:=JC HP.out.spot
           have hu8:u8=.slice none 0 0∨∃ g cap,u8=.slice (some ⟨g,0,none⟩) 0 cap:=by
            rcases HP.out.words.2 with ⟨h,_⟩|⟨g,cap,cur,h,_⟩
            ·exact .inl h
            ·exact .inr ⟨g,cap,h⟩
           rcases hu8 with rfl|⟨g,cap,rfl⟩
           all_goals
            go_wp2_with fail
            go_meet
            case rel =>
             rw [HS.out]
             have:=XE true (fun _=>rfl) hpr hb15 HP.out.spot HP.out.grown
             exact ⟨rfl,this.1,this.2.1,this.2.2⟩
          ·have HS:Hid (qW 1 e words n l.length last (some r0)=(⟨false,0,words.getD (jQ (words.length - 1) (some r0)).1 []⟩,1,(jQ (words.length - 1) (some r0)).2)):=by simp [Hid,qW,h3,hw0]
           clear h0 h3
           have hwl1:0 < words.length:=b9.2 hw0
           have hwe:=HP.out.words
           obtain ⟨ua,ucap,rfl,hcw⟩:=Pp hwe hwl1
           have hpz:=HP.out.size
           go_wp2_with fail
           refine (Jz p s (some r0) _ _ hs (by omega) (by omega) HP.out.spot).mono ?_
           rintro e5 w5 ⟨rfl,hsp5,hg5⟩
           have e12:((words.length:Int) - 1).toNat=words.length - 1:=by omega
           rw [e12] at hsp5 ⊢
           have hfl:=xO (words.length - 1) (some r0)
           have hb5:=hb15.kept hg5 (by have:=HP.out.size;omega) (by omega)
           obtain ⟨⟨m0,m1,m2⟩,mf⟩:=xt hb5
           have mf2:=mf 2
           have Hsp5:=hid hsp5
           have Hg5:=hid (ja HP.out.grown hg5)
           have Hb5:=hid hb5
           have Hw5:=hid (qZ hwe hpw hg5)
           clear hsp5 hg5 hb5 mf n0 n1 n2 e12 hwe hcw hw0
           generalize jQ (words.length - 1) (some r0)=fr at *
           obtain ⟨fk,st5⟩:=fr
           simp only at hfl Hsp5 HS ⊢
           have hfk:fk < words.length:=by omega
           have HWd:Hid (words.getD fk []=words[fk]):=by simp [Hid,hfk]
           have hcell:=AV Hw5.out fk hfk
           generalize words[fk]=wd at *
           have hfi:(fk:Int) < (words.length:Int):=by omega
           go_wp2_with fail
           go_meet
           case rel =>
            rw [HS.out]
            have:=Ux (x:=wd) rfl Hg15.out hpr Hb5.out Hsp5.out Hg5.out
            rw [HWd.out]
            exact ⟨rfl,this.1,this.2.1,this.2.2⟩
         ·have q3:((e:Int) == 3)=false:=by simp;omega
          by_cases h4:e=4
          ·have q4:((e:Int) == 4)=true:=by simp;omega
           have HS:Hid (qW 1 e words n l.length last (some r0)=(⟨false,0,last.text.take (jQ last.text.length (some r0)).1++(xR 12 (jQ last.text.length (some r0)).2).1⟩,1,(xR 12 (jQ last.text.length (some r0)).2).2)):=by simp [Hid,qW,h4]
           clear h0 h3 h4
           obtain ⟨⟨_,_,k1⟩,_⟩:=xt HP.out.lastAt
           have hpz:=HP.out.size
           have hll:=HG.out.lastLen
           have hll2:last.text.length≤720:=by omega
           go_wp2_with fail
           refine (Jz p s (some r0) _ _ hs (by omega) (by omega) HP.out.spot).mono ?_
           rintro e5 w5 ⟨rfl,hsp5,hg5⟩
           have e12:(last.text.length:Int).toNat=last.text.length:=aY _
           rw [e12] at hsp5 ⊢
           have hfl:=xO last.text.length (some r0)
           have hb5:=hb15.kept hg5 (by omega) (by omega)
           have hl5:=HP.out.lastAt.kept hg5 (by omega) (by omega)
           have hz5:=hg5.size
           have Hsp5:=hid hsp5
           have Hg5:=hid (ja HP.out.grown hg5)
           have Hb5:=hid hb5
           have Hl5:=hid hl5
           have y1:=(xt hl5).1.2.2
           clear hsp5 hg5 hb5 n0 n1 n2 e12 hl5 k1
           generalize jQ last.text.length (some r0)=fr at *
           obtain ⟨fk,st5⟩:=fr
           simp only at hfl Hsp5 HS ⊢
           have HX:=hid (fun W (hW:jY W p s st5)=>YI p s st5 12 W hs (by decide) (by decide) hW)
           have hx12:=SB 12 st5
           have e12:(12:Int).toNat=12:=rfl
           rw [e12] at HX
           clear e12
           generalize xR 12 st5=xr at *
           have hfi:(fk:Int)≤(last.text.length:Int):=by omega
           have hq1:¬ (9223372036854775807 < (last.text.take fk).length+xr.1.length):=by rw [aq];omega
           go_wp2_with fail
           go_region_with (go_at_call 222;refine (HX.out _ ?_).mono ?_;exact RX Hsp5.out;rintro e6 w6 ⟨rfl,hsp6,hg6⟩;have Hg6:=hid (ja Hg5.out (jz hg6));have Hb6:=hid (Hb5.out.kept (jz hg6) (by omega) (by omega));have Hsp6:=hid hsp6;have x1:=(xt (Hl5.out.kept (jz hg6) (by omega) (by omega))).1.2.2;have x2:=(xt Hb6.out).1.2.2;have x3:=(xt Hb6.out).2 2;clear hsp6 hg6)
           all_goals
            go_wp2_with fail
            go_meet
            case rel =>
             rw [HS.out]
             have:=Ux (Pb last.text xr.1 fk) Hg15.out hpr Hb6.out Hsp6.out Hg6.out
             exact ⟨rfl,this.1,this.2.1,this.2.2⟩
          ·have q4:((e:Int) == 4)=false:=by simp;omega
           have HS:Hid (qW 1 e words n l.length last (some r0)=(⟨false,0,[]⟩,1,none)):=by simp [Hid,qW,h0,h3,h4]
           clear h0 h3 h4
           clear n0 n1 n2
           obtain ⟨c2,f2⟩:=JC HP.out.spot
           go_wp2_with fail
           go_meet
           case rel =>
            rw [HS.out]
            have:=XE true (fun _=>rfl) hpr hb15 HP.out.spot HP.out.grown
            exact ⟨rfl,this.1,this.2.1,this.2.2⟩
      case rest =>
       obtain ⟨rfl,hb2,hsp2,hgr2⟩:=hcut
       have HR2:=hid (CU Hg15.out hpr hgz hp14 hpw HG.out Hwr.out hb2 hsp2 hgr2)
       have Hgf2:Hid (xM kind e words n (gk - 1) (l++List.replicate (qW kind e words n l.length last (some r0)).2.1 (qW kind e words n l.length last (some r0)).1) (qW kind e words n l.length last (some r0)).1 (qW kind e words n l.length last (some r0)).2.2=xM kind e words n (n+1) [] qG stw):=by
        have h1:=Hgf.out
        obtain ⟨f,rfl⟩:∃ f,gk=f+1:=⟨gk - 1,by have:=Hfu2.out;omega⟩
        rw [xM,aw ⟨hlt,rfl⟩] at h1
        exact h1
       generalize qW kind e words n l.length last (some r0)=S at *
       obtain ⟨v,times,st2⟩:=S
       simp only at HSl HSo HSz HR2 Hgf2 hb2 ⊢
       obtain ⟨vn,vi,vt⟩:=v
       obtain ⟨⟨d0,d1,d2⟩,df⟩:=xt hb2
       simp only at d0 d1 d2
       obtain ⟨y0,y1,y2⟩:=(xt HR2.out.last).1
       have e0:=(xt HR2.out.last).2 0
       have e1:=(xt HR2.out.last).2 1
       have e2:=(xt HR2.out.last).2 2
       clear hb2 hsp2 hgr2 HP df
       have HM:=hid (Ty hgz hp14 hzc HR2.out)
       clear HR2
       go_wp2_with fail
       clear y0 y1 y2 e0 e1 e2 d0 d1 d2
       go_loopw [7,18] (fun lv i w3=>∃ k:Nat,k≤times∧i=.int .i64 (k:Int)∧GuessMid w w3 p g14 g15 s st2 lv u8 (l++List.replicate k ⟨vn,vi,vt⟩) ⟨vn,vi,vt⟩ ⟨vn,vi,vt⟩ words)
        (fun _ i _=>times - (intOf i).toNat)
       case atStart=>exact ⟨0,ah _,rfl,HM.out⟩
       case round =>
        obtain ⟨k,hkt,rfl,hm⟩:=hrel
        have Hm:=hid hm
        obtain ⟨⟨d0,d1,d2⟩,df⟩:=xt hm.new
        simp only at d0 d1 d2
        have hzw:=hm.lt
        have hrow:=hm.row
        clear hm HM df
        have hlr:(l++List.replicate k (⟨vn,vi,vt⟩:CellB)).length≤60:=by
         have:=HSl.out.1
         rw [ab,aE];omega
        have ht60:times≤60:=by have:=HSl.out.1;omega
        by_cases hkl:k < times
        ·go_wp2_with (at_builtin;refine wpList_append_own_at _ rfl (.tmp 170) (.tmp 172) 59 rfl (g14+1) 58 i1 (.agg #[.bool false,.int .i64 0,.string ⟨#[]⟩]) 3 32 Tryz.underlying59 hi1 hy0 hy1 hy2 rfl (by decide) _ _ _ rfl (hrow.alloc _) ⟨_,0,none⟩ 1 1 [.bool vn,.int .i64 vi,strB vt] rfl rfl ?c1 ?c2 ?c3 ?c4 ?c5 ?_)
         case c1=>exact qq _ #[.bool vn,.int .i64 vi,strB vt] 58
         case c2=>intro u hu;simp at hu;rcases hu with rfl|rfl|rfl<;>rfl
         case c3=>unfold maxLen;omega
         case c4=>omega
         case c5=>simp;omega
         intro v4 w4 hl4 hg4 _ ha4
         have HR:=hid (DK hgz hp14 hzc Hm.out (by rw [ab,aE];exact hl4) hg4 ha4)
         clear hl4 hg4 ha4 hrow Hm d0 d1 d2
         go_wp2
         go_roundw
         case rel=>exact ⟨k+1,by omega,by go_num,HR.out⟩
         case measure=>simp [intOf];omega
        ·have hke:k=times:=by omega
         subst hke
         have HN:=hid (Dm hn hln HG.out.lastLen HG.out.ok Hm.out HSl.out.1 (by have:=HSz.out;simp only at this ⊢;omega) HSo.out.1 HSo.out.2)
         clear hrow hkl
         go_wp2_with fail
         go_roundg (gk - 1)
         case measure=>have:=Hfu2.out;omega
         case rel=>exact ⟨_,_,_,HN.out,Hm.out.words,by have:=HSl.out.1;rw [ab,aE];omega,by omega,Hgf2.out,fun hso=>by have h1:=HSl.out.2 hso;have h2:=Hfu2.out;rw [ab,aE];omega⟩
     ·have HE:Hid (zk kind n (some (c :: r))=(l,str)):=by
       rw [Hid,HGs.out,← Hgf.out]
       exact Ic _ _ _ _ _ _ _ _ hgo
      by_cases hlt:l.length < n
      ·have hb2:Qa str=true:=by
        cases str with
        | none=>rfl
        | some x=>exact absurd ⟨hlt,rfl⟩ hgo
       rw [hb2] at hbad
       clear hgo hb2 hbf
       go_wp2
       go_ret
       rw [HE.out]
       exact ⟨_,rfl,jw HG.out.row (by omega),HG.out.ok,HG.out.spot,HG.out.grown⟩
      ·have hle:n≤l.length:=by omega
       clear hgo hbf hlt
       go_wp2
       go_ret
       rw [HE.out]
       exact ⟨_,rfl,jw HG.out.row (by omega),HG.out.ok,HG.out.spot,HG.out.grown⟩
end
section
theorem TL (s:List UInt8) (w:World) (hs:s.length≤1000000):Calls Tryz.prog 146 #[strB s] w fun e w'=>e=.returned (strB (xB s))∧Below w.heap.size w w' :=
 Ml ⟨s.toArray⟩ w (by rw [jR];exact hs)
theorem Ge (pre:List UInt8) (sort:UInt8) (g c p:Nat) (w:World) (hp:pre.length≤20) (hg:g≤65535) (hc:c≤65535) (hpp:p≤65535) :
  Calls Tryz.prog 86 #[strB pre,strB [sort],.int .i64 (g:Int),.int .i64 (c:Int),.int .i64 (p:Int)] w fun e w'=>e=.returned (strB (qo pre sort g c p))∧Below w.heap.size w w':=by
 have HB:Hid (qo pre sort g c p=xB pre++[sort]++qE (g:Int)++qE (c:Int)++qE (p:Int)):=rfl
 have hxl:(xB pre).length≤40:=by have:=jM pre.length (by omega);simp only [xB,ab];omega
 have h2g:(qE (g:Int)).length≤2:=Nat.le_of_eq (jG (g:Int))
 have h2c:(qE (c:Int)).length≤2:=Nat.le_of_eq (jG (c:Int))
 have h2p:(qE (p:Int)).length≤2:=Nat.le_of_eq (jG (p:Int))
 go_enter Tryz.func86,Tryz.ntmps86
 go_wp2_with fail
 refine (TL pre w (by omega)).mono ?_
 rintro e w1 ⟨rfl,hb1⟩
 go_wp2_with fail
 refine (QP (g:Int) _ (by omega) (by omega)).mono ?_
 rintro e w2 ⟨rfl,hb2⟩
 go_wp2_with fail
 refine (QP (c:Int) _ (by omega) (by omega)).mono ?_
 rintro e w3 ⟨rfl,hb3⟩
 go_wp2_with fail
 refine (QP (p:Int) _ (by omega) (by omega)).mono ?_
 rintro e w4 ⟨rfl,hb4⟩
 have hB2:=hb1.trans (hb2.mono hb1.size)
 have hB3:=hB2.trans (hb3.mono hB2.size)
 have HB4:=hid (hB3.trans (hb4.mono hB3.size))
 clear hb1 hb2 hb3 hb4 hB2 hB3
 generalize xB pre=X at *
 generalize qE (g:Int)=TG at *
 generalize qE (c:Int)=TC at *
 generalize qE (p:Int)=TP at *
 go_wp2
 go_ret
 exact ⟨by rw [HB.out];simp [xo],HB4.out⟩
theorem Su (kind:Int) (l:List CellB) (h:kind≠0∨je l=[]):JL kind l=uB (l.length - (je l).length)++[0]:=by
 unfold JL
 rw [aj (by rintro ⟨h1,h2⟩;rcases h with h|h;exact h h1;exact h2 h)]
theorem DM (l:List CellB) (h:je l≠[]):JL 0 l=uB (l.length - (je l).length)++([1]++zB (zG (je l) (qJ (je l)))++zB (JZ (je l) (qJ (je l)))):=by
 unfold JL
 rw [aw ⟨rfl,h⟩]
theorem Bq {D:List CellB} (h:0 < D.length):qJ D=(D[0]).int:=by
 cases D with
 | nil=>simp at h
 | cons c D=>rfl
theorem EV (D:List CellB) (k:Nat) (h:k < D.length) (x:Int):zG (D.take (k+1)) x=if (D[k]).int < zG (D.take k) x then (D[k]).int else zG (D.take k) x:=by
 unfold zG
 rw [ax h,List.foldl_append]
 rfl
theorem Dy (D:List CellB) (k:Nat) (h:k < D.length) (x:Int):JZ (D.take (k+1)) x=if JZ (D.take k) x < (D[k]).int then (D[k]).int else JZ (D.take k) x:=by
 unfold JZ
 rw [ax h,List.foldl_append]
 rfl
theorem IY (kind:Int) (a:Option Addr) (cap:Nat) (l:List CellB) (w:World) (hn:l.length≤60) (hs:∀ c ∈ l,qr c) (hl:Lies w a l) :
  Calls Tryz.prog 145 #[.int .i64 kind,.slice a l.length cap] w fun e w'=>e=.returned (strB (JL kind l))∧Below w.heap.size w w':=by
 have Hl:=hid hl
 have Hs:=hid hs
 have hvl:(je l).length≤l.length:=bE _ _
 have HSm:Hid (∀ c ∈ je l,qr c):=fun c hc=>hs c (bJ.1 hc).1
 clear hl hs
 go_enter Tryz.func145,Tryz.ntmps145
 go_wp2_with fail
 refine (NF a cap l w (by omega) Hl.out).mono ?_
 rintro e w1 ⟨v,rfl,hown,hb1⟩
 obtain ⟨va,vc,rfl,_,hvlie⟩:=JF hown (fun c hc=>Hl.out.ok c (bJ.1 hc).1)
 have Hv:=hid hvlie
 have HB1:=hid hb1
 clear hown hvlie hb1
 have hsub:IntKind.i64.wrap ((l.length:Int) - ((je l).length:Int))=((l.length - (je l).length:Nat):Int):=by rw [IntKind.wrap_i64];omega
 have hu64:IntKind.u64.wrap ((l.length - (je l).length:Nat):Int)=((l.length - (je l).length:Nat):Int):=Jj (by omega) (by omega)
 have hul:=jM (l.length - (je l).length) (by omega)
 go_wp2_with fail
 refine (MK (l.length - (je l).length) _ (by omega)).mono ?_
 rintro e w2 ⟨rfl,hb2⟩
 have HB2:=hid (HB1.out.trans (hb2.mono HB1.out.size))
 have Hv2:=hid (Hv.out.later hb2)
 clear hb2 hsub hu64
 by_cases hk:kind=0∧je l≠[]
 ·obtain ⟨rfl,hv0⟩:=hk
  have HM:=hid (DM l hv0)
  have hvp:=b9.2 hv0
  have hvi:(((je l).length:Int) == 0)=false:=by simp;omega
  have h0i:(0:Int) < ((je l).length:Int):=by omega
  obtain ⟨b,off,rfl,hbw,hcell⟩:=Hv2.out.at_ hv0
  have f1:=(hcell 0 hvp).2.1
  simp only [Nat.zero_mul,cP] at f1
  have HFI:=hid (Bq hvp)
  rw [← HFI.out] at f1
  have hfr:=JH _ HSm.out
  have HLR:=hid (fun k=>Zj ((je l).take k) (fun c hc=>HSm.out c (bg hc)) _ hfr)
  have HMR:=hid (fun k=>ZX ((je l).take k) (fun c hc=>HSm.out c (bg hc)) _ hfr)
  have Hcell:=hid hcell
  have HTL:=hid (EV (je l))
  have HTM:=hid (Dy (je l))
  clear hcell hfr hv0 Hv Hv2 HFI
  generalize hD:je l=D at *
  generalize hF0:qJ D=F0 at *
  have HHD:=hid hD
  clear hD hF0
  go_wp2_with fail
  go_loopw [7,8,9] (fun lo hi2 i wr=>∃ k:Nat,k≤D.length∧i=.int .i64 (k:Int)∧lo=.int .i64 (zG (D.take k) F0)∧hi2=.int .i64 (JZ (D.take k) F0)∧wr=w2) (fun _ _ i _=>D.length - (intOf i).toNat)
  case atStart=>exact ⟨0,ah _,rfl,rfl,rfl,rfl⟩
  case round =>
   obtain ⟨k,hkl,rfl,rfl,rfl,rfl⟩:=hrel
   by_cases hlt:k < D.length
   ·have hki:(k:Int) < (D.length:Int):=by omega
    have g2:=(Hcell.out k hlt).2.1
    have T1:=hid (HTL.out k hlt F0)
    have T2:=hid (HTM.out k hlt F0)
    obtain ⟨r1,r2⟩:=HLR.out k
    obtain ⟨r3,r4⟩:=HMR.out k
    generalize zG (D.take k) F0=M1 at *
    generalize JZ (D.take k) F0=M2 at *
    generalize (D[k]).int=x at *
    clear f1
    by_cases h1:x < M1
    ·by_cases h2:M2 < x
     ·go_wp2
      go_roundw
      case rel=>exact ⟨k+1,by omega,by go_num,by rw [T1.out,aw h1],by rw [T2.out,aw h2],by simp⟩
      case measure=>simp [intOf];omega
     ·have h2':¬ M2 < x:=h2
      go_wp2
      go_roundw
      case rel=>exact ⟨k+1,by omega,by go_num,by rw [T1.out,aw h1],by rw [T2.out,aj h2],by simp⟩
      case measure=>simp [intOf];omega
    ·have h1':¬ x < M1:=h1
     by_cases h2:M2 < x
     ·go_wp2
      go_roundw
      case rel=>exact ⟨k+1,by omega,by go_num,by rw [T1.out,aj h1],by rw [T2.out,aw h2],by simp⟩
      case measure=>simp [intOf];omega
     ·have h2':¬ M2 < x:=h2
      go_wp2
      go_roundw
      case rel=>exact ⟨k+1,by omega,by go_num,by rw [T1.out,aj h1],by rw [T2.out,aj h2],by simp⟩
      case measure=>simp [intOf];omega
   ·have hke:k=D.length:=by omega
    subst hke
    obtain ⟨r1,r2⟩:=HLR.out D.length
    obtain ⟨r3,r4⟩:=HMR.out D.length
    rw [aF] at *
    have z1:=Zt _ r1 r2
    have z2:=Zt _ r3 r4
    generalize zG D F0=M1 at *
    generalize JZ D F0=M2 at *
    clear f1
    go_wp2_with fail
    refine (Mz M1 _ r1 r2).mono ?_
    rintro e w3 ⟨rfl,hb3⟩
    go_wp2_with fail
    refine (Mz M2 _ r3 r4).mono ?_
    rintro e w4 ⟨rfl,hb4⟩
    have hB3:=HB2.out.trans (hb3.mono HB2.out.size)
    have HB4:=hid (hB3.trans (hb4.mono hB3.size))
    clear hb3 hb4 hB3
    generalize uB (l.length - D.length)=U at *
    generalize zB M1=Z1 at *
    generalize zB M2=Z2 at *
    go_wp2
    go_ret
    exact ⟨by rw [HM.out];simp [xo],HB4.out⟩
 ·have HM:=hid (Su kind l (by by_cases h0:kind=0;exact .inr (by simpa [h0] using hk);exact .inl h0))
  by_cases h0:kind=0
  ·have hv0:je l=[]:=by simpa [h0] using hk
   subst h0
   have hv1:(je l).length=0:=by rw [hv0];rfl
   have hvi:(((je l).length:Int) == 0)=true:=by rw [hv1];rfl
   clear hk Hv Hv2 HSm hv0 hv1
   generalize uB (l.length - (je l).length)=U at *
   go_wp2
   go_ret
   exact ⟨by rw [HM.out];simp [xo],HB2.out⟩
  ·have h0':(kind != 0)=true:=by simpa using h0
   clear hk h0 Hv Hv2
   generalize uB (l.length - (je l).length)=U at *
   go_wp2
   go_ret
   exact ⟨by rw [HM.out];simp [xo],HB2.out⟩
end
end Go.Proofs.YthhpbhpfagoapaaGreat
