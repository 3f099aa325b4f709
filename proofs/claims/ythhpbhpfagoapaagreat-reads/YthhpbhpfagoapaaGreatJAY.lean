import Derived.Test.YthhpbhpfagoapaaGreatJAL
import Derived.BigQuiet
import Derived.Test.YthhpbhpfagoapaaGreatJAH
import Derived.Test.YthhpbhpfagoapaaGreatJAN
import Derived.Deep.DeepCutAuto
import Derived.Deep.RegionWith
import Derived.Test.YthhpbhpfagoapaaGreatRPage
import Derived.Test.YthhpbhpfagoapaaGreatJAR
import Derived.Test.YthhpbhpfagoapaaGreatWBounds
import Derived.Test.YthhpbhpfagoapaaGreatJAJ
import Derived.OwnWalk
namespace Go.Proofs.YthhpbhpfagoapaaGreat
set_option linter.unusedVariables false
set_option linter.unusedSimpArgs false
set_option maxRecDepth 100000
set_option maxHeartbeats 16000000
section
open Go.RowKit
theorem SW (sec non ext cip:ByteArray):Jm 1 ((⟨#[84]⟩++sec++non++⟨(qw (ext.size:Int)).toArray⟩++ext++cip:ByteArray).data.toList)=Jm 1 (84 :: (sec.data.toList++non.data.toList++qw (ext.data.toList.length:Int)++ext.data.toList++cip.data.toList)):=by
 simp only [EU]
 simp
theorem Iz (sec non ext plain:ByteArray) (w:World) (h1:sec.size≤1000) (h2:non.size≤1000) (h3:ext.size≤5000) (h4:plain.size≤5000) :
  Calls Tryz.prog 59 #[.string sec,.string non,.string ext,.string plain] w fun e w' =>
   e=.returned (strB (Xh sec.data.toList non.data.toList ext.data.toList plain.data.toList))∧Below w.heap.size w w':=by
 go_enter Tryz.func59,Tryz.ntmps59
 go_wp2_with fail
 refine (VS sec non plain w h1 h2 h4).mono ?_
 rintro e w1 ⟨rfl,hb1⟩
 have hl:=zA sec.data.toList non.data.toList plain.data.toList
 have hl2:(zl sec.data.toList non.data.toList plain.data.toList).length≤5000:=by rw [hl];simpa using h4
 clear hl
 have HF:Hid (∀ c,c=zl sec.data.toList non.data.toList plain.data.toList→c++Rl sec.data.toList non.data.toList ext.data.toList c=Xh sec.data.toList non.data.toList ext.data.toList plain.data.toList):=by
  intro c hc;subst hc;rfl
 have HF2:=hid (HF.out _ rfl)
 clear HF
 generalize zl sec.data.toList non.data.toList plain.data.toList=cip at *
 have ht2:(qw (ext.size:Int)).length≤2:=Nat.le_of_eq (jB _)
 have HT:=hid (SW sec non ext ⟨cip.toArray⟩)
 go_wp2_with fail
 refine (QE _ _ (by omega) (by omega)).mono ?_
 rintro e w2 ⟨rfl,hb2⟩
 go_wp2_with fail
 refine (Nf _ w2 ?_).mono ?_
 ·simp only [ByteArray.size_append',jK];unfold maxLen;simp;omega
 rintro e w3 ⟨rfl,rfl⟩
 rw [HT.out]
 have hr:=Qa (84 :: (sec.data.toList++non.data.toList++qw (ext.data.toList.length:Int)++ext.data.toList++cip)) 1 (by decide) (by decide)
 obtain ⟨hr1,hr2⟩:=hr
 have HG:Hid (qw (Jm 1 (84 :: (sec.data.toList++non.data.toList++qw (ext.data.toList.length:Int)++ext.data.toList++cip)))=Rl sec.data.toList non.data.toList ext.data.toList cip):=rfl
 generalize Jm 1 (84 :: (sec.data.toList++non.data.toList++qw (ext.data.toList.length:Int)++ext.data.toList++cip))=t at *
 have ht3:(qw t).length≤2:=Nat.le_of_eq (jB _)
 go_wp2_with fail
 refine (QE t _ hr1 (by omega)).mono ?_
 rintro e w4 ⟨rfl,hb4⟩
 go_wp2
 go_ret
 have z1:=hb1.size
 have z2:=hb2.size
 refine ⟨?_,(hb1.trans (hb2.mono z1)).trans (hb4.mono (by omega))⟩
 rw [← HF2.out,← HG.out]
 simp [ByteArray.mk_append_mk]
end
section
open Go.RowKit
theorem qS {wr w1:World} {B p e sz n:Nat} {v:Value} {xs:List Value} (h:wr.ownsRow B e sz v n xs) (hp:p < B) (hg:wr.grownBy w1 (some p)):w1.ownsRow B e sz v n xs:=by
 refine h.kept hg ?_
 cases hv:v.ownBlock with
 | none=>exact .inl rfl
 | some k =>
  right
  have:=(h.lt k hv).1
  simp only [ne_eq,Option.some.injEq]
  omega
theorem zq {w:World} {p:Nat} {s:List UInt8} {st:Option (List UInt8)} (h:jS w p s st) (hp:p < w.heap.size) (o:Obj):jS (w.alloc o) p s st:=by
 obtain ⟨at_,bad,hrow,hat,hst⟩:=h
 exact ⟨at_,bad,by rw [Below.heap_alloc w o p hp];exact hrow,hat,hst⟩
theorem Ui {w:World} {p:Nat} {s:List UInt8} {st:Option (List UInt8)} (h:jS w p s st) {q:Addr} (hq:p≠q.block) (v:Value):jS (w.setCell q v) p s st:=by
 obtain ⟨at_,bad,hrow,hat,hst⟩:=h
 exact ⟨at_,bad,by rw [Below.heap_setCell w q v p hq];exact hrow,hat,hst⟩
theorem xS {w wr:World} {p:Option Nat} (h:w.grownBy wr p) (o:Obj):w.grownBy (wr.alloc o) p:=ja h (World.grownBy_alloc wr o p)
theorem RA {w wr:World} {p:Option Nat} (h:w.grownBy wr p) {q:Addr} (hq:w.heap.size≤q.block) (v:Value):w.grownBy (wr.setCell q v) p :=
 ⟨h.os,h.tape,h.output,by have:=h.size;simp;omega,fun k hk hne=>by rw [Below.heap_setCell wr q v k (by omega)];exact h.block k hk hne⟩
def Block3 (w:World) (g:Nat) (c:CellB):Prop:=w.heap[g]?=some (.cells #[.bool c.null,.int .i64 c.int,strB c.text] 58 (0,0))
theorem Block3.kept {w w1:World} {p g:Nat} {c:CellB} (h:Block3 w g c) (hg:w.grownBy w1 (some p)) (hlt:g < w.heap.size) (hne:g≠p):Block3 w1 g c:=by
 unfold Block3
 rw [hg.block g hlt (by simp [hne])]
 exact h
theorem JB {w:World} {p:Nat} {s:List UInt8} {st:Option (List UInt8)} (h:jS w p s st):w.cell? ⟨p,2,none⟩=some (.bool (JN st))∧w.frozen? ⟨p,2,none⟩=false:=by
 refine ⟨Ko h,?_⟩
 obtain ⟨at_,bad,hrow,_,_⟩:=h
 exact (xi hrow).2 2
structure Guess (w wr:World) (p g14:Nat) (s:List UInt8) (st:Option (List UInt8)) (lv:Value) (l:List CellB) (last:CellB):Prop where
 row:wr.ownsRow (g14+1) 58 3 lv l.length (jG l)
 spot:jS wr p s st
 grown:w.grownBy wr (some p)
 lastAt:Block3 wr g14 last
 ok:∀ c ∈ l,okC c
 lastOk:okC last
 lastLen:last.text.length≤12*l.length
theorem Td (kind:Int) (e:Nat) (words:List (List UInt8)) (n len:Nat) (last:CellB) (st:Option (List UInt8)) (hw:∀ x ∈ words,x.length≤12) (hl:last.text.length≤1000) :
  okC (qP kind e words n len last st).1∧(qP kind e words n len last st).1.text.length≤last.text.length+12:=by
 have hx:∀ st',(xR 12 st').1.length≤12:=by
  intro st'
  unfold xR
  have h1:=xI 12 st'
  cases h2:(jJ 12 st').2 with
  | none=>simp [qd]
  | some r =>
   by_cases hc:((jJ 12 st').1:Int) < 0∨(r.length:Int) < ((jJ 12 st').1:Int)
   ·rw [Qk hc];simp
   ·rw [zP (by omega) (by omega)]
    simp only [List.length_take,Int.toNat_natCast];omega
 have hz:∀ k:Nat,k < 18446744073709551616→-9223372036854775808≤zOf k∧zOf k≤9223372036854775807:=by
  intro k hk
  unfold zOf;split<;>omega
 have hm:(2000:Nat)≤maxLen:=by decide
 unfold qP
 split
 ·have:=zk (Uf (qd 8 st).1:Int)
  exact ⟨⟨this.1,this.2,Nat.zero_le _⟩,Nat.zero_le _⟩
 split
 ·have:=zk (last.int+zOf (uR st).1)
  exact ⟨⟨this.1,this.2,Nat.zero_le _⟩,Nat.zero_le _⟩
 split
 ·have:=hz _ (DV (jJ (n - len) st).2)
  exact ⟨⟨this.1,this.2,Nat.zero_le _⟩,Nat.zero_le _⟩
 split
 ·have:=hx st
  exact ⟨⟨by simp,by simp,by simp only;omega⟩,by simp only;omega⟩
 split
 ·have h5:(words.getD (jJ (words.length - 1) st).1 []).length≤12:=by
   by_cases h6:(jJ (words.length - 1) st).1 < words.length
   ·simp only [List.getD,List.getElem?_eq_getElem h6,Option.getD_some]
    exact hw _ (List.getElem_mem h6)
   ·simp [List.getD,List.getElem?_eq_none (Nat.le_of_not_lt h6)]
  exact ⟨⟨by simp,by simp,by simp only;omega⟩,by simp only;omega⟩
 split
 ·have h7:=hx (jJ last.text.length st).2
  have h8:(last.text.take (jJ last.text.length st).1++(xR 12 (jJ last.text.length st).2).1).length≤last.text.length+12:=by
   rw [List.length_append,List.length_take];omega
  exact ⟨⟨by simp,by simp,by simp only;omega⟩,h8⟩
 ·exact ⟨⟨by simp,by simp,by simp only [List.length_nil];omega⟩,by simp⟩
def Qf (l:List (List UInt8)):List Value:=l.map strB
theorem Tryz.infoString:(Tryz.prog.info? 9).map (fun i=>(i.zero,i.size,i.bytes))=some (some (.string ⟨#[]⟩),1,16):=by kernel_rfl
theorem JM {w w':World} {p:Nat} {s:List UInt8} {st:Option (List UInt8)} {q:Option Nat} (h:jS w p s st) (hp:p < w.heap.size) (hg:w.grownBy w' q) (hq:∀ k,q=some k→p < k):jS w' p s st:=by
 obtain ⟨at_,bad,hrow,hat,hst⟩:=h
 refine ⟨at_,bad,?_,hat,hst⟩
 rw [hg.block p hp (fun e=>absurd (hq p e.symm) (by omega))]
 exact hrow
theorem zo {w wr w2:World} {p q:Option Nat} (h:w.grownBy wr p) (hg:wr.grownBy w2 q) (hq:∀ k,q=some k→w.heap.size≤k):w.grownBy w2 p:=by
 refine ⟨hg.os.trans h.os,hg.tape.trans h.tape,hg.output.trans h.output,Nat.le_trans h.size hg.size,fun i hi hne=>?_⟩
 rw [hg.block i (Nat.lt_of_lt_of_le hi h.size) (fun e=>absurd (hq i e.symm) (by omega))]
 exact h.block i hi hne
theorem My {w w3 w4:World} {v v':Value} {p:Nat} {s:List UInt8} {st:Option (List UInt8)} {words:List (List UInt8)} {x:List UInt8} {o:Obj} (hp:p < w.heap.size)
  (hl:w3.ownsRow w.heap.size 9 1 v words.length (Qf words)) (hl2:w4.ownsRow w.heap.size 9 1 v' (words.length+1) (Qf words++[strB x])) (hg:(w3.alloc o).grownBy w4 v.ownBlock)
  (hsp:jS w3 p s st) (hg3:w.grownBy w3 (some p)) :
  w4.ownsRow w.heap.size 9 1 v' (words++[x]).length (Qf (words++[x]))∧jS w4 p s st∧w.grownBy w4 (some p):=by
 have hz:=hg3.size
 have hb:∀ k,v.ownBlock=some k→w.heap.size≤k:=fun k hk=>(hl.lt k hk).1
 refine ⟨?_,?_,zo (xS hg3 o) hg hb⟩
 ·rw [List.length_append,Qf,List.map_append];exact hl2
 ·exact JM (zq hsp (by omega) o) (by simp;omega) hg (fun k hk=>by have:=hb k hk;omega)
theorem Tc (m:Nat) (st:Option (List UInt8)):(xR m st).1.length≤m:=by
 unfold xR
 have h1:=xI m st
 cases h2:(jJ m st).2 with
 | none=>simp [qd]
 | some r =>
  by_cases hc:((jJ m st).1:Int) < 0∨(r.length:Int) < ((jJ m st).1:Int)
  ·rw [Qk hc];simp
  ·rw [zP (by omega) (by omega)]
   simp only [List.length_take,Int.toNat_natCast];omega
theorem IX {k j:Nat} {words:List (List UInt8)} {sr sw:Option (List UInt8)} (h:j < k) (e1:words++(xU (k - j) sr).1=(xU k sw).1) (e2:(xU (k - j) sr).2=(xU k sw).2) :
  (words++[(xR 12 sr).1])++(xU (k - (j+1)) (xR 12 sr).2).1=(xU k sw).1∧(xU (k - (j+1)) (xR 12 sr).2).2=(xU k sw).2:=by
 rw [show k - j=(k - (j+1))+1 by omega] at e1 e2
 simp only [xU] at e1 e2
 exact ⟨by rw [List.append_assoc];exact e1,e2⟩
theorem Es {w wc:World} {p n:Nat} {s:List UInt8} {st:Option (List UInt8)} (hp:p < w.heap.size) (hsp:jS wc p s st) (hg:w.grownBy wc (some p)) :
  Guess w (wc.alloc (Obj.cells #[Value.bool false,Value.int IntKind.i64 0,Value.string { data:=#[] }] 58)) p wc.heap.size s st (.slice none 0 0) [] qy where
 row:=World.ownsRow_nil _ _ _ _
 spot:=zq hsp (Nat.lt_of_lt_of_le hp hg.size) _
 grown:=xS hg _
 lastAt:=by
  unfold Block3
  rw [World.alloc]
  simp [qy,strB]
 ok:=by simp
 lastOk:=⟨by simp [qy],by simp [qy],by simp [qy]⟩
 lastLen:=by simp [qy]
theorem Eu (kind:Int) (e:Nat) (words:List (List UInt8)) (n gk:Nat) (l:List CellB) (last:CellB) (st:Option (List UInt8)) (h:¬ (l.length < n∧st.isSome=true)):xF kind e words n gk l last st=(l,st):=by
 cases gk with
 | zero=>rfl
 | succ f=>rw [xF,if_neg h]
structure GuessPre (w wr wa:World) (p g14 g15:Nat) (s:List UInt8) (st:Option (List UInt8)) (wv:Value) (last:CellB) (words:List (List UInt8)):Prop where
 words:wa.ownsRow w.heap.size 9 1 wv words.length (Qf words)
 spot:jS wa p s st
 lastAt:Block3 wa g14 last
 newAt:Block3 wa g15 qy
 grown:wr.grownBy wa (some p)
 size:wa.heap.size=g15+1
theorem MK {w wr:World} {p g14 g15:Nat} {s:List UInt8} {st:Option (List UInt8)} {lv wv:Value} {l:List CellB} {last:CellB} {words:List (List UInt8)} (h15:g15=wr.heap.size) (hp:p < wr.heap.size) (h14:g14 < wr.heap.size)
  (hG:Guess w wr p g14 s st lv l last) (hw:wr.ownsRow w.heap.size 9 1 wv words.length (Qf words)) :
  GuessPre w wr (wr.alloc (Obj.cells #[Value.bool false,Value.int IntKind.i64 0,Value.string { data:=#[] }] 58)) p g14 g15 s st wv last words:=by
 subst h15
 refine ⟨hw.alloc _,zq hG.spot hp _,?_,?_,World.grownBy_alloc _ _ _,by simp⟩
 ·unfold Block3
  rw [Below.heap_alloc wr _ g14 h14]
  exact hG.lastAt
 ·unfold Block3
  rw [World.alloc]
  simp [qy,strB]
structure GuessMid (w wc:World) (p g14 g15:Nat) (s:List UInt8) (st:Option (List UInt8)) (lv wv:Value) (l:List CellB) (last v:CellB) (words:List (List UInt8)):Prop where
 row:wc.ownsRow (g14+1) 58 3 lv l.length (jG l)
 words:wc.ownsRow w.heap.size 9 1 wv words.length (Qf words)
 spot:jS wc p s st
 grown:w.grownBy wc (some p)
 last:Block3 wc g14 last
 new:Block3 wc g15 v
 lt:g15 < wc.heap.size
 apart:lv.ownBlock≠some g15
theorem Er {w:World} {g:Nat} {c:CellB} (h:Block3 w g c):g < w.heap.size:=by
 unfold Block3 at h
 exact (Array.getElem?_eq_some_iff.1 h).1
theorem CE {w wr wc:World} {p g14 g15:Nat} {s:List UInt8} {st st2:Option (List UInt8)} {lv wv:Value} {l:List CellB} {last v:CellB} {words:List (List UInt8)} (h15:g15=wr.heap.size) (hp:p < g15) (h14:g14 < g15) (h14p:p < g14) (hpw:p < w.heap.size)
  (hG:Guess w wr p g14 s st lv l last) (hw:wr.ownsRow w.heap.size 9 1 wv words.length (Qf words)) (hb:Block3 wc g15 v) (hsp:jS wc p s st2) (hgr:wr.grownBy wc (some p)) :
  GuessMid w wc p g14 g15 s st2 lv wv l last v words:=by
 subst h15
 exact ⟨qS hG.row (by omega) hgr,qS hw hpw hgr,hsp,ja hG.grown hgr,hG.lastAt.kept hgr h14 (by omega),hb,Er hb,fun e=>absurd (hG.row.lt _ e).2 (by omega)⟩
theorem Dl (kind:Int) (e:Nat) (words:List (List UInt8)) (n len:Nat) (last:CellB) (st:Option (List UInt8)) (hlt:len < n) :
  (qP kind e words n len last st).2.1≤n - len∧((qP kind e words n len last st).2.2.isSome=true→1≤(qP kind e words n len last st).2.1):=by
 unfold qP
 split
 ·exact ⟨by show 1≤_;omega,fun _=>Nat.le_refl 1⟩
 split
 ·exact ⟨by show 1≤_;omega,fun _=>Nat.le_refl 1⟩
 split
 ·refine ⟨xI _ _,?_⟩
  show (if (jJ (n - len) st).1=0 then none else (uR (jJ (n - len) st).2).2).isSome=true→1≤(jJ (n - len) st).1
  split
  ·intro h;simp at h
  ·intro _;omega
 split
 ·exact ⟨by show 1≤_;omega,fun _=>Nat.le_refl 1⟩
 split
 ·exact ⟨by show 1≤_;omega,fun _=>Nat.le_refl 1⟩
 split
 ·exact ⟨by show 1≤_;omega,fun _=>Nat.le_refl 1⟩
 ·exact ⟨by show 1≤_;omega,fun _=>Nat.le_refl 1⟩
theorem US {w:World} {b e s n g:Nat} {v:Value} {xs:List Value} {C:Array Value} {t:TypeId} {m:Nat × Nat} (h:w.ownsRow b e s v n xs) (hg:w.heap[g]?=some (.cells C t m)) (he:e≠t):v.ownBlock≠some g:=by
 rcases h.2 with ⟨rfl,_⟩|⟨g',cap,cur,rfl,_,hg',_⟩
 ·simp [Value.ownBlock]
 ·simp only [Value.ownBlock,ne_eq,Option.some.injEq]
  intro hgg
  subst hgg
  rw [hg] at hg'
  simp at hg'
  exact he hg'.2.1.symm
theorem IU {W:World} {b b' e e' s s' n n':Nat} {v v':Value} {xs xs':List Value} (h:W.ownsRow b e s v n xs) (h':W.ownsRow b' e' s' v' n' xs') (he:e≠e') :
  v.ownBlock=none∨v.ownBlock≠v'.ownBlock:=by
 rcases h'.2 with ⟨rfl,_⟩|⟨g',cap',cur',rfl,_,hg',_⟩
 ·cases hv:v.ownBlock with
  | none=>exact .inl rfl
  | some k=>right;simp [Value.ownBlock]
 ·exact .inr (US h hg' he)
theorem jy {w:World} {b b' e s n:Nat} {v:Value} {xs:List Value} (h:w.ownsRow b e s v n xs) (hb:b'≤b):w.ownsRow b' e s v n xs:=by
 refine ⟨h.1,?_⟩
 rcases h.2 with h|⟨g,cap,cur,rfl,hg,rest⟩
 ·exact .inl h
 ·exact .inr ⟨g,cap,cur,rfl,Nat.le_trans hb hg,rest⟩
theorem LI {w:World} {g:Nat} {x y z a b c:Value} {t:TypeId} (h:w.heap[g]?=some (.cells #[x,y,z] t (0,0))) :
  (((w.setCell ⟨g,0,none⟩ a).setCell ⟨g,1,none⟩ b).setCell ⟨g,2,none⟩ c).heap[g]?=some (.cells #[a,b,c] t (0,0))∧w.grownBy (((w.setCell ⟨g,0,none⟩ a).setCell ⟨g,1,none⟩ b).setCell ⟨g,2,none⟩ c) (some g):=by
 have h1:(w.setCell ⟨g,0,none⟩ a).heap[g]?=some (.cells #[a,y,z] t (0,0)):=by rw [heap_setCell_same w g 0 _ t a h];rfl
 have h2:((w.setCell ⟨g,0,none⟩ a).setCell ⟨g,1,none⟩ b).heap[g]?=some (.cells #[a,b,z] t (0,0)):=by rw [heap_setCell_same _ g 1 _ t b h1];rfl
 refine ⟨by rw [heap_setCell_same _ g 2 _ t c h2];rfl,⟨rfl,rfl,rfl,by simp,fun k _ hk=>?_⟩⟩
 have hne:k≠g:=fun e=>hk (by rw [e])
 rw [heap_setCell_other _ ⟨g,2,none⟩ k c hne,heap_setCell_other _ ⟨g,1,none⟩ k b hne,heap_setCell_other _ ⟨g,0,none⟩ k a hne]
theorem MF {w wc:World} {p g14 g15:Nat} {s:List UInt8} {st:Option (List UInt8)} {lv wv:Value} {l:List CellB} {last:CellB} {vn:Bool} {vi:Int} {vt:List UInt8} {words:List (List UInt8)} (h14:g14 < g15) (hp:p < g14) (hw:w.heap.size≤g14)
  (h:GuessMid w wc p g14 g15 s st lv wv l last ⟨vn,vi,vt⟩ words) :
  GuessMid w (((wc.setCell ⟨g14,0,none⟩ (.bool vn)).setCell ⟨g14,1,none⟩ (.int .i64 vi)).setCell ⟨g14,2,none⟩ (.string ⟨vt.toArray⟩)) p g14 g15 s st lv wv (l++List.replicate 0 ⟨vn,vi,vt⟩) ⟨vn,vi,vt⟩ ⟨vn,vi,vt⟩ words:=by
 obtain ⟨hs,hg⟩:=LI (a:=.bool vn) (b:=.int .i64 vi) (c:=.string ⟨vt.toArray⟩) h.last
 have hlt:=h.lt
 refine ⟨?_,?_,?_,?_,hs,?_,Nat.lt_of_lt_of_le hlt hg.size,h.apart⟩
 ·rw [List.replicate_zero,List.append_nil]
  exact qS h.row (by omega) hg
 ·exact h.words.kept hg (.inr (US h.words h.last (by decide)))
 ·exact JM h.spot (by omega) hg (fun k hk=>by simp at hk;omega)
 ·exact zo h.grown hg (fun k hk=>by simp at hk;omega)
 ·unfold Block3
  rw [hg.block g15 hlt (by simp;omega)]
  exact h.new
theorem Gm (l:List CellB) (c:CellB):jG (l++[c])=jG l++[.bool c.null,.int .i64 c.int,strB c.text]:=by
 rw [Jf];simp [jG]
theorem Kh {α:Type} (l:List α) (k:Nat) (v:α):l++List.replicate (k+1) v=(l++List.replicate k v)++[v]:=by
 rw [List.replicate_succ',List.append_assoc]
theorem Dd {w w3 w4:World} {p g14 g15 k:Nat} {s:List UInt8} {st:Option (List UInt8)} {lv lv' wv:Value} {l:List CellB} {v:CellB} {words:List (List UInt8)} {o:Obj} (h14:g14 < g15) (hp:p < g14) (hw:w.heap.size≤g14)
  (h:GuessMid w w3 p g14 g15 s st lv wv (l++List.replicate k v) v v words)
  (hl:w4.ownsRow (g14+1) 58 3 lv' ((l++List.replicate k v).length+1) (jG (l++List.replicate k v)++[.bool v.null,.int .i64 v.int,strB v.text]))
  (hg:(w3.alloc o).grownBy w4 lv.ownBlock) (ha:lv'.ownBlock=lv.ownBlock∨lv'.ownBlock=some (w3.heap.size+1)) :
  GuessMid w w4 p g14 g15 s st lv' wv (l++List.replicate (k+1) v) v v words:=by
 have hlt:=h.lt
 have hb:∀ j,lv.ownBlock=some j→g14+1≤j:=fun j hj=>(h.row.lt j hj).1
 have hz:=hg.size
 rw [Kh]
 generalize l++List.replicate k v=l' at *
 refine ⟨?_,?_,?_,?_,?_,?_,?_,?_⟩
 ·rw [Gm,List.length_append];exact hl
 ·exact (h.words.alloc o).kept hg (IU h.words h.row (by decide))
 ·exact JM (zq h.spot (by omega) o) (by simp;omega) hg (fun j hj=>by have:=hb j hj;omega)
 ·exact zo (xS h.grown o) hg (fun j hj=>by have:=hb j hj;omega)
 ·unfold Block3
  rw [hg.block g14 (by simp;omega) (fun e=>by have:=hb g14 e.symm;omega),Below.heap_alloc w3 o g14 (by omega)]
  exact h.last
 ·unfold Block3
  rw [hg.block g15 (by simp;omega) (fun e=>h.apart e.symm),Below.heap_alloc w3 o g15 hlt]
  exact h.new
 ·simp at hz;omega
 ·rcases ha with ha|ha
  ·rw [ha];exact h.apart
  ·rw [ha];simp;omega
theorem Az {w w3:World} {p g14 g15 n times:Nat} {s:List UInt8} {st:Option (List UInt8)} {lv wv:Value} {l:List CellB} {last v:CellB} {words:List (List UInt8)} (hn:n≤60) (hln:l.length≤n) (hlast:last.text.length≤12*l.length) (hok:∀ c ∈ l,okC c)
  (h:GuessMid w w3 p g14 g15 s st lv wv (l++List.replicate times v) v v words) (ht:times≤n - l.length) (h1:1≤times∨v.text.length≤12*l.length) (hv:okC v) (hvl:v.text.length≤last.text.length+12) :
  Guess w w3 p g14 s st lv (l++List.replicate times v) v:=by
 refine ⟨h.row,h.spot,h.grown,h.last,?_,hv,?_⟩
 ·intro c hc
  rcases List.mem_append.1 hc with hc|hc
  ·exact hok c hc
  ·rw [(List.mem_replicate.1 hc).2];exact hv
 ·rw [List.length_append,List.length_replicate]
  rcases h1 with h1|h1<;>omega
theorem AI (kind:Int) (e:Nat) (words:List (List UInt8)) (n len:Nat) (last:CellB) (st:Option (List UInt8)):1≤(qP kind e words n len last st).2.1∨(qP kind e words n len last st).1.text.length=0:=by
 unfold qP
 split
 ·exact .inl (Nat.le_refl 1)
 split
 ·exact .inl (Nat.le_refl 1)
 split
 ·exact .inr rfl
 split
 ·exact .inl (Nat.le_refl 1)
 split
 ·exact .inl (Nat.le_refl 1)
 split
 ·exact .inl (Nat.le_refl 1)
 ·exact .inl (Nat.le_refl 1)
theorem Vl {wr w5:World} {p g15:Nat} {s:List UInt8} {st:Option (List UInt8)} {x y:Int} {t:List UInt8} {b:Bool} (h15:g15=wr.heap.size) (hp:p < g15) (hb:Block3 w5 g15 ⟨b,y,t⟩) (hsp:jS w5 p s st) (hg:wr.grownBy w5 (some p)) :
  Block3 (w5.setCell ⟨g15,1,none⟩ (.int .i64 x)) g15 ⟨b,x,t⟩∧jS (w5.setCell ⟨g15,1,none⟩ (.int .i64 x)) p s st∧wr.grownBy (w5.setCell ⟨g15,1,none⟩ (.int .i64 x)) (some p):=by
 refine ⟨(AZ hb).1,Ui hsp (by show p≠g15;omega) _,RA hg (by show _≤g15;omega) _⟩
theorem Uq {wr w5:World} {p g15:Nat} {s:List UInt8} {st:Option (List UInt8)} {x t:List UInt8} {y:Int} {b:Bool} {v:Value} (hv:v=strB x) (h15:g15=wr.heap.size) (hp:p < g15) (hb:Block3 w5 g15 ⟨b,y,t⟩) (hsp:jS w5 p s st) (hg:wr.grownBy w5 (some p)) :
  Block3 (w5.setCell ⟨g15,2,none⟩ v) g15 ⟨b,y,x⟩∧jS (w5.setCell ⟨g15,2,none⟩ v) p s st∧wr.grownBy (w5.setCell ⟨g15,2,none⟩ v) (some p):=by
 subst hv
 refine ⟨(Xq hb).1,Ui hsp (by show p≠g15;omega) _,RA hg (by show _≤g15;omega) _⟩
theorem Xt {wr w5:World} {p g15:Nat} {s:List UInt8} {st:Option (List UInt8)} {c:CellB} (b:Bool) (hq:JN st=true→b=true) (hp:p < g15) (hb:Block3 w5 g15 c) (hsp:jS w5 p s st) (hg:wr.grownBy w5 (some p)) :
  Block3 (w5.setCell ⟨p,2,none⟩ (.bool b)) g15 c∧jS (w5.setCell ⟨p,2,none⟩ (.bool b)) p s (if b=true then none else st)∧wr.grownBy (w5.setCell ⟨p,2,none⟩ (.bool b)) (some p):=by
 obtain ⟨at_,bad,hrow,hat,hst⟩:=hsp
 obtain ⟨h1,h2⟩:=Xq (v:=.bool b) hrow
 refine ⟨?_,⟨at_,b,h1,hat,?_⟩,ja hg h2⟩
 ·unfold Block3
  rw [h2.block g15 (Er hb) (by simp;omega)]
  exact hb
 ·cases b with
  | true=>rfl
  | false =>
   cases bad with
   | true=>subst hst;exact absurd (hq rfl) (by decide)
   | false=>subst hst;rfl
theorem jx {a b:World} {p:Option Nat} (h:(a.drew).grownBy b p):a.grownBy b p:=⟨h.os,h.tape,h.output,h.size,h.block⟩
theorem PG {w:World} {B:Nat} {v:Value} {words:List (List UInt8)} (h:w.ownsRow B 9 1 v words.length (Qf words)) (hn:0 < words.length) :
  ∃ g cap,v=.slice (some ⟨g,0,none⟩) words.length cap∧True:=by
 rcases h.2 with ⟨_,h0⟩|⟨g,cap,cur,rfl,_⟩
 ·omega
 ·exact ⟨g,cap,rfl,trivial⟩
theorem Ax {w:World} {B g cap:Nat} {words:List (List UInt8)} (h:w.ownsRow B 9 1 (.slice (some ⟨g,0,none⟩) words.length cap) words.length (Qf words)) (k:Nat) (hk:k < words.length) :
  w.cell? ⟨g,k,none⟩=some (strB words[k]):=by
 rw [h.cellAt k (by omega)]
 simp [Qf,hk]
theorem RO {w:World} {p:Nat} {s:List UInt8} {st:Option (List UInt8)} (h:jS w p s st):jS w.drew p s st:=h
theorem Tr (t x:List UInt8) (k:Nat):Value.string ((⟨t.toArray⟩:ByteArray).extract 0 k++⟨x.toArray⟩)=strB (t.take k++x):=by
 have h:(⟨t.toArray⟩:ByteArray).extract 0 k=⟨(t.take k).toArray⟩:=by
  apply ByteArray.ext
  apply Array.ext'
  rw [Lib.extract_data,UQ]
  simp
 rw [h]
 exact congrArg Value.string (xg _ _)
end
section
open Go.RowKit
def Xy (b:Bool):CellB:=⟨b,0,[]⟩
structure Runs (w1 wr:World) (p:Nat) (s:List UInt8) (st:Option (List UInt8)) (lv:Value) (fl:List Bool):Prop where
 row:wr.ownsRow w1.heap.size 58 3 lv fl.length (jG (fl.map Xy))
 spot:jS wr p s st
 grown:w1.grownBy wr (some p)
theorem Yj (fl:List Bool):∀ c ∈ fl.map Xy,okC c:=by
 intro c hc
 obtain ⟨b,_,rfl⟩:=List.mem_map.1 hc
 exact ⟨by simp [Xy],by simp [Xy],by simp [Xy]⟩
theorem Md {w1 w3 w4:World} {p k:Nat} {s:List UInt8} {st:Option (List UInt8)} {lv lv':Value} {fl:List Bool} {b:Bool} {o:Obj} (hp:p < w1.heap.size) (h:Runs w1 w3 p s st lv (fl++List.replicate k b))
  (hl:w4.ownsRow w1.heap.size 58 3 lv' ((fl++List.replicate k b).length+1) (jG ((fl++List.replicate k b).map Xy)++[.bool b,.int .i64 0,strB []])) (hg:(w3.alloc o).grownBy w4 lv.ownBlock) :
  Runs w1 w4 p s st lv' (fl++List.replicate (k+1) b):=by
 have hz:=h.grown.size
 have hb:∀ j,lv.ownBlock=some j→w1.heap.size≤j:=fun j hj=>(h.row.lt j hj).1
 rw [Kh]
 generalize fl++List.replicate k b=f' at *
 refine ⟨?_,?_,?_⟩
 ·rw [List.map_append,List.map_singleton,Gm,List.length_append];exact hl
 ·exact JM (zq h.spot (by omega) o) (by simp;omega) hg (fun j hj=>by have:=hb j hj;omega)
 ·exact zo (xS h.grown o) hg hb
theorem AE (n f:Nat) (l:List Bool) (b:Bool) (st:Option (List UInt8)) (h:¬ (l.length < n∧st.isSome=true)):zV n f l b st=(l,st):=by
 cases f with
 | zero=>rfl
 | succ f=>rw [zV,if_neg h]
theorem ZH (fl:List Bool) (k:Nat):jO (fl++List.replicate k false)=jO fl+k∧jO (fl++List.replicate k true)=jO fl:=by
 unfold jO
 rw [List.filter_append,List.filter_append,List.length_append,List.length_append,List.filter_replicate,List.filter_replicate]
 simp
theorem Iw (fl:List Bool):jO fl≤fl.length:=List.length_filter_le _ _
theorem Ei {w w1 w2:World} {p:Nat} (h1:Below w.heap.size w w1) (hg:w1.grownBy w2 (some p)) (hp:w.heap.size≤p):Below w.heap.size w w2 :=
 h1.grown hg h1.size (fun k hk=>by simp at hk;omega)
theorem Vc (a b:List Bool):∀ (v:List CellB),qh (a++b) v=qh a v++qh b (v.drop (jO a)):=by
 induction a with
 | nil=>intro v;simp [qh,jO]
 | cons x a ih =>
  intro v
  cases x with
  | true =>
   have hc:jO (true :: a)=jO a:=by simp [jO]
   simp only [List.cons_append,qh,hc]
   rw [ih]
  | false =>
   have hc:jO (false :: a)=jO a+1:=by simp [jO]
   cases v with
   | nil =>
    simp only [List.cons_append,qh,hc]
    rw [ih]
    simp
   | cons c v =>
    simp only [List.cons_append,qh,hc]
    rw [ih]
    simp
theorem JL (a:List Bool):∀ (v:List CellB),(qh a v).length=a.length:=by
 induction a with
 | nil=>intro v;rfl
 | cons x a ih =>
  intro v
  cases x with
  | true=>simp [qh,ih]
  | false=>cases v<;>simp [qh,ih]
theorem AL (a:List Bool) (h:jO a=0) (v:List CellB):qh a v=a.map Xy:=by
 induction a with
 | nil=>rfl
 | cons x a ih =>
  cases x with
  | true =>
   have hc:jO (true :: a)=jO a:=by simp [jO]
   rw [hc] at h
   simp only [qh,List.map_cons,ih h]
   rfl
  | false =>
   have hc:jO (false :: a)=jO a+1:=by simp [jO]
   omega
theorem Rr (fl:List Bool) (k:Nat) (hk:k < fl.length) (hf:fl[k]=false):jO (fl.take k) < jO fl∧jO (fl.take (k+1))=jO (fl.take k)+1:=by
 have h1:fl.take (k+1)=fl.take k++[fl[k]]:=List.take_succ_eq_append_getElem hk
 have h2:jO (fl.take (k+1))=jO (fl.take k)+1:=by
  rw [h1,hf]
  exact (ZH (fl.take k) 1).1
 have h3:jO (fl.take (k+1))+jO (fl.drop (k+1))=jO fl:=by
  unfold jO
  rw [← List.length_append,← List.filter_append,List.take_append_drop]
 exact ⟨by omega,h2⟩
theorem Gu (fl:List Bool) (k:Nat) (hk:k < fl.length) (hf:fl[k]=true):jO (fl.take (k+1))=jO (fl.take k):=by
 rw [List.take_succ_eq_append_getElem hk,hf]
 exact (ZH (fl.take k) 1).2
def Zh (fl:List Bool) (v:List CellB) (k:Nat):List CellB:=qh (fl.take k) v++(fl.drop k).map Xy
theorem ZD (fl:List Bool) (v:List CellB) (k:Nat):(Zh fl v k).length=fl.length:=by
 unfold Zh
 rw [List.length_append,JL,List.length_map,List.length_take,List.length_drop];omega
theorem PH (fl:List Bool) (v:List CellB):Zh fl v 0=fl.map Xy:=by simp [Zh,qh]
theorem Sl (fl:List Bool) (v:List CellB):Zh fl v fl.length=qh fl v:=by simp [Zh]
theorem Lr (fl:List Bool) (v:List CellB) (k:Nat) (hk:k < fl.length):(Zh fl v k)[k]?=some (Xy fl[k]):=by
 unfold Zh
 rw [List.getElem?_append_right (by rw [JL,List.length_take];omega),JL,List.length_take,Nat.min_eq_left (by omega),Nat.sub_self,List.getElem?_map,List.getElem?_drop]
 simp [hk]
theorem TQ (fl:List Bool) (v:List CellB) (k:Nat) (hk:k < fl.length) (hf:fl[k]=true):Zh fl v (k+1)=Zh fl v k:=by
 unfold Zh
 rw [List.take_succ_eq_append_getElem hk,Vc,List.drop_eq_getElem_cons hk,hf]
 simp [qh,Xy]
theorem Cr (fl:List Bool) (v:List CellB) (k:Nat) (hk:k < fl.length) (hf:fl[k]=false) (hv:jO (fl.take k) < v.length):Zh fl v (k+1)=(Zh fl v k).set k v[jO (fl.take k)]:=by
 unfold Zh
 rw [List.take_succ_eq_append_getElem hk,Vc,List.drop_eq_getElem_cons hk,hf]
 rw [List.set_append_right _ _ (by rw [JL,List.length_take];omega)]
 rw [List.drop_eq_getElem_cons hv]
 simp [qh,JL,Nat.min_eq_left (Nat.le_of_lt hk)]
theorem Dn (l:List CellB):∀ (k:Nat) (c:CellB),k < l.length→(((jG l).set (k*3) (.bool c.null)).set (k*3+1) (.int .i64 c.int)).set (k*3+2) (strB c.text)=jG (l.set k c):=by
 induction l with
 | nil=>intro k c h;simp at h
 | cons x l ih =>
  intro k c h
  have e:∀ y:CellB,∀ m:List CellB,jG (y :: m)=.bool y.null :: .int .i64 y.int :: strB y.text :: jG m:=by intro y m;simp [jG]
  cases k with
  | zero=>simp [e]
  | succ k =>
   rw [e,List.set_cons_succ,e,← ih k c (by simpa using h)]
   rw [show (k+1)*3=k*3+3 by omega]
   simp [List.set_cons_succ]
theorem Sy {w:World} {B g cap:Nat} {l:List CellB} {c:CellB} {k:Nat} (h:w.ownsRow B 58 3 (.slice (some ⟨g,0,none⟩) l.length cap) l.length (jG l)) (hk:k < l.length) :
  (((w.setCell ⟨g,k*3,none⟩ (.bool c.null)).setCell ⟨g,k*3+1,none⟩ (.int .i64 c.int)).setCell ⟨g,k*3+2,none⟩ (strB c.text)).ownsRow B 58 3 (.slice (some ⟨g,0,none⟩) l.length cap) l.length (jG (l.set k c)):=by
 rw [← Dn l k c hk]
 exact (((h.stored _ _).1.stored _ _).1.stored _ _).1
theorem Pq (a:List Bool):∀ (v:List CellB),(∀ c ∈ v,okC c)→∀ c ∈ qh a v,okC c:=by
 induction a with
 | nil=>intro v _ c hc;simp [qh] at hc
 | cons x a ih =>
  intro v hv c hc
  have hz:∀ b:Bool,okC ⟨b,0,[]⟩:=fun b=>⟨by simp,by simp,by simp⟩
  cases x with
  | true =>
   simp only [qh,List.mem_cons] at hc
   rcases hc with rfl|hc
   ·exact hz true
   ·exact ih v hv c hc
  | false =>
   cases v with
   | nil =>
    simp only [qh,List.mem_cons] at hc
    rcases hc with rfl|hc
    ·exact hz _
    ·exact ih _ hv c hc
   | cons y v =>
    simp only [qh,List.mem_cons] at hc
    rcases hc with rfl|hc
    ·exact hv _ (by simp)
    ·exact ih v (fun z hz=>hv z (by simp [hz])) c hc
theorem Tt {w:World} {B g cap n:Nat} {l:List CellB} (h:w.ownsRow B 58 3 (.slice (some ⟨g,0,none⟩) n cap) n (jG l)) (hn:l.length=n) (k:Nat) (hk:k < n) (c:CellB) (hc:l[k]?=some c) :
  w.cell? ⟨g,k*3,none⟩=some (.bool c.null)∧w.cell? ⟨g,k*3+1,none⟩=some (.int .i64 c.int)∧w.cell? ⟨g,k*3+2,none⟩=some (strB c.text)∧w.frozen? ⟨g,k*3,none⟩=false∧w.frozen? ⟨g,k*3+1,none⟩=false∧w.frozen? ⟨g,k*3+2,none⟩=false:=by
 have hk2:k < l.length:=by omega
 obtain ⟨h1,h2,h3⟩:=KH l k hk2
 have hcl:l[k]=c:=by rw [List.getElem?_eq_getElem hk2] at hc;exact Option.some.inj hc
 rw [hcl] at h1 h2 h3
 exact ⟨by rw [h.cellAt (k*3) (by omega)];exact h1,by rw [h.cellAt (k*3+1) (by omega)];exact h2,by rw [h.cellAt (k*3+2) (by omega)];exact h3,h.frozenAt _,h.frozenAt _,h.frozenAt _⟩
theorem UR (w:World) (s:List UInt8):jS (w.alloc (Obj.cells #[strB s,Value.int IntKind.i64 0,Value.bool false] 243)) w.heap.size s (some s):=by
 refine ⟨0,false,?_,Nat.zero_le _,by simp⟩
 rw [World.alloc]
 simp
theorem Rk (w:World) (g i j k:Nat) (a b c:Value):w.grownBy (((w.setCell ⟨g,i,none⟩ a).setCell ⟨g,j,none⟩ b).setCell ⟨g,k,none⟩ c) (some g):=by
 refine ⟨rfl,rfl,rfl,by simp,fun m _ hm=>?_⟩
 have hne:m≠g:=fun e=>hm (by rw [e])
 rw [heap_setCell_other _ ⟨g,k,none⟩ m c hne,heap_setCell_other _ ⟨g,j,none⟩ m b hne,heap_setCell_other _ ⟨g,i,none⟩ m a hne]
end
section
open Go.RowKit
theorem PA (s:List UInt8) (w:World) (hs:s.length≤1000000):Calls Tryz.prog 146 #[strB s] w fun e w'=>e=.returned (strB (xB s))∧Below w.heap.size w w' :=
 DT ⟨s.toArray⟩ w (by rw [jK];exact hs)
theorem VG (pre:List UInt8) (sort:UInt8) (g c p:Nat) (w:World) (hp:pre.length≤20) (hg:g≤65535) (hc:c≤65535) (hpp:p≤65535) :
  Calls Tryz.prog 86 #[strB pre,strB [sort],.int .i64 (g:Int),.int .i64 (c:Int),.int .i64 (p:Int)] w fun e w'=>e=.returned (strB (qu pre sort g c p))∧Below w.heap.size w w':=by
 have HB:Hid (qu pre sort g c p=xB pre++[sort]++qw (g:Int)++qw (c:Int)++qw (p:Int)):=rfl
 have hxl:(xB pre).length≤40:=by have:=jN pre.length (by omega);simp only [xB,List.length_append];omega
 have h2g:(qw (g:Int)).length≤2:=Nat.le_of_eq (jB (g:Int))
 have h2c:(qw (c:Int)).length≤2:=Nat.le_of_eq (jB (c:Int))
 have h2p:(qw (p:Int)).length≤2:=Nat.le_of_eq (jB (p:Int))
 go_enter Tryz.func86,Tryz.ntmps86
 go_wp2_with fail
 refine (PA pre w (by omega)).mono ?_
 rintro e w1 ⟨rfl,hb1⟩
 go_wp2_with fail
 refine (QE (g:Int) _ (by omega) (by omega)).mono ?_
 rintro e w2 ⟨rfl,hb2⟩
 go_wp2_with fail
 refine (QE (c:Int) _ (by omega) (by omega)).mono ?_
 rintro e w3 ⟨rfl,hb3⟩
 go_wp2_with fail
 refine (QE (p:Int) _ (by omega) (by omega)).mono ?_
 rintro e w4 ⟨rfl,hb4⟩
 have hB2:=hb1.trans (hb2.mono hb1.size)
 have hB3:=hB2.trans (hb3.mono hB2.size)
 have HB4:=hid (hB3.trans (hb4.mono hB3.size))
 clear hb1 hb2 hb3 hb4 hB2 hB3
 generalize xB pre=X at *
 generalize qw (g:Int)=TG at *
 generalize qw (c:Int)=TC at *
 generalize qw (p:Int)=TP at *
 go_wp2
 go_ret
 exact ⟨by rw [HB.out];simp [xg],HB4.out⟩
theorem Ph (kind:Int) (l:List CellB) (h:kind≠0∨je l=[]):JR kind l=uB (l.length - (je l).length)++[0]:=by
 unfold JR
 rw [if_neg (by rintro ⟨h1,h2⟩;rcases h with h|h;exact h h1;exact h2 h)]
theorem Am (l:List CellB) (h:je l≠[]):JR 0 l=uB (l.length - (je l).length)++([1]++zB (zu (je l) (qB (je l)))++zB (JO (je l) (qB (je l)))):=by
 unfold JR
 rw [if_pos ⟨rfl,h⟩]
theorem Lz {D:List CellB} (h:0 < D.length):qB D=(D[0]).int:=by
 cases D with
 | nil=>simp at h
 | cons c D=>rfl
theorem IK (D:List CellB) (k:Nat) (h:k < D.length) (x:Int):zu (D.take (k+1)) x=if (D[k]).int < zu (D.take k) x then (D[k]).int else zu (D.take k) x:=by
 unfold zu
 rw [List.take_succ_eq_append_getElem h,List.foldl_append]
 rfl
theorem Ay (D:List CellB) (k:Nat) (h:k < D.length) (x:Int):JO (D.take (k+1)) x=if JO (D.take k) x < (D[k]).int then (D[k]).int else JO (D.take k) x:=by
 unfold JO
 rw [List.take_succ_eq_append_getElem h,List.foldl_append]
 rfl
theorem EY (kind:Int) (a:Option Addr) (cap:Nat) (l:List CellB) (w:World) (hn:l.length≤60) (hs:∀ c ∈ l,qz c) (hl:Lies w a l) :
  Calls Tryz.prog 145 #[.int .i64 kind,.slice a l.length cap] w fun e w'=>e=.returned (strB (JR kind l))∧Below w.heap.size w w':=by
 have Hl:=hid hl
 have Hs:=hid hs
 have hvl:(je l).length≤l.length:=List.length_filter_le _ _
 have HSm:Hid (∀ c ∈ je l,qz c):=fun c hc=>hs c (List.mem_filter.1 hc).1
 clear hl hs
 go_enter Tryz.func145,Tryz.ntmps145
 go_wp2_with fail
 refine (NA a cap l w (by omega) Hl.out).mono ?_
 rintro e w1 ⟨v,rfl,hown,hb1⟩
 obtain ⟨va,vc,rfl,_,hvlie⟩:=Jz hown (fun c hc=>Hl.out.ok c (List.mem_filter.1 hc).1)
 have Hv:=hid hvlie
 have HB1:=hid hb1
 clear hown hvlie hb1
 have hsub:IntKind.i64.wrap ((l.length:Int) - ((je l).length:Int))=((l.length - (je l).length:Nat):Int):=by rw [IntKind.wrap_i64];omega
 have hu64:IntKind.u64.wrap ((l.length - (je l).length:Nat):Int)=((l.length - (je l).length:Nat):Int):=zZ (by omega) (by omega)
 have hul:=jN (l.length - (je l).length) (by omega)
 go_wp2_with fail
 refine (DC (l.length - (je l).length) _ (by omega)).mono ?_
 rintro e w2 ⟨rfl,hb2⟩
 have HB2:=hid (HB1.out.trans (hb2.mono HB1.out.size))
 have Hv2:=hid (Hv.out.later hb2)
 clear hb2 hsub hu64
 by_cases hk:kind=0∧je l≠[]
 ·obtain ⟨rfl,hv0⟩:=hk
  have HM:=hid (Am l hv0)
  have hvp:=List.length_pos_iff.2 hv0
  have hvi:(((je l).length:Int) == 0)=false:=by simp;omega
  have h0i:(0:Int) < ((je l).length:Int):=by omega
  obtain ⟨b,off,rfl,hbw,hcell⟩:=Hv2.out.at_ hv0
  have f1:=(hcell 0 hvp).2.1
  simp only [Nat.zero_mul,Nat.add_zero] at f1
  have HFI:=hid (Lz hvp)
  rw [← HFI.out] at f1
  have hfr:=Qv _ HSm.out
  have HLR:=hid (fun k=>Kl ((je l).take k) (fun c hc=>HSm.out c (List.mem_of_mem_take hc)) _ hfr)
  have HMR:=hid (fun k=>Ue ((je l).take k) (fun c hc=>HSm.out c (List.mem_of_mem_take hc)) _ hfr)
  have Hcell:=hid hcell
  have HTL:=hid (IK (je l))
  have HTM:=hid (Ay (je l))
  clear hcell hfr hv0 Hv Hv2 HFI
  generalize hD:je l=D at *
  generalize hF0:qB D=F0 at *
  have HHD:=hid hD
  clear hD hF0
  go_wp2_with fail
  go_loopw [7,8,9] (fun lo hi2 i wr=>∃ k:Nat,k≤D.length∧i=.int .i64 (k:Int)∧lo=.int .i64 (zu (D.take k) F0)∧hi2=.int .i64 (JO (D.take k) F0)∧wr=w2) (fun _ _ i _=>D.length - (intOf i).toNat)
  case atStart=>exact ⟨0,Nat.zero_le _,rfl,rfl,rfl,rfl⟩
  case round =>
   obtain ⟨k,hkl,rfl,rfl,rfl,rfl⟩:=hrel
   by_cases hlt:k < D.length
   ·have hki:(k:Int) < (D.length:Int):=by omega
    have g2:=(Hcell.out k hlt).2.1
    have T1:=hid (HTL.out k hlt F0)
    have T2:=hid (HTM.out k hlt F0)
    obtain ⟨r1,r2⟩:=HLR.out k
    obtain ⟨r3,r4⟩:=HMR.out k
    generalize zu (D.take k) F0=M1 at *
    generalize JO (D.take k) F0=M2 at *
    generalize (D[k]).int=x at *
    clear f1
    by_cases h1:x < M1
    ·by_cases h2:M2 < x
     ·go_wp2
      go_roundw
      case rel=>exact ⟨k+1,by omega,by go_num,by rw [T1.out,if_pos h1],by rw [T2.out,if_pos h2],by simp⟩
      case measure=>simp [intOf];omega
     ·have h2':¬ M2 < x:=h2
      go_wp2
      go_roundw
      case rel=>exact ⟨k+1,by omega,by go_num,by rw [T1.out,if_pos h1],by rw [T2.out,if_neg h2],by simp⟩
      case measure=>simp [intOf];omega
    ·have h1':¬ x < M1:=h1
     by_cases h2:M2 < x
     ·go_wp2
      go_roundw
      case rel=>exact ⟨k+1,by omega,by go_num,by rw [T1.out,if_neg h1],by rw [T2.out,if_pos h2],by simp⟩
      case measure=>simp [intOf];omega
     ·have h2':¬ M2 < x:=h2
      go_wp2
      go_roundw
      case rel=>exact ⟨k+1,by omega,by go_num,by rw [T1.out,if_neg h1],by rw [T2.out,if_neg h2],by simp⟩
      case measure=>simp [intOf];omega
   ·have hke:k=D.length:=by omega
    subst hke
    obtain ⟨r1,r2⟩:=HLR.out D.length
    obtain ⟨r3,r4⟩:=HMR.out D.length
    rw [List.take_length] at *
    have z1:=Kx _ r1 r2
    have z2:=Kx _ r3 r4
    generalize zu D F0=M1 at *
    generalize JO D F0=M2 at *
    clear f1
    go_wp2_with fail
    refine (DW M1 _ r1 r2).mono ?_
    rintro e w3 ⟨rfl,hb3⟩
    go_wp2_with fail
    refine (DW M2 _ r3 r4).mono ?_
    rintro e w4 ⟨rfl,hb4⟩
    have hB3:=HB2.out.trans (hb3.mono HB2.out.size)
    have HB4:=hid (hB3.trans (hb4.mono hB3.size))
    clear hb3 hb4 hB3
    generalize uB (l.length - D.length)=U at *
    generalize zB M1=Z1 at *
    generalize zB M2=Z2 at *
    go_wp2
    go_ret
    exact ⟨by rw [HM.out];simp [xg],HB4.out⟩
 ·have HM:=hid (Ph kind l (by by_cases h0:kind=0;exact .inr (by simpa [h0] using hk);exact .inl h0))
  by_cases h0:kind=0
  ·have hv0:je l=[]:=by simpa [h0] using hk
   subst h0
   have hv1:(je l).length=0:=by rw [hv0];rfl
   have hvi:(((je l).length:Int) == 0)=true:=by rw [hv1];rfl
   clear hk Hv Hv2 HSm hv0 hv1
   generalize uB (l.length - (je l).length)=U at *
   go_wp2
   go_ret
   exact ⟨by rw [HM.out];simp [xg],HB2.out⟩
  ·have h0':(kind != 0)=true:=by simpa using h0
   clear hk h0 Hv Hv2
   generalize uB (l.length - (je l).length)=U at *
   go_wp2
   go_ret
   exact ⟨by rw [HM.out];simp [xg],HB2.out⟩
end
section
open Go.RowKit
theorem NJ (a:Option Addr) (cap:Nat) (r:List KeyB) (n:Int) (w:World) (hm:r.length≤maxLen) (hl:LiesK w a r) :
  Calls Tryz.prog 162 #[.slice a r.length cap,.int .i64 n] w fun e w'=>e=.returned (.tuple #[strB (jm r n),.bool (jA r n)])∧Below w.heap.size w w':=by
 have Hl:=hid hl
 clear hl
 unfold maxLen at hm
 go_enter Tryz.func162,Tryz.ntmps162
 go_wp2
 go_loopw [10] (fun i wr=>∃ k:Nat,k≤r.length∧i=.int .i64 k∧jA (r.take k) n=false∧Below w.heap.size w wr) (fun i _=>r.length - (intOf i).toNat)
 case atStart=>exact ⟨0,Nat.zero_le _,rfl,rfl,Below.refl _ _⟩
 case round =>
  obtain ⟨k,hkl,rfl,hno,hB⟩:=hrel
  have Hno:=hid hno
  clear hno
  by_cases hlt:k < r.length
  ·obtain ⟨b,off,rfl,hbw,hcell⟩:=(Hl.out.later hB).at_ (List.ne_nil_of_length_pos (by omega))
   obtain ⟨g1,g2⟩:=hcell k hlt
   clear hcell
   have hki:(k:Int) < (r.length:Int):=by omega
   have HB1:=hid (hB.alloc hB.size (Obj.cells #[.int .i64 (r[k]).number,strB (r[k]).secret] 63))
   by_cases he:(r[k]).number=n
   ·have HF:=hid (DE hlt Hno.out he)
    have HH:Hid (jA r n=true):=by
     simp only [Hid,jA,List.any_eq_true]
     exact ⟨r[k],List.getElem_mem hlt,by simp [he]⟩
    rw [he] at g1 HB1
    clear he
    go_wp2
    go_ret2
    exact ⟨by rw [jm,HF.out,HH.out];rfl,HB1.out⟩
   ·have hne:((r[k]).number == n)=false:=by simpa using he
    have He:=hid he
    have HS:=hid (XO (r:=r) (k:=r.length) (m:=k) hlt hlt n)
    rw [List.take_length] at HS
    clear he
    go_wp2
    go_roundw
    case rel=>exact ⟨k+1,by omega,by go_num,by rw [HS.out,Hno.out];simp [He.out],HB1.out⟩
    case measure=>simp [intOf];omega
  ·have HN:Hid (jA r n=false):=by have:=Hno.out;rw [List.take_of_length_le (by omega)] at this;exact this
   go_wp2
   go_ret2
   exact ⟨by rw [jm,Vg HN.out,HN.out];rfl,hB⟩
def UL (r:List KeyB):List Value:=(List.range 10).map fun (n:Nat)=>Value.bool (jA r (n:Int))
theorem Vm (r:List KeyB):(UL r).length=10:=by simp [UL]
theorem GS (r:List KeyB) (m:Nat) (hm:m < 10):(UL r)[m]?=some (.bool (jA r (m:Int))):=by simp [UL,hm]
theorem Cz {r:List KeyB} {k m:Nat} (hk:k < r.length) (hm:(r[k]).number=(m:Int)) (h10:m < 10):(UL (r.take k)).set m (.bool true)=UL (r.take (k+1)):=by
 apply List.ext_getElem?
 intro i
 have e:∀ n:Int,jA (r.take (k+1)) n=(jA (r.take k) n || decide ((r[k]).number=n)):=by
  intro n
  have:=XO (r:=r) (k:=r.length) (m:=k) hk hk n
  rw [List.take_length] at this
  exact this
 rw [List.getElem?_set]
 by_cases hi:i < 10
 ·rw [GS _ i hi,GS _ i hi,Vm,e,hm]
  by_cases hmi:m=i
  ·subst hmi;simp [h10]
  ·have:¬ ((m:Int)=(i:Int)):=by omega
   simp [hmi,this]
 ·have h1:(UL (r.take k))[i]?=none:=List.getElem?_eq_none (by rw [Vm];omega)
  have h2:(UL (r.take (k+1)))[i]?=none:=List.getElem?_eq_none (by rw [Vm];omega)
  rw [h1,h2,if_neg (by omega)]
theorem Dk (a:Option Addr) (cap:Nat) (r:List KeyB) (w:World) (hm:r.length≤maxLen) (hl:LiesK w a r) :
  Calls Tryz.prog 95 #[.slice a r.length cap] w fun e w'=>e=.returned (.bool (xX r))∧Below w.heap.size w w':=by
 have Hl:=hid hl
 clear hl
 unfold maxLen at hm
 go_enter Tryz.func95,Tryz.ntmps95
 go_wp2
 generalize hg:w.heap.size=g at *
 go_loopw [8] (fun i wr=>∃ k:Nat,k≤r.length∧i=.int .i64 k∧Xd r k=true∧wr.ownsRow g 247 1 (.slice (some ⟨g,0,none⟩) 10 10) 10 (UL (r.take k))∧Below g w wr∧g < wr.heap.size) (fun i _=>r.length - (intOf i).toNat)
 case atStart =>
  refine ⟨0,Nat.zero_le _,rfl,rfl,?_,?_,?_⟩
  ·have:=World.ownsRow_lit (base:=w.heap.size) (e:=247) (size:=1) w #[.bool false,.bool false,.bool false,.bool false,.bool false,.bool false,.bool false,.bool false,.bool false,.bool false] 10 (Nat.le_refl _) (by decide) rfl
   rw [hg] at this
   exact this
  ·rw [← hg];exact (Below.refl _ _).alloc (Nat.le_refl _) _
  ·rw [← hg];simp
 case round =>
  obtain ⟨k,hkl,rfl,hall,hown,hB,hG⟩:=hrel
  have Hall:=hid hall
  clear hall
  by_cases hlt:k < r.length
  ·obtain ⟨b,off,rfl,hbw,hcell⟩:=(Hl.out.later (by rw [hg];exact hB)).at_ (List.ne_nil_of_length_pos (by omega))
   obtain ⟨g1,g2⟩:=hcell k hlt
   clear hcell
   obtain ⟨ok1,ok2⟩:=Hl.out.ok r[k] (List.getElem_mem hlt)
   unfold maxLen at ok1
   have HT:=hid (VX hlt Hall.out)
   have HN:=hid (Rx (r:=r) hlt)
   have HF:=hid (CZ (c:=r[k]))
   have hki:(k:Int) < (r.length:Int):=by omega
   have HSS:=hid (fun (m:Nat)=>Cz (r:=r) (k:=k) (m:=m) hlt)
   have HKE:Hid (Xg r[k]=((decide (1≤(r[k]).number) && decide ((r[k]).number≤9)) && decide ((r[k]).secret.length=8))):=rfl
   have hob:=hown.alloc (.cells #[.int .i64 (r[k]).number,strB (r[k]).secret] 63)
   have HBb:=hid (hB.alloc (Nat.le_of_lt hG) (.cells #[.int .i64 (r[k]).number,strB (r[k]).secret] 63))
   have Hown0:=hid hown
   have HB0:=hid hB
   clear hown hB
   by_cases hr1:1≤(r[k]).number∧(r[k]).number≤9
   ·obtain ⟨m,hm1⟩:∃ m:Nat,(r[k]).number=(m:Int):=⟨(r[k]).number.toNat,by omega⟩
    have hm10:m < 10:=by omega
    have hmi:(m:Int) < 10:=by omega
    have hcm:=hob.cellAt m (by omega)
    rw [GS _ m hm10] at hcm
    have hfm:=hob.frozenAt m
    have HSt:=hid ((Hown0.out.stored m (.bool true)).1.alloc (.cells #[.int .i64 (r[k]).number,strB (r[k]).secret] 63))
    have HB2:=hid ((HB0.out.setCell (p:=⟨g,m,none⟩) (Nat.le_refl _) (.bool true)).alloc (by simp;omega) (.cells #[.int .i64 (r[k]).number,strB (r[k]).secret] 63))
    rw [hm1] at g1 HBb HSt hcm hfm HKE HB2
    have HSS2:=hid (HSS.out m hm1 hm10)
    have HNm:Hid (jA (r.take k) (r[k]).number=jA (r.take k) (m:Int)):=by rw [hm1];rfl
    rw [HNm.out] at HT HN
    have hkt:(decide ((1:Int)≤(m:Int)) && decide ((m:Int)≤9))=true:=by simp;omega
    clear hr1 HF HSS hm1 hob HNm ok2
    go_wp2_with fail
    refine (Zo (m:Int) _).mono ?_
    rintro e w5 ⟨rfl,rfl⟩
    rw [hkt]
    cases hx:jA (r.take k) (m:Int) with
    | true =>
     rw [hx] at HN hcm
     clear hx
     go_wp2
     go_ret
     exact ⟨jI (HN.out (by simp)).symm,by rw [hg];exact HBb.out⟩
    | false =>
     rw [hx] at HN hcm HT
     clear hx
     by_cases h8:(r[k]).secret.length=8
     ·have q3:(((r[k]).secret.length:Int) != 8)=false:=by simp;omega
      have HT2:Hid (Xd r (k+1)=true):=by
       show _=_
       rw [HT.out,HKE.out,hkt,decide_eq_true h8];rfl
      clear h8 HT HKE HN
      go_wp2
      go_roundw
      case rel=>exact ⟨k+1,by omega,by go_num,HT2.out,by rw [← HSS2.out];exact HSt.out,HB2.out,by simp;omega⟩
      case measure=>simp [intOf];omega
     ·have q3:(((r[k]).secret.length:Int) != 8)=true:=by simp;omega
      have HF2:Hid (Xg r[k]=false):=by show _=_;rw [HKE.out,decide_eq_false h8,Bool.and_false]
      clear h8 HT HKE
      go_wp2
      go_ret
      exact ⟨jI (HN.out (by rw [HF2.out];rfl)).symm,by rw [hg];exact HBb.out⟩
   ·have hkt:(decide (1≤(r[k]).number) && decide ((r[k]).number≤9))=false:=by
     simp only [Bool.and_eq_false_iff,decide_eq_false_iff_not];omega
    have HF2:Hid (Xg r[k]=false):=by show _=_;rw [HKE.out,hkt];rfl
    clear hr1 HKE HT HF hob
    generalize hnn:(r[k]).number=nn at *
    have Hnn:=hid hnn
    clear hnn
    go_wp2_with fail
    refine (Zo nn _).mono ?_
    rintro e w5 ⟨rfl,rfl⟩
    rw [hkt]
    clear hkt
    go_wp2
    go_ret
    exact ⟨jI (HN.out (by rw [HF2.out];rfl)).symm,by rw [hg];exact HBb.out⟩
  ·have hke:k=r.length:=by omega
   subst hke
   go_wp2
   go_ret
   exact ⟨jI Hall.out.symm,by rw [hg];exact hB⟩
end
section
open Go.RowKit
def Nt (n size i:Nat):List Value:=[.int .i64 ((i*size:Nat):Int),.int .i64 ((min (i*size+size) n:Nat):Int)]
def QL (n size k:Nat):List Value:=(List.range k).flatMap (Nt n size)
theorem Rv (n size k:Nat):QL n size (k+1)=QL n size k++Nt n size k:=by
 unfold QL
 rw [List.range_succ,List.flatMap_append]
 simp
theorem Tryz.infoSpan:(Tryz.prog.info? 290).map (fun i=>(i.zero,i.size,i.bytes))=some (some (.agg #[.int .i64 0,.int .i64 0]),2,16):=by kernel_rfl
theorem GK (n size:Nat) (w:World) (hn:n≤1000) (h1:1≤size) (hs:size≤1000) :
  Calls Tryz.prog 215 #[.int .i64 (n:Int),.int .i64 (size:Int)] w fun e w'=>∃ v,e=.returned v∧w'.ownsRow w.heap.size 290 2 v (jW n size) (QL n size (jW n size))∧Below w.heap.size w w':=by
 obtain ⟨i0,hi,hz0,hz1,hz2⟩:=info_parts Tryz.infoSpan
 go_enter Tryz.func215,Tryz.ntmps215
 go_wp2
 go_loopw [5,6] (fun v i wr=>∃ k:Nat,k≤jW n size∧i=.int .i64 ((k*size:Nat):Int)∧wr.ownsRow w.heap.size 290 2 v k (QL n size k)∧Below w.heap.size w wr) (fun _ i _=>n+size - (intOf i).toNat)
 case atStart=>exact ⟨0,Nat.zero_le _,by simp,World.ownsRow_nil _ _ _ _,Below.refl _ _⟩
 case round =>
  obtain ⟨k,hkl,rfl,hown,hB⟩:=hrel
  have hcl:=Xe (n:=n) h1
  have hlt2:=Qr (n:=n) (i:=k) h1
  have hlt3:=Nat.mul_le_mul_right size hkl
  have HKS:Hid ((k+1)*size=k*size+size):=Nat.succ_mul _ _
  have HL:=hid hlt2
  have HSA:Hid (Nt n size k=[.int .i64 ((k*size:Nat):Int),.int .i64 ((min (k*size+size) n:Nat):Int)]):=rfl
  clear hlt2
  generalize k*size=m at *
  by_cases hlt:m < n
  ·have hmi:(m:Int) < (n:Int):=by omega
   have hkc:=HL.out.2 hlt
   by_cases hmn:m+size≤n
   ·have hq:¬ (n:Int) < (m:Int)+(size:Int):=by omega
    have hE:min (m+size) n=m+size:=by omega
    rw [hE] at HSA
    simp only [Int.natCast_add] at HSA
    clear hE
    have hown1:=hown.alloc (Obj.cells #[.int .i64 ((m:Nat):Int),.int .i64 ((m:Int)+(size:Int))] 290)
    go_wp2_with (at_builtin;refine wpList_append_own _ rfl (.tmp 13) (.tmp 21) 287 rfl w.heap.size 290 i0 (.agg #[.int .i64 0,.int .i64 0]) 2 16 Tryz.underlying287 hi hz0 hz1 hz2 rfl (by decide) _ _ _ rfl hown1 ⟨_,0,none⟩ 1 1 [.int .i64 ((m:Nat):Int),.int .i64 ((m:Int)+(size:Int))] rfl rfl (qj wr #[.int .i64 ((m:Nat):Int),.int .i64 ((m:Int)+(size:Int))] 290) (by intro u hu;simp at hu;rcases hu with rfl|rfl<;>rfl) (by unfold maxLen;omega) (by omega) (by have:=hB.size;simp;omega) ?_)
    intro v3 w3 hown3 hgr3 _
    have HO3:Hid (w3.ownsRow w.heap.size 290 2 v3 (k+1) (QL n size (k+1))):=by
     rw [Rv,HSA.out]
     exact hown3
    have HB3:=hid ((hB.alloc hB.size _).grown hgr3 (by have:=hB.size;simp;omega) (fun k hk=>(hown.lt k hk).1))
    clear hown hown1 hown3 hgr3 hB
    go_wp2
    go_roundw
    case rel=>exact ⟨k+1,by omega,by rw [HKS.out];go_num,HO3.out,HB3.out⟩
    case measure=>simp [intOf];omega
   ·have hq:(n:Int) < (m:Int)+(size:Int):=by omega
    have hE:min (m+size) n=n:=by omega
    rw [hE] at HSA
    clear hE
    have hown1:=hown.alloc (Obj.cells #[.int .i64 ((m:Nat):Int),.int .i64 ((n:Nat):Int)] 290)
    go_wp2_with (at_builtin;refine wpList_append_own _ rfl (.tmp 13) (.tmp 21) 287 rfl w.heap.size 290 i0 (.agg #[.int .i64 0,.int .i64 0]) 2 16 Tryz.underlying287 hi hz0 hz1 hz2 rfl (by decide) _ _ _ rfl hown1 ⟨_,0,none⟩ 1 1 [.int .i64 ((m:Nat):Int),.int .i64 ((n:Nat):Int)] rfl rfl (qj wr #[.int .i64 ((m:Nat):Int),.int .i64 ((n:Nat):Int)] 290) (by intro u hu;simp at hu;rcases hu with rfl|rfl<;>rfl) (by unfold maxLen;omega) (by omega) (by have:=hB.size;simp;omega) ?_)
    intro v3 w3 hown3 hgr3 _
    have HO3:Hid (w3.ownsRow w.heap.size 290 2 v3 (k+1) (QL n size (k+1))):=by
     rw [Rv,HSA.out]
     exact hown3
    have HB3:=hid ((hB.alloc hB.size _).grown hgr3 (by have:=hB.size;simp;omega) (fun k hk=>(hown.lt k hk).1))
    clear hown hown1 hown3 hgr3 hB
    go_wp2
    go_roundw
    case rel=>exact ⟨k+1,by omega,by rw [HKS.out];go_num,HO3.out,HB3.out⟩
    case measure=>simp [intOf];omega
  ·have hke:k=jW n size:=by
    have:=HL.out
    omega
   subst hke
   go_wp2
   go_ret
   exact ⟨_,rfl,hown,hB⟩
end
section
noncomputable def zh (file:List UInt8):Option FormF:=by
 classical exact if h:∃ f,FormOk f∧xj f=file then some (Classical.choose h) else none
theorem Kg {f:FormF} (h:FormOk f):zh (xj f)=some f:=by
 have hex:∃ g,FormOk g∧xj g=xj f:=⟨f,h,rfl⟩
 unfold zh
 rw [dif_pos hex]
 have hc:=Classical.choose_spec hex
 exact congrArg some (EC hc.1 h hc.2)
theorem Jw {file:List UInt8} (h:∀ f,FormOk f→xj f≠file):zh file=none:=by
 unfold zh
 rw [dif_neg]
 rintro ⟨f,h1,h2⟩
 exact h f h1 h2
noncomputable def xo (foot:Nat) (parts footer:List UInt8):Option SheetF:=by
 classical exact if h:∃ S,SheetOk foot parts footer S then some (Classical.choose h) else none
theorem UI {foot:Nat} {parts footer:List UInt8} {S:SheetF} (h:SheetOk foot parts footer S):xo foot parts footer=some S:=by
 have hex:∃ S,SheetOk foot parts footer S:=⟨S,h⟩
 unfold xo
 rw [dif_pos hex]
 exact congrArg some (Ys (Classical.choose_spec hex) h)
theorem Xp {foot:Nat} {parts footer:List UInt8} (h:∀ S,¬ SheetOk foot parts footer S):xo foot parts footer=none:=by
 unfold xo
 rw [dif_neg]
 rintro ⟨S,h1⟩
 exact h S h1
def qo (sec non ext body:List UInt8):Option (List UInt8) :=
 if body.length≤5002∧2≤body.length∧Xh sec non ext (zl sec non (body.take (body.length - 2)))=body then some (zl sec non (body.take (body.length - 2))) else none
structure FoundB where
 name:List UInt8
 kind:Int
 key:Int
 state:Int
 cells:List CellB
def Jc (pre:List UInt8) (r:List KeyB) (key:Int) (s:SpotB) (m:ModF):Option (List UInt8) :=
 if key=0 then some m.plain else qo (jm r key) m.nonce (qu pre s.sort s.g s.c s.p) m.body
def Qi (pre:List UInt8) (r:List KeyB) (kind key:Int) (cells:List CellB) (s:SpotB) (m:ModF):Option (List CellB) :=
 match Jc pre r key s m with
 | none=>none
 | some plain =>
  if s.sort=77 then (if plain=JR kind (cells.drop s.start) then some cells else none)
  else match qV kind plain with
   | none=>none
   | some l=>if l.length=s.many then some (cells++l) else none
def jD (pre:List UInt8) (r:List KeyB) (kind key:Int) (c:Nat):Option (List CellB)→List SpotB→List ModF→Option (List CellB)
 | none,_,_=>none
 | some cells,s :: L,m :: M=>jD pre r kind key c (if s.c=c then Qi pre r kind key cells s m else some cells) L M
 | some cells,_,_=>some cells
def xt (pre:List UInt8) (r:List KeyB) (S:SheetF) (c:Nat):FoundB :=
 if 0 < (jk S.cols c).key∧jA r (jk S.cols c).key=false then ⟨(jk S.cols c).name,(jk S.cols c).kind,(jk S.cols c).key,1,[]⟩
 else match jD pre r (jk S.cols c).kind (jk S.cols c).key c (some []) (qx S) S.mods with
  | none=>⟨(jk S.cols c).name,(jk S.cols c).kind,(jk S.cols c).key,2,[]⟩
  | some cells=>⟨(jk S.cols c).name,(jk S.cols c).kind,(jk S.cols c).key,0,cells⟩
noncomputable def qL (file pre:List UInt8) (r:List KeyB) (trust:Bool):Int × Option SheetF :=
 if 20 < pre.length then (7,none)
 else if xX r=false then (1,none)
 else match zh file with
  | none=>(9,none)
  | some f =>
   if f.told=true then
    match xo f.foot f.parts f.footer with
    | none=>(9,none)
    | some S =>
     if trust=true then (0,some S)
     else if jA r (f.foot:Int)=false then (8,none)
     else if qo (jm r (f.foot:Int)) f.nonce (qu pre 83 0 0 0++f.footer) f.body=some [] then (0,some S) else (4,none)
   else if jA r (f.foot:Int)=false then (8,none)
   else match qo (jm r (f.foot:Int)) f.nonce (qu pre 70 0 0 0) f.body with
    | none=>(4,none)
    | some footer =>
     match xo f.foot f.parts footer with
     | none=>(9,none)
     | some S=>(0,some S)
end
section
theorem zL {t:List ColB}:∀ (L:List SpotB) (M:List ModF) (L2:List SpotB) (M2:List ModF),M.length=L.length→jl t (L++L2) (M++M2)=jl t L M++jl t L2 M2:=by
 intro L
 induction L with
 | nil=>intro M L2 M2 h;rw [List.eq_nil_of_length_eq_zero h];simp [jl]
 | cons s L ih =>
  intro M L2 M2 h
  cases M with
  | nil=>simp at h
  | cons m M =>
   simp only [List.cons_append,jl,List.append_assoc]
   rw [ih M L2 M2 (by simpa using h)]
theorem ModsOk.append {t:List ColB} {L:List SpotB} {M:List ModF} {L2:List SpotB} {M2:List ModF} (h:ModsOk t L M) (h2:ModsOk t L2 M2):ModsOk t (L++L2) (M++M2):=by
 induction h with
 | nil=>exact h2
 | cons hm _ ih=>exact .cons hm ih
theorem NX {t:List ColB} {L:List SpotB}:∀ {L2:List SpotB} {M:List ModF},ModsOk t (L++L2) M→∃ M1 M2,M=M1++M2∧ModsOk t L M1∧ModsOk t L2 M2:=by
 induction L with
 | nil=>intro L2 M h;exact ⟨[],M,rfl,.nil,h⟩
 | cons s L ih =>
  intro L2 M h
  cases h with
  | cons hm h2 =>
   obtain ⟨M1,M2,h3,h4,h5⟩:=ih h2
   exact ⟨_ :: M1,M2,by rw [h3];rfl,.cons hm h4,h5⟩
theorem Jr {t:List ColB}:∀ (L:List SpotB) (M:List ModF) (L2:List SpotB) (M2:List ModF) (n:Nat) (b:Bool),M.length=L.length→jp t n b (L++L2) (M++M2)=jp t n b L M++jp t (n+(jl t L M).length) (qF b L) L2 M2:=by
 intro L
 induction L with
 | nil=>intro M L2 M2 n b h;rw [List.eq_nil_of_length_eq_zero h];simp [jp,jl,qF]
 | cons s L ih =>
  intro M L2 M2 n b h
  cases M with
  | nil=>simp at h
  | cons m M =>
   simp only [List.cons_append,jl,jp,List.append_assoc,qF,List.length_append]
   rw [ih M L2 M2 _ _ (by simpa using h),Nat.add_assoc]
def xD (Q:Nat→Nat→List ModF) (g C:Nat):List ModF:=(List.range C).flatMap fun c=>Q g c
def qX (Q:Nat→Nat→List ModF) (C n:Nat):List ModF:=(List.range n).flatMap fun g=>xD Q g C
theorem Jx (Q:Nat→Nat→List ModF) (g C:Nat):xD Q g (C+1)=xD Q g C++Q g C:=by simp [xD,List.range_succ]
theorem Xb (Q:Nat→Nat→List ModF) (C n:Nat):qX Q C (n+1)=qX Q C n++xD Q n C:=by simp [qX,List.range_succ]
theorem ZM {t:List ColB} {Q:Nat→Nat→List ModF} {R G P g:Nat}:∀ {C:Nat},(∀ c,c < C→ModsOk t (jh R G P g c) (Q g c))→ModsOk t (ju R G P g C) (xD Q g C):=by
 intro C
 induction C with
 | zero=>intro _;exact .nil
 | succ C ih=>intro h;rw [Jx,JX];exact (ih (fun c hc=>h c (by omega))).append (h C (by omega))
theorem Yd {t:List ColB} {Q:Nat→Nat→List ModF} {R C G P:Nat}:∀ {n:Nat},(∀ g,g < n→∀ c,c < C→ModsOk t (jh R G P g c) (Q g c))→ModsOk t (jQ R C G P n) (qX Q C n):=by
 intro n
 induction n with
 | zero=>intro _;exact .nil
 | succ n ih=>intro h;rw [Xb,JY];exact (ih (fun g hg=>h g (by omega))).append (ZM (h n (by omega)))
theorem VB {t:List ColB}:∀ (L:List SpotB) (M:List ModF) (n:Nat),(∀ s ∈ L,s.sort=80)→jp t n false L M=[]:=by
 intro L
 induction L with
 | nil=>intro M n _;cases M<;>rfl
 | cons s L ih =>
  intro M n h
  cases M with
  | nil=>rfl
  | cons m M =>
   have hs:=h s (by simp)
   simp only [jp,hs]
   rw [show decide ((80:UInt8)=77)=false from by decide,ih M _ (fun x hx=>h x (List.mem_cons_of_mem _ hx))]
   rfl
theorem Vo {t:List ColB} {R G P g c n:Nat} {M:List ModF} (h:M.length=(jh R G P g c).length):jp t n true (jh R G P g c) M=[n]:=by
 cases hp:jo P g c (g*G) (jv R G g) (jW (jv R G g) P) with
 | nil =>
  unfold jh at h ⊢
  rw [hp] at h ⊢
  obtain ⟨m,rfl⟩:=List.length_eq_one_iff.1 h
  rfl
 | cons s L =>
  have hsort:=XA P g c (g*G) (jv R G g) (jW (jv R G g) P)
  rw [hp] at hsort
  unfold jh at h ⊢
  rw [hp] at h ⊢
  obtain ⟨M0,m,rfl⟩:∃ M0 m,M=M0++[m]:=by
   have hne:M≠[]:=by intro e;rw [e] at h;simp at h
   exact ⟨M.dropLast,M.getLast hne,(List.dropLast_concat_getLast hne).symm⟩
  have hl:M0.length=(s :: L).length:=by simp at h ⊢;omega
  rw [Jr _ _ _ _ _ _ hl]
  cases M0 with
  | nil=>simp at hl
  | cons m0 M0 =>
   have hm:qF true (s :: L)=false:=Kp _ hsort (by simp) true
   simp only [jp]
   rw [hm,show decide (s.sort=77)=false from by rw [hsort s (by simp)];decide,VB L M0 _ (fun x hx=>hsort x (List.mem_cons_of_mem _ hx))]
   rfl
theorem xk (pre:List UInt8) (r:List KeyB) (kind key:Int) (c:Nat) (L:List SpotB) (M:List ModF):jD pre r kind key c none L M=none:=by cases L<;>cases M<;>rfl
theorem zH (pre:List UInt8) (r:List KeyB) (kind key:Int) (c:Nat):∀ (L:List SpotB) (M:List ModF) (L2:List SpotB) (M2:List ModF) (x:Option (List CellB)),M.length=L.length →
  jD pre r kind key c x (L++L2) (M++M2)=jD pre r kind key c (jD pre r kind key c x L M) L2 M2:=by
 intro L
 induction L with
 | nil=>intro M L2 M2 x h;rw [List.eq_nil_of_length_eq_zero h];cases x<;>simp [jD,xk]
 | cons s L ih =>
  intro M L2 M2 x h
  cases M with
  | nil=>simp at h
  | cons m M =>
   cases x with
   | none=>simp [xk]
   | some cells =>
    simp only [List.cons_append,jD]
    exact ih M L2 M2 _ (by simpa using h)
theorem VN (pre:List UInt8) (r:List KeyB) (kind key:Int) (c:Nat):∀ (L:List SpotB) (M:List ModF) (x:Option (List CellB)),(∀ s ∈ L,s.c≠c)→jD pre r kind key c x L M=x:=by
 intro L
 induction L with
 | nil=>intro M x _;cases x<;>cases M<;>rfl
 | cons s L ih =>
  intro M x h
  cases x with
  | none=>exact xk ..
  | some cells =>
   cases M with
   | nil=>rfl
   | cons m M =>
    simp only [jD]
    rw [if_neg (h s (by simp))]
    exact ih M _ (fun y hy=>h y (List.mem_cons_of_mem _ hy))
theorem KG {R G P g c:Nat}:∀ s ∈ jh R G P g c,s.c=c:=by
 intro s hs
 simp only [jh,jo,List.mem_append,List.mem_map,List.mem_range,List.mem_singleton] at hs
 rcases hs with ⟨p,_,rfl⟩|rfl<;>rfl
theorem Ef {t:List ColB} {Q:Nat→Nat→List ModF} {R G P g:Nat} (pre:List UInt8) (r:List KeyB) (kind key:Int) (c:Nat) (x:Option (List CellB)):∀ {C:Nat},(∀ i,i < C→ModsOk t (jh R G P g i) (Q g i)) →
  jD pre r kind key c x (ju R G P g C) (xD Q g C)=if c < C then jD pre r kind key c x (jh R G P g c) (Q g c) else x:=by
 intro C
 induction C with
 | zero=>intro _;simp [ju,xD];cases x<;>rfl
 | succ C ih =>
  intro h
  rw [Jx,JX,zH _ _ _ _ _ _ _ _ _ _ (qQ (ZM (fun i hi=>h i (by omega)))),ih (fun i hi=>h i (by omega))]
  by_cases hc:c < C
  ·rw [if_pos hc,if_pos (by omega),VN]
   intro s hs
   rw [KG s hs];omega
  ·rw [if_neg hc]
   by_cases he:c=C
   ·subst he;rw [if_pos (by omega)]
   ·rw [if_neg (by omega),VN]
    intro s hs
    rw [KG s hs];omega
theorem VF {t:List ColB} {Q:Nat→Nat→List ModF} {R C G P:Nat} (pre:List UInt8) (r:List KeyB) (kind key:Int) {c:Nat} (hc:c < C) (x:Option (List CellB)) {n:Nat} (h:∀ g,g < n+1→∀ i,i < C→ModsOk t (jh R G P g i) (Q g i)) :
  jD pre r kind key c x (jQ R C G P (n+1)) (qX Q C (n+1))=jD pre r kind key c (jD pre r kind key c x (jQ R C G P n) (qX Q C n)) (jh R G P n c) (Q n c):=by
 rw [Xb,JY,zH _ _ _ _ _ _ _ _ _ _ (qQ (Yd (fun g hg=>h g (by omega)))),Ef pre r kind key c _ (h n (by omega)),if_pos hc]
theorem Uh (pre:List UInt8) (r:List KeyB) (kind key:Int) (s:SpotB) (m:ModF) (cells:List CellB):jD pre r kind key s.c (some cells) [s] [m]=Qi pre r kind key cells s m:=by
 simp only [jD,if_true]
 cases Qi pre r kind key cells s m<;>rfl
theorem Ec (pre:List UInt8) (r:List KeyB) (kind key:Int) (c:Nat) (cells:List CellB):∀ (L:List SpotB) (M:List ModF) (x:List CellB),(∀ s ∈ L,s.sort=80)→jD pre r kind key c (some (cells++x)) L M=(jD pre r kind key c (some x) L M).map (cells++·):=by
 intro L
 induction L with
 | nil=>intro M x _;cases M<;>rfl
 | cons s L ih =>
  intro M x h
  cases M with
  | nil=>rfl
  | cons m M =>
   simp only [jD]
   by_cases hc:s.c=c
   ·rw [if_pos hc,if_pos hc]
    have hs:¬ s.sort=77:=by rw [h s (by simp)];decide
    unfold Qi
    simp only [if_neg hs]
    cases Jc pre r key s m with
    | none=>simp [xk]
    | some plain =>
     dsimp only
     cases hu:qV kind plain with
     | none=>simp [xk]
     | some l =>
      dsimp only
      by_cases hm:l.length=s.many
      ·rw [if_pos hm,if_pos hm,List.append_assoc];exact ih M _ (fun y hy=>h y (List.mem_cons_of_mem _ hy))
      ·rw [if_neg hm,if_neg hm];simp [xk]
   ·rw [if_neg hc,if_neg hc]
    exact ih M _ (fun y hy=>h y (List.mem_cons_of_mem _ hy))
def qv (R G P g c:Nat):List SpotB:=jo P g c (g*G) (jv R G g) (jW (jv R G g) P)
def QB (R G g c:Nat):SpotB:=⟨77,g,c,0,g*G,jv R G g⟩
theorem KQ (R G P g c:Nat):jh R G P g c=qv R G P g c++[QB R G g c]:=rfl
theorem UU (pre:List UInt8) (r:List KeyB) (kind key:Int) {R G P g c:Nat} (cells:List CellB) (hl:cells.length=g*G) (mp:List ModF) (mm:ModF) (hm:mp.length=(qv R G P g c).length) :
  jD pre r kind key c (some cells) (jh R G P g c) (mp++[mm])=(jD pre r kind key c (some []) (qv R G P g c) mp).bind fun part=>if Jc pre r key (QB R G g c) mm=some (JR kind part) then some (cells++part) else none:=by
 rw [KQ,zH _ _ _ _ _ _ _ _ _ _ hm]
 have h1:=Ec pre r kind key c cells (qv R G P g c) mp [] (XA _ _ _ _ _ _)
 rw [List.append_nil] at h1
 rw [h1]
 cases jD pre r kind key c (some []) (qv R G P g c) mp with
 | none=>simp [xk]
 | some part =>
  simp only [Option.map_some,Option.bind_some]
  have:=Uh pre r kind key (QB R G g c) mm (cells++part)
  rw [show (QB R G g c).c=c from rfl] at this
  rw [this]
  unfold Qi
  have hd:(cells++part).drop (QB R G g c).start=part:=by
   show (cells++part).drop (g*G)=part
   rw [← hl,List.drop_left]
  rw [hd]
  cases Jc pre r key (QB R G g c) mm with
  | none=>simp
  | some plain=>simp only [Option.some.injEq,if_pos (show (QB R G g c).sort=77 from rfl)]
theorem Vw (pre:List UInt8) (r:List KeyB) (kind key:Int) {P g c start n:Nat}:∀ (k:Nat) (mp:List ModF) (part:List CellB),mp.length=k→k*P≤n+P→jD pre r kind key c (some []) (jo P g c start n k) mp=some part→part.length=min (k*P) n:=by
 intro k
 induction k with
 | zero=>intro mp part hl _ h;rw [List.eq_nil_of_length_eq_zero hl] at h;simp [jo,jD] at h;subst h;simp
 | succ k ih =>
  intro mp part hl hk h
  obtain ⟨M0,m,rfl⟩:∃ M0 m,mp=M0++[m]:=by
   have hne:mp≠[]:=by intro e;rw [e] at hl;simp at hl
   exact ⟨mp.dropLast,mp.getLast hne,(List.dropLast_concat_getLast hne).symm⟩
  have hl0:M0.length=k:=by simp at hl;omega
  rw [QP,zH _ _ _ _ _ _ _ _ _ _ (by rw [hl0];simp [jo])] at h
  rw [Nat.succ_mul] at hk ⊢
  cases hc:jD pre r kind key c (some []) (jo P g c start n k) M0 with
  | none=>rw [hc,xk] at h;cases h
  | some x =>
   rw [hc] at h
   have hx:=ih M0 x hl0 (by omega) hc
   have:=Uh pre r kind key ⟨80,g,c,k,start+k*P,jv n P k⟩ m x
   simp only at this
   rw [this] at h
   unfold Qi at h
   simp only [show ¬ ((80:UInt8)=77) from by decide,if_false] at h
   split at h
   ·cases h
   ·split at h
    ·cases h
    ·split at h
     ·rename_i hmany
      cases h
      rw [List.length_append,hx,hmany]
      unfold jv
      omega
     ·cases h
theorem Yo {n size:Nat} (hs:1≤size):n≤jW n size*size∧jW n size*size≤n+size:=by
 have h1:=(Qr (n:=n) (i:=jW n size) hs)
 have h2:¬ jW n size*size < n:=fun h=>by have:=h1.2 h;omega
 refine ⟨by omega,?_⟩
 rcases Nat.eq_zero_or_pos (jW n size) with h0|h0
 ·rw [h0];omega
 ·have h3:=(Qr (n:=n) (i:=jW n size - 1) hs).1 (by omega)
  have h4:(jW n size - 1)*size+size=jW n size*size:=by rw [← Nat.succ_mul];congr 1;omega
  omega
theorem ZV (pre:List UInt8) (r:List KeyB) (kind key:Int) {R G P g c:Nat} (hP:1≤P) {mp:List ModF} {part:List CellB} (hm:mp.length=(qv R G P g c).length) (h:jD pre r kind key c (some []) (qv R G P g c) mp=some part):part.length=jv R G g:=by
 have hk:mp.length=jW (jv R G g) P:=by rw [hm];simp [qv,jo]
 have h1:=Yo (n:=jv R G g) hP
 have:=Vw pre r kind key _ mp part hk h1.2 h
 omega
theorem Rh {t:List ColB} {Q:Nat→Nat→List ModF} {R C G P:Nat} (pre:List UInt8) (r:List KeyB) (kind key:Int) {c:Nat} (hc:c < C) (hP:1≤P):∀ {n:Nat} {cells:List CellB},(∀ g,g < n→∀ i,i < C→ModsOk t (jh R G P g i) (Q g i))→n*G≤R+G →
  jD pre r kind key c (some []) (jQ R C G P n) (qX Q C n)=some cells→cells.length=min (n*G) R:=by
 intro n
 induction n with
 | zero=>intro cells _ _ h;simp [jQ,jD] at h;subst h;simp
 | succ n ih =>
  intro cells h hn e
  rw [VF pre r kind key hc _ h] at e
  rw [Nat.succ_mul] at hn ⊢
  cases hx:jD pre r kind key c (some []) (jQ R C G P n) (qX Q C n) with
  | none=>rw [hx,xk] at e;cases e
  | some x =>
   rw [hx] at e
   have hl:=ih (fun g hg=>h g (by omega)) (by omega) hx
   have hq:=qQ (h n (by omega) c hc)
   obtain ⟨mp,mm,hmm⟩:∃ mp mm,Q n c=mp++[mm]:=by
    have hne:Q n c≠[]:=by intro e;rw [e] at hq;simp [jh] at hq
    exact ⟨(Q n c).dropLast,(Q n c).getLast hne,(List.dropLast_concat_getLast hne).symm⟩
   have hmp:mp.length=(qv R G P n c).length:=by rw [hmm,KQ] at hq;simpa using hq
   rw [hmm,UU pre r kind key x (by omega) mp mm hmp] at e
   cases hp:jD pre r kind key c (some []) (qv R G P n c) mp with
   | none=>rw [hp] at e;simp at e
   | some part =>
    rw [hp] at e
    have hpl:=ZV pre r kind key hP hmp hp
    simp only [Option.bind_some] at e
    split at e
    ·cases e
     rw [List.length_append,hl,hpl]
     unfold jv
     omega
    ·cases e
end
section
theorem Ny {sec non ext b p:List UInt8} (h:qo sec non ext b=some p):b=Xh sec non ext p∧b.length≤5002:=by
 unfold qo at h
 split at h
 ·rename_i hc
  cases h
  exact ⟨hc.2.2.symm,hc.1⟩
 ·cases h
end
section
theorem SQ (j:JobB) (r:List KeyB):∀ (L:List SpotB) (st:StB) (x:SealB),x ∈ (DM j r st L).log→x ∈ st.log∨∃ s ∈ L,(jk j.table s.c).key≠0∧∃ n,x=⟨jm r (jk j.table s.c).key,Uc j.draw n,qu j.pre s.sort s.g s.c s.p,Xh (jm r (jk j.table s.c).key) (Uc j.draw n) (qu j.pre s.sort s.g s.c s.p) (Tv j.table s)⟩:=by
 intro L
 induction L with
 | nil=>intro st x h;exact .inl h
 | cons s L ih =>
  intro st x h
  rcases ih (NW j r st s) x h with h|⟨s',hs,h⟩
  ·unfold NW SL at h
   by_cases hk:(jk j.table s.c).key=0
   ·rw [if_pos hk] at h;exact .inl h
   ·rw [if_neg hk] at h
    simp only [Ps,List.mem_append,List.mem_singleton] at h
    rcases h with h|h
    ·exact .inl h
    ·exact .inr ⟨s,by simp,hk,_,h⟩
  ·exact .inr ⟨s',List.mem_cons_of_mem _ hs,h⟩
theorem ZP {R C G P:Nat}:∀ s ∈ jC R C G P,s.sort=80∨s.sort=77:=by
 intro s hs
 simp only [jC,jQ,ju,List.mem_flatMap,List.mem_range,jh,List.mem_append,jo,List.mem_map,List.mem_singleton] at hs
 obtain ⟨g,_,c,_,⟨p,_,rfl⟩|rfl⟩:=hs
 ·exact .inl rfl
 ·exact .inr rfl
theorem Ut {foot:Nat} {parts footer:List UInt8} {S:SheetF} (h:xo foot parts footer=some S):SheetOk foot parts footer S:=by
 unfold xo at h
 split at h
 ·rename_i hex
  cases h
  exact Classical.choose_spec hex
 ·cases h
theorem RF {file:List UInt8} {f:FormF} (h:zh file=some f):FormOk f∧xj f=file:=by
 unfold zh at h
 split at h
 ·rename_i hex
  cases h
  exact Classical.choose_spec hex
 ·cases h
end
end Go.Proofs.YthhpbhpfagoapaaGreat
