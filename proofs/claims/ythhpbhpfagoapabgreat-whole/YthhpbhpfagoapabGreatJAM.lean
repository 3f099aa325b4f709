import Derived.Test.YthhpbhpfagoapabGreatJBD
import Derived.Test.YthhpbhpfagoapabGreatJAS
import Derived.Laws.CopyOwn
import Derived.OwnWalk
import Derived.Deep.QuietTactic
import Derived.BigQuiet
import Derived.WalkSmall
import Derived.Deep.RegionWith
import Derived.Test.YthhpbhpfagoapabGreatJBA
import Derived.Test.YthhpbhpfagoapabGreatJAT
import Derived.Lib.Strings
namespace Go.Proofs.YthhpbhpfagoapabGreat
set_option linter.unusedVariables false
set_option linter.unusedSimpArgs false
set_option maxRecDepth 100000
set_option maxHeartbeats 16000000
section
theorem Cd {j:JobB} {r r2:List KeyB} {trust:Bool} (h:GoodJ j r) (hs:(zr j r).length≤65000) (hr2:xI r2=true) (hsec:jw r2 j.plan.foot=true→ji r2 j.plan.foot=ji r j.plan.foot) :
  xg (zr j r) j.pre r2 trust=if jw r2 j.plan.foot=false∧¬ (j.plan.told=true∧trust=true) then (8,none) else (0,some (Je j r)):=by
 have hpre:=h.pre
 obtain ⟨_,_,hf1,hf2⟩:=h.sizes
 have hfoot:((j.plan.foot.toNat:Nat):Int)=j.plan.foot:=by omega
 have hsh:=KH (TE h)
 have hfl:=h.foot.2.2
 unfold xg
 rw [if_neg (by omega),if_neg (by rw [hr2];decide),Dh h hs]
 show (if j.plan.told=true then _ else _)=_
 cases ht:j.plan.told with
 | true =>
  have e1:(QT j r).footer=xZ j r:=by show (if j.plan.told=true then xZ j r else [])=_;rw [if_pos ht]
  rw [if_pos rfl,e1]
  rw [show zh (QT j r).foot (QT j r).parts (xZ j r)=some (Je j r) from hsh]
  simp only [true_and]
  cases trust with
  | true=>simp
  | false =>
   rw [if_neg (by decide)]
   show (if jw r2 ((j.plan.foot.toNat:Nat):Int)=false then ((8:Int),(none:Option SheetF)) else _)=_
   rw [hfoot]
   cases hn:jw r2 j.plan.foot with
   | false=>simp
   | true =>
    rw [if_neg (by decide)]
    have e2:xr (ji r2 ((QT j r).foot:Int)) (QT j r).nonce (jR j.pre 83 0 0 0++xZ j r) (QT j r).body=some []:=by
     show xr (ji r2 ((j.plan.foot.toNat:Nat):Int)) (xo j.draw (xC j r).log.length) _ (za (ji r j.plan.foot) (xo j.draw (xC j r).log.length) (if j.plan.told=true then jR j.pre 83 0 0 0++xZ j r else jR j.pre 70 0 0 0) (if j.plan.told=true then [] else xZ j r))=_
     rw [hfoot,hsec hn,if_pos ht,if_pos ht]
     exact Zt _ _ _ _ (by simp)
    rw [if_pos e2]
    simp
 | false =>
  rw [if_neg (by decide)]
  show (if jw r2 ((j.plan.foot.toNat:Nat):Int)=false then ((8:Int),(none:Option SheetF)) else _)=_
  rw [hfoot]
  cases hn:jw r2 j.plan.foot with
  | false=>simp
  | true =>
   rw [if_neg (by decide),if_neg (by simp)]
   have e2:xr (ji r2 ((QT j r).foot:Int)) (QT j r).nonce (jR j.pre 70 0 0 0) (QT j r).body=some (xZ j r):=by
    show xr (ji r2 ((j.plan.foot.toNat:Nat):Int)) (xo j.draw (xC j r).log.length) _ (za (ji r j.plan.foot) (xo j.draw (xC j r).log.length) (if j.plan.told=true then jR j.pre 83 0 0 0++xZ j r else jR j.pre 70 0 0 0) (if j.plan.told=true then [] else xZ j r))=_
    rw [hfoot,hsec hn,if_neg (by rw [ht];decide),if_neg (by rw [ht];decide)]
    exact Zt _ _ _ _ (by omega)
   rw [e2]
   have hsh2:zh (QT j r).foot (QT j r).parts (xZ j r)=some (Je j r):=hsh
   simp only [hsh2]
theorem Cx {j:JobB} {r r2:List KeyB} {i:Nat} (h:GoodJ j r) (hi:i < j.table.length) (hk:(j.table[i]).key=0∨(jw r2 (j.table[i]).key=true→ji r2 (j.table[i]).key=ji r (j.table[i]).key)) :
  qi j.pre r2 (Je j r) i=if 0 < (j.table[i]).key∧jw r2 (j.table[i]).key=false then ⟨(j.table[i]).name,(j.table[i]).kind,(j.table[i]).key,1,[]⟩ else ⟨(j.table[i]).name,(j.table[i]).kind,(j.table[i]).key,0,(j.table[i]).cells⟩:=by
 have hca:jf (Je j r).cols i=DH (j.table[i]):=by
  show jf (zg j.table) i=_
  rw [VO,xz hi]
 have hk9:=(h.table.head i hi).2.2
 unfold qi
 rw [hca]
 show (if 0 < (j.table[i]).key∧jw r2 (j.table[i]).key=false then _ else _)=_
 by_cases hl:0 < (j.table[i]).key∧jw r2 (j.table[i]).key=false
 ·rw [if_pos hl,if_pos hl]
  rfl
 ·rw [if_neg hl,if_neg hl]
  have hk2:(j.table[i]).key=0∨ji r2 (j.table[i]).key=ji r (j.table[i]).key:=by
   rcases hk with hk|hk
   ·exact .inl hk
   ·by_cases h0:(j.table[i]).key=0
    ·exact .inl h0
    ·refine .inr (hk ?_)
     cases hn:jw r2 (j.table[i]).key with
     | true=>rfl
     | false=>exact absurd ⟨by omega,hn⟩ hl
  have hc:=Mc h hi hk2
  show (match jI j.pre r2 (j.table[i]).kind (j.table[i]).key i (some []) (qr (Je j r)) (Je j r).mods with|none=>_|some cells=>_)=_
  rw [hc]
  rfl
end
section
open Go.RowKit
def BX:CellB:=⟨false,-77,[109,97,114,107]⟩
theorem Lies.cells {w:World} {b off:Nat} {l:List CellB} (h:∀ j (h:j < l.length),
  w.cell? ⟨b,off+j*3,none⟩=some (.bool (l[j]).null)∧w.cell? ⟨b,off+j*3+1,none⟩=some (.int .i64 (l[j]).int)∧w.cell? ⟨b,off+j*3+2,none⟩=some (strB (l[j]).text)) :
  ∀ i v,(qx l)[i]?=some v→w.cell? ((⟨b,off,none⟩:Addr).add i)=some v:=by
 intro i v hi
 have hil:i < (qx l).length:=(List.getElem?_eq_some_iff.1 hi).1
 rw [Qa] at hil
 have hj:i / 3 < l.length:=by omega
 obtain ⟨h1,h2,h3⟩:=h (i / 3) hj
 obtain ⟨c1,c2,c3⟩:=UN l (i / 3) hj
 have ha:(⟨b,off,none⟩:Addr).add i=⟨b,off+i,none⟩:=by unfold Addr.add;split<;>simp_all
 rw [ha]
 have hm:i % 3=0∨i % 3=1∨i % 3=2:=by omega
 rcases hm with hm|hm|hm
 ·have e:i=i / 3*3:=by omega
  rw [e] at hi ⊢
  rw [c1] at hi
  rw [h1];exact hi
 ·have e:i=i / 3*3+1:=by omega
  rw [e] at hi ⊢
  rw [c2] at hi
  rw [← Nat.add_assoc,h2];exact hi
 ·have e:i=i / 3*3+2:=by omega
  rw [e] at hi ⊢
  rw [c3] at hi
  rw [← Nat.add_assoc,h3];exact hi
theorem Ru (l:List CellB):∀ v ∈ qx l,v.oneCell'=true:=by
 intro v hv
 simp only [qx,List.mem_flatMap] at hv
 obtain ⟨c,_,hc⟩:=hv
 simp at hc
 rcases hc with rfl|rfl|rfl<;>rfl
def FN:CellB:=⟨false,0,[]⟩
def DV (l:List CellB) (k:Nat):List CellB:=l++List.replicate k BX++List.replicate (8 - k) FN
theorem Cg {W:World} {base g n:Nat} {l r:List CellB} (h:W.ownsRow base 34 3 (.slice (some ⟨g,0,none⟩) n n) n (qx (l++r))) (hok:∀ c ∈ l,okC c):Lies W (some ⟨g,0,none⟩) l:=by
 refine ⟨hok,fun hne=>⟨g,0,rfl,(h.lt g rfl).2,fun j hj=>?_⟩⟩
 have hn:=h.1
 rw [Qa,List.length_append] at hn
 obtain ⟨h1,h2,h3⟩:=UN (l++r) j (by rw [List.length_append];omega)
 rw [List.getElem_append_left hj] at h1 h2 h3
 simp only [Nat.zero_add]
 exact ⟨by rw [h.cellAt (j*3) (by omega)];exact h1,by rw [h.cellAt (j*3+1) (by omega)];exact h2,by rw [h.cellAt (j*3+2) (by omega)];exact h3⟩
theorem Ar (l:List CellB):DV l 8=l++List.replicate 8 BX:=by simp [DV]
end
section
open Go.RowKit
def Kq (P:List (ColB × Value)):List Value:=P.flatMap fun p=>[strB p.1.name,.int .i64 p.1.kind,.int .i64 p.1.key,p.2]
theorem KA (l:List (ColB × Value)):(Kq l).length=l.length*4:=Ud _ 4 (fun _=>rfl) l
theorem EK (a b:List (ColB × Value)):Kq (a++b)=Kq a++Kq b:=by simp [Kq]
theorem Ac (l:List (ColB × Value)) (j:Nat) (h:j < l.length):(Kq l)[j*4]?=some (strB (l[j]).1.name)∧(Kq l)[j*4+1]?=some (.int .i64 (l[j]).1.kind)∧(Kq l)[j*4+2]?=some (.int .i64 (l[j]).1.key)∧(Kq l)[j*4+3]?=some (l[j]).2 :=
 ⟨Jw _ 4 (fun _=>rfl) l j 0 h (by decide),Jw _ 4 (fun _=>rfl) l j 1 h (by decide),Jw _ 4 (fun _=>rfl) l j 2 h (by decide),Jw _ 4 (fun _=>rfl) l j 3 h (by decide)⟩
abbrev markCol:ColB:=⟨[109,97,114,107],-77,0,[]⟩
def FT:ColB × Value:=(markCol,.slice none 0 0)
theorem Tryz.infoColumn:(Tryz.prog.info? 31).map (fun i=>(i.zero,i.size,i.bytes))=some (some (.agg #[.string ⟨#[]⟩,.int .i64 0,.int .i64 0,.slice none 0 0]),4,56):=by kernel_rfl
abbrev OwnT (W:World) (base g n:Nat) (P:List (ColB × Value)):Prop:=W.ownsRow base 31 4 (.slice (some ⟨g,0,none⟩) n n) n (Kq P)
theorem OwnT.heap {W:World} {base g n:Nat} {P:List (ColB × Value)} (h:OwnT W base g n P):∃ cur,W.heap[g]?=some (.cells cur 31 (0,0)):=by
 rcases h.2 with ⟨h',_⟩|⟨g',cap',cur,h',_,hg,_⟩
 ·simp at h'
 ·simp only [Value.slice.injEq,Option.some.injEq,Addr.mk.injEq,and_true,true_and] at h'
  obtain ⟨rfl,rfl⟩:=h'
  exact ⟨cur,hg⟩
theorem OwnT.at_ {W:World} {base g n:Nat} {P:List (ColB × Value)} (h:OwnT W base g n P) (j:Nat) (hj:j < P.length) :
  W.cell? ⟨g,j*4,none⟩=some (strB (P[j]).1.name)∧W.cell? ⟨g,j*4+1,none⟩=some (.int .i64 (P[j]).1.kind)∧W.cell? ⟨g,j*4+2,none⟩=some (.int .i64 (P[j]).1.key)∧W.cell? ⟨g,j*4+3,none⟩=some (P[j]).2:=by
 have hn:=h.1
 rw [KA] at hn
 obtain ⟨h1,h2,h3,h4⟩:=Ac P j hj
 exact ⟨by rw [h.cellAt _ (by omega)];exact h1,by rw [h.cellAt _ (by omega)];exact h2,by rw [h.cellAt _ (by omega)];exact h3,by rw [h.cellAt _ (by omega)];exact h4⟩
def OwnCells (w:World) (base:Nat) (v:Value) (l:List CellB):Prop :=
 ∃ g,v=.slice (some ⟨g,0,none⟩) l.length (l.length+8)∧w.ownsRow base 34 3 (.slice (some ⟨g,0,none⟩) (l.length+8) (l.length+8)) (l.length+8) (qx (DV l 8))
theorem OwnCells.keptT {T:List TypeId} {B:Nat} {w w':World} {base:Nat} {v:Value} {l:List CellB} (h:OwnCells w base v l) (hk:KeptT T B w w') (hT:¬ 34 ∈ T):OwnCells w' base v l:=by
 obtain ⟨g,hv,ho⟩:=h
 exact ⟨g,hv,hk.owns ho hT⟩
theorem Qn {W W':World} {base e size n:Nat} {v:Value} {xs:List Value} (h:W.ownsRow base e size v n xs) (hb:Below W.heap.size W W'):W'.ownsRow base e size v n xs :=
 h.kept (DW hb) (Classical.em _)
theorem OwnCells.later {w w':World} {base:Nat} {v:Value} {l:List CellB} (h:OwnCells w base v l) (hb:Below w.heap.size w w'):OwnCells w' base v l:=by
 obtain ⟨g,hv,ho⟩:=h
 exact ⟨g,hv,Qn ho hb⟩
theorem OwnCells.base_ {w:World} {b b':Nat} {v:Value} {l:List CellB} (h:OwnCells w b v l) (hb:b'≤b):OwnCells w b' v l:=by
 obtain ⟨g,hv,h1,h2⟩:=h
 refine ⟨g,hv,h1,?_⟩
 rcases h2 with h2|⟨g,cap,cur,hv,hg,rest⟩
 ·exact .inl h2
 ·exact .inr ⟨g,cap,cur,hv,Nat.le_trans hb hg,rest⟩
structure HandedT (w:World) (base g:Nat) (t:List ColB):Prop where
 ex:∃ P:List (ColB × Value),P.map Prod.fst=t∧(∀ p ∈ P,OwnCells w base p.2 p.1.cells)∧OwnT w base g (t.length+8) (P++List.replicate 8 FT)
theorem HandedT.later {w w':World} {base g:Nat} {t:List ColB} (h:HandedT w base g t) (hb:Below w.heap.size w w'):HandedT w' base g t:=by
 obtain ⟨P,h1,h2,h3⟩:=h.ex
 exact ⟨P,h1,fun p hp=>(h2 p hp).later hb,Qn h3 hb⟩
theorem HandedT.keptT {T:List TypeId} {B:Nat} {w w':World} {base g:Nat} {t:List ColB} (h:HandedT w base g t) (hk:KeptT T B w w') (hT:¬ 34 ∈ T) (hT2:¬ 31 ∈ T):HandedT w' base g t:=by
 obtain ⟨P,h1,h2,h3⟩:=h.ex
 exact ⟨P,h1,fun p hp=>(h2 p hp).keptT hk hT,hk.owns h3 hT2⟩
theorem LiesT.parts {w:World} {a:Option Addr} {t:List ColB} (h:LiesT w a t):∀ c ∈ t,(∀ x ∈ c.cells,okC x)∧c.cells.length*32≤140737488351232:=by
 intro c hc
 obtain ⟨k,hk,rfl⟩:=List.mem_iff_getElem.1 hc
 obtain ⟨b,off,_,_,hcell⟩:=h.at_ (List.ne_nil_of_length_pos (by omega))
 obtain ⟨_,_,_,v,_,ca,cap,_,_,hl,hm⟩:=hcell k hk
 exact ⟨hl.ok,hm⟩
theorem HandedT.lies {w w0:World} {base g:Nat} {t:List ColB} {a:Option Addr} (h:HandedT w base g t) (hl:LiesT w0 a t):LiesT w (some ⟨g,0,none⟩) t:=by
 obtain ⟨P,h1,h2,h3⟩:=h.ex
 have hp:=hl.parts
 have hlen:P.length=t.length:=by rw [← h1,List.length_map]
 refine ⟨hl.ok,fun hne=>⟨g,0,rfl,(h3.lt g rfl).2,fun j hj=>?_⟩⟩
 have hjP:j < P.length:=by omega
 obtain ⟨c1,c2,c3,c4⟩:=h3.at_ j (by rw [List.length_append];omega)
 rw [List.getElem_append_left hjP] at c1 c2 c3 c4
 have e:P[j].1=t[j]:=by
  have:(P.map Prod.fst)[j]'(by rw [List.length_map];exact hjP)=t[j]:=by simp only [h1]
  simpa using this
 rw [e] at c1 c2 c3
 simp only [Nat.zero_add]
 refine ⟨c1,c2,c3,_,c4,?_⟩
 obtain ⟨gi,hv,ho⟩:=h2 P[j] (List.getElem_mem _)
 rw [e] at hv ho
 obtain ⟨p1,p2⟩:=hp t[j] (List.getElem_mem _)
 rw [Ar] at ho
 exact ⟨_,_,hv,by omega,Cg ho p1,p2⟩
end
section
open Go.RowKit
def Ip (body:List UInt8):List UInt8:=body.take (body.length - 2)
def BD (body:List UInt8):List UInt8:=body.drop (body.length - 2)
def Zi (sec non ext body:List UInt8):Bool:=BD body == Rd sec non ext (Ip body)
theorem Aj (sec non ext c:List UInt8):za sec non ext (zC sec non c)=c++Rd sec non ext c:=by
 unfold za
 rw [GP]
theorem Ro (sec non ext body:List UInt8):(za sec non ext (zC sec non (Ip body)) == body)=Zi sec non ext body:=by
 rw [Aj]
 have h:body=Ip body++BD body:=(List.take_append_drop _ _).symm
 unfold Zi
 rw [Bool.eq_iff_iff]
 simp only [beq_iff_eq]
 constructor
 ·intro e
  have:=e.trans h
  exact (List.append_cancel_left this).symm
 ·intro e
  rw [← e];exact h.symm
theorem Dz (sec non ext body:ByteArray) (w:World) (h:body.size < 2) :
  Calls Tryz.prog 57 #[.string sec,.string non,.string ext,.string body] w fun e w' =>
   e=.returned (.tuple #[strB [],.bool false])∧w'=w:=by
 go_enter Tryz.func57,Tryz.ntmps57
 go_wp2
 go_ret2
 exact ⟨rfl,rfl⟩
theorem AH (b:ByteArray):b.data.toList.length=b.size:=by simp
theorem Bj (body:ByteArray):(body.extract 0 (body.size - 2)).data.toList=Ip body.data.toList:=by
 simp [Ip]
theorem Lq (body:ByteArray) (hb:body.size≤5002):(body.extract 0 (body.size - 2)).size≤5000:=by
 simp;omega
theorem Lh (sec non ext:List UInt8) (body:ByteArray) (h:2≤body.size) :
  (!(body.extract ((body.size:Int) - 2).toNat body.size).toList == Rd sec non ext (List.take (body.size - 2) body.data.toList))=!Zi sec non ext body.data.toList:=by
 have e1:((body.size:Int) - 2).toNat=body.size - 2:=by omega
 have e2:(body.extract (body.size - 2) body.size).toList=BD body.data.toList:=by
  unfold BD
  rw [AH,Lib.extract_toList,List.take_of_length_le (by rw [List.length_drop,AH];omega)]
 rw [e1,e2]
 rfl
theorem Er (sec non ext body:ByteArray) (w:World) (h:2≤body.size) (hb:body.size≤5002) (h1:sec.size≤1000) (h2:non.size≤1000) (h3:ext.size≤5000)
  (ho:Zi sec.data.toList non.data.toList ext.data.toList body.data.toList=true) :
  Calls Tryz.prog 57 #[.string sec,.string non,.string ext,.string body] w fun e w' =>
   e=.returned (.tuple #[strB (zC sec.data.toList non.data.toList (Ip body.data.toList)),.bool true])∧Below w.heap.size w w':=by
 have hm:(1000:Nat)≤maxLen:=by decide
 have i1:(2:Int)≤(body.size:Int):=by omega
 have i2:(body.size:Int) - 2≤(body.size:Int):=by omega
 have i3:(0:Int)≤(body.size:Int) - 2:=by omega
 have hcmp:=Lh sec.data.toList non.data.toList ext.data.toList body h
 rw [ho] at hcmp
 clear ho
 go_enter Tryz.func57,Tryz.ntmps57
 go_wp2_with fail
 go_region_with (go_at_call 88;refine (Ie sec non ext _ _ (Nat.le_trans h1 hm) (Nat.le_trans h2 hm) h3 ?_).mono ?_;(simp;unfold maxLen;omega);rintro e w1 ⟨rfl,hb1⟩)
 all_goals
  go_wp2_with fail
  refine (Dl sec non _ _ (Nat.le_trans h1 hm) (Nat.le_trans h2 hm) (Lq body hb)).mono ?_
  rintro e w2 ⟨rfl,hb2⟩
  rw [Bj]
  go_wp2
  go_ret2
  exact ⟨rfl,(jl hb1).trans (hb2.mono hb1.size)⟩
theorem SE (sec non ext body:ByteArray) (w:World) (h:2≤body.size) (hb:body.size≤5002) (h1:sec.size≤1000) (h2:non.size≤1000) (h3:ext.size≤5000)
  (ho:Zi sec.data.toList non.data.toList ext.data.toList body.data.toList=false) :
  Calls Tryz.prog 57 #[.string sec,.string non,.string ext,.string body] w fun e w' =>
   e=.returned (.tuple #[strB [],.bool false])∧Below w.heap.size w w':=by
 have hm:(1000:Nat)≤maxLen:=by decide
 have i1:(2:Int)≤(body.size:Int):=by omega
 have i2:(body.size:Int) - 2≤(body.size:Int):=by omega
 have i3:(0:Int)≤(body.size:Int) - 2:=by omega
 have hcmp:=Lh sec.data.toList non.data.toList ext.data.toList body h
 rw [ho] at hcmp
 clear ho
 go_enter Tryz.func57,Tryz.ntmps57
 go_wp2_with fail
 go_region_with (go_at_call 88;refine (Ie sec non ext _ _ (Nat.le_trans h1 hm) (Nat.le_trans h2 hm) h3 ?_).mono ?_;(simp;unfold maxLen;omega);rintro e w1 ⟨rfl,hb1⟩)
 all_goals
  go_wp2
  go_ret2
  exact ⟨rfl,jl hb1⟩
theorem BM (sec non ext body:ByteArray) (w:World) (h1:sec.size≤maxLen) (h2:non.size≤maxLen) (h3:ext.size≤maxLen) (h4:body.size≤maxLen)
  (hz:RZ sec.size non.size ext.size body.size 2=0) (h:2≤body.size) (ho:Zi sec.data.toList non.data.toList ext.data.toList body.data.toList=true) :
  Calls Tryz.prog 32 #[.string sec,.string non,.string ext,.string body] w fun e w' =>
   e=.returned (.tuple #[strB (zC sec.data.toList non.data.toList (Ip body.data.toList)),.int .i64 0])∧Below w.heap.size w w':=by
 obtain ⟨a1,a2,a3,a4⟩:=Mn hz
 have HA:=hid a1
 have HB:=hid a2
 have Ho:=hid ho
 have hc:KE sec.size non.size=0:=by simp [KE,a1,a2]
 have Hc:=hid hc
 clear hz a1 a2 hc ho
 go_enter Tryz.func32,Tryz.ntmps32
 go_wp2_with fail
 refine (Pd sec non w h1 h2).mono ?_
 rintro e w1 ⟨rfl,rfl⟩
 rw [Hc.out]
 go_wp2_with fail
 refine (Er sec non ext body _ h (by omega) (by rw [HA.out];decide) (by rw [HB.out];decide) a3 Ho.out).mono ?_
 rintro e w2 ⟨rfl,hb2⟩
 go_wp2
 go_ret2
 exact ⟨rfl,hb2⟩
end
end Go.Proofs.YthhpbhpfagoapabGreat
