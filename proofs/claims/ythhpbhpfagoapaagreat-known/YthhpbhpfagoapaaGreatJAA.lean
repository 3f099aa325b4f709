import Derived.Test.YthhpbhpfagoapaaGreatJBJ
import Derived.Test.YthhpbhpfagoapaaGreatKMake
import Derived.Test.YthhpbhpfagoapaaGreatJBF
import Derived.Test.YthhpbhpfagoapaaGreatJAI
import Derived.Test.YthhpbhpfagoapaaGreatJAS
import Derived.Test.YthhpbhpfagoapaaGreatJAE
import Derived.Test.YthhpbhpfagoapaaGreatJAO
import Derived.Test.YthhpbhpfagoapaaGreatJAP
import Derived.Defers
import Derived.Recover
import Derived.Laws.Pointers
namespace Go.Proofs.YthhpbhpfagoapaaGreat
set_option linter.unusedVariables false
set_option linter.unusedSimpArgs false
set_option maxRecDepth 100000
set_option maxHeartbeats 16000000
open Go.RowKit
section
theorem VH {j:JobB} {r:List KeyB} (h:GoodJ j r):JA j r=0:=by
 unfold JA
 rw [if_neg (by rw [h.table.ok];simp),if_neg,if_neg (by rw [h.ring];simp),if_neg (by rw [h.has];simp)]
 rw [h.plan]
 have:=h.pre
 have:=h.draw
 simp
 omega
theorem Sd (j:JobB) (r:List KeyB):(xC j r).isEmpty=false:=by
 unfold xC
 simp [List.isEmpty_eq_false_iff]
theorem Eo (ta:Option Addr) (tcap:Nat) (ra:Option Addr) (rcap:Nat) (r:List KeyB) (j:JobB) (w:World) (hj:LiesJ w ta tcap j) (hr:LiesK w ra r) (hrm:r.length≤maxLen) (hg:GoodJ j r) :
  Calls Tryz.prog 28 #[jobV (.slice ta j.table.length tcap) j,.slice ra r.length rcap] w
   fun e w'=>∃ lv,e=.returned (.tuple #[strB (xC j r),lv,.bool true])∧w'.ownsRow w.heap.size 40 4 lv (Va j r).length (QV (Va j r))∧Below w.heap.size w w':=by
 have Hj:=hid hj
 have Hr:=hid hr
 have hz:=VH hg
 have Hz:=hid hz
 have hfe:=Sd j r
 clear hj hr hz
 go_enter Tryz.func28,Tryz.ntmps28
 go_wp2_with fail
 obtain ⟨hb0,hs0,_,_⟩:=qa w #[.slice ta j.table.length tcap,.int .i64 j.plan.group,.int .i64 j.plan.page,.int .i64 j.plan.foot,.bool j.plan.told,strB j.pre,.int .i64 j.draw] 26
 have Hj0:=hid (Hj.out.later hb0)
 have Hr0:=hid (Hr.out.later hb0)
 have Hb0:=hid hb0
 clear hb0
 generalize w.alloc (.cells #[.slice ta j.table.length tcap,.int .i64 j.plan.group,.int .i64 j.plan.page,.int .i64 j.plan.foot,.bool j.plan.told,strB j.pre,.int .i64 j.draw] 26)=w0 at *
 refine (NK ta tcap ra rcap r j w0 Hj0.out Hr0.out hrm).mono ?_
 rintro e w1 ⟨hb1,hcase⟩
 obtain ⟨lv,rfl,hl⟩:∃ lv,e=.returned (.tuple #[strB (xC j r),lv,.int .i64 0])∧w1.ownsRow w0.heap.size 40 4 lv (Va j r).length (QV (Va j r)):=by
  rcases hcase with ⟨hne,_⟩|⟨_,h⟩
  ·exact absurd Hz.out hne
  ·exact h
 have HL:=hid (GH hl Hb0.out.size)
 have HB:=hid (Hb0.out.trans (hb1.mono Hb0.out.size))
 clear hcase hl hb1
 generalize hF:xC j r=F at *
 have HF:=hid hF
 clear hF
 go_wp2
 refine bodyPost_ret (v:=.tuple #[strB F,lv,.bool true]) (by simp [results,Tryz.results28,go_sem]) rfl ?_
 exact ⟨lv,by rw [HF.out],HL.out,HB.out⟩
structure LiesP (w:World) (a:Option Addr) (l:List (Nat × Nat)):Prop where
 at_:l≠[]→∃ b,a=some ⟨b,0,none⟩∧b < w.heap.size∧∀ j (h:j < l.length),w.cell? ⟨b,j*2,none⟩=some (.int .i64 ((l[j]).1:Int))∧w.cell? ⟨b,j*2+1,none⟩=some (.int .i64 ((l[j]).2:Int))
theorem LiesP.later {w w':World} {a:Option Addr} {r:List (Nat × Nat)} (h:LiesP w a r) (hb:Below w.heap.size w w'):LiesP w' a r:=by
 refine ⟨fun hne=>?_⟩
 obtain ⟨b,ha,hlt,hc⟩:=h.at_ hne
 refine ⟨b,ha,Nat.lt_of_lt_of_le hlt hb.size,fun j hj=>?_⟩
 obtain ⟨h1,h2⟩:=hc j hj
 exact ⟨(hb.cell (p:=⟨b,_,none⟩) hlt).trans h1,(hb.cell (p:=⟨b,_,none⟩) hlt).trans h2⟩
end
section
theorem RY (s:List UInt8) (w:World) :
  Calls Tryz.prog 157 #[strB s] w fun e w'=>e=.returned (.pointer (some ⟨w.heap.size,0,none⟩))∧qp w' w.heap.size s s∧Below w.heap.size w w':=by
 go_enter Tryz.func157,Tryz.ntmps157
 go_wp2
 go_ret
 exact ⟨rfl,⟨0,heap_alloc_new w _,Nat.zero_le _,rfl⟩,(Below.refl _ _).alloc (Nat.le_refl _) _⟩
theorem Sl (x:Int) (w:World) :
  Calls Tryz.prog 188 #[.int .i64 x] w fun e w'=>e=.returned (.agg #[.bool false,.int .i64 x,.string ⟨#[]⟩])∧Below w.heap.size w w':=by
 go_enter Tryz.func188,Tryz.ntmps188
 go_wp2
 exact bodyPost_ret (v:=.agg #[.bool false,.int .i64 x,.string ⟨#[]⟩]) (by simp [results,Tryz.results188,go_sem]) rfl ⟨rfl,(Below.refl _ _).alloc (Nat.le_refl _) _⟩
theorem Sz (x:List UInt8) (w:World) :
  Calls Tryz.prog 203 #[strB x] w fun e w'=>e=.returned (.agg #[.bool false,.int .i64 0,strB x])∧Below w.heap.size w w':=by
 go_enter Tryz.func203,Tryz.ntmps203
 go_wp2
 exact bodyPost_ret (v:=.agg #[.bool false,.int .i64 0,strB x]) (by simp [results,Tryz.results203,go_sem]) rfl ⟨rfl,(Below.refl _ _).alloc (Nat.le_refl _) _⟩
def RV (kind:Int) (s:List UInt8) (l:List CellB):Prop:=jR kind l=true∧xg kind l=s∧∀ c ∈ l,Jh c
def UW (kind:Int) (s:List UInt8) (w:World) (e:Ending) (w':World):Prop :=
 Below w.heap.size w w'∧((e=gaveUp∧xf kind s=none)∨∃ l a cap,e=.returned (.slice a l.length cap)∧xf kind s=some l∧Lies w' a l)
theorem Jd {kind:Int} {s:List UInt8} (h:∀ l2,RV kind s l2→False):xf kind s=none:=by
 cases hu:xf kind s with
 | none=>rfl
 | some l =>
  obtain ⟨h1,h2,h3⟩:=Km hu
  exact (h l ⟨h1,h2,h3⟩).elim
theorem xw {kind:Int} {s:List UInt8} {l:List CellB} (h:RV kind s l):(l.map (·.null)).length≤60∧s=UA (l.map (·.null))++Gg kind (jh l)∧∀ c ∈ l,c.null=true→c=⟨true,0,[]⟩:=by
 obtain ⟨h1,h2,h3⟩:=h
 unfold jR at h1
 simp only [Bool.and_eq_true,Bool.or_eq_true,decide_eq_true_eq,List.all_eq_true] at h1
 refine ⟨by simpa using h1.1.2,?_,fun c hc hn=>?_⟩
 ·rw [← h2,← Py]
  unfold xg Gg
  split<;>simp_all
 ·have:=h1.2 c hc
  unfold qM at this
  rw [if_pos hn] at this
  simp at this
  obtain ⟨cn,ci,ct⟩:=c
  simp_all
theorem Rv {s:List UInt8} {l:List CellB} (h:RV 0 s l):YT (cnt (l.map (·.null))) (jh l):=by
 obtain ⟨h1,h2,h3⟩:=h
 unfold jR at h1
 simp only [Bool.and_eq_true,Bool.or_eq_true,decide_eq_true_eq,List.all_eq_true] at h1
 refine ⟨(Xi l).symm,fun c hc=>?_⟩
 obtain ⟨hm,hn⟩:=List.mem_filter.1 hc
 have hf:=h1.2 c hm
 have hn':c.null=false:=by simpa using hn
 unfold qM at hf
 rw [hn',if_neg (by decide),if_pos rfl] at hf
 exact ⟨hn',by simpa using hf,(h3 c hm).1,(h3 c hm).2⟩
theorem RF {s:List UInt8} {l:List CellB} (h:RV 1 s l):Ia (cnt (l.map (·.null))) (jh l):=by
 obtain ⟨h1,h2,h3⟩:=h
 unfold jR at h1
 simp only [Bool.and_eq_true,Bool.or_eq_true,decide_eq_true_eq,List.all_eq_true] at h1
 refine ⟨(Xi l).symm,fun c hc=>?_⟩
 obtain ⟨hm,hn⟩:=List.mem_filter.1 hc
 have hf:=h1.2 c hm
 have hn':c.null=false:=by simpa using hn
 unfold qM at hf
 rw [hn',if_neg (by decide),if_neg (by decide)] at hf
 simp at hf
 exact ⟨hn',hf.1,hf.2⟩
theorem NE (b:Bool) (fl:List Bool):cnt (b :: fl)=(if b=true then 0 else 1)+cnt fl:=by
 unfold cnt
 cases b<;>simp<;>omega
theorem RJ (fl:List Bool):∀ (l:List CellB) (k:Nat) (h:k < fl.length),qR (fl.take (k+1)) l=qR (fl.take k) l++[if fl[k]=true then ⟨true,0,[]⟩ else xY l (cnt (fl.take k))]:=by
 induction fl with
 | nil=>intro l k h;simp at h
 | cons b fl ih =>
  intro l k h
  cases k with
  | zero =>
   cases b with
   | true=>simp [qR]
   | false=>cases l<;>simp [qR,xY,cnt,xb]
  | succ k =>
   have h':k < fl.length:=by simpa using h
   simp only [List.take_succ_cons,List.getElem_cons_succ]
   cases b with
   | true =>
    simp only [qR,List.cons_append]
    rw [ih l k h',NE]
    simp
   | false =>
    cases l with
    | nil =>
     simp only [qR,List.cons_append]
     rw [ih [] k h']
     simp [xY]
    | cons d l =>
     simp only [qR,List.cons_append]
     rw [ih l k h',NE]
     simp [xY,Nat.add_comm 1]
theorem Mb (fl:List Bool) (k:Nat) (h:k < fl.length):fl[k]=false→cnt (fl.take k) < cnt fl:=by
 intro hb
 have h1:cnt fl=cnt (fl.take (k+1))+cnt (fl.drop (k+1)):=by
  unfold cnt
  rw [← List.length_append,← List.filter_append,List.take_append_drop]
 have h2:=Kx fl k h
 rw [hb] at h2
 simp at h2
 omega
theorem JV (l:List CellB) (c:CellB):jX (l++[c])=jX l++[.bool c.null,.int .i64 c.int,strB c.text]:=by simp [jX]
theorem KG (a:List Bool):∀ (v:List CellB),(qR a v).length=a.length:=by
 induction a with
 | nil=>intro v;rfl
 | cons b a ih =>
  intro v
  cases b with
  | true=>simp [qR,ih]
  | false=>cases v<;>simp [qR,ih]
theorem DK {ok:CellB→Prop} (fl:List Bool):∀ (l:List CellB),(∀ c ∈ l,ok c)→cnt fl≤l.length→∀ c ∈ qR fl l,ok c∨c=⟨true,0,[]⟩:=by
 induction fl with
 | nil=>intro l _ _ c hc;simp [qR] at hc
 | cons b fl ih =>
  intro l hl hn c hc
  rw [NE] at hn
  cases b with
  | true =>
   simp only [qR,List.mem_cons] at hc
   rcases hc with rfl|hc
   ·exact .inr rfl
   ·exact ih l hl (by simpa using hn) c hc
  | false =>
   cases l with
   | nil=>simp at hn
   | cons d l =>
    simp only [qR,List.mem_cons] at hc
    rcases hc with rfl|hc
    ·exact .inl (hl _ (by simp))
    ·exact ih l (fun x hx=>hl x (List.mem_cons_of_mem _ hx)) (by simp at hn;omega) c hc
theorem Yu {c:CellB} (h:okI c∨c=⟨true,0,[]⟩):okC c∧Jh c∧qt c:=by
 rcases h with ⟨_,h2,h3,h4⟩|rfl
 ·exact ⟨⟨h3,h4,by rw [h2];simp⟩,⟨h3,h4⟩,h3,h4,by rw [h2];simp⟩
 ·exact ⟨⟨by decide,by decide,by simp⟩,⟨by decide,by decide⟩,by decide,by decide,by simp⟩
theorem YE {c:CellB} (h:okT c∨c=⟨true,0,[]⟩):okC c∧Jh c∧qt c:=by
 rcases h with ⟨_,h2,h3⟩|rfl
 ·exact ⟨⟨by rw [h2];decide,by rw [h2];decide,by unfold maxLen;omega⟩,⟨by rw [h2];decide,by rw [h2];decide⟩,by rw [h2];decide,by rw [h2];decide,h3⟩
 ·exact ⟨⟨by decide,by decide,by simp⟩,⟨by decide,by decide⟩,by decide,by decide,by simp⟩
theorem PE {l:List CellB} (hn:l.length≤60) (h:∀ c ∈ l,okI c∨c=⟨true,0,[]⟩):jR 0 l=true:=by
 unfold jR
 simp only [Bool.and_eq_true,Bool.or_eq_true,decide_eq_true_eq,List.all_eq_true]
 refine ⟨⟨.inl trivial,hn⟩,fun c hc=>?_⟩
 rcases h c hc with ⟨h1,h2,_⟩|rfl
 ·simp [qM,h1,h2]
 ·rfl
theorem TQ {l:List CellB} (hn:l.length≤60) (h:∀ c ∈ l,okT c∨c=⟨true,0,[]⟩):jR 1 l=true:=by
 unfold jR
 simp only [Bool.and_eq_true,Bool.or_eq_true,decide_eq_true_eq,List.all_eq_true]
 refine ⟨⟨.inr trivial,hn⟩,fun c hc=>?_⟩
 rcases h c hc with ⟨h1,h2,h3⟩|rfl
 ·simp [qM,h1,h2,h3]
 ·rfl
theorem RS {w:World} {base n:Nat} {v:Value} {L:List CellB} (h:w.ownsRow base 58 3 v n (jX L)) (hn:L.length=n) (hok:∀ c ∈ L,okC c):∃ a cap,v=.slice a n cap∧Lies w a L:=by
 rcases h.2 with ⟨rfl,h0⟩|⟨g,cap,cur,rfl,_⟩
 ·exact ⟨none,0,by rw [h0],hok,fun hne=>absurd (List.eq_nil_of_length_eq_zero (by omega)) hne⟩
 ·refine ⟨_,cap,rfl,hok,fun _=>⟨g,0,rfl,(h.lt g rfl).2,fun j hj=>?_⟩⟩
  obtain ⟨h1,h2,h3⟩:=Zr L j hj
  simp only [Nat.zero_add]
  exact ⟨by rw [h.cellAt (j*3) (by omega)];exact h1,by rw [h.cellAt (j*3+1) (by omega)];exact h2,by rw [h.cellAt (j*3+2) (by omega)];exact h3⟩
theorem AZ {w:World} {base:Nat} {v:Value} {l:List CellB} (h:w.ownsRow base 3 1 v l.length (Qx l)):∃ a cap,v=.slice a l.length cap∧(l≠[]→l.length≤cap∧∃ b,a=some ⟨b,0,none⟩∧b < w.heap.size∧∀ j (h:j < l.length),w.cell? ⟨b,j,none⟩=some (.int .i64 (l[j]).int)):=by
 rcases h.2 with ⟨rfl,h0⟩|⟨g,cap,cur,rfl,_,_,hcap,_⟩
 ·exact ⟨none,0,by rw [h0],fun hne=>absurd (List.eq_nil_of_length_eq_zero h0) hne⟩
 ·refine ⟨_,cap,rfl,fun _=>⟨hcap,g,rfl,(h.lt g rfl).2,fun j hj=>?_⟩⟩
  rw [h.cellAt j (by omega)]
  simp [Qx,hj]
theorem EE {w:World} {base:Nat} {v:Value} {l:List CellB} (h:w.ownsRow base 9 1 v l.length (Ji l)):∃ a cap,v=.slice a l.length cap∧(l≠[]→l.length≤cap∧∃ b,a=some ⟨b,0,none⟩∧b < w.heap.size∧∀ j (h:j < l.length),w.cell? ⟨b,j,none⟩=some (strB (l[j]).text)):=by
 rcases h.2 with ⟨rfl,h0⟩|⟨g,cap,cur,rfl,_,_,hcap,_⟩
 ·exact ⟨none,0,by rw [h0],fun hne=>absurd (List.eq_nil_of_length_eq_zero h0) hne⟩
 ·refine ⟨_,cap,rfl,fun _=>⟨hcap,g,rfl,(h.lt g rfl).2,fun j hj=>?_⟩⟩
  rw [h.cellAt j (by omega)]
  simp [Ji,xT,Xv,hj]
theorem SY (g:Nat) (s:List UInt8) (w:World) (hs:s.length≤maxLen) (hg:g < w.heap.size) (hw:NumW w g) :
  Calls Tryz.prog 130 #[numC g,strB s] w (UW 0 s w):=by
 obtain ⟨i1,hi1,hy0,hy1,hy2⟩:=info_parts Tryz.infoCell
 have Hs:=hid hs
 have Hw:=hid hw
 clear hs hw
 go_enter Tryz.func130,Tryz.ntmps130
 go_wp2_with fail
 obtain ⟨hb0,hs0,hc0⟩:=zx w #[.slice (some ⟨g,0,none⟩) 3 3,fnV 187,fnV 188,fnV 189,fnV 190,fnV 191,fnV 192] 215
 have Hc:Hid (BoxI _ g w.heap.size):=⟨hc0 0,hc0 1,hc0 2,hc0 3,hc0 4,hc0 5,hc0 6⟩
 have Hw0:=hid (Hw.out.later hg hb0)
 have Hb0:=hid hb0
 have hs1:=Nat.lt_of_lt_of_eq (Nat.lt_succ_self w.heap.size) hs0.symm
 have hg0:=Nat.lt_of_lt_of_le hg hb0.size
 clear hc0 hb0 hs0
 generalize w.alloc _=w0 at *
 refine (RY s w0).mono ?_
 rintro e w1 ⟨rfl,hrd1,hb1⟩
 have hB1:=Hb0.out.trans (hb1.mono Hb0.out.size)
 have HB1:=hid hB1
 have hp0:w.heap.size≤w0.heap.size:=Hb0.out.size
 have hplt:=xh hrd1
 have Hbx1:=hid (xP Hc.out hb1 hs1)
 have Hw1:=hid (Hw0.out.later hg0 hb1)
 have hg1:=Nat.lt_of_lt_of_le hg0 hb1.size
 have hs11:=Nat.lt_of_lt_of_le hs1 hb1.size
 have hpne:w.heap.size≠w0.heap.size:=by omega
 have hgp:g≠w0.heap.size:=by omega
 clear hb1 hB1
 generalize hpp:w0.heap.size=p at *
 clear hpp
 go_wp2_with fail
 refine (UK p s s _ Hs.out hrd1).mono ?_
 rintro e w2 ⟨hg2,⟨rfl,hno⟩|⟨fl,r2,v6,hfl,rfl,hown6,hrd2,hu2⟩⟩
 ·go_wp2
  exact ⟨rfl,HB1.out.grown hg2 HB1.out.size (fun k hk=>by cases hk;exact hp0),.inl ⟨rfl,Jd (fun l2 h2=>(hno _ _ (xw h2).1 (xw h2).2.1))⟩⟩
 ·have Hu2:=hid hu2
  have HB2:=hid (HB1.out.grown hg2 HB1.out.size (fun k hk=>by cases hk;exact hp0))
  have Hbx2:=hid (Qy Hbx1.out hg2 hs11 hpne)
  have Hw2:=hid (Hw1.out.grown hg2 hg1 hgp)
  have hg22:=Nat.lt_of_lt_of_le hg1 hg2.size
  have hs2:=Nat.lt_of_lt_of_le hs11 hg2.size
  have hbx:=Hbx2.out
  obtain ⟨x0,x1,x2,x3,x4,x5,x6⟩:=hbx
  clear hu2 hg2 hrd1
  go_wp2_with fail
  refine (St g p fl v6 w1.heap.size s r2 _ Hs.out hfl hrd2 hown6 hg22 Hw2.out hgp).mono ?_
  rintro e w3 ⟨hg3,⟨rfl,hno⟩|⟨l,r3,v7,hl,rfl,hown7,hrd3,hu3⟩⟩
  ·go_wp2
   refine ⟨rfl,HB2.out.grown hg3 HB2.out.size (fun k hk=>by cases hk;exact hp0),.inl ⟨rfl,Jd (fun l2 h2=>?_)⟩⟩
   obtain ⟨e1,e2⟩:=Hu2.out _ _ (xw h2).1 (xw h2).2.1
   exact hno (jh l2) [] (by rw [← e1];exact Rv h2) (by rw [List.append_nil];exact e2.symm)
  ·have HU:Hid (∀ l2,RV 0 s l2→l2=qR fl l):=by
    intro l2 h2
    obtain ⟨e1,e2⟩:=Hu2.out _ _ (xw h2).1 (xw h2).2.1
    obtain ⟨e3,_⟩:=hu3 (jh l2) [] (by rw [← e1];exact Rv h2) (by rw [List.append_nil];exact e2.symm)
    rw [← e1,← e3]
    exact (Vw l2 (xw h2).2.2).symm
   have HB3:=hid (HB2.out.grown hg3 HB2.out.size (fun k hk=>by cases hk;exact hp0))
   have Hbx3:=hid (Qy Hbx2.out hg3 hs2 hpne)
   have Hw3:=hid (Hw2.out.grown hg3 hg22 hgp)
   have hg33:=Nat.lt_of_lt_of_le hg22 hg3.size
   have hs3:=Nat.lt_of_lt_of_le hs2 hg3.size
   have hown63:=zw hown6 hplt hg3
   obtain ⟨a6,c6,rfl,hsh6⟩:=Zb hown63
   obtain ⟨a7,c7,rfl,hsh7⟩:=AZ hown7
   have Hsh6:=hid hsh6
   have Hsh7:=hid hsh7
   have Hl:=hid hl
   have Hll:Hid (l.length=cnt fl):=hl.1
   have hcf:=Gu fl
   have hl60:l.length≤60:=by rw [Hll.out];omega
   clear hu3 hg3 hown6 hown63 hown7 hsh6 hsh7 hrd2 hrd3 x0 x1 x2 x3 x4 x5 x6 hl
   go_wp2_with (at_make;refine wpList_make_own _ rfl (.const (.int .i64 0)) (.tmp 20) 59 rfl w3.heap.size 58 i1 (.agg #[.bool false,.int .i64 0,.string ⟨#[]⟩]) 3 Tryz.underlying59 hi1 hy0 hy1 .i64 .i64 _ fl.length rfl rfl rfl (by rw [hy2];omega) (by unfold maxLen;omega) (Nat.le_refl _) ?_;intro w4 hown4 hgr4)
   have hB4:Below w3.heap.size w3 w4:=(Below.refl _ _).grown hgr4 (Nat.le_refl _) (fun _ h=>by cases h)
   clear hgr4
   go_loopw [7,8,24] (fun v7 v8 i wr=>∃ (k:Nat) (a:Option Addr) (c:Nat),k≤fl.length∧i=.int .i64 (k:Int)∧v7=.slice a (l.length - cnt (fl.take k)) c∧(cnt (fl.take k) < l.length→l.length - cnt (fl.take k)≤c∧∃ b,a7=some ⟨b,0,none⟩∧a=some ⟨b,cnt (fl.take k),none⟩)∧wr.ownsRow w3.heap.size 58 3 v8 k (jX (qR (fl.take k) l))∧Below w3.heap.size w3 wr)
    (fun _ _ i _=>fl.length - (intOf i).toNat)
   case atStart =>
    refine ⟨0,a7,c7,Nat.zero_le _,rfl,by simp [cnt],fun h=>?_,hown4,hB4⟩
    obtain ⟨h1,b,h2,_⟩:=Hsh7.out (List.ne_nil_of_length_pos (by omega))
    exact ⟨by omega,b,h2,h2⟩
   case round =>
    clear hown4 hB4
    obtain ⟨k,a,c0,hk,rfl,rfl,hsl,hown,hB⟩:=hrel
    have Hsl:=hid hsl
    clear hsl
    by_cases hlt:k < fl.length
    ·have hki:(k:Int) < (fl.length:Int):=by omega
     obtain ⟨b6,rfl,hb6,hcell6⟩:=Hsh6.out (List.ne_nil_of_length_pos (by omega))
     have hck:=(hB.cell (p:=⟨b6,k,none⟩) hb6).trans (hcell6 k hlt)
     have HST:=hid (RJ fl l k hlt)
     have HCS:=hid (Kx fl k hlt)
     have hcl:=Mb fl k hlt
     clear hcell6
     cases hb:fl[k] with
     | true =>
      rw [hb] at hck HST HCS
      clear hb hcl
      go_wp2_with (at_builtin;refine wpList_append_own _ rfl (.tmp 29) (.tmp 31) 59 rfl w3.heap.size 58 i1 (.agg #[.bool false,.int .i64 0,.string ⟨#[]⟩]) 3 32 Tryz.underlying59 hi1 hy0 hy1 hy2 rfl (by decide) _ _ _ rfl (hown.alloc _) ⟨_,0,none⟩ 1 1 [.bool true,.int .i64 0,.string ⟨#[]⟩] rfl rfl ?c1 ?c2 ?c3 ?c4 ?c5 ?_)
      case c2=>exact ⟨rfl,rfl,rfl⟩
      case c3=>unfold maxLen;omega
      case c4=>omega
      case c5=>have:=hB.size;simp;omega
      intro v3 w5 hown5 hgr5 _
      have HO5:=hid hown5
      have HB5:=hid ((hB.alloc hB.size _).grown hgr5 (by have:=hB.size;simp;omega) (fun k hk=>(hown.lt k hk).1))
      clear hown hown5 hgr5 hB hck
      go_wp2
      go_roundw
      case rel =>
       refine ⟨k+1,a,c0,by omega,by go_num,by rw [HCS.out];simp,by rw [HCS.out];simpa using Hsl.out,?_,HB5.out⟩
       rw [HST.out,JV]
       exact HO5.out
      case measure=>simp [intOf];omega
     | false =>
      have hcl2:=hcl hb
      rw [hb] at hck HST HCS
      clear hb hcl
      have hcc:cnt (fl.take k) < l.length:=by rw [Hll.out];exact hcl2
      obtain ⟨hcap,b7,ha7,rfl⟩:=Hsl.out hcc
      obtain ⟨_,b7',ha7',hb7,hcell7⟩:=Hsh7.out (List.ne_nil_of_length_pos (by omega))
      have hbb:b7'=b7:=by rw [ha7] at ha7';simpa using ha7'.symm
      subst hbb
      generalize hcg:cnt (fl.take k)=c at *
      have hv:=(hB.cell (p:=⟨b7',c,none⟩) hb7).trans (hcell7 c hcc)
      have hfn:=(hB.cell (p:=⟨w.heap.size,2,none⟩) hs3).trans Hbx3.out.2.2.1
      have hz3:=hB.size
      have HNT:Hid (xY l c=l[c]):=qD l c hcc
      generalize hmg:l.length - c=m at *
      have Hmg:=hid hmg
      have hm0:0 < m:=by omega
      have hli:(0:Int) < (m:Int):=by omega
      have hcc2:c < l.length:=hcc
      clear hmg
      have hOK:=Hl.out.2 l[c] (List.getElem_mem hcc)
      have HOK:=hid hOK
      have Ha7:=hid ha7
      have Ha7':=hid ha7'
      clear hcell7 hOK ha7 ha7'
      go_wp2_with fail
      go_region_held3 (fun w'=>w'.cell? ⟨w.heap.size,2,none⟩=some (fnV 188)∧w'.cell? ⟨b7',c,none⟩=some (.int .i64 (l[c]).int)) (first|exact ⟨jc _ k1,jc _ k2⟩|exact ⟨m1,m2⟩|exact ⟨k1,k2⟩|exact ⟨hfn,hv⟩)
       (first
        | (go_at_call 188;refine (Sl (l[c]).int _).mono ?_;rintro e w5 ⟨rfl,hb5⟩;have hb5':=ji hb5;have k1:=(hb5'.cell (p:=⟨w.heap.size,2,none⟩) (Nat.lt_of_lt_of_le hs3 hz3)).trans hfn;have k2:=(hb5'.cell (p:=⟨b7',c,none⟩) (Nat.lt_of_lt_of_le hb7 hz3)).trans hv)
        | (refine step_append_lies _ (by rfl) _ _ _ (by rfl) w3.heap.size 58 i1 _ 3 32 Tryz.underlying59 hi1 hy0 hy1 hy2 rfl (by omega) _ k (jX (qR (fl.take k) l)) (by rfl) ((jm hown hb5').alloc _) ⟨w5.heap.size,0,none⟩ 1 1 [.bool false,.int .i64 (l[c]).int,.string ⟨#[]⟩] (by rfl) (by rfl) (World.news_of_block (cs:=#[.bool false,.int .i64 (l[c]).int,.string ⟨#[]⟩]) (t:=58) (fr:=(0,0)) (heap_alloc_new w5 _)) (by simp [Value.oneCell']) (by omega) (by unfold maxLen;omega) (by omega) (by have:=hb5'.size;simp;omega) _ rfl ?_;intro gg cc w7 hown7 hgr7 hat7 hlt7;have m1:=zc hgr7 ((jm hown hb5').alloc _) (jc _ k1) hs3;have m2:=zc hgr7 ((jm hown hb5').alloc _) (jc _ k2) hb7))
      have HB7:=hid (((hB.trans (hb5'.mono hz3)).alloc (by have:=hb5'.size;omega) _).grown hgr7 (by have:=hb5'.size;simp;omega) (fun k hk=>((jm hown hb5').lt k hk).1))
      have HO7:=hid hown7
      have HCL:Hid (jX (qR (fl.take (k+1)) l)=jX (qR (fl.take k) l)++[.bool false,.int .i64 (l[c]).int,.string ⟨#[]⟩]):=by
       show _=_
       rw [HST.out,if_neg (by decide),HNT.out,JV,HOK.out.1,HOK.out.2.1]
      have Hcg:=hid hcg
      clear m1 m2 k1 k2 hfn hv hb5 hb5' hgr7 hown7 hown hB hat7 hlt7 hcg hck
      have hq1:(1:Int)≤(m:Int):=by omega
      have hq2:(1:Int)≤(c0:Int):=by omega
      have hq3:(m:Int)≤(c0:Int):=by omega
      have hq4:1≤m:=by omega
      by_cases hc01:c0=1
      ·have hm1:m=1:=by omega
       subst hc01 hm1
       go_wp2
       go_roundw
       case rel =>
        have hmo:=Hmg.out
        refine ⟨k+1,some ⟨b7',c,none⟩,0,by omega,by go_num,?_,fun h=>?_,by rw [HCL.out];exact HO7.out,HB7.out⟩
        ·rw [HCS.out,if_neg (by decide),show l.length - (c+1)=0 by omega]
        ·rw [HCS.out,if_neg (by decide)] at h
         omega
       case measure=>simp [intOf];omega
      ·go_wp2
       go_roundw
       case rel =>
        have hmo:=Hmg.out
        refine ⟨k+1,some ⟨b7',c+1,none⟩,c0 - 1,by omega,by go_num,?_,fun h=>?_,by rw [HCL.out];exact HO7.out,HB7.out⟩
        ·rw [HCS.out,if_neg (by decide),show l.length - (c+1)=m - 1 by omega]
        ·rw [HCS.out,if_neg (by decide)] at h ⊢
         exact ⟨by omega,b7',Ha7.out,rfl⟩
       case measure=>simp [intOf];omega
    ·have hke:k=fl.length:=by omega
     subst hke
     rw [List.take_length] at hown
     have HLl:=hid (KG fl l)
     have hOKc:∀ c ∈ qR fl l,okI c∨c=⟨true,0,[]⟩:=DK fl l Hl.out.2 (by rw [← Hll.out];exact Nat.le_refl _)
     have HOKc:=hid hOKc
     obtain ⟨a8,c8,rfl,hlies⟩:=RS hown (KG fl l) (fun c hc=>(Yu (HOKc.out c hc)).1)
     have Hlies:=hid hlies
     have Hbxr:=hid (xP Hbx3.out hB hs3)
     have hbx:=Hbxr.out
     obtain ⟨x0,x1,x2,x3,x4,x5,x6⟩:=hbx
     have Hwr:=hid (Hw3.out.later hg33 hB)
     have hgr:=Nat.lt_of_lt_of_le hg33 hB.size
     have HBr:=hid (HB3.out.trans (hB.mono HB3.out.size))
     have hL60:(qR fl l).length≤60:=by rw [HLl.out];exact hfl
     have HCK:Hid (jR 0 (qR fl l)=true):=PE hL60 HOKc.out
     have HRG:Hid (∀ c ∈ qR fl l,Jh c):=fun c hc=>(Yu (HOKc.out c hc)).2.1
     have HSM:Hid (∀ c ∈ qR fl l,qt c):=fun c hc=>(Yu (HOKc.out c hc)).2.2
     have hle:=HLl.out
     rw [← hle] at *
     clear hown hlies hOKc hle hB
     generalize qR fl l=L at *
     go_wp2_with fail
     refine (SB g a8 c8 L _ hL60 HSM.out Hlies.out hgr Hwr.out).mono ?_
     rintro e w5 ⟨rfl,hb5⟩
     have HB5:=hid (HBr.out.trans (hb5.mono HBr.out.size))
     by_cases heq:xg 0 L=s
     ·have hbq:(xg 0 L == s)=true:=by simp [heq]
      have Heq:=hid heq
      clear heq x0 x1 x2 x3 x4 x5 x6
      go_wp2_with fail
      refine (jW _).mono ?_
      rintro e wN ⟨rfl,rfl⟩
      go_wp2
      go_ret
      refine ⟨HB5.out,.inr ⟨L,a8,c8,rfl,?_,Hlies.out.later hb5⟩⟩
      rw [← Heq.out]
      exact Zd 0 L HCK.out HRG.out
     ·have hbq:(xg 0 L == s)=false:=by simpa using heq
      clear x0 x1 x2 x3 x4 x5 x6
      go_wp2_with fail
      refine (qK _).mono ?_
      rintro e wN ⟨rfl,rfl⟩
      go_wp2
      refine ⟨rfl,HB5.out,.inl ⟨rfl,Jd (fun l2 h2=>?_)⟩⟩
      have e1:=HU.out l2 h2
      rw [e1] at h2
      exact heq h2.2.1
end
section
theorem Lb (g:Nat) (s:List UInt8) (w:World) (hs:s.length≤maxLen) (hg:g < w.heap.size) (hw:TxtW w g) :
  Calls Tryz.prog 131 #[txtC g,strB s] w (UW 1 s w):=by
 obtain ⟨i1,hi1,hy0,hy1,hy2⟩:=info_parts Tryz.infoCell
 have Hs:=hid hs
 have Hw:=hid hw
 clear hs hw
 go_enter Tryz.func131,Tryz.ntmps131
 go_wp2_with fail
 obtain ⟨hb0,hs0,hc0⟩:=zx w #[.slice (some ⟨g,0,none⟩) 3 3,fnV 202,fnV 203,fnV 204,fnV 205,fnV 206,fnV 207] 225
 have Hc:Hid (BoxT _ g w.heap.size):=⟨hc0 0,hc0 1,hc0 2,hc0 3,hc0 4,hc0 5,hc0 6⟩
 have Hw0:=hid (Hw.out.later hg hb0)
 have Hb0:=hid hb0
 have hs1:=Nat.lt_of_lt_of_eq (Nat.lt_succ_self w.heap.size) hs0.symm
 have hg0:=Nat.lt_of_lt_of_le hg hb0.size
 clear hc0 hb0 hs0
 generalize w.alloc _=w0 at *
 refine (RY s w0).mono ?_
 rintro e w1 ⟨rfl,hrd1,hb1⟩
 have hB1:=Hb0.out.trans (hb1.mono Hb0.out.size)
 have HB1:=hid hB1
 have hp0:w.heap.size≤w0.heap.size:=Hb0.out.size
 have hplt:=xh hrd1
 have Hbx1:=hid (qU Hc.out hb1 hs1)
 have Hw1:=hid (Hw0.out.later hg0 hb1)
 have hg1:=Nat.lt_of_lt_of_le hg0 hb1.size
 have hs11:=Nat.lt_of_lt_of_le hs1 hb1.size
 have hpne:w.heap.size≠w0.heap.size:=by omega
 have hgp:g≠w0.heap.size:=by omega
 clear hb1 hB1
 generalize hpp:w0.heap.size=p at *
 clear hpp
 go_wp2_with fail
 refine (UK p s s _ Hs.out hrd1).mono ?_
 rintro e w2 ⟨hg2,⟨rfl,hno⟩|⟨fl,r2,v6,hfl,rfl,hown6,hrd2,hu2⟩⟩
 ·go_wp2
  exact ⟨rfl,HB1.out.grown hg2 HB1.out.size (fun k hk=>by cases hk;exact hp0),.inl ⟨rfl,Jd (fun l2 h2=>(hno _ _ (xw h2).1 (xw h2).2.1))⟩⟩
 ·have Hu2:=hid hu2
  have HB2:=hid (HB1.out.grown hg2 HB1.out.size (fun k hk=>by cases hk;exact hp0))
  have Hbx2:=hid (zZ Hbx1.out hg2 hs11 hpne)
  have Hw2:=hid (Hw1.out.grown hg2 hg1 hgp)
  have hg22:=Nat.lt_of_lt_of_le hg1 hg2.size
  have hs2:=Nat.lt_of_lt_of_le hs11 hg2.size
  have hbx:=Hbx2.out
  obtain ⟨x0,x1,x2,x3,x4,x5,x6⟩:=hbx
  clear hu2 hg2 hrd1
  go_wp2_with fail
  refine (PY g p fl v6 w1.heap.size s r2 _ Hs.out hfl hrd2 hown6 hg22 Hw2.out hgp).mono ?_
  rintro e w3 ⟨hg3,⟨rfl,hno⟩|⟨l,r3,v7,hl,rfl,hown7,hrd3,hu3⟩⟩
  ·go_wp2
   refine ⟨rfl,HB2.out.grown hg3 HB2.out.size (fun k hk=>by cases hk;exact hp0),.inl ⟨rfl,Jd (fun l2 h2=>?_)⟩⟩
   obtain ⟨e1,e2⟩:=Hu2.out _ _ (xw h2).1 (xw h2).2.1
   exact hno (jh l2) [] (by rw [← e1];exact RF h2) (by rw [List.append_nil];exact e2.symm)
  ·have HU:Hid (∀ l2,RV 1 s l2→l2=qR fl l):=by
    intro l2 h2
    obtain ⟨e1,e2⟩:=Hu2.out _ _ (xw h2).1 (xw h2).2.1
    obtain ⟨e3,_⟩:=hu3 (jh l2) [] (by rw [← e1];exact RF h2) (by rw [List.append_nil];exact e2.symm)
    rw [← e1,← e3]
    exact (Vw l2 (xw h2).2.2).symm
   have HB3:=hid (HB2.out.grown hg3 HB2.out.size (fun k hk=>by cases hk;exact hp0))
   have Hbx3:=hid (zZ Hbx2.out hg3 hs2 hpne)
   have Hw3:=hid (Hw2.out.grown hg3 hg22 hgp)
   have hg33:=Nat.lt_of_lt_of_le hg22 hg3.size
   have hs3:=Nat.lt_of_lt_of_le hs2 hg3.size
   have hown63:=zw hown6 hplt hg3
   obtain ⟨a6,c6,rfl,hsh6⟩:=Zb hown63
   obtain ⟨a7,c7,rfl,hsh7⟩:=EE hown7
   have Hsh6:=hid hsh6
   have Hsh7:=hid hsh7
   have Hl:=hid hl
   have Hll:Hid (l.length=cnt fl):=hl.1
   have hcf:=Gu fl
   have hl60:l.length≤60:=by rw [Hll.out];omega
   clear hu3 hg3 hown6 hown63 hown7 hsh6 hsh7 hrd2 hrd3 x0 x1 x2 x3 x4 x5 x6 hl
   go_wp2_with (at_make;refine wpList_make_own _ rfl (.const (.int .i64 0)) (.tmp 20) 59 rfl w3.heap.size 58 i1 (.agg #[.bool false,.int .i64 0,.string ⟨#[]⟩]) 3 Tryz.underlying59 hi1 hy0 hy1 .i64 .i64 _ fl.length rfl rfl rfl (by rw [hy2];omega) (by unfold maxLen;omega) (Nat.le_refl _) ?_;intro w4 hown4 hgr4)
   have hB4:Below w3.heap.size w3 w4:=(Below.refl _ _).grown hgr4 (Nat.le_refl _) (fun _ h=>by cases h)
   clear hgr4
   go_loopw [7,8,24] (fun v7 v8 i wr=>∃ (k:Nat) (a:Option Addr) (c:Nat),k≤fl.length∧i=.int .i64 (k:Int)∧v7=.slice a (l.length - cnt (fl.take k)) c∧(cnt (fl.take k) < l.length→l.length - cnt (fl.take k)≤c∧∃ b,a7=some ⟨b,0,none⟩∧a=some ⟨b,cnt (fl.take k),none⟩)∧wr.ownsRow w3.heap.size 58 3 v8 k (jX (qR (fl.take k) l))∧Below w3.heap.size w3 wr)
    (fun _ _ i _=>fl.length - (intOf i).toNat)
   case atStart =>
    refine ⟨0,a7,c7,Nat.zero_le _,rfl,by simp [cnt],fun h=>?_,hown4,hB4⟩
    obtain ⟨h1,b,h2,_⟩:=Hsh7.out (List.ne_nil_of_length_pos (by omega))
    exact ⟨by omega,b,h2,h2⟩
   case round =>
    clear hown4 hB4
    obtain ⟨k,a,c0,hk,rfl,rfl,hsl,hown,hB⟩:=hrel
    have Hsl:=hid hsl
    clear hsl
    by_cases hlt:k < fl.length
    ·have hki:(k:Int) < (fl.length:Int):=by omega
     obtain ⟨b6,rfl,hb6,hcell6⟩:=Hsh6.out (List.ne_nil_of_length_pos (by omega))
     have hck:=(hB.cell (p:=⟨b6,k,none⟩) hb6).trans (hcell6 k hlt)
     have HST:=hid (RJ fl l k hlt)
     have HCS:=hid (Kx fl k hlt)
     have hcl:=Mb fl k hlt
     clear hcell6
     cases hb:fl[k] with
     | true =>
      rw [hb] at hck HST HCS
      clear hb hcl
      go_wp2_with (at_builtin;refine wpList_append_own _ rfl (.tmp 29) (.tmp 31) 59 rfl w3.heap.size 58 i1 (.agg #[.bool false,.int .i64 0,.string ⟨#[]⟩]) 3 32 Tryz.underlying59 hi1 hy0 hy1 hy2 rfl (by decide) _ _ _ rfl (hown.alloc _) ⟨_,0,none⟩ 1 1 [.bool true,.int .i64 0,.string ⟨#[]⟩] rfl rfl ?c1 ?c2 ?c3 ?c4 ?c5 ?_)
      case c2=>exact ⟨rfl,rfl,rfl⟩
      case c3=>unfold maxLen;omega
      case c4=>omega
      case c5=>have:=hB.size;simp;omega
      intro v3 w5 hown5 hgr5 _
      have HO5:=hid hown5
      have HB5:=hid ((hB.alloc hB.size _).grown hgr5 (by have:=hB.size;simp;omega) (fun k hk=>(hown.lt k hk).1))
      clear hown hown5 hgr5 hB hck
      go_wp2
      go_roundw
      case rel =>
       refine ⟨k+1,a,c0,by omega,by go_num,by rw [HCS.out];simp,by rw [HCS.out];simpa using Hsl.out,?_,HB5.out⟩
       rw [HST.out,JV]
       exact HO5.out
      case measure=>simp [intOf];omega
     | false =>
      have hcl2:=hcl hb
      rw [hb] at hck HST HCS
      clear hb hcl
      have hcc:cnt (fl.take k) < l.length:=by rw [Hll.out];exact hcl2
      obtain ⟨hcap,b7,ha7,rfl⟩:=Hsl.out hcc
      obtain ⟨_,b7',ha7',hb7,hcell7⟩:=Hsh7.out (List.ne_nil_of_length_pos (by omega))
      have hbb:b7'=b7:=by rw [ha7] at ha7';simpa using ha7'.symm
      subst hbb
      generalize hcg:cnt (fl.take k)=c at *
      have hv:=(hB.cell (p:=⟨b7',c,none⟩) hb7).trans (hcell7 c hcc)
      have hfn:=(hB.cell (p:=⟨w.heap.size,2,none⟩) hs3).trans Hbx3.out.2.2.1
      have hz3:=hB.size
      have HNT:Hid (xY l c=l[c]):=qD l c hcc
      generalize hmg:l.length - c=m at *
      have Hmg:=hid hmg
      have hm0:0 < m:=by omega
      have hli:(0:Int) < (m:Int):=by omega
      have hcc2:c < l.length:=hcc
      clear hmg
      have hOK:=Hl.out.2 l[c] (List.getElem_mem hcc)
      have HOK:=hid hOK
      have Ha7:=hid ha7
      have Ha7':=hid ha7'
      clear hcell7 hOK ha7 ha7'
      go_wp2_with fail
      go_region_held3 (fun w'=>w'.cell? ⟨w.heap.size,2,none⟩=some (fnV 203)∧w'.cell? ⟨b7',c,none⟩=some (strB (l[c]).text)) (first|exact ⟨jc _ k1,jc _ k2⟩|exact ⟨m1,m2⟩|exact ⟨k1,k2⟩|exact ⟨hfn,hv⟩)
       (first
        | (go_at_call 203;refine (Sz (l[c]).text _).mono ?_;rintro e w5 ⟨rfl,hb5⟩;have hb5':=ji hb5;have k1:=(hb5'.cell (p:=⟨w.heap.size,2,none⟩) (Nat.lt_of_lt_of_le hs3 hz3)).trans hfn;have k2:=(hb5'.cell (p:=⟨b7',c,none⟩) (Nat.lt_of_lt_of_le hb7 hz3)).trans hv)
        | (refine step_append_lies _ (by rfl) _ _ _ (by rfl) w3.heap.size 58 i1 _ 3 32 Tryz.underlying59 hi1 hy0 hy1 hy2 rfl (by omega) _ k (jX (qR (fl.take k) l)) (by rfl) ((jm hown hb5').alloc _) ⟨w5.heap.size,0,none⟩ 1 1 [.bool false,.int .i64 0,strB (l[c]).text] (by rfl) (by rfl) (World.news_of_block (cs:=#[.bool false,.int .i64 0,strB (l[c]).text]) (t:=58) (fr:=(0,0)) (heap_alloc_new w5 _)) (by simp [Value.oneCell']) (by omega) (by unfold maxLen;omega) (by omega) (by have:=hb5'.size;simp;omega) _ rfl ?_;intro gg cc w7 hown7 hgr7 hat7 hlt7;have m1:=zc hgr7 ((jm hown hb5').alloc _) (jc _ k1) hs3;have m2:=zc hgr7 ((jm hown hb5').alloc _) (jc _ k2) hb7))
      have HB7:=hid (((hB.trans (hb5'.mono hz3)).alloc (by have:=hb5'.size;omega) _).grown hgr7 (by have:=hb5'.size;simp;omega) (fun k hk=>((jm hown hb5').lt k hk).1))
      have HO7:=hid hown7
      have HCL:Hid (jX (qR (fl.take (k+1)) l)=jX (qR (fl.take k) l)++[.bool false,.int .i64 0,strB (l[c]).text]):=by
       show _=_
       rw [HST.out,if_neg (by decide),HNT.out,JV,HOK.out.1,HOK.out.2.1]
      have Hcg:=hid hcg
      clear m1 m2 k1 k2 hfn hv hb5 hb5' hgr7 hown7 hown hB hat7 hlt7 hcg hck
      have hq1:(1:Int)≤(m:Int):=by omega
      have hq2:(1:Int)≤(c0:Int):=by omega
      have hq3:(m:Int)≤(c0:Int):=by omega
      have hq4:1≤m:=by omega
      by_cases hc01:c0=1
      ·have hm1:m=1:=by omega
       subst hc01 hm1
       go_wp2
       go_roundw
       case rel =>
        have hmo:=Hmg.out
        refine ⟨k+1,some ⟨b7',c,none⟩,0,by omega,by go_num,?_,fun h=>?_,by rw [HCL.out];exact HO7.out,HB7.out⟩
        ·rw [HCS.out,if_neg (by decide),show l.length - (c+1)=0 by omega]
        ·rw [HCS.out,if_neg (by decide)] at h
         omega
       case measure=>simp [intOf];omega
      ·go_wp2
       go_roundw
       case rel =>
        have hmo:=Hmg.out
        refine ⟨k+1,some ⟨b7',c+1,none⟩,c0 - 1,by omega,by go_num,?_,fun h=>?_,by rw [HCL.out];exact HO7.out,HB7.out⟩
        ·rw [HCS.out,if_neg (by decide),show l.length - (c+1)=m - 1 by omega]
        ·rw [HCS.out,if_neg (by decide)] at h ⊢
         exact ⟨by omega,b7',Ha7.out,rfl⟩
       case measure=>simp [intOf];omega
    ·have hke:k=fl.length:=by omega
     subst hke
     rw [List.take_length] at hown
     have HLl:=hid (KG fl l)
     have hOKc:∀ c ∈ qR fl l,okT c∨c=⟨true,0,[]⟩:=DK fl l Hl.out.2 (by rw [← Hll.out];exact Nat.le_refl _)
     have HOKc:=hid hOKc
     obtain ⟨a8,c8,rfl,hlies⟩:=RS hown (KG fl l) (fun c hc=>(YE (HOKc.out c hc)).1)
     have Hlies:=hid hlies
     have Hbxr:=hid (qU Hbx3.out hB hs3)
     have hbx:=Hbxr.out
     obtain ⟨x0,x1,x2,x3,x4,x5,x6⟩:=hbx
     have Hwr:=hid (Hw3.out.later hg33 hB)
     have hgr:=Nat.lt_of_lt_of_le hg33 hB.size
     have HBr:=hid (HB3.out.trans (hB.mono HB3.out.size))
     have hL60:(qR fl l).length≤60:=by rw [HLl.out];exact hfl
     have HCK:Hid (jR 1 (qR fl l)=true):=TQ hL60 HOKc.out
     have HRG:Hid (∀ c ∈ qR fl l,Jh c):=fun c hc=>(YE (HOKc.out c hc)).2.1
     have HSM:Hid (∀ c ∈ qR fl l,qt c):=fun c hc=>(YE (HOKc.out c hc)).2.2
     have hle:=HLl.out
     rw [← hle] at *
     clear hown hlies hOKc hle hB
     generalize qR fl l=L at *
     go_wp2_with fail
     refine (SL g a8 c8 L _ hL60 HSM.out Hlies.out hgr Hwr.out).mono ?_
     rintro e w5 ⟨rfl,hb5⟩
     have HB5:=hid (HBr.out.trans (hb5.mono HBr.out.size))
     by_cases heq:xg 1 L=s
     ·have hbq:(xg 1 L == s)=true:=by simp [heq]
      have Heq:=hid heq
      clear heq x0 x1 x2 x3 x4 x5 x6
      go_wp2_with fail
      refine (jW _).mono ?_
      rintro e wN ⟨rfl,rfl⟩
      go_wp2
      go_ret
      refine ⟨HB5.out,.inr ⟨L,a8,c8,rfl,?_,Hlies.out.later hb5⟩⟩
      rw [← Heq.out]
      exact Zd 1 L HCK.out HRG.out
     ·have hbq:(xg 1 L == s)=false:=by simpa using heq
      clear x0 x1 x2 x3 x4 x5 x6
      go_wp2_with fail
      refine (qK _).mono ?_
      rintro e wN ⟨rfl,rfl⟩
      go_wp2
      refine ⟨rfl,HB5.out,.inl ⟨rfl,Jd (fun l2 h2=>?_)⟩⟩
      have e1:=HU.out l2 h2
      rw [e1] at h2
      exact heq h2.2.1
end
section
def PJ:Prop:=∀ (kind:Int) (a:Option Addr) (cap:Nat) (l:List CellB) (w:World),-9223372036854775808≤kind→kind≤9223372036854775807→l.length*32≤140737488351232→l.length≤cap→Lies w a l →
 Calls Tryz.prog 23 #[.int .i64 kind,.slice a l.length cap] w fun e w'=>e=.returned (.tuple #[strB (RW kind l),.int .i64 (Rr kind l)])∧Below w.heap.size w w'
theorem Yb {a b:List UInt8} {c d:Int} (h:a=b) (h2:c=d):Ending.returned (.tuple #[strB a,.int .i64 c])=.returned (.tuple #[strB b,.int .i64 d]):=by rw [h,h2]
theorem Ce:PJ:=by
 intro kind a cap l w h0 h1 hm hc hl
 have Hl:=hid hl
 clear hl
 cases hk:(decide (kind=0) || decide (kind=1)) with
 | false =>
  have HN:Hid (jR kind l=false):=by simp [Hid,jR,hk]
  have Hk:=hid hk
  clear hk
  go_enter Tryz.func23,Tryz.ntmps23
  go_wp2_with fail
  refine (Zy kind w).mono ?_
  rintro e w1 ⟨rfl,rfl⟩
  rw [Hk.out]
  go_wp2
  go_ret2
  exact ⟨Yb (by simp [RW,HN.out]) (by simp [Rr,HN.out]),Below.refl _ _⟩
 | true =>
  have hk2:kind=0∨kind=1:=by simpa using hk
  have Hk2:=hid hk2
  have Hk:=hid hk
  clear hk hk2
  have HN:Hid (jR kind l=(decide (l.length≤60) && l.all (qM kind))):=by
   have:=Hk.out
   simp only [Hid,jR]
   rw [this];simp
  cases hok:(decide (l.length≤60) && l.all (qM kind)) with
  | false =>
   have Hok:=hid hok
   clear hok
   go_enter Tryz.func23,Tryz.ntmps23
   go_wp2_with fail
   refine (Zy kind w).mono ?_
   rintro e w1 ⟨rfl,rfl⟩
   rw [Hk.out]
   go_wp2_with fail
   refine (ZN kind a cap l _ (by omega) Hl.out).mono ?_
   rintro e w2 ⟨rfl,hb2⟩
   rw [Hok.out]
   go_wp2
   go_ret2
   exact ⟨Yb (by simp [RW,HN.out,Hok.out]) (by simp [Rr,HN.out,Hok.out]),hb2⟩
  | true =>
   have Hok:=hid hok
   clear hok
   have HOK:Hid (jR kind l=true):=by
    show jR kind l=true
    rw [HN.out];exact Hok.out
   have HS:=hid (PA HOK.out Hl.out.ok)
   go_enter Tryz.func23,Tryz.ntmps23
   go_wp2_with fail
   refine (Zy kind w).mono ?_
   rintro e w1 ⟨rfl,rfl⟩
   rw [Hk.out]
   go_wp2_with fail
   refine (ZN kind a cap l _ (by omega) Hl.out).mono ?_
   rintro e w2 ⟨rfl,hb2⟩
   rw [Hok.out]
   go_wp2_with fail
   refine (Ry kind a cap l _ Hk2.out HS.out.2 HS.out.1 (Hl.out.later hb2)).mono ?_
   rintro e w3 ⟨rfl,hb3⟩
   go_wp2
   go_ret2
   exact ⟨Yb (by simp [RW,HOK.out]) (by simp [Rr,HOK.out]),hb2.trans (hb3.mono hb2.size)⟩
end
section
theorem Kc (p:Addr) (b:Bool) (u:TypeId) (pv:Value) (older:List PanicEntry) (w:World) (hc:w.cell? p=some (.bool b)) (hz:w.frozen? p=false) :
  CallsD Tryz.prog 129 #[.pointer (some p)] (.panicking ({ v:=.iface u pv,recovered:=false } :: older)) w fun e u' w' =>
   e=.returned (.tuple #[])∧u'=.panicking ({ v:=.iface u pv,recovered:=true } :: older)∧w'=w.setCell p (.bool false):=by
 refine callsD_of_wpS Tryz.func129 rfl fun c₀ cs hu=>?_
 apply wpS_region
 simp [wpOpsS,go_sem,recoverD,hu,Tryz.ntmps129,Exit.thenS,hc,hz,bodyPostS,results,Tryz.results129]
theorem NL (p:Addr) (b:Bool) (w:World) (hc:w.cell? p=some (.bool b)) (hz:w.frozen? p=false) :
  CallsD Tryz.prog 129 #[.pointer (some p)] .returning w fun e u' w'=>e=.returned (.tuple #[])∧u'=.returning∧w'=w.setCell p (.bool true):=by
 refine callsD_of_wpS Tryz.func129 rfl fun c₀ cs hu=>?_
 apply wpS_region
 simp [wpOpsS,go_sem,recoverD,hu,Tryz.ntmps129,Exit.thenS,hc,hz,bodyPostS,results,Tryz.results129]
 cases c₀
 simp_all
theorem Nc (kind:Int) (s:List UInt8) (w:World) (hk:kind=0∨kind=1) (hs:s.length≤maxLen) :
  Calls Tryz.prog 70 #[.int .i64 kind,strB s] w (UW kind s w):=by
 have Hs:=hid hs
 clear hs
 rcases hk with rfl|rfl
 ·go_enter Tryz.func70,Tryz.ntmps70
  go_wp2_with fail
  refine (VT w).mono ?_
  rintro e w1 ⟨g,rfl,hg,hw,hb1⟩
  have Hw:=hid hw
  clear hw
  go_wp2_with fail
  refine (SY g s _ Hs.out hg Hw.out).mono ?_
  rintro e w2 ⟨hb2,⟨rfl,hn⟩|⟨l,a,cap,rfl,hu,hl⟩⟩
  ·go_wp2
   exact ⟨rfl,hb1.trans (hb2.mono hb1.size),.inl ⟨rfl,hn⟩⟩
  ·have Hu:=hid hu
   clear hu
   go_wp2
   go_ret
   exact ⟨hb1.trans (hb2.mono hb1.size),.inr ⟨l,a,cap,rfl,Hu.out,hl⟩⟩
 ·go_enter Tryz.func70,Tryz.ntmps70
  go_wp2_with fail
  refine (RH w).mono ?_
  rintro e w1 ⟨g,rfl,hg,hw,hb1⟩
  have Hw:=hid hw
  clear hw
  go_wp2_with fail
  refine (Lb g s _ Hs.out hg Hw.out).mono ?_
  rintro e w2 ⟨hb2,⟨rfl,hn⟩|⟨l,a,cap,rfl,hu,hl⟩⟩
  ·go_wp2
   exact ⟨rfl,hb1.trans (hb2.mono hb1.size),.inl ⟨rfl,hn⟩⟩
  ·have Hu:=hid hu
   clear hu
   go_wp2
   go_ret
   exact ⟨hb1.trans (hb2.mono hb1.size),.inr ⟨l,a,cap,rfl,Hu.out,hl⟩⟩
theorem Ml (kind:Int) (s:List UInt8) (B1 B2:Nat) (w:World) (hk:kind=0∨kind=1) (hs:s.length≤maxLen) (h1:w.cell? ⟨B1,0,none⟩=some (.int .i64 kind)) (h2:w.cell? ⟨B2,0,none⟩=some (strB s)) :
  Calls Tryz.prog 69 #[.pointer (some ⟨B1,0,none⟩),.pointer (some ⟨B2,0,none⟩)] w (UW kind s w):=by
 have Hs:=hid hs
 have Hk:=hid hk
 clear hs hk
 go_enter Tryz.func69,Tryz.ntmps69
 go_wp2_with fail
 refine (Nc kind s _ Hk.out Hs.out).mono ?_
 rintro e w2 ⟨hb2,⟨rfl,hn⟩|⟨l,a,cap,rfl,hu,hl⟩⟩
 ·go_wp2
  exact ⟨rfl,hb2,.inl ⟨rfl,hn⟩⟩
 ·have Hu:=hid hu
  clear hu
  go_wp2
  go_ret
  exact ⟨hb2,.inr ⟨l,a,cap,rfl,Hu.out,hl⟩⟩
theorem Ew {w:World} {a:Option Addr} {l:List CellB} {B:Nat} {x:Value} {t:TypeId} (h:Lies w a l) (hb:w.heap[B]?=some (.cells #[x] t (0,0))) (v:Value):Lies (w.setCell ⟨B,0,none⟩ v) a l:=by
 refine ⟨h.ok,fun hne=>?_⟩
 obtain ⟨b,off,ha,hlt,hc⟩:=h.at_ hne
 have hne2:b≠B:=by
  rintro rfl
  obtain ⟨_,h2,_⟩:=hc 0 (List.length_pos_iff.2 hne)
  rw [cell_of_row w b _ #[x] t (0,0) hb] at h2
  simp at h2
 have k:∀ j,(w.setCell ⟨B,0,none⟩ v).cell? ⟨b,j,none⟩=w.cell? ⟨b,j,none⟩:=fun j=>World.cell?_of_block (heap_setCell_other w ⟨B,0,none⟩ b v (fun e=>hne2 e))
 refine ⟨b,off,ha,by simpa using hlt,fun j hj=>?_⟩
 obtain ⟨h1,h2,h3⟩:=hc j hj
 exact ⟨(k _).trans h1,(k _).trans h2,(k _).trans h3⟩
theorem YX (kind:Int) (s:List UInt8) (B1 B2:Nat) (w:World) (hk:kind=0∨kind=1) (hs:s.length≤maxLen) (h1:w.cell? ⟨B1,0,none⟩=some (.int .i64 kind)) (h2:w.cell? ⟨B2,0,none⟩=some (strB s)) :
  Calls Tryz.prog 68 #[.func (.func 69) #[] #[.pointer (some ⟨B1,0,none⟩),.pointer (some ⟨B2,0,none⟩)]] w fun e w'=>Below w.heap.size w w' ∧
   ((xf kind s=none∧e=.returned (.tuple #[.slice none 0 0,.bool false]))∨∃ l a cap,xf kind s=some l∧e=.returned (.tuple #[.slice a l.length cap,.bool true])∧Lies w' a l):=by
 have hmf:∀ (fn:Fn) (first cap:Array Value) (w:World),(Instr.makeFunc fn first cap).run Tryz.prog w=.ok (.func fn first cap) w:=fun _ _ _ _=>rfl
 have Hs:=hid hs
 have Hk:=hid hk
 have H1:=hid h1
 have H2:=hid h2
 clear hs hk h1 h2
 go_enter_defers Tryz.func68,Tryz.ntmps68
 go_wp2_with fail
 have hb0:Below w.heap.size w (w.alloc (Obj.cells #[Value.bool false] 4)):=(Below.refl _ _).alloc (Nat.le_refl _) _
 refine (Ml kind s B1 B2 _ Hk.out Hs.out (jc _ H1.out) (jc _ H2.out)).mono ?_
 rintro e w2 ⟨hb2,ho⟩
 have hc2:w2.cell? ⟨w.heap.size,0,none⟩=some (.bool false):=(hb2.cell (p:=⟨w.heap.size,0,none⟩) (by show w.heap.size < (w.alloc _).heap.size;simp)).trans (World.cell?_alloc_mark ..)
 have hz2:w2.frozen? ⟨w.heap.size,0,none⟩=false:=(hb2.frozen (p:=⟨w.heap.size,0,none⟩) (by show w.heap.size < (w.alloc _).heap.size;simp)).trans (World.frozen?_alloc_at _ _ _ _ rfl)
 have HB2:=hid (hb0.trans (hb2.mono hb0.size))
 have Hblk:Hid (w2.heap[w.heap.size]?=some (.cells #[.bool false] 4 (0,0))):=(hb2.block w.heap.size (by simp)).trans (heap_alloc_new w _)
 have hlt2:w.heap.size < w2.heap.size:=World.block_lt_of_cell? w2 _ hc2
 rcases ho with ⟨rfl,hn⟩|⟨l,a,cap,rfl,hu,hl⟩
 ·have Hn:=hid hn
  clear hn hb2 hb0
  go_wp2
  refine leaves_cons (f:=129) (args:=#[.pointer (some ⟨w.heap.size,0,none⟩)]) (by simp) (by simp [go_sem]) ?_
  refine (Kc ⟨w.heap.size,0,none⟩ false 9 _ [] _ hc2 hz2).mono ?_
  rintro e u' w'' ⟨rfl,rfl,rfl⟩
  have hW:=World.cell?_setCell_same w2 ⟨w.heap.size,0,none⟩ (.bool false) hc2
  have HBW:=hid (HB2.out.setCell (p:=⟨w.heap.size,0,none⟩) (Nat.le_refl _) (.bool false))
  generalize w2.setCell _ _=W at *
  simp [Leaves,settle,results,Tryz.results68,go_sem,hW]
  exact ⟨HBW.out,Hn.out⟩
 ·have Hu:=hid hu
  have Hl:=hid hl
  clear hu hl hb2 hb0
  go_wp2
  refine leaves_cons (f:=129) (args:=#[.pointer (some ⟨w.heap.size,0,none⟩)]) (by simp) (by simp [go_sem]) ?_
  refine (NL ⟨w.heap.size,0,none⟩ true _ ?_ ?_).mono ?_
  ·exact World.cell?_setCell_same w2 ⟨w.heap.size,0,none⟩ (.bool true) hc2
  ·simp [hz2]
  rintro e u' w'' ⟨rfl,rfl,rfl⟩
  have hW1:=World.cell?_setCell_same w2 ⟨w.heap.size,0,none⟩ (.bool true) hc2
  have hW:=World.cell?_setCell_same _ ⟨w.heap.size,0,none⟩ (.bool true) hW1
  have HBW:=hid ((HB2.out.setCell (p:=⟨w.heap.size,0,none⟩) (Nat.le_refl _) (.bool true)).setCell (p:=⟨w.heap.size,0,none⟩) (Nat.le_refl _) (.bool true))
  have hk2:(w2.setCell ⟨w.heap.size,0,none⟩ (.bool true)).heap[w.heap.size]?=some (.cells #[.bool true] 4 (0,0)):=by
   rw [heap_setCell_same w2 w.heap.size 0 _ 4 (.bool true) Hblk.out]
   rfl
  have HLW:=hid (Ew (Ew Hl.out Hblk.out (.bool true)) hk2 (.bool true))
  clear hW1 hk2
  generalize (w2.setCell _ _).setCell _ _=W at *
  simp [Leaves,settle,results,Tryz.results68,go_sem,hW]
  exact ⟨HBW.out,l,Hu.out,a,⟨rfl,rfl⟩,HLW.out⟩
theorem VJ:Do:=by
 intro kind page w h0 h1 hs
 obtain ⟨⟨pl⟩⟩:=page
 have hs':pl.length≤maxLen:=by simpa [ByteArray.size] using hs
 show Calls Tryz.prog 24 #[.int .i64 kind,strB pl] w fun e w'=>∃ v,e=.returned (.tuple #[v,.int .i64 (LB (xf kind pl))])∧DG w' v (xf kind pl)∧Below w.heap.size w w'
 generalize pl=s at *
 have hmf:∀ (fn:Fn) (first cap:Array Value) (w:World),(Instr.makeFunc fn first cap).run Tryz.prog w=.ok (.func fn first cap) w:=fun _ _ _ _=>rfl
 have Hs:=hid hs'
 clear hs hs'
 cases hk:(decide (kind=0) || decide (kind=1)) with
 | false =>
  have Hk:=hid hk
  have HN:Hid (xf kind s=none):=Jd (fun l2 h2=>by
   have:=h2.1
   unfold jR at this
   rw [hk] at this
   simp at this)
  clear hk
  go_enter Tryz.func24,Tryz.ntmps24
  go_wp2_with fail
  refine (Zy kind _).mono ?_
  rintro e w1 ⟨rfl,rfl⟩
  rw [Hk.out]
  go_wp2
  go_ret2
  refine ⟨.slice none 0 0,?_,?_,((Below.refl _ _).alloc (Nat.le_refl _) _).alloc (by simp) _⟩
  ·rw [HN.out];rfl
  ·rw [HN.out];exact ⟨none,0,rfl⟩
 | true =>
  have hk2:kind=0∨kind=1:=by simpa using hk
  have Hk2:=hid hk2
  have Hk:=hid hk
  clear hk hk2
  have HB0:=hid (((Below.refl w.heap.size w).alloc (Nat.le_refl _) (Obj.cells #[.int .i64 kind] 3)).alloc (by simp) (Obj.cells #[strB s] 9))
  have HC1:Hid (((w.alloc (Obj.cells #[.int .i64 kind] 3)).alloc (Obj.cells #[strB s] 9)).cell? ⟨w.heap.size,0,none⟩=some (.int .i64 kind)):=jc _ (World.cell?_alloc_mark ..)
  have HC2:Hid (((w.alloc (Obj.cells #[.int .i64 kind] 3)).alloc (Obj.cells #[strB s] 9)).cell? ⟨w.heap.size+1,0,none⟩=some (strB s)):=by
   have h:((w.alloc (Obj.cells #[.int .i64 kind] 3)).alloc (Obj.cells #[strB s] 9)).cell? ⟨(w.alloc (Obj.cells #[.int .i64 kind] 3)).heap.size,0,none⟩=some (strB s):=World.cell?_alloc_mark ..
   have e:(w.alloc (Obj.cells #[.int .i64 kind] 3)).heap.size=w.heap.size+1:=by simp
   rw [e] at h
   exact h
  go_enter Tryz.func24,Tryz.ntmps24
  go_wp2_with fail
  refine (Zy kind _).mono ?_
  rintro e w1 ⟨rfl,rfl⟩
  rw [Hk.out]
  go_wp2_with fail
  refine (YX kind s w.heap.size (w.heap.size+1) _ Hk2.out Hs.out HC1.out HC2.out).mono ?_
  rintro e w2 ⟨hb2,⟨hn,rfl⟩|⟨l,a,cap,hu,rfl,hl⟩⟩
  ·have HN:=hid hn
   have HB2:=hid (HB0.out.trans (hb2.mono HB0.out.size))
   clear hn hb2
   go_wp2
   go_ret2
   refine ⟨.slice none 0 0,?_,?_,HB2.out⟩
   ·rw [HN.out];rfl
   ·rw [HN.out];exact ⟨none,0,rfl⟩
  ·have HU:=hid hu
   have Hl:=hid hl
   have HB2:=hid (HB0.out.trans (hb2.mono HB0.out.size))
   clear hu hb2 hl
   go_wp2
   go_ret2
   refine ⟨.slice a l.length cap,?_,?_,HB2.out⟩
   ·rw [HU.out];rfl
   ·rw [HU.out];exact ⟨a,cap,rfl,Hl.out⟩
end
end Go.Proofs.YthhpbhpfagoapaaGreat
