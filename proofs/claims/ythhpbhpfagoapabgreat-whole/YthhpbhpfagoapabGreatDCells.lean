import Derived.Test.YthhpbhpfagoapabGreatDValuesT
import Derived.Test.YthhpbhpfagoapabGreatJAL
namespace Go.Proofs.YthhpbhpfagoapabGreat
set_option linter.unusedVariables false
set_option linter.unusedSimpArgs false
set_option maxRecDepth 100000
set_option maxHeartbeats 16000000
open Go.RowKit
theorem YK (s:List UInt8) (w:World) :
  Calls Tryz.prog 71 #[strB s] w fun e w'=>e=.returned (.pointer (some ⟨w.heap.size,0,none⟩))∧qv w' w.heap.size s s∧Below w.heap.size w w':=by
 go_enter Tryz.func71,Tryz.ntmps71
 go_wp2
 go_ret
 exact ⟨rfl,⟨0,heap_alloc_new w _,Nat.zero_le _,rfl⟩,(Below.refl _ _).alloc (Nat.le_refl _) _⟩
theorem LF (x:Int) (w:World) :
  Calls Tryz.prog 152 #[.int .i64 x] w fun e w'=>e=.returned (.agg #[.bool false,.int .i64 x,.string ⟨#[]⟩])∧Below w.heap.size w w':=by
 go_enter Tryz.func152,Tryz.ntmps152
 go_wp2
 exact bodyPost_ret (v:=.agg #[.bool false,.int .i64 x,.string ⟨#[]⟩]) (by simp [results,Tryz.results152,go_sem]) rfl ⟨rfl,(Below.refl _ _).alloc (Nat.le_refl _) _⟩
theorem Lt (x:List UInt8) (w:World) :
  Calls Tryz.prog 166 #[strB x] w fun e w'=>e=.returned (.agg #[.bool false,.int .i64 0,strB x])∧Below w.heap.size w w':=by
 go_enter Tryz.func166,Tryz.ntmps166
 go_wp2
 exact bodyPost_ret (v:=.agg #[.bool false,.int .i64 0,strB x]) (by simp [results,Tryz.results166,go_sem]) rfl ⟨rfl,(Below.refl _ _).alloc (Nat.le_refl _) _⟩
def YF (kind:Int) (s:List UInt8) (l:List CellB):Prop:=qA kind l=true∧xK kind l=s∧∀ c ∈ l,JD c
def Nd (kind:Int) (s:List UInt8) (w:World) (e:Ending) (w':World):Prop :=
 Below w.heap.size w w'∧((e=gaveUp∧JI kind s=none)∨∃ l a cap,e=.returned (.slice a l.length cap)∧JI kind s=some l∧Lies w' a l)
theorem Qo {kind:Int} {s:List UInt8} (h:∀ l2,YF kind s l2→False):JI kind s=none:=by
 cases hu:JI kind s with
 | none=>rfl
 | some l =>
  obtain ⟨h1,h2,h3⟩:=Ul hu
  exact (h l ⟨h1,h2,h3⟩).elim
theorem xO {kind:Int} {s:List UInt8} {l:List CellB} (h:YF kind s l):(l.map (·.null)).length≤60∧s=Vt (l.map (·.null))++GX kind (jm l)∧∀ c ∈ l,c.null=true→c=⟨true,0,[]⟩:=by
 obtain ⟨h1,h2,h3⟩:=h
 unfold qA at h1
 simp only [Bool.and_eq_true,Bool.or_eq_true,decide_eq_true_eq,List.all_eq_true] at h1
 refine ⟨by simpa using h1.1.2,?_,fun c hc hn=>?_⟩
 ·rw [← h2,← Sy]
  unfold xK GX
  split<;>simp_all
 ·have:=h1.2 c hc
  unfold xg at this
  rw [if_pos hn] at this
  simp at this
  obtain ⟨cn,ci,ct⟩:=c
  simp_all
theorem Yp {s:List UInt8} {l:List CellB} (h:YF 0 s l):Id (cnt (l.map (·.null))) (jm l):=by
 obtain ⟨h1,h2,h3⟩:=h
 unfold qA at h1
 simp only [Bool.and_eq_true,Bool.or_eq_true,decide_eq_true_eq,List.all_eq_true] at h1
 refine ⟨(XC l).symm,fun c hc=>?_⟩
 obtain ⟨hm,hn⟩:=List.mem_filter.1 hc
 have hf:=h1.2 c hm
 have hn':c.null=false:=by simpa using hn
 unfold xg at hf
 rw [hn',if_neg (by decide),if_pos rfl] at hf
 exact ⟨hn',by simpa using hf,(h3 c hm).1,(h3 c hm).2⟩
theorem Ym {s:List UInt8} {l:List CellB} (h:YF 1 s l):IF (cnt (l.map (·.null))) (jm l):=by
 obtain ⟨h1,h2,h3⟩:=h
 unfold qA at h1
 simp only [Bool.and_eq_true,Bool.or_eq_true,decide_eq_true_eq,List.all_eq_true] at h1
 refine ⟨(XC l).symm,fun c hc=>?_⟩
 obtain ⟨hm,hn⟩:=List.mem_filter.1 hc
 have hf:=h1.2 c hm
 have hn':c.null=false:=by simpa using hn
 unfold xg at hf
 rw [hn',if_neg (by decide),if_neg (by decide)] at hf
 simp at hf
 exact ⟨hn',hf.1,hf.2⟩
theorem Ns (b:Bool) (fl:List Bool):cnt (b :: fl)=(if b=true then 0 else 1)+cnt fl:=by
 unfold cnt
 cases b<;>simp<;>omega
theorem Ys (fl:List Bool):∀ (l:List CellB) (k:Nat) (h:k < fl.length),qZ (fl.take (k+1)) l=qZ (fl.take k) l++[if fl[k]=true then ⟨true,0,[]⟩ else zp l (cnt (fl.take k))]:=by
 induction fl with
 | nil=>intro l k h;simp at h
 | cons b fl ih =>
  intro l k h
  cases k with
  | zero =>
   cases b with
   | true=>simp [qZ]
   | false=>cases l<;>simp [qZ,zp,cnt,xx]
  | succ k =>
   have h':k < fl.length:=by simpa using h
   simp only [List.take_succ_cons,List.getElem_cons_succ]
   cases b with
   | true =>
    simp only [qZ,List.cons_append]
    rw [ih l k h',Ns]
    simp
   | false =>
    cases l with
    | nil =>
     simp only [qZ,List.cons_append]
     rw [ih [] k h']
     simp [zp]
    | cons d l =>
     simp only [qZ,List.cons_append]
     rw [ih l k h',Ns]
     simp [zp,Nat.add_comm 1]
theorem Ci (fl:List Bool) (k:Nat) (h:k < fl.length):fl[k]=false→cnt (fl.take k) < cnt fl:=by
 intro hb
 have h1:cnt fl=cnt (fl.take (k+1))+cnt (fl.drop (k+1)):=by
  unfold cnt
  rw [← List.length_append,← List.filter_append,List.take_append_drop]
 have h2:=Uh fl k h
 rw [hb] at h2
 simp at h2
 omega
theorem QG (l:List CellB) (c:CellB):qz (l++[c])=qz l++[.bool c.null,.int .i64 c.int,strB c.text]:=by simp [qz]
theorem Uu (a:List Bool):∀ (v:List CellB),(qZ a v).length=a.length:=by
 induction a with
 | nil=>intro v;rfl
 | cons b a ih =>
  intro v
  cases b with
  | true=>simp [qZ,ih]
  | false=>cases v<;>simp [qZ,ih]
theorem Cy {ok:CellB→Prop} (fl:List Bool):∀ (l:List CellB),(∀ c ∈ l,ok c)→cnt fl≤l.length→∀ c ∈ qZ fl l,ok c∨c=⟨true,0,[]⟩:=by
 induction fl with
 | nil=>intro l _ _ c hc;simp [qZ] at hc
 | cons b fl ih =>
  intro l hl hn c hc
  rw [Ns] at hn
  cases b with
  | true =>
   simp only [qZ,List.mem_cons] at hc
   rcases hc with rfl|hc
   ·exact .inr rfl
   ·exact ih l hl (by simpa using hn) c hc
  | false =>
   cases l with
   | nil=>simp at hn
   | cons d l =>
    simp only [qZ,List.mem_cons] at hc
    rcases hc with rfl|hc
    ·exact .inl (hl _ (by simp))
    ·exact ih l (fun x hx=>hl x (List.mem_cons_of_mem _ hx)) (by simp at hn;omega) c hc
theorem Eo {c:CellB} (h:okI c∨c=⟨true,0,[]⟩):okC c∧JD c∧qG c:=by
 rcases h with ⟨_,h2,h3,h4⟩|rfl
 ·exact ⟨⟨h3,h4,by rw [h2];simp⟩,⟨h3,h4⟩,h3,h4,by rw [h2];simp⟩
 ·exact ⟨⟨by decide,by decide,by simp⟩,⟨by decide,by decide⟩,by decide,by decide,by simp⟩
theorem Ez {c:CellB} (h:okT c∨c=⟨true,0,[]⟩):okC c∧JD c∧qG c:=by
 rcases h with ⟨_,h2,h3⟩|rfl
 ·exact ⟨⟨by rw [h2];decide,by rw [h2];decide,by unfold maxLen;omega⟩,⟨by rw [h2];decide,by rw [h2];decide⟩,by rw [h2];decide,by rw [h2];decide,h3⟩
 ·exact ⟨⟨by decide,by decide,by simp⟩,⟨by decide,by decide⟩,by decide,by decide,by simp⟩
theorem SM {l:List CellB} (hn:l.length≤60) (h:∀ c ∈ l,okI c∨c=⟨true,0,[]⟩):qA 0 l=true:=by
 unfold qA
 simp only [Bool.and_eq_true,Bool.or_eq_true,decide_eq_true_eq,List.all_eq_true]
 refine ⟨⟨.inl trivial,hn⟩,fun c hc=>?_⟩
 rcases h c hc with ⟨h1,h2,_⟩|rfl
 ·simp [xg,h1,h2]
 ·rfl
theorem PQ {l:List CellB} (hn:l.length≤60) (h:∀ c ∈ l,okT c∨c=⟨true,0,[]⟩):qA 1 l=true:=by
 unfold qA
 simp only [Bool.and_eq_true,Bool.or_eq_true,decide_eq_true_eq,List.all_eq_true]
 refine ⟨⟨.inr trivial,hn⟩,fun c hc=>?_⟩
 rcases h c hc with ⟨h1,h2,h3⟩|rfl
 ·simp [xg,h1,h2,h3]
 ·rfl
theorem YI {w:World} {base n:Nat} {v:Value} {L:List CellB} (h:w.ownsRow base 34 3 v n (qz L)) (hn:L.length=n) (hok:∀ c ∈ L,okC c):∃ a cap,v=.slice a n cap∧Lies w a L:=by
 rcases h.2 with ⟨rfl,h0⟩|⟨g,cap,cur,rfl,_⟩
 ·exact ⟨none,0,by rw [h0],hok,fun hne=>absurd (List.eq_nil_of_length_eq_zero (by omega)) hne⟩
 ·refine ⟨_,cap,rfl,hok,fun _=>⟨g,0,rfl,(h.lt g rfl).2,fun j hj=>?_⟩⟩
  obtain ⟨h1,h2,h3⟩:=VM L j hj
  simp only [Nat.zero_add]
  exact ⟨by rw [h.cellAt (j*3) (by omega)];exact h1,by rw [h.cellAt (j*3+1) (by omega)];exact h2,by rw [h.cellAt (j*3+2) (by omega)];exact h3⟩
theorem MO {w:World} {base:Nat} {v:Value} {l:List CellB} (h:w.ownsRow base 3 1 v l.length (QY l)):∃ a cap,v=.slice a l.length cap∧(l≠[]→l.length≤cap∧∃ b,a=some ⟨b,0,none⟩∧b < w.heap.size∧∀ j (h:j < l.length),w.cell? ⟨b,j,none⟩=some (.int .i64 (l[j]).int)):=by
 rcases h.2 with ⟨rfl,h0⟩|⟨g,cap,cur,rfl,_,_,hcap,_⟩
 ·exact ⟨none,0,by rw [h0],fun hne=>absurd (List.eq_nil_of_length_eq_zero h0) hne⟩
 ·refine ⟨_,cap,rfl,fun _=>⟨hcap,g,rfl,(h.lt g rfl).2,fun j hj=>?_⟩⟩
  rw [h.cellAt j (by omega)]
  simp [QY,hj]
theorem Ak {w:World} {base:Nat} {v:Value} {l:List CellB} (h:w.ownsRow base 9 1 v l.length (JB l)):∃ a cap,v=.slice a l.length cap∧(l≠[]→l.length≤cap∧∃ b,a=some ⟨b,0,none⟩∧b < w.heap.size∧∀ j (h:j < l.length),w.cell? ⟨b,j,none⟩=some (strB (l[j]).text)):=by
 rcases h.2 with ⟨rfl,h0⟩|⟨g,cap,cur,rfl,_,_,hcap,_⟩
 ·exact ⟨none,0,by rw [h0],fun hne=>absurd (List.eq_nil_of_length_eq_zero h0) hne⟩
 ·refine ⟨_,cap,rfl,fun _=>⟨hcap,g,rfl,(h.lt g rfl).2,fun j hj=>?_⟩⟩
  rw [h.cellAt j (by omega)]
  simp [JB,zl,Zi,hj]
theorem Bp (g:Nat) (s:List UInt8) (w:World) (hs:s.length≤maxLen) (hg:g < w.heap.size) (hw:NumW w g) :
  Calls Tryz.prog 143 #[numC g,strB s] w (Nd 0 s w):=by
 obtain ⟨i1,hi1,hy0,hy1,hy2⟩:=info_parts Tryz.infoCell
 have Hs:=hid hs
 have Hw:=hid hw
 clear hs hw
 go_enter Tryz.func143,Tryz.ntmps143
 go_wp2_with fail
 obtain ⟨hb0,hs0,hc0⟩:=Ja w #[.slice (some ⟨g,0,none⟩) 3 3,fnV 151,fnV 152,fnV 153,fnV 154,fnV 155,fnV 156] 205
 have Hc:Hid (BoxI _ g w.heap.size):=⟨hc0 0,hc0 1,hc0 2,hc0 3,hc0 4,hc0 5,hc0 6⟩
 have Hw0:=hid (Hw.out.later hg hb0)
 have Hb0:=hid hb0
 have hs1:=Nat.lt_of_lt_of_eq (Nat.lt_succ_self w.heap.size) hs0.symm
 have hg0:=Nat.lt_of_lt_of_le hg hb0.size
 clear hc0 hb0 hs0
 generalize w.alloc _=w0 at *
 refine (YK s w0).mono ?_
 rintro e w1 ⟨rfl,hrd1,hb1⟩
 have hB1:=Hb0.out.trans (hb1.mono Hb0.out.size)
 have HB1:=hid hB1
 have hp0:w.heap.size≤w0.heap.size:=Hb0.out.size
 have hplt:=xD hrd1
 have Hbx1:=hid (zh Hc.out hb1 hs1)
 have Hw1:=hid (Hw0.out.later hg0 hb1)
 have hg1:=Nat.lt_of_lt_of_le hg0 hb1.size
 have hs11:=Nat.lt_of_lt_of_le hs1 hb1.size
 have hpne:w.heap.size≠w0.heap.size:=by omega
 have hgp:g≠w0.heap.size:=by omega
 clear hb1 hB1
 generalize hpp:w0.heap.size=p at *
 clear hpp
 go_wp2_with fail
 refine (VD p s s _ Hs.out hrd1).mono ?_
 rintro e w2 ⟨hg2,⟨rfl,hno⟩|⟨fl,r2,v6,hfl,rfl,hown6,hrd2,hu2⟩⟩
 ·go_wp2
  exact ⟨rfl,HB1.out.grown hg2 HB1.out.size (fun k hk=>by cases hk;exact hp0),.inl ⟨rfl,Qo (fun l2 h2=>(hno _ _ (xO h2).1 (xO h2).2.1))⟩⟩
 ·have Hu2:=hid hu2
  have HB2:=hid (HB1.out.grown hg2 HB1.out.size (fun k hk=>by cases hk;exact hp0))
  have Hbx2:=hid (QT Hbx1.out hg2 hs11 hpne)
  have Hw2:=hid (Hw1.out.grown hg2 hg1 hgp)
  have hg22:=Nat.lt_of_lt_of_le hg1 hg2.size
  have hs2:=Nat.lt_of_lt_of_le hs11 hg2.size
  have hbx:=Hbx2.out
  obtain ⟨x0,x1,x2,x3,x4,x5,x6⟩:=hbx
  clear hu2 hg2 hrd1
  go_wp2_with fail
  refine (Lf g p fl v6 w1.heap.size s r2 _ Hs.out hfl hrd2 hown6 hg22 Hw2.out hgp).mono ?_
  rintro e w3 ⟨hg3,⟨rfl,hno⟩|⟨l,r3,v7,hl,rfl,hown7,hrd3,hu3⟩⟩
  ·go_wp2
   refine ⟨rfl,HB2.out.grown hg3 HB2.out.size (fun k hk=>by cases hk;exact hp0),.inl ⟨rfl,Qo (fun l2 h2=>?_)⟩⟩
   obtain ⟨e1,e2⟩:=Hu2.out _ _ (xO h2).1 (xO h2).2.1
   exact hno (jm l2) [] (by rw [← e1];exact Yp h2) (by rw [List.append_nil];exact e2.symm)
  ·have HU:Hid (∀ l2,YF 0 s l2→l2=qZ fl l):=by
    intro l2 h2
    obtain ⟨e1,e2⟩:=Hu2.out _ _ (xO h2).1 (xO h2).2.1
    obtain ⟨e3,_⟩:=hu3 (jm l2) [] (by rw [← e1];exact Yp h2) (by rw [List.append_nil];exact e2.symm)
    rw [← e1,← e3]
    exact (Gf l2 (xO h2).2.2).symm
   have HB3:=hid (HB2.out.grown hg3 HB2.out.size (fun k hk=>by cases hk;exact hp0))
   have Hbx3:=hid (QT Hbx2.out hg3 hs2 hpne)
   have Hw3:=hid (Hw2.out.grown hg3 hg22 hgp)
   have hg33:=Nat.lt_of_lt_of_le hg22 hg3.size
   have hs3:=Nat.lt_of_lt_of_le hs2 hg3.size
   have hown63:=zX hown6 hplt hg3
   obtain ⟨a6,c6,rfl,hsh6⟩:=Zv hown63
   obtain ⟨a7,c7,rfl,hsh7⟩:=MO hown7
   have Hsh6:=hid hsh6
   have Hsh7:=hid hsh7
   have Hl:=hid hl
   have Hll:Hid (l.length=cnt fl):=hl.1
   have hcf:=Nf fl
   have hl60:l.length≤60:=by rw [Hll.out];omega
   clear hu3 hg3 hown6 hown63 hown7 hsh6 hsh7 hrd2 hrd3 x0 x1 x2 x3 x4 x5 x6 hl
   go_wp2_with (at_make;refine wpList_make_own _ rfl (.const (.int .i64 0)) (.tmp 20) 29 rfl w3.heap.size 34 i1 (.agg #[.bool false,.int .i64 0,.string ⟨#[]⟩]) 3 Tryz.underlying29 hi1 hy0 hy1 .i64 .i64 _ fl.length rfl rfl rfl (by rw [hy2];omega) (by unfold maxLen;omega) (Nat.le_refl _) ?_;intro w4 hown4 hgr4)
   have hB4:Below w3.heap.size w3 w4:=(Below.refl _ _).grown hgr4 (Nat.le_refl _) (fun _ h=>by cases h)
   clear hgr4
   go_loopw [7,8,24] (fun v7 v8 i wr=>∃ (k:Nat) (a:Option Addr) (c:Nat),k≤fl.length∧i=.int .i64 (k:Int)∧v7=.slice a (l.length - cnt (fl.take k)) c∧(cnt (fl.take k) < l.length→l.length - cnt (fl.take k)≤c∧∃ b,a7=some ⟨b,0,none⟩∧a=some ⟨b,cnt (fl.take k),none⟩)∧wr.ownsRow w3.heap.size 34 3 v8 k (qz (qZ (fl.take k) l))∧Below w3.heap.size w3 wr)
    (fun _ _ i _=>fl.length - (intOf i).toNat)
   case atStart =>
    refine ⟨0,a7,c7,Nat.zero_le _,rfl,by simp [cnt],fun h=>?_,hown4,hB4⟩
    obtain ⟨h1,b,h2,_⟩:=Hsh7.out (List.ne_nil_of_length_pos (by omega))
    exact ⟨by omega,b,h2,h2⟩
   case round =>
    clear hown4 hB4
    obtain ⟨k,a,c0,hk,rfl,rfl,hsl,hown,hB⟩:=hrel
    have Hsl:=hid hsl
    clear hsl
    by_cases hlt:k < fl.length
    ·have hki:(k:Int) < (fl.length:Int):=by omega
     obtain ⟨b6,rfl,hb6,hcell6⟩:=Hsh6.out (List.ne_nil_of_length_pos (by omega))
     have hck:=(hB.cell (p:=⟨b6,k,none⟩) hb6).trans (hcell6 k hlt)
     have HST:=hid (Ys fl l k hlt)
     have HCS:=hid (Uh fl k hlt)
     have hcl:=Ci fl k hlt
     clear hcell6
     cases hb:fl[k] with
     | true =>
      rw [hb] at hck HST HCS
      clear hb hcl
      go_wp2_with (at_builtin;refine wpList_append_own _ rfl (.tmp 29) (.tmp 31) 29 rfl w3.heap.size 34 i1 (.agg #[.bool false,.int .i64 0,.string ⟨#[]⟩]) 3 32 Tryz.underlying29 hi1 hy0 hy1 hy2 rfl (by decide) _ _ _ rfl (hown.alloc _) ⟨_,0,none⟩ 1 1 [.bool true,.int .i64 0,.string ⟨#[]⟩] rfl rfl ?c1 ?c2 ?c3 ?c4 ?c5 ?_)
      case c2=>exact ⟨rfl,rfl,rfl⟩
      case c3=>unfold maxLen;omega
      case c4=>omega
      case c5=>have:=hB.size;simp;omega
      intro v3 w5 hown5 hgr5 _
      have HO5:=hid hown5
      have HB5:=hid ((hB.alloc hB.size _).grown hgr5 (by have:=hB.size;simp;omega) (fun k hk=>(hown.lt k hk).1))
      clear hown hown5 hgr5 hB hck
      go_wp2
      go_roundw
      case rel =>
       refine ⟨k+1,a,c0,by omega,by go_num,by rw [HCS.out];simp,by rw [HCS.out];simpa using Hsl.out,?_,HB5.out⟩
       rw [HST.out,QG]
       exact HO5.out
      case measure=>simp [intOf];omega
     | false =>
      have hcl2:=hcl hb
      rw [hb] at hck HST HCS
      clear hb hcl
      have hcc:cnt (fl.take k) < l.length:=by rw [Hll.out];exact hcl2
      obtain ⟨hcap,b7,ha7,rfl⟩:=Hsl.out hcc
      obtain ⟨_,b7',ha7',hb7,hcell7⟩:=Hsh7.out (List.ne_nil_of_length_pos (by omega))
      have hbb:b7'=b7:=by rw [ha7] at ha7';simpa using ha7'.symm
      subst hbb
      generalize hcg:cnt (fl.take k)=c at *
      have hv:=(hB.cell (p:=⟨b7',c,none⟩) hb7).trans (hcell7 c hcc)
      have hfn:=(hB.cell (p:=⟨w.heap.size,2,none⟩) hs3).trans Hbx3.out.2.2.1
      have hz3:=hB.size
      have HNT:Hid (zp l c=l[c]):=qK l c hcc
      generalize hmg:l.length - c=m at *
      have Hmg:=hid hmg
      have hm0:0 < m:=by omega
      have hli:(0:Int) < (m:Int):=by omega
      have hcc2:c < l.length:=hcc
      clear hmg
      have hOK:=Hl.out.2 l[c] (List.getElem_mem hcc)
      have HOK:=hid hOK
      have Ha7:=hid ha7
      have Ha7':=hid ha7'
      clear hcell7 hOK ha7 ha7'
      go_wp2_with fail
      go_region_held3 (fun w'=>w'.cell? ⟨w.heap.size,2,none⟩=some (fnV 152)∧w'.cell? ⟨b7',c,none⟩=some (.int .i64 (l[c]).int)) (first|exact ⟨je _ k1,je _ k2⟩|exact ⟨m1,m2⟩|exact ⟨k1,k2⟩|exact ⟨hfn,hv⟩)
       (first
        | (go_at_call 152;refine (LF (l[c]).int _).mono ?_;rintro e w5 ⟨rfl,hb5⟩;have hb5':=jl hb5;have k1:=(hb5'.cell (p:=⟨w.heap.size,2,none⟩) (Nat.lt_of_lt_of_le hs3 hz3)).trans hfn;have k2:=(hb5'.cell (p:=⟨b7',c,none⟩) (Nat.lt_of_lt_of_le hb7 hz3)).trans hv)
        | (refine step_append_lies _ (by rfl) _ _ _ (by rfl) w3.heap.size 34 i1 _ 3 32 Tryz.underlying29 hi1 hy0 hy1 hy2 rfl (by omega) _ k (qz (qZ (fl.take k) l)) (by rfl) ((ju hown hb5').alloc _) ⟨w5.heap.size,0,none⟩ 1 1 [.bool false,.int .i64 (l[c]).int,.string ⟨#[]⟩] (by rfl) (by rfl) (World.news_of_block (cs:=#[.bool false,.int .i64 (l[c]).int,.string ⟨#[]⟩]) (t:=34) (fr:=(0,0)) (heap_alloc_new w5 _)) (by simp [Value.oneCell']) (by omega) (by unfold maxLen;omega) (by omega) (by have:=hb5'.size;simp;omega) _ rfl ?_;intro gg cc w7 hown7 hgr7 hat7 hlt7;have m1:=zx hgr7 ((ju hown hb5').alloc _) (je _ k1) hs3;have m2:=zx hgr7 ((ju hown hb5').alloc _) (je _ k2) hb7))
      have HB7:=hid (((hB.trans (hb5'.mono hz3)).alloc (by have:=hb5'.size;omega) _).grown hgr7 (by have:=hb5'.size;simp;omega) (fun k hk=>((ju hown hb5').lt k hk).1))
      have HO7:=hid hown7
      have HCL:Hid (qz (qZ (fl.take (k+1)) l)=qz (qZ (fl.take k) l)++[.bool false,.int .i64 (l[c]).int,.string ⟨#[]⟩]):=by
       show _=_
       rw [HST.out,if_neg (by decide),HNT.out,QG,HOK.out.1,HOK.out.2.1]
      have Hcg:=hid hcg
      clear m1 m2 k1 k2 hfn hv hb5 hb5' hgr7 hown7 hown hB hat7 hlt7 hcg hck
      have hq1:(1:Int)≤(m:Int):=by omega
      have hq2:(1:Int)≤(c0:Int):=by omega
      have hq3:(m:Int)≤(c0:Int):=by omega
      have hq4:1≤m:=by omega
      by_cases hc01:c0=1
      ·have hm1:m=1:=by omega
       subst hc01 hm1
       go_wp2
       go_roundw
       case rel =>
        have hmo:=Hmg.out
        refine ⟨k+1,some ⟨b7',c,none⟩,0,by omega,by go_num,?_,fun h=>?_,by rw [HCL.out];exact HO7.out,HB7.out⟩
        ·rw [HCS.out,if_neg (by decide),show l.length - (c+1)=0 by omega]
        ·rw [HCS.out,if_neg (by decide)] at h
         omega
       case measure=>simp [intOf];omega
      ·go_wp2
       go_roundw
       case rel =>
        have hmo:=Hmg.out
        refine ⟨k+1,some ⟨b7',c+1,none⟩,c0 - 1,by omega,by go_num,?_,fun h=>?_,by rw [HCL.out];exact HO7.out,HB7.out⟩
        ·rw [HCS.out,if_neg (by decide),show l.length - (c+1)=m - 1 by omega]
        ·rw [HCS.out,if_neg (by decide)] at h ⊢
         exact ⟨by omega,b7',Ha7.out,rfl⟩
       case measure=>simp [intOf];omega
    ·have hke:k=fl.length:=by omega
     subst hke
     rw [List.take_length] at hown
     have HLl:=hid (Uu fl l)
     have hOKc:∀ c ∈ qZ fl l,okI c∨c=⟨true,0,[]⟩:=Cy fl l Hl.out.2 (by rw [← Hll.out];exact Nat.le_refl _)
     have HOKc:=hid hOKc
     obtain ⟨a8,c8,rfl,hlies⟩:=YI hown (Uu fl l) (fun c hc=>(Eo (HOKc.out c hc)).1)
     have Hlies:=hid hlies
     have Hbxr:=hid (zh Hbx3.out hB hs3)
     have hbx:=Hbxr.out
     obtain ⟨x0,x1,x2,x3,x4,x5,x6⟩:=hbx
     have Hwr:=hid (Hw3.out.later hg33 hB)
     have hgr:=Nat.lt_of_lt_of_le hg33 hB.size
     have HBr:=hid (HB3.out.trans (hB.mono HB3.out.size))
     have hL60:(qZ fl l).length≤60:=by rw [HLl.out];exact hfl
     have HCK:Hid (qA 0 (qZ fl l)=true):=SM hL60 HOKc.out
     have HRG:Hid (∀ c ∈ qZ fl l,JD c):=fun c hc=>(Eo (HOKc.out c hc)).2.1
     have HSM:Hid (∀ c ∈ qZ fl l,qG c):=fun c hc=>(Eo (HOKc.out c hc)).2.2
     have hle:=HLl.out
     rw [← hle] at *
     clear hown hlies hOKc hle hB
     generalize qZ fl l=L at *
     go_wp2_with fail
     refine (Ba g a8 c8 L _ hL60 HSM.out Hlies.out hgr Hwr.out).mono ?_
     rintro e w5 ⟨rfl,hb5⟩
     have HB5:=hid (HBr.out.trans (hb5.mono HBr.out.size))
     by_cases heq:xK 0 L=s
     ·have hbq:(xK 0 L == s)=true:=by simp [heq]
      have Heq:=hid heq
      clear heq x0 x1 x2 x3 x4 x5 x6
      go_wp2_with fail
      refine (qe _).mono ?_
      rintro e wN ⟨rfl,rfl⟩
      go_wp2
      go_ret
      refine ⟨HB5.out,.inr ⟨L,a8,c8,rfl,?_,Hlies.out.later hb5⟩⟩
      rw [← Heq.out]
      exact KU 0 L HCK.out HRG.out
     ·have hbq:(xK 0 L == s)=false:=by simpa using heq
      clear x0 x1 x2 x3 x4 x5 x6
      go_wp2_with fail
      refine (qS _).mono ?_
      rintro e wN ⟨rfl,rfl⟩
      go_wp2
      refine ⟨rfl,HB5.out,.inl ⟨rfl,Qo (fun l2 h2=>?_)⟩⟩
      have e1:=HU.out l2 h2
      rw [e1] at h2
      exact heq h2.2.1
end Go.Proofs.YthhpbhpfagoapabGreat
