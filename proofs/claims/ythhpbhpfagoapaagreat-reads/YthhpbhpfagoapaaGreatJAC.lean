import Derived.Test.YthhpbhpfagoapaaGreatJAA
import Derived.Test.YthhpbhpfagoapaaGreatJAI
import Derived.Test.YthhpbhpfagoapaaGreatJAN
import Derived.Defers
import Derived.Recover
import Derived.Laws.Pointers
import Derived.Test.YthhpbhpfagoapaaGreatJAP
import Derived.Test.YthhpbhpfagoapaaGreatJAO
namespace Go.Proofs.YthhpbhpfagoapaaGreat
set_option linter.unusedVariables false
set_option linter.unusedSimpArgs false
set_option maxRecDepth 100000
set_option maxHeartbeats 16000000
open Go.RowKit
section
theorem RZ (s:List UInt8) (w:World) :
  Calls Tryz.prog 157 #[strB s] w fun e w'=>e=.returned (.pointer (some ⟨w.heap.size,0,none⟩))∧qz w' w.heap.size s s∧Below w.heap.size w w':=by
 go_enter Tryz.func157,Tryz.ntmps157
 go_wp2
 go_ret
 exact ⟨rfl,⟨0,heap_alloc_new w _,ah _,rfl⟩,(Below.refl _ _).alloc (ae _) _⟩
theorem Lq (x:Int) (w:World) :
  Calls Tryz.prog 188 #[.int .i64 x] w fun e w'=>e=.returned (.agg #[.bool false,.int .i64 x,.string ⟨#[]⟩])∧Below w.heap.size w w':=by
 go_enter Tryz.func188,Tryz.ntmps188
 go_wp2
 exact bodyPost_ret (v:=.agg #[.bool false,.int .i64 x,.string ⟨#[]⟩]) (by simp [results,Tryz.results188,go_sem]) rfl ⟨rfl,(Below.refl _ _).alloc (ae _) _⟩
theorem LA (x:List UInt8) (w:World) :
  Calls Tryz.prog 203 #[strB x] w fun e w'=>e=.returned (.agg #[.bool false,.int .i64 0,strB x])∧Below w.heap.size w w':=by
 go_enter Tryz.func203,Tryz.ntmps203
 go_wp2
 exact bodyPost_ret (v:=.agg #[.bool false,.int .i64 0,strB x]) (by simp [results,Tryz.results203,go_sem]) rfl ⟨rfl,(Below.refl _ _).alloc (ae _) _⟩
def Yk (kind:Int) (s:List UInt8) (l:List CellB):Prop:=qD kind l=true∧xq kind l=s∧∀ c ∈ l,Qb c
def Nm (kind:Int) (s:List UInt8) (w:World) (e:Ending) (w':World):Prop :=
 Below w.heap.size w w'∧((e=gaveUp∧xg kind s=none)∨∃ l a cap,e=.returned (.slice a l.length cap)∧xg kind s=some l∧Lies w' a l)
theorem Qu {kind:Int} {s:List UInt8} (h:∀ l2,Yk kind s l2→False):xg kind s=none:=by
 cases hu:xg kind s with
 | none=>rfl
 | some l =>
  obtain ⟨h1,h2,h3⟩:=Zg hu
  exact (h l ⟨h1,h2,h3⟩).elim
theorem xG {kind:Int} {s:List UInt8} {l:List CellB} (h:Yk kind s l):(l.map (·.null)).length≤60∧s=UV (l.map (·.null))++GX kind (je l)∧∀ c ∈ l,c.null=true→c=⟨true,0,[]⟩:=by
 obtain ⟨h1,h2,h3⟩:=h
 unfold qD at h1
 simp only [au,cj,az,bD] at h1
 refine ⟨by simpa using h1.1.2,?_,fun c hc hn=>?_⟩
 ·rw [← h2,← Pd]
  unfold xq GX
  split<;>simp_all
 ·have:=h1.2 c hc
  unfold xL at this
  rw [aw hn] at this
  simp at this
  obtain ⟨cn,ci,ct⟩:=c
  simp_all
theorem YF {s:List UInt8} {l:List CellB} (h:Yk 0 s l):EE (cnt (l.map (·.null))) (je l):=by
 obtain ⟨h1,h2,h3⟩:=h
 unfold qD at h1
 simp only [au,cj,az,bD] at h1
 refine ⟨(Xw l).symm,fun c hc=>?_⟩
 obtain ⟨hm,hn⟩:=bJ.1 hc
 have hf:=h1.2 c hm
 have hn':c.null=false:=by simpa using hn
 unfold xL at hf
 rw [hn',aj (by decide),aw rfl] at hf
 exact ⟨hn',by simpa using hf,(h3 c hm).1,(h3 c hm).2⟩
theorem Ym {s:List UInt8} {l:List CellB} (h:Yk 1 s l):IZ (cnt (l.map (·.null))) (je l):=by
 obtain ⟨h1,h2,h3⟩:=h
 unfold qD at h1
 simp only [au,cj,az,bD] at h1
 refine ⟨(Xw l).symm,fun c hc=>?_⟩
 obtain ⟨hm,hn⟩:=bJ.1 hc
 have hf:=h1.2 c hm
 have hn':c.null=false:=by simpa using hn
 unfold xL at hf
 rw [hn',aj (by decide),aj (by decide)] at hf
 simp at hf
 exact ⟨hn',hf.1,hf.2⟩
theorem Nx (b:Bool) (fl:List Bool):cnt (b :: fl)=(if b=true then 0 else 1)+cnt fl:=by
 unfold cnt
 cases b<;>simp<;>omega
theorem Yv (fl:List Bool):∀ (l:List CellB) (k:Nat) (h:k < fl.length),qn (fl.take (k+1)) l=qn (fl.take k) l++[if fl[k]=true then ⟨true,0,[]⟩ else xX l (cnt (fl.take k))]:=by
 induction fl with
 | nil=>intro l k h;simp at h
 | cons b fl ih =>
  intro l k h
  cases k with
  | zero =>
   cases b with
   | true=>simp [qn]
   | false=>cases l<;>simp [qn,xX,cnt,qG]
  | succ k =>
   have h':k < fl.length:=by simpa using h
   simp only [b8,bZ]
   cases b with
   | true =>
    simp only [qn,aK]
    rw [ih l k h',Nx]
    simp
   | false =>
    cases l with
    | nil =>
     simp only [qn,aK]
     rw [ih [] k h']
     simp [xX]
    | cons d l =>
     simp only [qn,aK]
     rw [ih l k h',Nx]
     simp [xX,Nat.add_comm 1]
theorem Mv (fl:List Bool) (k:Nat) (h:k < fl.length):fl[k]=false→cnt (fl.take k) < cnt fl:=by
 intro hb
 have h1:cnt fl=cnt (fl.take (k+1))+cnt (fl.drop (k+1)):=by
  unfold cnt
  rw [← ab,← cu,aD]
 have h2:=KL fl k h
 rw [hb] at h2
 simp at h2
 omega
theorem QM (l:List CellB) (c:CellB):jO (l++[c])=jO l++[.bool c.null,.int .i64 c.int,strB c.text]:=by simp [jO]
theorem Uk (a:List Bool):∀ (v:List CellB),(qn a v).length=a.length:=by
 induction a with
 | nil=>intro v;rfl
 | cons b a ih =>
  intro v
  cases b with
  | true=>simp [qn,ih]
  | false=>cases v<;>simp [qn,ih]
theorem Ms {ok:CellB→Prop} (fl:List Bool):∀ (l:List CellB),(∀ c ∈ l,ok c)→cnt fl≤l.length→∀ c ∈ qn fl l,ok c∨c=⟨true,0,[]⟩:=by
 induction fl with
 | nil=>intro l _ _ c hc;simp [qn] at hc
 | cons b fl ih =>
  intro l hl hn c hc
  rw [Nx] at hn
  cases b with
  | true =>
   simp only [qn,ba] at hc
   rcases hc with rfl|hc
   ·exact .inr rfl
   ·exact ih l hl (by simpa using hn) c hc
  | false =>
   cases l with
   | nil=>simp at hn
   | cons d l =>
    simp only [qn,ba] at hc
    rcases hc with rfl|hc
    ·exact .inl (hl _ (by simp))
    ·exact ih l (fun x hx=>hl x (aJ _ hx)) (by simp at hn;omega) c hc
theorem Ei {c:CellB} (h:okI c∨c=⟨true,0,[]⟩):okC c∧Qb c∧qr c:=by
 rcases h with ⟨_,h2,h3,h4⟩|rfl
 ·exact ⟨⟨h3,h4,by rw [h2];simp⟩,⟨h3,h4⟩,h3,h4,by rw [h2];simp⟩
 ·exact ⟨⟨by decide,by decide,by simp⟩,⟨by decide,by decide⟩,by decide,by decide,by simp⟩
theorem YZ {c:CellB} (h:okT c∨c=⟨true,0,[]⟩):okC c∧Qb c∧qr c:=by
 rcases h with ⟨_,h2,h3⟩|rfl
 ·exact ⟨⟨by rw [h2];decide,by rw [h2];decide,by unfold maxLen;omega⟩,⟨by rw [h2];decide,by rw [h2];decide⟩,by rw [h2];decide,by rw [h2];decide,h3⟩
 ·exact ⟨⟨by decide,by decide,by simp⟩,⟨by decide,by decide⟩,by decide,by decide,by simp⟩
theorem Sa {l:List CellB} (hn:l.length≤60) (h:∀ c ∈ l,okI c∨c=⟨true,0,[]⟩):qD 0 l=true:=by
 unfold qD
 simp only [au,cj,az,bD]
 refine ⟨⟨.inl trivial,hn⟩,fun c hc=>?_⟩
 rcases h c hc with ⟨h1,h2,_⟩|rfl
 ·simp [xL,h1,h2]
 ·rfl
theorem PE {l:List CellB} (hn:l.length≤60) (h:∀ c ∈ l,okT c∨c=⟨true,0,[]⟩):qD 1 l=true:=by
 unfold qD
 simp only [au,cj,az,bD]
 refine ⟨⟨.inr trivial,hn⟩,fun c hc=>?_⟩
 rcases h c hc with ⟨h1,h2,h3⟩|rfl
 ·simp [xL,h1,h2,h3]
 ·rfl
theorem Yy {w:World} {base n:Nat} {v:Value} {L:List CellB} (h:w.ownsRow base 58 3 v n (jO L)) (hn:L.length=n) (hok:∀ c ∈ L,okC c):∃ a cap,v=.slice a n cap∧Lies w a L:=by
 rcases h.2 with ⟨rfl,h0⟩|⟨g,cap,cur,rfl,_⟩
 ·exact ⟨none,0,by rw [h0],hok,fun hne=>absurd (ao (by omega)) hne⟩
 ·refine ⟨_,cap,rfl,hok,fun _=>⟨g,0,rfl,(h.lt g rfl).2,fun j hj=>?_⟩⟩
  obtain ⟨h1,h2,h3⟩:=KW L j hj
  simp only [bK]
  exact ⟨by rw [h.cellAt (j*3) (by omega)];exact h1,by rw [h.cellAt (j*3+1) (by omega)];exact h2,by rw [h.cellAt (j*3+2) (by omega)];exact h3⟩
theorem Dp {w:World} {base:Nat} {v:Value} {l:List CellB} (h:w.ownsRow base 3 1 v l.length (Xa l)):∃ a cap,v=.slice a l.length cap∧(l≠[]→l.length≤cap∧∃ b,a=some ⟨b,0,none⟩∧b < w.heap.size∧∀ j (h:j < l.length),w.cell? ⟨b,j,none⟩=some (.int .i64 (l[j]).int)):=by
 rcases h.2 with ⟨rfl,h0⟩|⟨g,cap,cur,rfl,_,_,hcap,_⟩
 ·exact ⟨none,0,by rw [h0],fun hne=>absurd (ao h0) hne⟩
 ·refine ⟨_,cap,rfl,fun _=>⟨hcap,g,rfl,(h.lt g rfl).2,fun j hj=>?_⟩⟩
  rw [h.cellAt j (by omega)]
  simp [Xa,hj]
theorem IP {w:World} {base:Nat} {v:Value} {l:List CellB} (h:w.ownsRow base 9 1 v l.length (JI l)):∃ a cap,v=.slice a l.length cap∧(l≠[]→l.length≤cap∧∃ b,a=some ⟨b,0,none⟩∧b < w.heap.size∧∀ j (h:j < l.length),w.cell? ⟨b,j,none⟩=some (strB (l[j]).text)):=by
 rcases h.2 with ⟨rfl,h0⟩|⟨g,cap,cur,rfl,_,_,hcap,_⟩
 ·exact ⟨none,0,by rw [h0],fun hne=>absurd (ao h0) hne⟩
 ·refine ⟨_,cap,rfl,fun _=>⟨hcap,g,rfl,(h.lt g rfl).2,fun j hj=>?_⟩⟩
  rw [h.cellAt j (by omega)]
  simp [JI,zJ,XV,hj]
theorem LP (g:Nat) (s:List UInt8) (w:World) (hs:s.length≤maxLen) (hg:g < w.heap.size) (hw:NumW w g) :
  Calls Tryz.prog 130 #[numC g,strB s] w (Nm 0 s w):=by
 obtain ⟨i1,hi1,hy0,hy1,hy2⟩:=info_parts Tryz.infoCell
 have Hs:=hid hs
 have Hw:=hid hw
 clear hs hw
 go_enter Tryz.func130,Tryz.ntmps130
 go_wp2_with fail
 obtain ⟨hb0,hs0,hc0⟩:=Jd w #[.slice (some ⟨g,0,none⟩) 3 3,fnV 187,fnV 188,fnV 189,fnV 190,fnV 191,fnV 192] 215
 have Hc:Hid (BoxI _ g w.heap.size):=⟨hc0 0,hc0 1,hc0 2,hc0 3,hc0 4,hc0 5,hc0 6⟩
 have Hw0:=hid (Hw.out.later hg hb0)
 have Hb0:=hid hb0
 have hs1:=aI (aL w.heap.size) hs0.symm
 have hg0:=aa hg hb0.size
 clear hc0 hb0 hs0
 generalize w.alloc _=w0 at *
 refine (RZ s w0).mono ?_
 rintro e w1 ⟨rfl,hrd1,hb1⟩
 have hB1:=Hb0.out.trans (hb1.mono Hb0.out.size)
 have HB1:=hid hB1
 have hp0:w.heap.size≤w0.heap.size:=Hb0.out.size
 have hplt:=xp hrd1
 have Hbx1:=hid (zp Hc.out hb1 hs1)
 have Hw1:=hid (Hw0.out.later hg0 hb1)
 have hg1:=aa hg0 hb1.size
 have hs11:=aa hs1 hb1.size
 have hpne:w.heap.size≠w0.heap.size:=by omega
 have hgp:g≠w0.heap.size:=by omega
 clear hb1 hB1
 generalize hpp:w0.heap.size=p at *
 clear hpp
 go_wp2_with fail
 refine (Vn p s s _ Hs.out hrd1).mono ?_
 rintro e w2 ⟨hg2,⟨rfl,hno⟩|⟨fl,r2,v6,hfl,rfl,hown6,hrd2,hu2⟩⟩
 ·go_wp2
  exact ⟨rfl,HB1.out.grown hg2 HB1.out.size (fun k hk=>by cases hk;exact hp0),.inl ⟨rfl,Qu (fun l2 h2=>(hno _ _ (xG h2).1 (xG h2).2.1))⟩⟩
 ·have Hu2:=hid hu2
  have HB2:=hid (HB1.out.grown hg2 HB1.out.size (fun k hk=>by cases hk;exact hp0))
  have Hbx2:=hid (Xc Hbx1.out hg2 hs11 hpne)
  have Hw2:=hid (Hw1.out.grown hg2 hg1 hgp)
  have hg22:=aa hg1 hg2.size
  have hs2:=aa hs11 hg2.size
  have hbx:=Hbx2.out
  obtain ⟨x0,x1,x2,x3,x4,x5,x6⟩:=hbx
  clear hu2 hg2 hrd1
  go_wp2_with fail
  refine (Lr g p fl v6 w1.heap.size s r2 _ Hs.out hfl hrd2 hown6 hg22 Hw2.out hgp).mono ?_
  rintro e w3 ⟨hg3,⟨rfl,hno⟩|⟨l,r3,v7,hl,rfl,hown7,hrd3,hu3⟩⟩
  ·go_wp2
   refine ⟨rfl,HB2.out.grown hg3 HB2.out.size (fun k hk=>by cases hk;exact hp0),.inl ⟨rfl,Qu (fun l2 h2=>?_)⟩⟩
   obtain ⟨e1,e2⟩:=Hu2.out _ _ (xG h2).1 (xG h2).2.1
   exact hno (je l2) [] (by rw [← e1];exact YF h2) (by rw [aB];exact e2.symm)
  ·have HU:Hid (∀ l2,Yk 0 s l2→l2=qn fl l):=by
    intro l2 h2
    obtain ⟨e1,e2⟩:=Hu2.out _ _ (xG h2).1 (xG h2).2.1
    obtain ⟨e3,_⟩:=hu3 (je l2) [] (by rw [← e1];exact YF h2) (by rw [aB];exact e2.symm)
    rw [← e1,← e3]
    exact (VI l2 (xG h2).2.2).symm
   have HB3:=hid (HB2.out.grown hg3 HB2.out.size (fun k hk=>by cases hk;exact hp0))
   have Hbx3:=hid (Xc Hbx2.out hg3 hs2 hpne)
   have Hw3:=hid (Hw2.out.grown hg3 hg22 hgp)
   have hg33:=aa hg22 hg3.size
   have hs3:=aa hs2 hg3.size
   have hown63:=qZ hown6 hplt hg3
   obtain ⟨a6,c6,rfl,hsh6⟩:=Ze hown63
   obtain ⟨a7,c7,rfl,hsh7⟩:=Dp hown7
   have Hsh6:=hid hsh6
   have Hsh7:=hid hsh7
   have Hl:=hid hl
   have Hll:Hid (l.length=cnt fl):=hl.1
   have hcf:=Nd fl
   have hl60:l.length≤60:=by rw [Hll.out];omega
   clear hu3 hg3 hown6 hown63 hown7 hsh6 hsh7 hrd2 hrd3 x0 x1 x2 x3 x4 x5 x6 hl
   go_wp2_with (at_make;refine wpList_make_own _ rfl (.const (.int .i64 0)) (.tmp 20) 59 rfl w3.heap.size 58 i1 (.agg #[.bool false,.int .i64 0,.string ⟨#[]⟩]) 3 Tryz.underlying59 hi1 hy0 hy1 .i64 .i64 _ fl.length rfl rfl rfl (by rw [hy2];omega) (by unfold maxLen;omega) (ae _) ?_;intro w4 hown4 hgr4)
   have hB4:Below w3.heap.size w3 w4:=(Below.refl _ _).grown hgr4 (ae _) (fun _ h=>by cases h)
   clear hgr4
   go_loopw [7,8,24] (fun v7 v8 i wr=>∃ (k:Nat) (a:Option Addr) (c:Nat),k≤fl.length∧i=.int .i64 (k:Int)∧v7=.slice a (l.length - cnt (fl.take k)) c∧(cnt (fl.take k) < l.length→l.length - cnt (fl.take k)≤c∧∃ b,a7=some ⟨b,0,none⟩∧a=some ⟨b,cnt (fl.take k),none⟩)∧wr.ownsRow w3.heap.size 58 3 v8 k (jO (qn (fl.take k) l))∧Below w3.heap.size w3 wr)
    (fun _ _ i _=>fl.length - (intOf i).toNat)
   case atStart =>
    refine ⟨0,a7,c7,ah _,rfl,by simp [cnt],fun h=>?_,hown4,hB4⟩
    obtain ⟨h1,b,h2,_⟩:=Hsh7.out (ai (by omega))
    exact ⟨by omega,b,h2,h2⟩
   case round =>
    clear hown4 hB4
    obtain ⟨k,a,c0,hk,rfl,rfl,hsl,hown,hB⟩:=hrel
    have Hsl:=hid hsl
    clear hsl
    by_cases hlt:k < fl.length
    ·have hki:(k:Int) < (fl.length:Int):=by omega
     obtain ⟨b6,rfl,hb6,hcell6⟩:=Hsh6.out (ai (by omega))
     have hck:=(hB.cell (p:=⟨b6,k,none⟩) hb6).trans (hcell6 k hlt)
     have HST:=hid (Yv fl l k hlt)
     have HCS:=hid (KL fl k hlt)
     have hcl:=Mv fl k hlt
     clear hcell6
     cases hb:fl[k] with
     | true =>
      rw [hb] at hck HST HCS
      clear hb hcl
      go_wp2_with (at_builtin;refine wpList_append_own _ rfl (.tmp 29) (.tmp 31) 59 rfl w3.heap.size 58 i1 (.agg #[.bool false,.int .i64 0,.string ⟨#[]⟩]) 3 32 Tryz.underlying59 hi1 hy0 hy1 hy2 rfl (by decide) _ _ _ rfl (hown.alloc _) ⟨_,0,none⟩ 1 1 [.bool true,.int .i64 0,.string ⟨#[]⟩] rfl rfl ?c1 ?c2 ?c3 ?c4 ?c5 ?_)
      case c2=>exact ⟨rfl,rfl,rfl⟩
      case c3=>unfold maxLen;omega
      case c4=>omega
      case c5=>have:=hB.size;simp;omega
      intro v3 w5 hown5 hgr5 _
      have HO5:=hid hown5
      have HB5:=hid ((hB.alloc hB.size _).grown hgr5 (by have:=hB.size;simp;omega) (fun k hk=>(hown.lt k hk).1))
      clear hown hown5 hgr5 hB hck
      go_wp2
      go_roundw
      case rel =>
       refine ⟨k+1,a,c0,by omega,by go_num,by rw [HCS.out];simp,by rw [HCS.out];simpa using Hsl.out,?_,HB5.out⟩
       rw [HST.out,QM]
       exact HO5.out
      case measure=>simp [intOf];omega
     | false =>
      have hcl2:=hcl hb
      rw [hb] at hck HST HCS
      clear hb hcl
      have hcc:cnt (fl.take k) < l.length:=by rw [Hll.out];exact hcl2
      obtain ⟨hcap,b7,ha7,rfl⟩:=Hsl.out hcc
      obtain ⟨_,b7',ha7',hb7,hcell7⟩:=Hsh7.out (ai (by omega))
      have hbb:b7'=b7:=by rw [ha7] at ha7';simpa using ha7'.symm
      subst hbb
      generalize hcg:cnt (fl.take k)=c at *
      have hv:=(hB.cell (p:=⟨b7',c,none⟩) hb7).trans (hcell7 c hcc)
      have hfn:=(hB.cell (p:=⟨w.heap.size,2,none⟩) hs3).trans Hbx3.out.2.2.1
      have hz3:=hB.size
      have HNT:Hid (xX l c=l[c]):=qg l c hcc
      generalize hmg:l.length - c=m at *
      have Hmg:=hid hmg
      have hm0:0 < m:=by omega
      have hli:(0:Int) < (m:Int):=by omega
      have hcc2:c < l.length:=hcc
      clear hmg
      have hOK:=Hl.out.2 l[c] (al hcc)
      have HOK:=hid hOK
      have Ha7:=hid ha7
      have Ha7':=hid ha7'
      clear hcell7 hOK ha7 ha7'
      go_wp2_with fail
      go_region_held3 (fun w'=>w'.cell? ⟨w.heap.size,2,none⟩=some (fnV 188)∧w'.cell? ⟨b7',c,none⟩=some (.int .i64 (l[c]).int)) (first|exact ⟨jc _ k1,jc _ k2⟩|exact ⟨m1,m2⟩|exact ⟨k1,k2⟩|exact ⟨hfn,hv⟩)
       (first
        | (go_at_call 188;refine (Lq (l[c]).int _).mono ?_;rintro e w5 ⟨rfl,hb5⟩;have hb5':=ji hb5;have k1:=(hb5'.cell (p:=⟨w.heap.size,2,none⟩) (aa hs3 hz3)).trans hfn;have k2:=(hb5'.cell (p:=⟨b7',c,none⟩) (aa hb7 hz3)).trans hv)
        | (refine step_append_lies _ (by rfl) _ _ _ (by rfl) w3.heap.size 58 i1 _ 3 32 Tryz.underlying59 hi1 hy0 hy1 hy2 rfl (by omega) _ k (jO (qn (fl.take k) l)) (by rfl) ((jL hown hb5').alloc _) ⟨w5.heap.size,0,none⟩ 1 1 [.bool false,.int .i64 (l[c]).int,.string ⟨#[]⟩] (by rfl) (by rfl) (World.news_of_block (cs:=#[.bool false,.int .i64 (l[c]).int,.string ⟨#[]⟩]) (t:=58) (fr:=(0,0)) (heap_alloc_new w5 _)) (by simp [Value.oneCell']) (by omega) (by unfold maxLen;omega) (by omega) (by have:=hb5'.size;simp;omega) _ rfl ?_;intro gg cc w7 hown7 hgr7 hat7 hlt7;have m1:=zm hgr7 ((jL hown hb5').alloc _) (jc _ k1) hs3;have m2:=zm hgr7 ((jL hown hb5').alloc _) (jc _ k2) hb7))
      have HB7:=hid (((hB.trans (hb5'.mono hz3)).alloc (by have:=hb5'.size;omega) _).grown hgr7 (by have:=hb5'.size;simp;omega) (fun k hk=>((jL hown hb5').lt k hk).1))
      have HO7:=hid hown7
      have HCL:Hid (jO (qn (fl.take (k+1)) l)=jO (qn (fl.take k) l)++[.bool false,.int .i64 (l[c]).int,.string ⟨#[]⟩]):=by
       show _=_
       rw [HST.out,aj (by decide),HNT.out,QM,HOK.out.1,HOK.out.2.1]
      have Hcg:=hid hcg
      clear m1 m2 k1 k2 hfn hv hb5 hb5' hgr7 hown7 hown hB hat7 hlt7 hcg hck
      have hq1:(1:Int)≤(m:Int):=by omega
      have hq2:(1:Int)≤(c0:Int):=by omega
      have hq3:(m:Int)≤(c0:Int):=by omega
      have hq4:1≤m:=by omega
      by_cases hc01:c0=1
      ·have hm1:m=1:=by omega
       subst hc01 hm1
       go_wp2
       go_roundw
       case rel =>
        have hmo:=Hmg.out
        refine ⟨k+1,some ⟨b7',c,none⟩,0,by omega,by go_num,?_,fun h=>?_,by rw [HCL.out];exact HO7.out,HB7.out⟩
        ·rw [HCS.out,aj (by decide),show l.length - (c+1)=0 by omega]
        ·rw [HCS.out,aj (by decide)] at h
         omega
       case measure=>simp [intOf];omega
      ·go_wp2
       go_roundw
       case rel =>
        have hmo:=Hmg.out
        refine ⟨k+1,some ⟨b7',c+1,none⟩,c0 - 1,by omega,by go_num,?_,fun h=>?_,by rw [HCL.out];exact HO7.out,HB7.out⟩
        ·rw [HCS.out,aj (by decide),show l.length - (c+1)=m - 1 by omega]
        ·rw [HCS.out,aj (by decide)] at h ⊢
         exact ⟨by omega,b7',Ha7.out,rfl⟩
       case measure=>simp [intOf];omega
    ·have hke:k=fl.length:=by omega
     subst hke
     rw [aF] at hown
     have HLl:=hid (Uk fl l)
     have hOKc:∀ c ∈ qn fl l,okI c∨c=⟨true,0,[]⟩:=Ms fl l Hl.out.2 (by rw [← Hll.out];exact ae _)
     have HOKc:=hid hOKc
     obtain ⟨a8,c8,rfl,hlies⟩:=Yy hown (Uk fl l) (fun c hc=>(Ei (HOKc.out c hc)).1)
     have Hlies:=hid hlies
     have Hbxr:=hid (zp Hbx3.out hB hs3)
     have hbx:=Hbxr.out
     obtain ⟨x0,x1,x2,x3,x4,x5,x6⟩:=hbx
     have Hwr:=hid (Hw3.out.later hg33 hB)
     have hgr:=aa hg33 hB.size
     have HBr:=hid (HB3.out.trans (hB.mono HB3.out.size))
     have hL60:(qn fl l).length≤60:=by rw [HLl.out];exact hfl
     have HCK:Hid (qD 0 (qn fl l)=true):=Sa hL60 HOKc.out
     have HRG:Hid (∀ c ∈ qn fl l,Qb c):=fun c hc=>(Ei (HOKc.out c hc)).2.1
     have HSM:Hid (∀ c ∈ qn fl l,qr c):=fun c hc=>(Ei (HOKc.out c hc)).2.2
     have hle:=HLl.out
     rw [← hle] at *
     clear hown hlies hOKc hle hB
     generalize qn fl l=L at *
     go_wp2_with fail
     refine (BP g a8 c8 L _ hL60 HSM.out Hlies.out hgr Hwr.out).mono ?_
     rintro e w5 ⟨rfl,hb5⟩
     have HB5:=hid (HBr.out.trans (hb5.mono HBr.out.size))
     by_cases heq:xq 0 L=s
     ·have hbq:(xq 0 L == s)=true:=by simp [heq]
      have Heq:=hid heq
      clear heq x0 x1 x2 x3 x4 x5 x6
      go_wp2_with fail
      refine (qd _).mono ?_
      rintro e wN ⟨rfl,rfl⟩
      go_wp2
      go_ret
      refine ⟨HB5.out,.inr ⟨L,a8,c8,rfl,?_,Hlies.out.later hb5⟩⟩
      rw [← Heq.out]
      exact GS 0 L HCK.out HRG.out
     ·have hbq:(xq 0 L == s)=false:=by simpa using heq
      clear x0 x1 x2 x3 x4 x5 x6
      go_wp2_with fail
      refine (qU _).mono ?_
      rintro e wN ⟨rfl,rfl⟩
      go_wp2
      refine ⟨rfl,HB5.out,.inl ⟨rfl,Qu (fun l2 h2=>?_)⟩⟩
      have e1:=HU.out l2 h2
      rw [e1] at h2
      exact heq h2.2.1
end
section
theorem Bf (g:Nat) (s:List UInt8) (w:World) (hs:s.length≤maxLen) (hg:g < w.heap.size) (hw:TxtW w g) :
  Calls Tryz.prog 131 #[txtC g,strB s] w (Nm 1 s w):=by
 obtain ⟨i1,hi1,hy0,hy1,hy2⟩:=info_parts Tryz.infoCell
 have Hs:=hid hs
 have Hw:=hid hw
 clear hs hw
 go_enter Tryz.func131,Tryz.ntmps131
 go_wp2_with fail
 obtain ⟨hb0,hs0,hc0⟩:=Jd w #[.slice (some ⟨g,0,none⟩) 3 3,fnV 202,fnV 203,fnV 204,fnV 205,fnV 206,fnV 207] 225
 have Hc:Hid (BoxT _ g w.heap.size):=⟨hc0 0,hc0 1,hc0 2,hc0 3,hc0 4,hc0 5,hc0 6⟩
 have Hw0:=hid (Hw.out.later hg hb0)
 have Hb0:=hid hb0
 have hs1:=aI (aL w.heap.size) hs0.symm
 have hg0:=aa hg hb0.size
 clear hc0 hb0 hs0
 generalize w.alloc _=w0 at *
 refine (RZ s w0).mono ?_
 rintro e w1 ⟨rfl,hrd1,hb1⟩
 have hB1:=Hb0.out.trans (hb1.mono Hb0.out.size)
 have HB1:=hid hB1
 have hp0:w.heap.size≤w0.heap.size:=Hb0.out.size
 have hplt:=xp hrd1
 have Hbx1:=hid (xe Hc.out hb1 hs1)
 have Hw1:=hid (Hw0.out.later hg0 hb1)
 have hg1:=aa hg0 hb1.size
 have hs11:=aa hs1 hb1.size
 have hpne:w.heap.size≠w0.heap.size:=by omega
 have hgp:g≠w0.heap.size:=by omega
 clear hb1 hB1
 generalize hpp:w0.heap.size=p at *
 clear hpp
 go_wp2_with fail
 refine (Vn p s s _ Hs.out hrd1).mono ?_
 rintro e w2 ⟨hg2,⟨rfl,hno⟩|⟨fl,r2,v6,hfl,rfl,hown6,hrd2,hu2⟩⟩
 ·go_wp2
  exact ⟨rfl,HB1.out.grown hg2 HB1.out.size (fun k hk=>by cases hk;exact hp0),.inl ⟨rfl,Qu (fun l2 h2=>(hno _ _ (xG h2).1 (xG h2).2.1))⟩⟩
 ·have Hu2:=hid hu2
  have HB2:=hid (HB1.out.grown hg2 HB1.out.size (fun k hk=>by cases hk;exact hp0))
  have Hbx2:=hid (JM Hbx1.out hg2 hs11 hpne)
  have Hw2:=hid (Hw1.out.grown hg2 hg1 hgp)
  have hg22:=aa hg1 hg2.size
  have hs2:=aa hs11 hg2.size
  have hbx:=Hbx2.out
  obtain ⟨x0,x1,x2,x3,x4,x5,x6⟩:=hbx
  clear hu2 hg2 hrd1
  go_wp2_with fail
  refine (Lj g p fl v6 w1.heap.size s r2 _ Hs.out hfl hrd2 hown6 hg22 Hw2.out hgp).mono ?_
  rintro e w3 ⟨hg3,⟨rfl,hno⟩|⟨l,r3,v7,hl,rfl,hown7,hrd3,hu3⟩⟩
  ·go_wp2
   refine ⟨rfl,HB2.out.grown hg3 HB2.out.size (fun k hk=>by cases hk;exact hp0),.inl ⟨rfl,Qu (fun l2 h2=>?_)⟩⟩
   obtain ⟨e1,e2⟩:=Hu2.out _ _ (xG h2).1 (xG h2).2.1
   exact hno (je l2) [] (by rw [← e1];exact Ym h2) (by rw [aB];exact e2.symm)
  ·have HU:Hid (∀ l2,Yk 1 s l2→l2=qn fl l):=by
    intro l2 h2
    obtain ⟨e1,e2⟩:=Hu2.out _ _ (xG h2).1 (xG h2).2.1
    obtain ⟨e3,_⟩:=hu3 (je l2) [] (by rw [← e1];exact Ym h2) (by rw [aB];exact e2.symm)
    rw [← e1,← e3]
    exact (VI l2 (xG h2).2.2).symm
   have HB3:=hid (HB2.out.grown hg3 HB2.out.size (fun k hk=>by cases hk;exact hp0))
   have Hbx3:=hid (JM Hbx2.out hg3 hs2 hpne)
   have Hw3:=hid (Hw2.out.grown hg3 hg22 hgp)
   have hg33:=aa hg22 hg3.size
   have hs3:=aa hs2 hg3.size
   have hown63:=qZ hown6 hplt hg3
   obtain ⟨a6,c6,rfl,hsh6⟩:=Ze hown63
   obtain ⟨a7,c7,rfl,hsh7⟩:=IP hown7
   have Hsh6:=hid hsh6
   have Hsh7:=hid hsh7
   have Hl:=hid hl
   have Hll:Hid (l.length=cnt fl):=hl.1
   have hcf:=Nd fl
   have hl60:l.length≤60:=by rw [Hll.out];omega
   clear hu3 hg3 hown6 hown63 hown7 hsh6 hsh7 hrd2 hrd3 x0 x1 x2 x3 x4 x5 x6 hl
   go_wp2_with (at_make;refine wpList_make_own _ rfl (.const (.int .i64 0)) (.tmp 20) 59 rfl w3.heap.size 58 i1 (.agg #[.bool false,.int .i64 0,.string ⟨#[]⟩]) 3 Tryz.underlying59 hi1 hy0 hy1 .i64 .i64 _ fl.length rfl rfl rfl (by rw [hy2];omega) (by unfold maxLen;omega) (ae _) ?_;intro w4 hown4 hgr4)
   have hB4:Below w3.heap.size w3 w4:=(Below.refl _ _).grown hgr4 (ae _) (fun _ h=>by cases h)
   clear hgr4
   go_loopw [7,8,24] (fun v7 v8 i wr=>∃ (k:Nat) (a:Option Addr) (c:Nat),k≤fl.length∧i=.int .i64 (k:Int)∧v7=.slice a (l.length - cnt (fl.take k)) c∧(cnt (fl.take k) < l.length→l.length - cnt (fl.take k)≤c∧∃ b,a7=some ⟨b,0,none⟩∧a=some ⟨b,cnt (fl.take k),none⟩)∧wr.ownsRow w3.heap.size 58 3 v8 k (jO (qn (fl.take k) l))∧Below w3.heap.size w3 wr)
    (fun _ _ i _=>fl.length - (intOf i).toNat)
   case atStart =>
    refine ⟨0,a7,c7,ah _,rfl,by simp [cnt],fun h=>?_,hown4,hB4⟩
    obtain ⟨h1,b,h2,_⟩:=Hsh7.out (ai (by omega))
    exact ⟨by omega,b,h2,h2⟩
   case round =>
    clear hown4 hB4
    obtain ⟨k,a,c0,hk,rfl,rfl,hsl,hown,hB⟩:=hrel
    have Hsl:=hid hsl
    clear hsl
    by_cases hlt:k < fl.length
    ·have hki:(k:Int) < (fl.length:Int):=by omega
     obtain ⟨b6,rfl,hb6,hcell6⟩:=Hsh6.out (ai (by omega))
     have hck:=(hB.cell (p:=⟨b6,k,none⟩) hb6).trans (hcell6 k hlt)
     have HST:=hid (Yv fl l k hlt)
     have HCS:=hid (KL fl k hlt)
     have hcl:=Mv fl k hlt
     clear hcell6
     cases hb:fl[k] with
     | true =>
      rw [hb] at hck HST HCS
      clear hb hcl
      go_wp2_with (at_builtin;refine wpList_append_own _ rfl (.tmp 29) (.tmp 31) 59 rfl w3.heap.size 58 i1 (.agg #[.bool false,.int .i64 0,.string ⟨#[]⟩]) 3 32 Tryz.underlying59 hi1 hy0 hy1 hy2 rfl (by decide) _ _ _ rfl (hown.alloc _) ⟨_,0,none⟩ 1 1 [.bool true,.int .i64 0,.string ⟨#[]⟩] rfl rfl ?c1 ?c2 ?c3 ?c4 ?c5 ?_)
      case c2=>exact ⟨rfl,rfl,rfl⟩
      case c3=>unfold maxLen;omega
      case c4=>omega
      case c5=>have:=hB.size;simp;omega
      intro v3 w5 hown5 hgr5 _
      have HO5:=hid hown5
      have HB5:=hid ((hB.alloc hB.size _).grown hgr5 (by have:=hB.size;simp;omega) (fun k hk=>(hown.lt k hk).1))
      clear hown hown5 hgr5 hB hck
      go_wp2
      go_roundw
      case rel =>
       refine ⟨k+1,a,c0,by omega,by go_num,by rw [HCS.out];simp,by rw [HCS.out];simpa using Hsl.out,?_,HB5.out⟩
       rw [HST.out,QM]
       exact HO5.out
      case measure=>simp [intOf];omega
     | false =>
      have hcl2:=hcl hb
      rw [hb] at hck HST HCS
      clear hb hcl
      have hcc:cnt (fl.take k) < l.length:=by rw [Hll.out];exact hcl2
      obtain ⟨hcap,b7,ha7,rfl⟩:=Hsl.out hcc
      obtain ⟨_,b7',ha7',hb7,hcell7⟩:=Hsh7.out (ai (by omega))
      have hbb:b7'=b7:=by rw [ha7] at ha7';simpa using ha7'.symm
      subst hbb
      generalize hcg:cnt (fl.take k)=c at *
      have hv:=(hB.cell (p:=⟨b7',c,none⟩) hb7).trans (hcell7 c hcc)
      have hfn:=(hB.cell (p:=⟨w.heap.size,2,none⟩) hs3).trans Hbx3.out.2.2.1
      have hz3:=hB.size
      have HNT:Hid (xX l c=l[c]):=qg l c hcc
      generalize hmg:l.length - c=m at *
      have Hmg:=hid hmg
      have hm0:0 < m:=by omega
      have hli:(0:Int) < (m:Int):=by omega
      have hcc2:c < l.length:=hcc
      clear hmg
      have hOK:=Hl.out.2 l[c] (al hcc)
      have HOK:=hid hOK
      have Ha7:=hid ha7
      have Ha7':=hid ha7'
      clear hcell7 hOK ha7 ha7'
      go_wp2_with fail
      go_region_held3 (fun w'=>w'.cell? ⟨w.heap.size,2,none⟩=some (fnV 203)∧w'.cell? ⟨b7',c,none⟩=some (strB (l[c]).text)) (first|exact ⟨jc _ k1,jc _ k2⟩|exact ⟨m1,m2⟩|exact ⟨k1,k2⟩|exact ⟨hfn,hv⟩)
       (first
        | (go_at_call 203;refine (LA (l[c]).text _).mono ?_;rintro e w5 ⟨rfl,hb5⟩;have hb5':=ji hb5;have k1:=(hb5'.cell (p:=⟨w.heap.size,2,none⟩) (aa hs3 hz3)).trans hfn;have k2:=(hb5'.cell (p:=⟨b7',c,none⟩) (aa hb7 hz3)).trans hv)
        | (refine step_append_lies _ (by rfl) _ _ _ (by rfl) w3.heap.size 58 i1 _ 3 32 Tryz.underlying59 hi1 hy0 hy1 hy2 rfl (by omega) _ k (jO (qn (fl.take k) l)) (by rfl) ((jL hown hb5').alloc _) ⟨w5.heap.size,0,none⟩ 1 1 [.bool false,.int .i64 0,strB (l[c]).text] (by rfl) (by rfl) (World.news_of_block (cs:=#[.bool false,.int .i64 0,strB (l[c]).text]) (t:=58) (fr:=(0,0)) (heap_alloc_new w5 _)) (by simp [Value.oneCell']) (by omega) (by unfold maxLen;omega) (by omega) (by have:=hb5'.size;simp;omega) _ rfl ?_;intro gg cc w7 hown7 hgr7 hat7 hlt7;have m1:=zm hgr7 ((jL hown hb5').alloc _) (jc _ k1) hs3;have m2:=zm hgr7 ((jL hown hb5').alloc _) (jc _ k2) hb7))
      have HB7:=hid (((hB.trans (hb5'.mono hz3)).alloc (by have:=hb5'.size;omega) _).grown hgr7 (by have:=hb5'.size;simp;omega) (fun k hk=>((jL hown hb5').lt k hk).1))
      have HO7:=hid hown7
      have HCL:Hid (jO (qn (fl.take (k+1)) l)=jO (qn (fl.take k) l)++[.bool false,.int .i64 0,strB (l[c]).text]):=by
       show _=_
       rw [HST.out,aj (by decide),HNT.out,QM,HOK.out.1,HOK.out.2.1]
      have Hcg:=hid hcg
      clear m1 m2 k1 k2 hfn hv hb5 hb5' hgr7 hown7 hown hB hat7 hlt7 hcg hck
      have hq1:(1:Int)≤(m:Int):=by omega
      have hq2:(1:Int)≤(c0:Int):=by omega
      have hq3:(m:Int)≤(c0:Int):=by omega
      have hq4:1≤m:=by omega
      by_cases hc01:c0=1
      ·have hm1:m=1:=by omega
       subst hc01 hm1
       go_wp2
       go_roundw
       case rel =>
        have hmo:=Hmg.out
        refine ⟨k+1,some ⟨b7',c,none⟩,0,by omega,by go_num,?_,fun h=>?_,by rw [HCL.out];exact HO7.out,HB7.out⟩
        ·rw [HCS.out,aj (by decide),show l.length - (c+1)=0 by omega]
        ·rw [HCS.out,aj (by decide)] at h
         omega
       case measure=>simp [intOf];omega
      ·go_wp2
       go_roundw
       case rel =>
        have hmo:=Hmg.out
        refine ⟨k+1,some ⟨b7',c+1,none⟩,c0 - 1,by omega,by go_num,?_,fun h=>?_,by rw [HCL.out];exact HO7.out,HB7.out⟩
        ·rw [HCS.out,aj (by decide),show l.length - (c+1)=m - 1 by omega]
        ·rw [HCS.out,aj (by decide)] at h ⊢
         exact ⟨by omega,b7',Ha7.out,rfl⟩
       case measure=>simp [intOf];omega
    ·have hke:k=fl.length:=by omega
     subst hke
     rw [aF] at hown
     have HLl:=hid (Uk fl l)
     have hOKc:∀ c ∈ qn fl l,okT c∨c=⟨true,0,[]⟩:=Ms fl l Hl.out.2 (by rw [← Hll.out];exact ae _)
     have HOKc:=hid hOKc
     obtain ⟨a8,c8,rfl,hlies⟩:=Yy hown (Uk fl l) (fun c hc=>(YZ (HOKc.out c hc)).1)
     have Hlies:=hid hlies
     have Hbxr:=hid (xe Hbx3.out hB hs3)
     have hbx:=Hbxr.out
     obtain ⟨x0,x1,x2,x3,x4,x5,x6⟩:=hbx
     have Hwr:=hid (Hw3.out.later hg33 hB)
     have hgr:=aa hg33 hB.size
     have HBr:=hid (HB3.out.trans (hB.mono HB3.out.size))
     have hL60:(qn fl l).length≤60:=by rw [HLl.out];exact hfl
     have HCK:Hid (qD 1 (qn fl l)=true):=PE hL60 HOKc.out
     have HRG:Hid (∀ c ∈ qn fl l,Qb c):=fun c hc=>(YZ (HOKc.out c hc)).2.1
     have HSM:Hid (∀ c ∈ qn fl l,qr c):=fun c hc=>(YZ (HOKc.out c hc)).2.2
     have hle:=HLl.out
     rw [← hle] at *
     clear hown hlies hOKc hle hB
     generalize qn fl l=L at *
     go_wp2_with fail
     refine (BI g a8 c8 L _ hL60 HSM.out Hlies.out hgr Hwr.out).mono ?_
     rintro e w5 ⟨rfl,hb5⟩
     have HB5:=hid (HBr.out.trans (hb5.mono HBr.out.size))
     by_cases heq:xq 1 L=s
     ·have hbq:(xq 1 L == s)=true:=by simp [heq]
      have Heq:=hid heq
      clear heq x0 x1 x2 x3 x4 x5 x6
      go_wp2_with fail
      refine (qd _).mono ?_
      rintro e wN ⟨rfl,rfl⟩
      go_wp2
      go_ret
      refine ⟨HB5.out,.inr ⟨L,a8,c8,rfl,?_,Hlies.out.later hb5⟩⟩
      rw [← Heq.out]
      exact GS 1 L HCK.out HRG.out
     ·have hbq:(xq 1 L == s)=false:=by simpa using heq
      clear x0 x1 x2 x3 x4 x5 x6
      go_wp2_with fail
      refine (qU _).mono ?_
      rintro e wN ⟨rfl,rfl⟩
      go_wp2
      refine ⟨rfl,HB5.out,.inl ⟨rfl,Qu (fun l2 h2=>?_)⟩⟩
      have e1:=HU.out l2 h2
      rw [e1] at h2
      exact heq h2.2.1
end
section
theorem Nb (p:Addr) (b:Bool) (u:TypeId) (pv:Value) (older:List PanicEntry) (w:World) (hc:w.cell? p=some (.bool b)) (hz:w.frozen? p=false) :
  CallsD Tryz.prog 129 #[.pointer (some p)] (.panicking ({ v:=.iface u pv,recovered:=false } :: older)) w fun e u' w' =>
   e=.returned (.tuple #[])∧u'=.panicking ({ v:=.iface u pv,recovered:=true } :: older)∧w'=w.setCell p (.bool false):=by
 refine callsD_of_wpS Tryz.func129 rfl fun c₀ cs hu=>?_
 apply wpS_region
 simp [wpOpsS,go_sem,recoverD,hu,Tryz.ntmps129,Exit.thenS,hc,hz,bodyPostS,results,Tryz.results129]
theorem AP (p:Addr) (b:Bool) (w:World) (hc:w.cell? p=some (.bool b)) (hz:w.frozen? p=false) :
  CallsD Tryz.prog 129 #[.pointer (some p)] .returning w fun e u' w'=>e=.returned (.tuple #[])∧u'=.returning∧w'=w.setCell p (.bool true):=by
 refine callsD_of_wpS Tryz.func129 rfl fun c₀ cs hu=>?_
 apply wpS_region
 simp [wpOpsS,go_sem,recoverD,hu,Tryz.ntmps129,Exit.thenS,hc,hz,bodyPostS,results,Tryz.results129]
 cases c₀
 simp_all
theorem Db (kind:Int) (s:List UInt8) (w:World) (hk:kind=0∨kind=1) (hs:s.length≤maxLen) :
  Calls Tryz.prog 70 #[.int .i64 kind,strB s] w (Nm kind s w):=by
 have Hs:=hid hs
 clear hs
 rcases hk with rfl|rfl
 ·go_enter Tryz.func70,Tryz.ntmps70
  go_wp2_with fail
  refine (Ir w).mono ?_
  rintro e w1 ⟨g,rfl,hg,hw,hb1⟩
  have Hw:=hid hw
  clear hw
  go_wp2_with fail
  refine (LP g s _ Hs.out hg Hw.out).mono ?_
  rintro e w2 ⟨hb2,⟨rfl,hn⟩|⟨l,a,cap,rfl,hu,hl⟩⟩
  ·go_wp2
   exact ⟨rfl,hb1.trans (hb2.mono hb1.size),.inl ⟨rfl,hn⟩⟩
  ·have Hu:=hid hu
   clear hu
   go_wp2
   go_ret
   exact ⟨hb1.trans (hb2.mono hb1.size),.inr ⟨l,a,cap,rfl,Hu.out,hl⟩⟩
 ·go_enter Tryz.func70,Tryz.ntmps70
  go_wp2_with fail
  refine (Tx w).mono ?_
  rintro e w1 ⟨g,rfl,hg,hw,hb1⟩
  have Hw:=hid hw
  clear hw
  go_wp2_with fail
  refine (Bf g s _ Hs.out hg Hw.out).mono ?_
  rintro e w2 ⟨hb2,⟨rfl,hn⟩|⟨l,a,cap,rfl,hu,hl⟩⟩
  ·go_wp2
   exact ⟨rfl,hb1.trans (hb2.mono hb1.size),.inl ⟨rfl,hn⟩⟩
  ·have Hu:=hid hu
   clear hu
   go_wp2
   go_ret
   exact ⟨hb1.trans (hb2.mono hb1.size),.inr ⟨l,a,cap,rfl,Hu.out,hl⟩⟩
end
section
theorem Sv {kind:Int} {l:List CellB} (h:qD kind l=true) (hok:∀ c ∈ l,okC c):(∀ c ∈ l,qr c)∧l.length≤60:=by
 unfold qD at h
 simp only [au,cj,az,bD] at h
 obtain ⟨⟨hk,hl⟩,hf⟩:=h
 refine ⟨fun c hc=>?_,hl⟩
 obtain ⟨h0,h1,_⟩:=hok c hc
 refine ⟨h0,h1,?_⟩
 have:=hf c hc
 unfold xL at this
 split at this
 ·simp at this;rw [this.2];simp
 ·split at this
  ·simp at this;rw [this];simp
  ·simp at this;exact this.2
end
end Go.Proofs.YthhpbhpfagoapaaGreat
