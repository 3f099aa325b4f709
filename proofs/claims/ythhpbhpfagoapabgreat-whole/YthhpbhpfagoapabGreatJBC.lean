import Derived.Test.YthhpbhpfagoapabGreatJAU
import Derived.Test.YthhpbhpfagoapabGreatDCells
import Derived.Test.YthhpbhpfagoapabGreatJAL
import Derived.Defers
import Derived.Recover
import Derived.Laws.Pointers
import Derived.Test.YthhpbhpfagoapabGreatJAI
import Derived.Test.YthhpbhpfagoapabGreatJAT
namespace Go.Proofs.YthhpbhpfagoapabGreat
set_option linter.unusedVariables false
set_option linter.unusedSimpArgs false
set_option maxRecDepth 100000
set_option maxHeartbeats 16000000
section
open Go.RowKit
theorem Vc (c:Int):xH (jV c 0)=true∧(∀ n:Int,1≤n→n≤5→jw (jV c 0) n=true)∧(jV c 0).length=5∧∀ x ∈ jV c 0,Cv x:=by
 have hz:∀ n,qI 0 n=false:=by
  intro n
  have h:∀ x:Int,bits .and .i64 0 x=0:=by
   intro x
   show IntKind.i64.wrap ((BitVec.ofInt 64 0 &&& BitVec.ofInt 64 x).toNat:Nat)=0
   simp
   decide
  unfold qI
  rw [h]
  rfl
 have e:jV c 0=[⟨1,xq c 1⟩,⟨2,xq c 2⟩,⟨3,xq c 3⟩,⟨4,xq c 4⟩,⟨5,xq c 5⟩]:=by
  simp [jV,JG,hz]
 rw [e]
 have l:=fun n=>XS c n
 refine ⟨?_,?_,rfl,?_⟩
 ·simp [xH,XT,QM,jw,l]
 ·intro n h1 h5
  have:n=1∨n=2∨n=3∨n=4∨n=5:=by omega
  rcases this with rfl|rfl|rfl|rfl|rfl<;>simp [jw]
 ·intro x hx
  simp only [List.mem_cons,List.not_mem_nil,or_false] at hx
  rcases hx with rfl|rfl|rfl|rfl|rfl<;>exact ⟨by rw [l];decide,by dsimp only;omega,by dsimp only;omega⟩
theorem Yg {raw:List Int} {pre:List UInt8} {c:Int} {t:List ColB} (hlen:t.length=Jg raw) (ht:∀ k (hk:k < t.length),(t[k]).name=Xg k∧(t[k]).kind=Xh raw k∧(t[k]).key=qi (atB raw (10+k)) 5)
  (hc:∀ x ∈ t,x.cells.length=qy raw∧∀ y ∈ x.cells,xg x.kind y=true∧Xl y.int):GoodJ ⟨t,Us raw,pre.take 20,qi (atB raw 2) 65536⟩ (jV c 0):=by
 obtain ⟨h1,h4⟩:=ZW raw
 have hr:=ZP raw
 have hd:=qB (atB raw 2) 65536 (by decide)
 obtain ⟨r1,r2,_,_⟩:=Vc c
 have hkey:∀ k,0≤qi (atB raw (10+k)) 5∧qi (atB raw (10+k)) 5 < 5:=fun k=>qB _ 5 (by decide)
 refine ⟨SP t (qy raw) (by omega) (by omega) (by omega) (fun k hk=>?_) hc,DX raw,?_,⟨by simp only;omega,by simp only;omega⟩,r1,?_⟩
 ·obtain ⟨a,b,d⟩:=ht k hk
  have:=hkey k
  exact ⟨a,by rw [b];exact ZQ raw k,by rw [d];omega,by rw [d];omega⟩
 ·simp only [List.length_take];omega
 ·simp only [Kp,Bool.or_eq_false_iff,Bool.not_eq_false',List.any_eq_false,Bool.and_eq_true,decide_eq_true_eq,Bool.not_eq_true']
  refine ⟨r2 5 (by decide) (by decide),fun x hx=>?_⟩
  obtain ⟨k,hk,rfl⟩:=List.mem_iff_getElem.1 hx
  rw [(ht k hk).2.2]
  have:=hkey k
  rintro ⟨h0,h⟩
  rw [r2 _ (by omega) (by omega)] at h
  cases h
theorem JA (raw:List Int) (pre:List UInt8) (c:Int) (hr:∀ x ∈ raw,Xl x):GoodJ (qm raw pre) (jV c 0):=by
 refine Yg (Xw _ _) (fun k hk=>?_) (fun x hx=>?_)
 ·rw [ZF];exact ⟨rfl,rfl,rfl⟩
 ·obtain ⟨k,hk,rfl⟩:=List.mem_iff_getElem.1 hx
  rw [ZF]
  refine ⟨by simp [Zg],fun y hy=>?_⟩
  simp only [Zg,List.mem_map,List.mem_range] at hy
  obtain ⟨m,_,rfl⟩:=hy
  exact Il _ _ (ZQ raw k) (Yx raw _ hr)
end
section
open Go.RowKit
theorem BI (g:Nat) (s:List UInt8) (w:World) (hs:s.length≤maxLen) (hg:g < w.heap.size) (hw:TxtW w g) :
  Calls Tryz.prog 144 #[txtC g,strB s] w (Nd 1 s w):=by
 obtain ⟨i1,hi1,hy0,hy1,hy2⟩:=info_parts Tryz.infoCell
 have Hs:=hid hs
 have Hw:=hid hw
 clear hs hw
 go_enter Tryz.func144,Tryz.ntmps144
 go_wp2_with fail
 obtain ⟨hb0,hs0,hc0⟩:=Ja w #[.slice (some ⟨g,0,none⟩) 3 3,fnV 165,fnV 166,fnV 115,fnV 167,fnV 168,fnV 169] 214
 have Hc:Hid (BoxT _ g w.heap.size):=⟨hc0 0,hc0 1,hc0 2,hc0 3,hc0 4,hc0 5,hc0 6⟩
 have Hw0:=hid (Hw.out.later hg hb0)
 have Hb0:=hid hb0
 have hs1:=Nat.lt_of_lt_of_eq (Nat.lt_succ_self w.heap.size) hs0.symm
 have hg0:=Nat.lt_of_lt_of_le hg hb0.size
 clear hc0 hb0 hs0
 generalize w.alloc _=w0 at *
 refine (YK s w0).mono ?_
 rintro e w1 ⟨rfl,hrd1,hb1⟩
 have hB1:=Hb0.out.trans (hb1.mono Hb0.out.size)
 have HB1:=hid hB1
 have hp0:w.heap.size≤w0.heap.size:=Hb0.out.size
 have hplt:=xD hrd1
 have Hbx1:=hid (xj Hc.out hb1 hs1)
 have Hw1:=hid (Hw0.out.later hg0 hb1)
 have hg1:=Nat.lt_of_lt_of_le hg0 hb1.size
 have hs11:=Nat.lt_of_lt_of_le hs1 hb1.size
 have hpne:w.heap.size≠w0.heap.size:=by omega
 have hgp:g≠w0.heap.size:=by omega
 clear hb1 hB1
 generalize hpp:w0.heap.size=p at *
 clear hpp
 go_wp2_with fail
 refine (VD p s s _ Hs.out hrd1).mono ?_
 rintro e w2 ⟨hg2,⟨rfl,hno⟩|⟨fl,r2,v6,hfl,rfl,hown6,hrd2,hu2⟩⟩
 ·go_wp2
  exact ⟨rfl,HB1.out.grown hg2 HB1.out.size (fun k hk=>by cases hk;exact hp0),.inl ⟨rfl,Qo (fun l2 h2=>(hno _ _ (xO h2).1 (xO h2).2.1))⟩⟩
 ·have Hu2:=hid hu2
  have HB2:=hid (HB1.out.grown hg2 HB1.out.size (fun k hk=>by cases hk;exact hp0))
  have Hbx2:=hid (JF Hbx1.out hg2 hs11 hpne)
  have Hw2:=hid (Hw1.out.grown hg2 hg1 hgp)
  have hg22:=Nat.lt_of_lt_of_le hg1 hg2.size
  have hs2:=Nat.lt_of_lt_of_le hs11 hg2.size
  have hbx:=Hbx2.out
  obtain ⟨x0,x1,x2,x3,x4,x5,x6⟩:=hbx
  clear hu2 hg2 hrd1
  go_wp2_with fail
  refine (Lu g p fl v6 w1.heap.size s r2 _ Hs.out hfl hrd2 hown6 hg22 Hw2.out hgp).mono ?_
  rintro e w3 ⟨hg3,⟨rfl,hno⟩|⟨l,r3,v7,hl,rfl,hown7,hrd3,hu3⟩⟩
  ·go_wp2
   refine ⟨rfl,HB2.out.grown hg3 HB2.out.size (fun k hk=>by cases hk;exact hp0),.inl ⟨rfl,Qo (fun l2 h2=>?_)⟩⟩
   obtain ⟨e1,e2⟩:=Hu2.out _ _ (xO h2).1 (xO h2).2.1
   exact hno (jm l2) [] (by rw [← e1];exact Ym h2) (by rw [List.append_nil];exact e2.symm)
  ·have HU:Hid (∀ l2,YF 1 s l2→l2=qZ fl l):=by
    intro l2 h2
    obtain ⟨e1,e2⟩:=Hu2.out _ _ (xO h2).1 (xO h2).2.1
    obtain ⟨e3,_⟩:=hu3 (jm l2) [] (by rw [← e1];exact Ym h2) (by rw [List.append_nil];exact e2.symm)
    rw [← e1,← e3]
    exact (Gf l2 (xO h2).2.2).symm
   have HB3:=hid (HB2.out.grown hg3 HB2.out.size (fun k hk=>by cases hk;exact hp0))
   have Hbx3:=hid (JF Hbx2.out hg3 hs2 hpne)
   have Hw3:=hid (Hw2.out.grown hg3 hg22 hgp)
   have hg33:=Nat.lt_of_lt_of_le hg22 hg3.size
   have hs3:=Nat.lt_of_lt_of_le hs2 hg3.size
   have hown63:=zX hown6 hplt hg3
   obtain ⟨a6,c6,rfl,hsh6⟩:=Zv hown63
   obtain ⟨a7,c7,rfl,hsh7⟩:=Ak hown7
   have Hsh6:=hid hsh6
   have Hsh7:=hid hsh7
   have Hl:=hid hl
   have Hll:Hid (l.length=cnt fl):=hl.1
   have hcf:=Nf fl
   have hl60:l.length≤60:=by rw [Hll.out];omega
   clear hu3 hg3 hown6 hown63 hown7 hsh6 hsh7 hrd2 hrd3 x0 x1 x2 x3 x4 x5 x6 hl
   go_wp2_with (at_make;refine wpList_make_own _ rfl (.const (.int .i64 0)) (.tmp 20) 29 rfl w3.heap.size 34 i1 (.agg #[.bool false,.int .i64 0,.string ⟨#[]⟩]) 3 Tryz.underlying29 hi1 hy0 hy1 .i64 .i64 _ fl.length rfl rfl rfl (by rw [hy2];omega) (by unfold maxLen;omega) (Nat.le_refl _) ?_;intro w4 hown4 hgr4)
   have hB4:Below w3.heap.size w3 w4:=(Below.refl _ _).grown hgr4 (Nat.le_refl _) (fun _ h=>by cases h)
   clear hgr4
   go_loopw [7,8,24] (fun v7 v8 i wr=>∃ (k:Nat) (a:Option Addr) (c:Nat),k≤fl.length∧i=.int .i64 (k:Int)∧v7=.slice a (l.length - cnt (fl.take k)) c∧(cnt (fl.take k) < l.length→l.length - cnt (fl.take k)≤c∧∃ b,a7=some ⟨b,0,none⟩∧a=some ⟨b,cnt (fl.take k),none⟩)∧wr.ownsRow w3.heap.size 34 3 v8 k (qz (qZ (fl.take k) l))∧Below w3.heap.size w3 wr)
    (fun _ _ i _=>fl.length - (intOf i).toNat)
   case atStart =>
    refine ⟨0,a7,c7,Nat.zero_le _,rfl,by simp [cnt],fun h=>?_,hown4,hB4⟩
    obtain ⟨h1,b,h2,_⟩:=Hsh7.out (List.ne_nil_of_length_pos (by omega))
    exact ⟨by omega,b,h2,h2⟩
   case round =>
    clear hown4 hB4
    obtain ⟨k,a,c0,hk,rfl,rfl,hsl,hown,hB⟩:=hrel
    have Hsl:=hid hsl
    clear hsl
    by_cases hlt:k < fl.length
    ·have hki:(k:Int) < (fl.length:Int):=by omega
     obtain ⟨b6,rfl,hb6,hcell6⟩:=Hsh6.out (List.ne_nil_of_length_pos (by omega))
     have hck:=(hB.cell (p:=⟨b6,k,none⟩) hb6).trans (hcell6 k hlt)
     have HST:=hid (Ys fl l k hlt)
     have HCS:=hid (Uh fl k hlt)
     have hcl:=Ci fl k hlt
     clear hcell6
     cases hb:fl[k] with
     | true =>
      rw [hb] at hck HST HCS
      clear hb hcl
      go_wp2_with (at_builtin;refine wpList_append_own _ rfl (.tmp 29) (.tmp 31) 29 rfl w3.heap.size 34 i1 (.agg #[.bool false,.int .i64 0,.string ⟨#[]⟩]) 3 32 Tryz.underlying29 hi1 hy0 hy1 hy2 rfl (by decide) _ _ _ rfl (hown.alloc _) ⟨_,0,none⟩ 1 1 [.bool true,.int .i64 0,.string ⟨#[]⟩] rfl rfl ?c1 ?c2 ?c3 ?c4 ?c5 ?_)
      case c2=>exact ⟨rfl,rfl,rfl⟩
      case c3=>unfold maxLen;omega
      case c4=>omega
      case c5=>have:=hB.size;simp;omega
      intro v3 w5 hown5 hgr5 _
      have HO5:=hid hown5
      have HB5:=hid ((hB.alloc hB.size _).grown hgr5 (by have:=hB.size;simp;omega) (fun k hk=>(hown.lt k hk).1))
      clear hown hown5 hgr5 hB hck
      go_wp2
      go_roundw
      case rel =>
       refine ⟨k+1,a,c0,by omega,by go_num,by rw [HCS.out];simp,by rw [HCS.out];simpa using Hsl.out,?_,HB5.out⟩
       rw [HST.out,QG]
       exact HO5.out
      case measure=>simp [intOf];omega
     | false =>
      have hcl2:=hcl hb
      rw [hb] at hck HST HCS
      clear hb hcl
      have hcc:cnt (fl.take k) < l.length:=by rw [Hll.out];exact hcl2
      obtain ⟨hcap,b7,ha7,rfl⟩:=Hsl.out hcc
      obtain ⟨_,b7',ha7',hb7,hcell7⟩:=Hsh7.out (List.ne_nil_of_length_pos (by omega))
      have hbb:b7'=b7:=by rw [ha7] at ha7';simpa using ha7'.symm
      subst hbb
      generalize hcg:cnt (fl.take k)=c at *
      have hv:=(hB.cell (p:=⟨b7',c,none⟩) hb7).trans (hcell7 c hcc)
      have hfn:=(hB.cell (p:=⟨w.heap.size,2,none⟩) hs3).trans Hbx3.out.2.2.1
      have hz3:=hB.size
      have HNT:Hid (zp l c=l[c]):=qK l c hcc
      generalize hmg:l.length - c=m at *
      have Hmg:=hid hmg
      have hm0:0 < m:=by omega
      have hli:(0:Int) < (m:Int):=by omega
      have hcc2:c < l.length:=hcc
      clear hmg
      have hOK:=Hl.out.2 l[c] (List.getElem_mem hcc)
      have HOK:=hid hOK
      have Ha7:=hid ha7
      have Ha7':=hid ha7'
      clear hcell7 hOK ha7 ha7'
      go_wp2_with fail
      go_region_held3 (fun w'=>w'.cell? ⟨w.heap.size,2,none⟩=some (fnV 166)∧w'.cell? ⟨b7',c,none⟩=some (strB (l[c]).text)) (first|exact ⟨je _ k1,je _ k2⟩|exact ⟨m1,m2⟩|exact ⟨k1,k2⟩|exact ⟨hfn,hv⟩)
       (first
        | (go_at_call 166;refine (Lt (l[c]).text _).mono ?_;rintro e w5 ⟨rfl,hb5⟩;have hb5':=jl hb5;have k1:=(hb5'.cell (p:=⟨w.heap.size,2,none⟩) (Nat.lt_of_lt_of_le hs3 hz3)).trans hfn;have k2:=(hb5'.cell (p:=⟨b7',c,none⟩) (Nat.lt_of_lt_of_le hb7 hz3)).trans hv)
        | (refine step_append_lies _ (by rfl) _ _ _ (by rfl) w3.heap.size 34 i1 _ 3 32 Tryz.underlying29 hi1 hy0 hy1 hy2 rfl (by omega) _ k (qz (qZ (fl.take k) l)) (by rfl) ((ju hown hb5').alloc _) ⟨w5.heap.size,0,none⟩ 1 1 [.bool false,.int .i64 0,strB (l[c]).text] (by rfl) (by rfl) (World.news_of_block (cs:=#[.bool false,.int .i64 0,strB (l[c]).text]) (t:=34) (fr:=(0,0)) (heap_alloc_new w5 _)) (by simp [Value.oneCell']) (by omega) (by unfold maxLen;omega) (by omega) (by have:=hb5'.size;simp;omega) _ rfl ?_;intro gg cc w7 hown7 hgr7 hat7 hlt7;have m1:=zx hgr7 ((ju hown hb5').alloc _) (je _ k1) hs3;have m2:=zx hgr7 ((ju hown hb5').alloc _) (je _ k2) hb7))
      have HB7:=hid (((hB.trans (hb5'.mono hz3)).alloc (by have:=hb5'.size;omega) _).grown hgr7 (by have:=hb5'.size;simp;omega) (fun k hk=>((ju hown hb5').lt k hk).1))
      have HO7:=hid hown7
      have HCL:Hid (qz (qZ (fl.take (k+1)) l)=qz (qZ (fl.take k) l)++[.bool false,.int .i64 0,strB (l[c]).text]):=by
       show _=_
       rw [HST.out,if_neg (by decide),HNT.out,QG,HOK.out.1,HOK.out.2.1]
      have Hcg:=hid hcg
      clear m1 m2 k1 k2 hfn hv hb5 hb5' hgr7 hown7 hown hB hat7 hlt7 hcg hck
      have hq1:(1:Int)≤(m:Int):=by omega
      have hq2:(1:Int)≤(c0:Int):=by omega
      have hq3:(m:Int)≤(c0:Int):=by omega
      have hq4:1≤m:=by omega
      by_cases hc01:c0=1
      ·have hm1:m=1:=by omega
       subst hc01 hm1
       go_wp2
       go_roundw
       case rel =>
        have hmo:=Hmg.out
        refine ⟨k+1,some ⟨b7',c,none⟩,0,by omega,by go_num,?_,fun h=>?_,by rw [HCL.out];exact HO7.out,HB7.out⟩
        ·rw [HCS.out,if_neg (by decide),show l.length - (c+1)=0 by omega]
        ·rw [HCS.out,if_neg (by decide)] at h
         omega
       case measure=>simp [intOf];omega
      ·go_wp2
       go_roundw
       case rel =>
        have hmo:=Hmg.out
        refine ⟨k+1,some ⟨b7',c+1,none⟩,c0 - 1,by omega,by go_num,?_,fun h=>?_,by rw [HCL.out];exact HO7.out,HB7.out⟩
        ·rw [HCS.out,if_neg (by decide),show l.length - (c+1)=m - 1 by omega]
        ·rw [HCS.out,if_neg (by decide)] at h ⊢
         exact ⟨by omega,b7',Ha7.out,rfl⟩
       case measure=>simp [intOf];omega
    ·have hke:k=fl.length:=by omega
     subst hke
     rw [List.take_length] at hown
     have HLl:=hid (Uu fl l)
     have hOKc:∀ c ∈ qZ fl l,okT c∨c=⟨true,0,[]⟩:=Cy fl l Hl.out.2 (by rw [← Hll.out];exact Nat.le_refl _)
     have HOKc:=hid hOKc
     obtain ⟨a8,c8,rfl,hlies⟩:=YI hown (Uu fl l) (fun c hc=>(Ez (HOKc.out c hc)).1)
     have Hlies:=hid hlies
     have Hbxr:=hid (xj Hbx3.out hB hs3)
     have hbx:=Hbxr.out
     obtain ⟨x0,x1,x2,x3,x4,x5,x6⟩:=hbx
     have Hwr:=hid (Hw3.out.later hg33 hB)
     have hgr:=Nat.lt_of_lt_of_le hg33 hB.size
     have HBr:=hid (HB3.out.trans (hB.mono HB3.out.size))
     have hL60:(qZ fl l).length≤60:=by rw [HLl.out];exact hfl
     have HCK:Hid (qA 1 (qZ fl l)=true):=PQ hL60 HOKc.out
     have HRG:Hid (∀ c ∈ qZ fl l,JD c):=fun c hc=>(Ez (HOKc.out c hc)).2.1
     have HSM:Hid (∀ c ∈ qZ fl l,qG c):=fun c hc=>(Ez (HOKc.out c hc)).2.2
     have hle:=HLl.out
     rw [← hle] at *
     clear hown hlies hOKc hle hB
     generalize qZ fl l=L at *
     go_wp2_with fail
     refine (Bb g a8 c8 L _ hL60 HSM.out Hlies.out hgr Hwr.out).mono ?_
     rintro e w5 ⟨rfl,hb5⟩
     have HB5:=hid (HBr.out.trans (hb5.mono HBr.out.size))
     by_cases heq:xK 1 L=s
     ·have hbq:(xK 1 L == s)=true:=by simp [heq]
      have Heq:=hid heq
      clear heq x0 x1 x2 x3 x4 x5 x6
      go_wp2_with fail
      refine (qe _).mono ?_
      rintro e wN ⟨rfl,rfl⟩
      go_wp2
      go_ret
      refine ⟨HB5.out,.inr ⟨L,a8,c8,rfl,?_,Hlies.out.later hb5⟩⟩
      rw [← Heq.out]
      exact KU 1 L HCK.out HRG.out
     ·have hbq:(xK 1 L == s)=false:=by simpa using heq
      clear x0 x1 x2 x3 x4 x5 x6
      go_wp2_with fail
      refine (qS _).mono ?_
      rintro e wN ⟨rfl,rfl⟩
      go_wp2
      refine ⟨rfl,HB5.out,.inl ⟨rfl,Qo (fun l2 h2=>?_)⟩⟩
      have e1:=HU.out l2 h2
      rw [e1] at h2
      exact heq h2.2.1
end
section
open Go.RowKit
theorem GT (p:Addr) (b:Bool) (u:TypeId) (pv:Value) (older:List PanicEntry) (w:World) (hc:w.cell? p=some (.bool b)) (hz:w.frozen? p=false) :
  CallsD Tryz.prog 110 #[.pointer (some p)] (.panicking ({ v:=.iface u pv,recovered:=false } :: older)) w fun e u' w' =>
   e=.returned (.tuple #[])∧u'=.panicking ({ v:=.iface u pv,recovered:=true } :: older)∧w'=w.setCell p (.bool false):=by
 refine callsD_of_wpS Tryz.func110 rfl fun c₀ cs hu=>?_
 apply wpS_region
 simp [wpOpsS,go_sem,recoverD,hu,Tryz.ntmps110,Exit.thenS,hc,hz,bodyPostS,results,Tryz.results110]
theorem MM (p:Addr) (b:Bool) (w:World) (hc:w.cell? p=some (.bool b)) (hz:w.frozen? p=false) :
  CallsD Tryz.prog 110 #[.pointer (some p)] .returning w fun e u' w'=>e=.returned (.tuple #[])∧u'=.returning∧w'=w.setCell p (.bool true):=by
 refine callsD_of_wpS Tryz.func110 rfl fun c₀ cs hu=>?_
 apply wpS_region
 simp [wpOpsS,go_sem,recoverD,hu,Tryz.ntmps110,Exit.thenS,hc,hz,bodyPostS,results,Tryz.results110]
 cases c₀
 simp_all
theorem Dp (kind:Int) (s:List UInt8) (w:World) (hk:kind=0∨kind=1) (hs:s.length≤maxLen) :
  Calls Tryz.prog 128 #[.int .i64 kind,strB s] w (Nd kind s w):=by
 have Hs:=hid hs
 clear hs
 rcases hk with rfl|rfl
 ·go_enter Tryz.func128,Tryz.ntmps128
  go_wp2_with fail
  refine (GD w).mono ?_
  rintro e w1 ⟨g,rfl,hg,hw,hb1⟩
  have Hw:=hid hw
  clear hw
  go_wp2_with fail
  refine (Bp g s _ Hs.out hg Hw.out).mono ?_
  rintro e w2 ⟨hb2,⟨rfl,hn⟩|⟨l,a,cap,rfl,hu,hl⟩⟩
  ·go_wp2
   exact ⟨rfl,hb1.trans (hb2.mono hb1.size),.inl ⟨rfl,hn⟩⟩
  ·have Hu:=hid hu
   clear hu
   go_wp2
   go_ret
   exact ⟨hb1.trans (hb2.mono hb1.size),.inr ⟨l,a,cap,rfl,Hu.out,hl⟩⟩
 ·go_enter Tryz.func128,Tryz.ntmps128
  go_wp2_with fail
  refine (YB w).mono ?_
  rintro e w1 ⟨g,rfl,hg,hw,hb1⟩
  have Hw:=hid hw
  clear hw
  go_wp2_with fail
  refine (BI g s _ Hs.out hg Hw.out).mono ?_
  rintro e w2 ⟨hb2,⟨rfl,hn⟩|⟨l,a,cap,rfl,hu,hl⟩⟩
  ·go_wp2
   exact ⟨rfl,hb1.trans (hb2.mono hb1.size),.inl ⟨rfl,hn⟩⟩
  ·have Hu:=hid hu
   clear hu
   go_wp2
   go_ret
   exact ⟨hb1.trans (hb2.mono hb1.size),.inr ⟨l,a,cap,rfl,Hu.out,hl⟩⟩
end
section
theorem IK:∀ (l:List Nat),(∀ x ∈ l,x < 18446744073709551616)→(l.flatMap uB).length≤10*l.length:=by
 intro l
 induction l with
 | nil=>intro _;simp
 | cons x l ih =>
  intro h
  have h1:=jY x (h x (by simp))
  have h2:=ih (fun y hy=>h y (List.mem_cons_of_mem _ hy))
  rw [List.flatMap_cons,List.length_append,List.length_cons]
  omega
theorem QL {foot:Nat} {parts footer:List UInt8} {S:SheetF} (hl:∀ x ∈ jL S.cols 4 true (qt S) S.mods,x < 18446744073709551616) (h:SheetOk foot parts footer S):footer.length≤4200:=by
 have hp:=h.plan
 simp only [qP,Bool.and_eq_true,decide_eq_true_eq] at hp
 have hh:=h.heads
 simp only [qc,Bool.and_eq_true,decide_eq_true_eq] at hh
 have hr:=h.rows
 have hc:∀ c ∈ S.cols,(qn c).length≤38:=by
  intro c hc
  obtain ⟨k,hk,rfl⟩:=List.mem_iff_getElem.1 hc
  obtain ⟨a,b,c,d⟩:=QP (Qd hh.1 (Nat.le_refl _) k hk).1
  exact GL (KS a).2 b ⟨c,d⟩
 have h1:=KV qn 38 S.cols hc
 have h2:=IK _ hl
 have h3:=JP h
 have hcn:jX S.rows S.plan.group.toNat≤S.rows:=JZ (by omega)
 have h4:jX S.rows S.plan.group.toNat*S.cols.length≤60*6:=Nat.mul_le_mul (by omega) hh.2.2
 have u1:=jY S.rows (by omega)
 have u2:=jY S.plan.group.toNat (by omega)
 have u3:=jY S.plan.page.toNat (by omega)
 have u4:=jY S.plan.foot.toNat (by omega)
 have u5:=jY S.cols.length (by omega)
 rw [h.footer]
 unfold qo
 simp only [List.length_append]
 omega
end
section
open Go.RowKit
theorem DV (sec non ext body:ByteArray) (w:World) (h:5002 < body.size) (hm:body.size≤maxLen) :
  Calls Tryz.prog 57 #[.string sec,.string non,.string ext,.string body] w fun e w' =>
   e=.returned (.tuple #[strB [],.bool false])∧w'=w:=by
 unfold maxLen at hm
 have i1:¬ (body.size:Int) < 2:=by omega
 have i2:(5002:Int) < (body.size:Int):=by omega
 go_enter Tryz.func57,Tryz.ntmps57
 go_wp2
 go_ret2
 exact ⟨rfl,rfl⟩
def GI:Option (List UInt8)→Value
 | some p=>.tuple #[strB p,.bool true]
 | none=>.tuple #[strB [],.bool false]
theorem PA {sec non ext body:List UInt8} (h2:2≤body.length) (h5:body.length≤5002) (h:XO sec non ext body=true):xp sec non ext body=some (zA sec non (Ir body)):=by
 have:=NP sec non ext body
 rw [h,beq_iff_eq] at this
 unfold xp
 rw [if_pos ⟨h5,h2,this⟩]
 rfl
theorem AE {sec non ext body:List UInt8} (h:XO sec non ext body=false):xp sec non ext body=none:=by
 have:=NP sec non ext body
 rw [h] at this
 unfold xp
 rw [if_neg]
 rintro ⟨_,_,h3⟩
 have h4:(xX sec non ext (zA sec non (Ir body)) == body)=true:=by rw [beq_iff_eq];exact h3
 rw [h4] at this
 cases this
theorem RL (sec non ext body:List UInt8) (w:World) (h1:sec.length≤1000) (h2:non.length≤1000) (h3:ext.length≤5000) (hm:body.length≤maxLen) :
  Calls Tryz.prog 57 #[strB sec,strB non,strB ext,strB body] w fun e w'=>e=.returned (GI (xp sec non ext body))∧Below w.heap.size w w':=by
 have hz:=jM body
 have hd:∀ l:List UInt8,(⟨l.toArray⟩:ByteArray).data.toList=l:=fun l=>by simp
 by_cases hlo:body.length < 2
 ·refine (AO ⟨sec.toArray⟩ ⟨non.toArray⟩ ⟨ext.toArray⟩ ⟨body.toArray⟩ w (by rw [hz];exact hlo)).mono ?_
  rintro e w' ⟨rfl,rfl⟩
  have:xp sec non ext body=none:=by unfold xp;rw [if_neg (by omega)]
  exact ⟨by rw [this];rfl,Below.refl _ _⟩
 by_cases hhi:5002 < body.length
 ·refine (DV ⟨sec.toArray⟩ ⟨non.toArray⟩ ⟨ext.toArray⟩ ⟨body.toArray⟩ w (by rw [hz];exact hhi) (by rw [hz];exact hm)).mono ?_
  rintro e w' ⟨rfl,rfl⟩
  have:xp sec non ext body=none:=by unfold xp;rw [if_neg (by omega)]
  exact ⟨by rw [this];rfl,Below.refl _ _⟩
 cases ho:XO sec non ext body with
 | true =>
  refine (Yz ⟨sec.toArray⟩ ⟨non.toArray⟩ ⟨ext.toArray⟩ ⟨body.toArray⟩ w (by rw [hz];omega) (by rw [hz];omega) (by rw [jM];exact h1) (by rw [jM];exact h2) (by rw [jM];exact h3) (by simp only [hd];exact ho)).mono ?_
  rintro e w' ⟨rfl,hb⟩
  refine ⟨?_,hb⟩
  rw [PA (by omega) (by omega) ho]
  simp only [hd,GI]
 | false =>
  refine (SJ ⟨sec.toArray⟩ ⟨non.toArray⟩ ⟨ext.toArray⟩ ⟨body.toArray⟩ w (by rw [hz];omega) (by rw [hz];omega) (by rw [jM];exact h1) (by rw [jM];exact h2) (by rw [jM];exact h3) (by simp only [hd];exact ho)).mono ?_
  rintro e w' ⟨rfl,hb⟩
  refine ⟨?_,hb⟩
  rw [AE ho]
  rfl
end
section
def zk (c:Nat):List SpotB→Nat
 | []=>0
 | s :: L=>(if s.c=c∧s.sort=80 then s.many else 0)+zk c L
theorem Jp (c:Nat):∀ (L L2:List SpotB),zk c (L++L2)=zk c L+zk c L2:=by
 intro L
 induction L with
 | nil=>intro L2;simp [zk]
 | cons s L ih=>intro L2;simp only [List.cons_append,zk,ih];omega
theorem IV (c i:Nat) (L:List SpotB):zk c (L.take i)≤zk c L:=by
 have:=Jp c (L.take i) (L.drop i)
 rw [List.take_append_drop] at this
 omega
theorem Ec (c P g start n:Nat):∀ k,k*P≤n+P→zk c (jt P g c start n k)=min (k*P) n:=by
 intro k
 induction k with
 | zero=>intro _;simp [jt,zk]
 | succ k ih =>
  intro hk
  rw [Nat.succ_mul] at hk ⊢
  rw [Qi,Jp,ih (by omega)]
  simp only [zk,and_self,if_true]
  unfold jp
  omega
theorem Ig (c:Nat):∀ (L:List SpotB),(∀ s ∈ L,s.c≠c)→zk c L=0:=by
 intro L
 induction L with
 | nil=>intro _;rfl
 | cons s L ih =>
  intro h
  have h1:=h s (List.mem_cons_self ..)
  simp only [zk,h1,false_and,if_false,ih (fun x hx=>h x (List.mem_cons_of_mem _ hx))]
theorem EM (R G P g c:Nat) (hP:1≤P):zk c (jh R G P g c)=jp R G g:=by
 have h1:=Up (n:=jp R G g) hP
 unfold jh
 rw [Jp,Ec _ _ _ _ _ _ h1.2]
 simp only [zk,show ¬ ((77:UInt8)=80) from by decide,and_false,if_false]
 omega
theorem Ex (R G P g c:Nat) (hP:1≤P):∀ C,zk c (jr R G P g C)=if c < C then jp R G g else 0:=by
 intro C
 induction C with
 | zero=>simp [jr,zk]
 | succ C ih =>
  have e:jr R G P g (C+1)=jr R G P g C++jh R G P g C:=by simp [jr,List.range_succ]
  rw [e,Jp,ih]
  by_cases h:c=C
  ·subst h
   rw [EM _ _ _ _ _ hP,if_neg (by omega),if_pos (by omega)]
   omega
  ·rw [Ig c (jh R G P g C) (fun s hs=>by rw [Qg s hs];exact fun e=>h e.symm)]
   by_cases h2:c < C
   ·rw [if_pos h2,if_pos (by omega)]
    omega
   ·rw [if_neg h2,if_neg (by omega)]
theorem UF (R C G P n:Nat):jH R C G P (n+1)=jH R C G P n++jr R G P n C:=by simp [jH,List.range_succ]
theorem Yy (R C G P c:Nat) (hc:c < C) (hP:1≤P):∀ n,n*G≤R+G→zk c (jH R C G P n)=min (n*G) R:=by
 intro n
 induction n with
 | zero=>intro _;simp [jH,zk]
 | succ n ih =>
  intro hn
  rw [Nat.succ_mul] at hn ⊢
  rw [UF,Jp,ih (by omega),Ex _ _ _ _ _ hP,if_pos hc]
  unfold jp
  omega
theorem DE (R C G P c:Nat) (hc:c < C) (hP:1≤P) (hG:1≤G):zk c (qk R C G P)=R:=by
 have h1:=Up (n:=R) hG
 unfold qk
 rw [Yy R C G P c hc hP _ h1.2]
 omega
theorem Mw (R C G P c:Nat) (hc:c < C) (hP:1≤P) (hG:1≤G):∀ n,n≤jX R G→∀ (i:Nat) (s:SpotB),(jH R C G P n)[i]?=some s→s.sort=77→s.start≤zk c ((jH R C G P n).take i):=by
 intro n
 induction n with
 | zero=>intro _ i s h;simp [jH] at h
 | succ n ih =>
  intro hn i s h hs
  have hnG:n*G < R:=(Jr hG).1 (by omega)
  rw [UF] at h ⊢
  by_cases hi:i < (jH R C G P n).length
  ·rw [List.getElem?_append_left hi] at h
   rw [List.take_append_of_le_length (by omega)]
   exact ih (by omega) i s h hs
  ·rw [List.getElem?_append_right (by omega)] at h
   have hmem:=List.mem_of_getElem? h
   simp only [jr,List.mem_flatMap,List.mem_range] at hmem
   obtain ⟨c',_,hm⟩:=hmem
   have hst:s.start=n*G:=by
    simp only [jh,jt,List.mem_append,List.mem_map,List.mem_singleton] at hm
    rcases hm with ⟨p,_,rfl⟩|rfl
    ·exact absurd (show (80:UInt8)=77 from hs) (by decide)
    ·rfl
   rw [List.take_append,List.take_of_length_le (by omega),Jp,Yy R C G P c hc hP n (by omega)]
   omega
theorem MR (pre:List UInt8) (r:List KeyB) (kind key:Int) (c:Nat):∀ (L:List SpotB) (M:List ModF) (x y:List CellB),M.length=L.length→(∀ s ∈ L,s.sort=77∨s.sort=80)→jI pre r kind key c (some x) L M=some y→y.length=x.length+zk c L:=by
 intro L
 induction L with
 | nil=>intro M x y hl _ h;cases M<;>simp [jI] at h<;>simp [h,zk]
 | cons s L ih =>
  intro M x y hl hso h
  rcases M with _|⟨m,M⟩
  ·simp at hl
  simp only [jI] at h
  have hs:=hso s (List.mem_cons_self ..)
  have ih':=fun x'=>ih M x' y (by simpa using hl) (fun s hs=>hso s (List.mem_cons_of_mem _ hs))
  simp only [zk]
  by_cases hc:s.c=c
  ·rw [if_pos hc] at h
   cases hst:QI pre r kind key x s m with
   | none=>rw [hst,xr] at h;cases h
   | some x' =>
    rw [hst] at h
    have:=ih' x' h
    unfold QI at hst
    split at hst
    ·cases hst
    ·rcases hs with hs|hs
     ·rw [if_pos hs] at hst
      split at hst
      ·cases hst
       rw [if_neg (by rw [hs];rintro ⟨_,h⟩;exact absurd h (by decide))]
       omega
      ·cases hst
     ·rw [if_neg (by rw [hs];decide)] at hst
      split at hst
      ·cases hst
      ·split at hst
       ·rename_i hmany
        cases hst
        rw [if_pos ⟨hc,hs⟩]
        rw [List.length_append] at this
        omega
       ·cases hst
  ·rw [if_neg hc] at h
   have:=ih' x h
   rw [if_neg (fun h=>hc h.1)]
   omega
theorem IG (pre:List UInt8) (r:List KeyB) (kind key:Int) {R C G P c:Nat} (hc:c < C) (hP:1≤P) (hG:1≤G) {M:List ModF} (hl:M.length=(qk R C G P).length) {i:Nat} {cells:List CellB} (h:jI pre r kind key c (some []) ((qk R C G P).take i) (M.take i)=some cells) :
  cells.length≤R∧∀ s,(qk R C G P)[i]?=some s→s.sort=77→s.start≤cells.length:=by
 have h1:=MR pre r kind key c _ _ _ _ (by simp [hl]) (fun s hs=>(Kn s (List.mem_of_mem_take hs)).symm) h
 have h2:=IV c i (qk R C G P)
 rw [DE R C G P c hc hP hG] at h2
 simp only [List.length_nil,Nat.zero_add] at h1
 refine ⟨by omega,fun s hs hm=>?_⟩
 have:=Mw R C G P c hc hP hG (jX R G) (Nat.le_refl _) i s hs hm
 rw [h1]
 exact this
end
end Go.Proofs.YthhpbhpfagoapabGreat
