import Derived.Test.YthhpbhpfagoapaaGreatJAY
import Derived.Deep.LoopGhost
import Derived.Deep.CutBlock
import Derived.Maps.AppendAt
namespace Go.Proofs.YthhpbhpfagoapaaGreat
set_option linter.unusedVariables false
set_option linter.unusedSimpArgs false
set_option maxRecDepth 100000
set_option maxHeartbeats 16000000
open Go.RowKit
set_option maxRecDepth 100000 in
theorem YO (p:Nat) (s:List UInt8) (st:Option (List UInt8)) (kind:Int) (n:Nat) (w:World) (hs:s.length≤maxLen) (hpw:p < w.heap.size) (hn:n≤60) (hk:kind=0∨kind=1) (hp:jS w p s st) :
  Calls Tryz.prog 173 #[.pointer (some ⟨p,0,none⟩),.int .i64 kind,.int .i64 (n:Int)] w fun e w'=>∃ v,e=.returned v ∧
   w'.ownsRow w.heap.size 58 3 v (xT kind n st).1.length (jG (xT kind n st).1)∧(∀ c ∈ (xT kind n st).1,okC c)∧jS w' p s (xT kind n st).2∧w.grownBy w' (some p):=by
 have Hp:=hid hp
 clear hp
 obtain ⟨i0,hi0,hz0,hz1,hz2⟩:=info_parts Tryz.infoString
 obtain ⟨i1,hi1,hy0,hy1,hy2⟩:=info_parts Tryz.infoCell
 go_enter Tryz.func173,Tryz.ntmps173
 go_wp2_with fail
 refine (Ql p s st 1 _ hs (by decide) (by decide) Hp.out).mono ?_
 rintro e w1 ⟨rfl,hsp1,hg1⟩
 have Hg1:=hid hg1
 have Hsp1:=hid hsp1
 have hb1:=Ko hsp1
 clear hg1 hsp1
 rcases RI st with ht|⟨c,r,rfl,ht⟩
 ·have HG:Hid (xT kind n st=([],none)):=by simp only [Hid,xT,ht]
  rw [ht] at hb1 Hsp1 ⊢
  simp only [JN] at hb1
  clear ht
  go_wp2
  go_ret
  rw [HG.out]
  exact ⟨_,rfl,World.ownsRow_nil _ _ _ _,by simp,Hsp1.out,Hg1.out⟩
 ·have HG:=hid (QZ kind n c r)
  rw [ht] at hb1 Hsp1 ⊢
  simp only [JN] at hb1
  clear ht
  have hcw:((⟨#[c]⟩:ByteArray)[0]'(by simp [ByteArray.size]))=c:=rfl
  have hcb:=c.toNat_lt
  go_upto_region 7 with fail
  go_cut [33] (fun t wc=>t=.bool (decide (kind=1∧c.toNat=3))∧w1=wc)
  case first =>
   rcases hk with rfl|rfl
   ·go_wp2_with fail
    go_meet
    case rel=>exact ⟨rfl,rfl⟩
   ·by_cases hc3:c.toNat=3
    ·have hci:((c.toNat:Int) == 3)=true:=by simp;omega
     have Hc3:=hid hc3
     clear hc3
     go_wp2_with fail
     go_meet
     case rel=>exact ⟨by simp [Hc3.out],rfl⟩
    ·have hci:((c.toNat:Int) == 3)=false:=by simp;omega
     go_wp2_with fail
     go_meet
     case rel=>exact ⟨by simp [hc3],rfl⟩
  case rest =>
   obtain ⟨rfl,rfl⟩:=hcut
   go_upto_if 33 with fail
   go_cut [8,11,12,13] (fun wv _ _ _ wc=>∃ (words:List (List UInt8)) (stw:Option (List UInt8)),wc.ownsRow w.heap.size 9 1 wv words.length (Qf words)∧(∀ x ∈ words,x.length≤12)∧words.length≤60∧jS wc p s stw∧w.grownBy wc (some p)∧xT kind n (some (c :: r))=xF kind c.toNat words n (n+1) [] qy stw)
   case first =>
    by_cases hw3:kind=1∧c.toNat=3
    ·have HG2:Hid (xT kind n (some (c :: r))=xF kind c.toNat (xU (jJ 60 (some r)).1 (jJ 60 (some r)).2).1 n (n+1) [] qy (xU (jJ 60 (some r)).1 (jJ 60 (some r)).2).2):=by
      have:=HG.out
      rw [if_pos hw3] at this
      rw [hw3.2]
      exact this
     have hd3:decide (kind=1∧c.toNat=3)=true:=by simp [hw3]
     rw [hd3]
     clear hw3 hd3 HG
     go_wp2_with fail
     refine (Jo p s (some r) 60 _ hs (by decide) (by decide) Hsp1.out).mono ?_
     rintro e w2 ⟨rfl,hsp2,hg2⟩
     have HG3:=hid (ja Hg1.out hg2)
     have Hsp2:=hid hsp2
     have hfl:=xI 60 (some r)
     have e60:(60:Int).toNat=60:=rfl
     rw [e60] at Hsp2 ⊢
     clear hsp2 hg2 e60
     generalize jJ 60 (some r)=fw at *
     obtain ⟨k,sw⟩:=fw
     simp only at hfl Hsp2 HG2 ⊢
     go_wp2_with fail
     go_loopw [8,12,13] (fun wv i _ wr=>∃ (j:Nat) (words:List (List UInt8)) (sr:Option (List UInt8)),j≤k∧i=.int .i64 (j:Int)∧wr.ownsRow w.heap.size 9 1 wv words.length (Qf words)∧words.length=j∧(∀ x ∈ words,x.length≤12)∧jS wr p s sr∧w.grownBy wr (some p)∧words++(xU (k - j) sr).1=(xU k sw).1∧(xU (k - j) sr).2=(xU k sw).2)
      (fun _ i _ _=>k - (intOf i).toNat)
     case atStart=>exact ⟨0,[],sw,Nat.zero_le _,rfl,World.ownsRow_nil _ _ _ _,rfl,by simp,Hsp2.out,HG3.out,by simp,by simp⟩
     case round =>
      obtain ⟨j,words,sr,hj,rfl,hown,hwl,hw12,hsp,hg,he1,he2⟩:=hrel
      have Hsp:=hid hsp
      have Hg:=hid hg
      have He1:=hid he1
      have He2:=hid he2
      have Hwl:=hid hwl
      have Hw12:=hid hw12
      clear hsp hg he1 he2 hwl hw12
      by_cases hlt:j < k
      ·go_wp2_with fail
       refine (YC p s sr 12 _ hs (by decide) (by decide) Hsp.out).mono ?_
       rintro e w3 ⟨rfl,hsp3,hg3⟩
       have e12:(12:Int).toNat=12:=rfl
       rw [e12] at hsp3 ⊢
       have hx12:=Tc 12 sr
       have HS:=hid (IX hlt He1.out He2.out)
       clear e12
       have hown3:=qS hown hpw hg3
       have Hsp3:=hid hsp3
       have Hg3:=hid (ja Hg.out hg3)
       have hz3:=Hg3.out.size
       have hwk:words.length < k:=by have:=Hwl.out;omega
       clear hown hsp3 hg3
       generalize xR 12 sr=x at *
       go_wp2_with (at_builtin;refine wpList_append_own _ rfl (.tmp 43) (.tmp 45) 71 rfl w.heap.size 9 i0 (.string ⟨#[]⟩) 1 16 Tryz.underlying71 hi0 hz0 hz1 hz2 rfl (by decide) _ _ _ rfl (hown3.alloc _) ⟨_,0,none⟩ 1 1 [strB x.1] rfl rfl ?c1 ?c2 ?c3 ?c4 ?c5 ?_)
       case c1=>exact qj w3 #[strB x.1] 9
       case c2=>intro u hu;simp at hu;subst hu;rfl
       case c3=>unfold maxLen;omega
       case c4=>omega
       case c5=>simp;omega
       intro v4 w4 hl4 hg4 _
       have HR:=hid (My hpw hown3 hl4 hg4 Hsp3.out Hg3.out)
       clear hl4 hg4 hown3
       go_wp2
       go_roundw
       case rel=>exact ⟨j+1,_,_,by omega,by go_num,HR.out.1,by have:=Hwl.out;simp;omega,by
        intro y hy
        rcases List.mem_append.1 hy with hy|hy
        ·exact Hw12.out y hy
        ·simp at hy;subst hy;exact hx12,HR.out.2.1,HR.out.2.2,HS.out.1,HS.out.2⟩
       case measure=>simp [intOf];omega
      ·have hjk:j=k:=by omega
       subst hjk
       have HE:Hid (words=(xU j sw).1∧sr=(xU j sw).2):=by
        have h1:=He1.out
        have h2:=He2.out
        rw [Nat.sub_self] at h1 h2
        simp only [xU,List.append_nil] at h1 h2
        exact ⟨h1,h2⟩
       go_wp2_with fail
       go_meet
       case rel=>exact ⟨words,sr,hown,Hw12.out,by have:=Hwl.out;omega,Hsp.out,Hg.out,by rw [HG2.out,HE.out.1,HE.out.2]⟩
    ·have HG2:Hid (xT kind n (some (c :: r))=xF kind c.toNat [] n (n+1) [] qy (some r)):=by
      have:=HG.out
      rw [if_neg hw3] at this
      exact this
     have hd3:decide (kind=1∧c.toNat=3)=false:=by simp only [decide_eq_false_iff_not];exact hw3
     rw [hd3]
     clear hw3 hd3 HG
     go_wp2_with fail
     go_meet
     case rel=>exact ⟨[],some r,World.ownsRow_nil _ _ _ _,by simp,by simp,Hsp1.out,Hg1.out,HG2.out⟩
   case rest =>
    obtain ⟨words,stw,hwords,hwl,hwn,hsp,hg,hGs⟩:=hcut
    have HGs:=hid hGs
    have Hsp:=hid hsp
    have Hg:=hid hg
    have hzc:=hg.size
    have Hwl:=hid hwl
    clear hGs hsp hg hwl hb1 hcw HG Hsp1 Hg1
    go_wp2_with fail
    have HW:∃ o:Obj,o=Obj.cells #[Value.bool false,Value.int IntKind.i64 0,Value.string { data:=#[] }] 58∧True:=⟨_,rfl,trivial⟩
    have HA:=hid (Es (n:=n) hpw Hsp.out Hg.out)
    have Hwo:=hid (hwords.alloc (Obj.cells #[Value.bool false,Value.int IntKind.i64 0,Value.string { data:=#[] }] 58))
    have HAz:Hid (wc.heap.size < (wc.alloc (Obj.cells #[Value.bool false,Value.int IntKind.i64 0,Value.string { data:=#[] }] 58)).heap.size):=by simp [Hid]
    clear HW hwords
    generalize c.toNat=e at *
    generalize wc.heap.size=g14 at *
    go_loopg [7,15,16,17,18] (n+1) (fun gk lv _ _ _ _ wr=>∃ (l:List CellB) (last:CellB) (str:Option (List UInt8)),Guess w wr p g14 s str lv l last∧wr.ownsRow w.heap.size 9 1 u8 words.length (Qf words)∧l.length≤n∧g14 < wr.heap.size∧xF kind e words n gk l last str=xF kind e words n (n+1) [] qy stw∧(str.isSome=true→n+1≤gk+l.length))
    case atStart=>exact ⟨[],qy,stw,HA.out,Hwo.out,Nat.zero_le _,HAz.out,rfl,fun _=>by simp⟩
    case round =>
     obtain ⟨l,last,str,hG,hwr,hln,hgz,hgf,hfu⟩:=hrel
     have HG:=hid hG
     have Hwr:=hid hwr
     have Hgf:=hid hgf
     have Hfu:=hid hfu
     obtain ⟨a,cap,rfl,_,_⟩:=Jz hG.row hG.ok
     have hp14:p < g14:=by omega
     obtain ⟨hbad,hbf⟩:=JB hG.spot
     clear hG hwr hgf hfu HA Hwo HAz
     by_cases hgo:l.length < n∧str.isSome=true
     ·obtain ⟨hlt,hsome⟩:=hgo
      obtain ⟨r0,rfl⟩:=Option.isSome_iff_exists.1 hsome
      simp only [JN] at hbad
      have Hfu2:Hid (n+1≤gk+l.length):=Hfu.out rfl
      clear hsome Hfu
      go_upto_block 4 with fail
      have hpr:p < wr.heap.size:=Nat.lt_of_lt_of_le hpw HG.out.grown.size
      have HG15:∃ g15,g15=wr.heap.size:=⟨_,rfl⟩
      obtain ⟨g15,hg15⟩:=HG15
      have HP:=hid (MK hg15 hpr hgz HG.out Hwr.out)
      rw [← hg15] at hpr hgz
      rw [← hg15]
      have Hg15:=hid hg15
      clear hg15 hbad hbf
      generalize wr.alloc (Obj.cells #[Value.bool false,Value.int IntKind.i64 0,Value.string { data:=#[] }] 58)=wa at *
      have HSl:=hid (Dl kind e words n l.length last (some r0) hlt)
      have HSz:=hid (AI kind e words n l.length last (some r0))
      have HSo:=hid (Td kind e words n l.length last (some r0) Hwl.out (by have:=HG.out.lastLen;omega))
      go_cut [16,17] (fun tv _ wc2=>tv=.int .i64 ((qP kind e words n l.length last (some r0)).2.1:Int)∧Block3 wc2 g15 (qP kind e words n l.length last (some r0)).1∧jS wc2 p s (qP kind e words n l.length last (some r0)).2.2∧wr.grownBy wc2 (some p))
      case first =>
       have hb15:=HP.out.newAt
       obtain ⟨⟨n0,n1,n2⟩,nf⟩:=xi hb15
       clear nf
       rcases hk with rfl|rfl
       ·by_cases h0:e=0
        ·subst h0
         have HS:Hid (qP 0 0 words n l.length last (some r0)=(⟨false,(bR (some r0)).1,[]⟩,1,(bR (some r0)).2)):=by simp [Hid,qP]
         go_wp2_with fail
         refine (LC p s (some r0) _ hs HP.out.spot).mono ?_
         rintro e5 w5 ⟨rfl,hsp5,hg5⟩
         have hb5:=hb15.kept hg5 (by have:=HP.out.size;omega) (by omega)
         obtain ⟨⟨m0,m1,m2⟩,mf⟩:=xi hb5
         have mf1:=mf 1
         have Hsp5:=hid hsp5
         have Hg5:=hid (ja HP.out.grown hg5)
         have Hb5:=hid hb5
         clear hsp5 hg5 hb5 mf n0 n1 n2
         generalize bR (some r0)=br at *
         go_wp2_with fail
         go_meet
         case rel =>
          rw [HS.out]
          have:=Vl (x:=br.1) Hg15.out hpr Hb5.out Hsp5.out Hg5.out
          exact ⟨rfl,this.1,this.2.1,this.2.2⟩
        ·have q0:((e:Int) == 0)=false:=by simp;omega
         by_cases h1:e=1
         ·have HS:Hid (qP 0 e words n l.length last (some r0)=(⟨false,wrap64 (last.int+zOf (uR (some r0)).1),[]⟩,1,(uR (some r0)).2)):=by simp [Hid,qP,h1]
          have q1:((e:Int) == 1)=true:=by simp;omega
          clear h0 h1
          obtain ⟨⟨_,k1,_⟩,_⟩:=xi HP.out.lastAt
          have hz15:=HP.out.size
          have HZ:=hid (fun W (hW:jS W p s (some r0))=>Tp p s (some r0) W hs hW)
          have Hsp0:=hid HP.out.spot
          have Hb15:=hid hb15
          have Hl14:=hid HP.out.lastAt
          have Hgw:=hid HP.out.grown
          clear n0 n1 n2 hb15
          generalize uR (some r0)=ur at *
          go_wp2_with fail
          go_region_with (go_at_call 238;refine (HZ.out _ ?_).mono ?_;exact RO Hsp0.out;rintro e5 w5 ⟨rfl,hsp5,hg5⟩;have Hg6:=hid (ja Hgw.out (jx hg5));have Hb5:=hid (Hb15.out.kept (jx hg5) (by omega) (by omega));have Hsp5:=hid hsp5;have x1:=(xi (Hl14.out.kept (jx hg5) (by omega) (by omega))).1.2.1;have x2:=(xi Hb5.out).1.2.1;have x3:=(xi Hb5.out).2 1;clear hsp5 hg5)
          all_goals
           go_wp2_with fail
           go_meet
           case rel =>
            rw [HS.out]
            rw [show IntKind.i64.wrap (last.int+zOf ur.1)=wrap64 (last.int+zOf ur.1) from IntWalk.i64_left _]
            have:=Vl (x:=wrap64 (last.int+zOf ur.1)) Hg15.out hpr Hb5.out Hsp5.out Hg6.out
            exact ⟨rfl,this.1,this.2.1,this.2.2⟩
         ·have q1:((e:Int) == 1)=false:=by simp;omega
          by_cases h2:e=2
          ·have HS:Hid (qP 0 e words n l.length last (some r0)=(⟨false,zOf (uR (jJ (n - l.length) (some r0)).2).1,[]⟩,(jJ (n - l.length) (some r0)).1,if (jJ (n - l.length) (some r0)).1=0 then none else (uR (jJ (n - l.length) (some r0)).2).2)):=by simp [Hid,qP,h2]
           have q2:((e:Int) == 2)=true:=by simp;omega
           clear h0 h1 h2
           have hpz:=HP.out.size
           go_wp2_with fail
           refine (Jo p s (some r0) _ _ hs (by omega) (by omega) HP.out.spot).mono ?_
           rintro e5 w5 ⟨rfl,hsp5,hg5⟩
           have e12:((n:Int) - (l.length:Int)).toNat=n - l.length:=by omega
           rw [e12] at hsp5 ⊢
           have hfl:=xI (n - l.length) (some r0)
           have hb5:=hb15.kept hg5 (by have:=HP.out.size;omega) (by omega)
           have hz5:=hg5.size
           have Hsp5:=hid hsp5
           have Hg5:=hid (ja HP.out.grown hg5)
           have Hb5:=hid hb5
           clear hsp5 hg5 hb5 n0 n1 n2 e12
           generalize jJ (n - l.length) (some r0)=fr at *
           obtain ⟨times,st5⟩:=fr
           simp only at hfl Hsp5 HS ⊢
           go_wp2_with fail
           refine (Tp p s st5 _ hs Hsp5.out).mono ?_
           rintro e6 w6 ⟨rfl,hsp6,hg6⟩
           have hb6:=Hb5.out.kept hg6 (by omega) (by omega)
           obtain ⟨⟨m0,m1,m2⟩,mf⟩:=xi hb6
           have mf1:=mf 1
           have Hsp6:=hid hsp6
           have Hg6:=hid (ja Hg5.out hg6)
           have Hb6:=hid hb6
           obtain ⟨k1,k2⟩:=JB hsp6
           clear hsp6 hg6 hb6 mf
           generalize uR st5=ur at *
           obtain ⟨un,st6⟩:=ur
           simp only at HS Hsp6 k1 k2 ⊢
           have HI:=hid (Vl (x:=zOf un) Hg15.out hpr Hb6.out Hsp6.out Hg6.out)
           have hp15:p≠g15:=by omega
           have hps:g15≠p:=by omega
           cases hib:JN st6 with
           | true =>
            rw [hib] at k1
            have HS6:Hid (st6=none):=by
             cases st6 with
             | none=>rfl
             | some x=>simp [JN] at hib
            have HB:=hid (Xt true (fun _=>rfl) hpr HI.out.1 HI.out.2.1 HI.out.2.2)
            clear hib
            go_wp2_with fail
            go_meet
            case rel =>
             rw [HS.out]
             have hB:=HB.out
             rw [HS6.out]
             refine ⟨rfl,hB.1,?_,hB.2.2⟩
             have h2:=hB.2.1
             simp only [if_true] at h2
             simpa using h2
           | false =>
            rw [hib] at k1
            by_cases ht0:times=0
            ·have q5:((times:Int) == 0)=true:=by simp;omega
             have HB:=hid (Xt true (fun _=>rfl) hpr HI.out.1 HI.out.2.1 HI.out.2.2)
             have Ht0:=hid ht0
             clear hib ht0
             go_wp2_with fail
             go_meet
             case rel =>
              rw [HS.out]
              have hB:=HB.out
              refine ⟨rfl,hB.1,?_,hB.2.2⟩
              have h2:=hB.2.1
              simp only [if_true] at h2
              simpa [Ht0.out] using h2
            ·have q5:((times:Int) == 0)=false:=by simp;omega
             have HB:=hid (Xt false (fun h=>by rw [hib] at h;exact absurd h (by decide)) hpr HI.out.1 HI.out.2.1 HI.out.2.2)
             have Ht0:=hid ht0
             clear hib ht0
             go_wp2_with fail
             go_meet
             case rel =>
              rw [HS.out]
              have hB:=HB.out
              refine ⟨rfl,hB.1,?_,hB.2.2⟩
              have h2:=hB.2.1
              simp only [Bool.false_eq_true,if_false] at h2
              simpa [Ht0.out] using h2
          ·have HS:Hid (qP 0 e words n l.length last (some r0)=(⟨false,0,[]⟩,1,none)):=by simp [Hid,qP,h0,h1,h2]
           have q2:((e:Int) == 2)=false:=by simp;omega
           clear h0 h1 h2
           clear n0 n1 n2
           obtain ⟨c2,f2⟩:=JB HP.out.spot
           go_wp2_with fail
           go_meet
           case rel =>
            rw [HS.out]
            have:=Xt true (fun _=>rfl) hpr hb15 HP.out.spot HP.out.grown
            exact ⟨rfl,this.1,this.2.1,this.2.2⟩
       ·by_cases h0:e=0
        ·have HS:Hid (qP 1 e words n l.length last (some r0)=(⟨false,0,(xR 12 (some r0)).1⟩,1,(xR 12 (some r0)).2)):=by simp [Hid,qP,h0]
         have q0:((e:Int) == 0)=true:=by simp;omega
         clear h0
         go_wp2_with fail
         refine (YC p s (some r0) 12 _ hs (by decide) (by decide) HP.out.spot).mono ?_
         rintro e5 w5 ⟨rfl,hsp5,hg5⟩
         have e12:(12:Int).toNat=12:=rfl
         rw [e12] at hsp5 ⊢
         clear e12
         have hb5:=hb15.kept hg5 (by have:=HP.out.size;omega) (by omega)
         obtain ⟨⟨m0,m1,m2⟩,mf⟩:=xi hb5
         have mf2:=mf 2
         have Hsp5:=hid hsp5
         have Hg5:=hid (ja HP.out.grown hg5)
         have Hb5:=hid hb5
         clear hsp5 hg5 hb5 mf n0 n1 n2
         generalize xR 12 (some r0)=xr at *
         go_wp2_with fail
         go_meet
         case rel =>
          rw [HS.out]
          have:=Uq (x:=xr.1) rfl Hg15.out hpr Hb5.out Hsp5.out Hg5.out
          exact ⟨rfl,this.1,this.2.1,this.2.2⟩
        ·have q0:((e:Int) == 0)=false:=by simp;omega
         by_cases h3:e=3
         ·have q3:((e:Int) == 3)=true:=by simp;omega
          have q4:((e:Int) == 4)=false:=by simp;omega
          by_cases hw0:words=[]
          ·have HS:Hid (qP 1 e words n l.length last (some r0)=(⟨false,0,[]⟩,1,none)):=by simp [Hid,qP,h3,hw0]
           clear h0 h3
           subst hw0
           clear n0 n1 n2
           obtain ⟨c2,f2⟩:=JB HP.out.spot
           have hu8:u8=.slice none 0 0∨∃ g cap,u8=.slice (some ⟨g,0,none⟩) 0 cap:=by
            rcases HP.out.words.2 with ⟨h,_⟩|⟨g,cap,cur,h,_⟩
            ·exact .inl h
            ·exact .inr ⟨g,cap,h⟩
           rcases hu8 with rfl|⟨g,cap,rfl⟩
           all_goals
            go_wp2_with fail
            go_meet
            case rel =>
             rw [HS.out]
             have:=Xt true (fun _=>rfl) hpr hb15 HP.out.spot HP.out.grown
             exact ⟨rfl,this.1,this.2.1,this.2.2⟩
          ·have HS:Hid (qP 1 e words n l.length last (some r0)=(⟨false,0,words.getD (jJ (words.length - 1) (some r0)).1 []⟩,1,(jJ (words.length - 1) (some r0)).2)):=by simp [Hid,qP,h3,hw0]
           clear h0 h3
           have hwl1:0 < words.length:=List.length_pos_iff.2 hw0
           have hwe:=HP.out.words
           obtain ⟨ua,ucap,rfl,hcw⟩:=PG hwe hwl1
           have hpz:=HP.out.size
           go_wp2_with fail
           refine (Jo p s (some r0) _ _ hs (by omega) (by omega) HP.out.spot).mono ?_
           rintro e5 w5 ⟨rfl,hsp5,hg5⟩
           have e12:((words.length:Int) - 1).toNat=words.length - 1:=by omega
           rw [e12] at hsp5 ⊢
           have hfl:=xI (words.length - 1) (some r0)
           have hb5:=hb15.kept hg5 (by have:=HP.out.size;omega) (by omega)
           obtain ⟨⟨m0,m1,m2⟩,mf⟩:=xi hb5
           have mf2:=mf 2
           have Hsp5:=hid hsp5
           have Hg5:=hid (ja HP.out.grown hg5)
           have Hb5:=hid hb5
           have Hw5:=hid (qS hwe hpw hg5)
           clear hsp5 hg5 hb5 mf n0 n1 n2 e12 hwe hcw hw0
           generalize jJ (words.length - 1) (some r0)=fr at *
           obtain ⟨fk,st5⟩:=fr
           simp only at hfl Hsp5 HS ⊢
           have hfk:fk < words.length:=by omega
           have HWd:Hid (words.getD fk []=words[fk]):=by simp [Hid,hfk]
           have hcell:=Ax Hw5.out fk hfk
           generalize words[fk]=wd at *
           have hfi:(fk:Int) < (words.length:Int):=by omega
           go_wp2_with fail
           go_meet
           case rel =>
            rw [HS.out]
            have:=Uq (x:=wd) rfl Hg15.out hpr Hb5.out Hsp5.out Hg5.out
            rw [HWd.out]
            exact ⟨rfl,this.1,this.2.1,this.2.2⟩
         ·have q3:((e:Int) == 3)=false:=by simp;omega
          by_cases h4:e=4
          ·have q4:((e:Int) == 4)=true:=by simp;omega
           have HS:Hid (qP 1 e words n l.length last (some r0)=(⟨false,0,last.text.take (jJ last.text.length (some r0)).1++(xR 12 (jJ last.text.length (some r0)).2).1⟩,1,(xR 12 (jJ last.text.length (some r0)).2).2)):=by simp [Hid,qP,h4]
           clear h0 h3 h4
           obtain ⟨⟨_,_,k1⟩,_⟩:=xi HP.out.lastAt
           have hpz:=HP.out.size
           have hll:=HG.out.lastLen
           have hll2:last.text.length≤720:=by omega
           go_wp2_with fail
           refine (Jo p s (some r0) _ _ hs (by omega) (by omega) HP.out.spot).mono ?_
           rintro e5 w5 ⟨rfl,hsp5,hg5⟩
           have e12:(last.text.length:Int).toNat=last.text.length:=Int.toNat_natCast _
           rw [e12] at hsp5 ⊢
           have hfl:=xI last.text.length (some r0)
           have hb5:=hb15.kept hg5 (by omega) (by omega)
           have hl5:=HP.out.lastAt.kept hg5 (by omega) (by omega)
           have hz5:=hg5.size
           have Hsp5:=hid hsp5
           have Hg5:=hid (ja HP.out.grown hg5)
           have Hb5:=hid hb5
           have Hl5:=hid hl5
           have y1:=(xi hl5).1.2.2
           clear hsp5 hg5 hb5 n0 n1 n2 e12 hl5 k1
           generalize jJ last.text.length (some r0)=fr at *
           obtain ⟨fk,st5⟩:=fr
           simp only at hfl Hsp5 HS ⊢
           have HX:=hid (fun W (hW:jS W p s st5)=>YC p s st5 12 W hs (by decide) (by decide) hW)
           have hx12:=Tc 12 st5
           have e12:(12:Int).toNat=12:=rfl
           rw [e12] at HX
           clear e12
           generalize xR 12 st5=xr at *
           have hfi:(fk:Int)≤(last.text.length:Int):=by omega
           have hq1:¬ (9223372036854775807 < (last.text.take fk).length+xr.1.length):=by rw [List.length_take];omega
           go_wp2_with fail
           go_region_with (go_at_call 222;refine (HX.out _ ?_).mono ?_;exact RO Hsp5.out;rintro e6 w6 ⟨rfl,hsp6,hg6⟩;have Hg6:=hid (ja Hg5.out (jx hg6));have Hb6:=hid (Hb5.out.kept (jx hg6) (by omega) (by omega));have Hsp6:=hid hsp6;have x1:=(xi (Hl5.out.kept (jx hg6) (by omega) (by omega))).1.2.2;have x2:=(xi Hb6.out).1.2.2;have x3:=(xi Hb6.out).2 2;clear hsp6 hg6)
           all_goals
            go_wp2_with fail
            go_meet
            case rel =>
             rw [HS.out]
             have:=Uq (Tr last.text xr.1 fk) Hg15.out hpr Hb6.out Hsp6.out Hg6.out
             exact ⟨rfl,this.1,this.2.1,this.2.2⟩
          ·have q4:((e:Int) == 4)=false:=by simp;omega
           have HS:Hid (qP 1 e words n l.length last (some r0)=(⟨false,0,[]⟩,1,none)):=by simp [Hid,qP,h0,h3,h4]
           clear h0 h3 h4
           clear n0 n1 n2
           obtain ⟨c2,f2⟩:=JB HP.out.spot
           go_wp2_with fail
           go_meet
           case rel =>
            rw [HS.out]
            have:=Xt true (fun _=>rfl) hpr hb15 HP.out.spot HP.out.grown
            exact ⟨rfl,this.1,this.2.1,this.2.2⟩
      case rest =>
       obtain ⟨rfl,hb2,hsp2,hgr2⟩:=hcut
       have HR2:=hid (CE Hg15.out hpr hgz hp14 hpw HG.out Hwr.out hb2 hsp2 hgr2)
       have Hgf2:Hid (xF kind e words n (gk - 1) (l++List.replicate (qP kind e words n l.length last (some r0)).2.1 (qP kind e words n l.length last (some r0)).1) (qP kind e words n l.length last (some r0)).1 (qP kind e words n l.length last (some r0)).2.2=xF kind e words n (n+1) [] qy stw):=by
        have h1:=Hgf.out
        obtain ⟨f,rfl⟩:∃ f,gk=f+1:=⟨gk - 1,by have:=Hfu2.out;omega⟩
        rw [xF,if_pos ⟨hlt,rfl⟩] at h1
        exact h1
       generalize qP kind e words n l.length last (some r0)=S at *
       obtain ⟨v,times,st2⟩:=S
       simp only at HSl HSo HSz HR2 Hgf2 hb2 ⊢
       obtain ⟨vn,vi,vt⟩:=v
       obtain ⟨⟨d0,d1,d2⟩,df⟩:=xi hb2
       simp only at d0 d1 d2
       obtain ⟨y0,y1,y2⟩:=(xi HR2.out.last).1
       have e0:=(xi HR2.out.last).2 0
       have e1:=(xi HR2.out.last).2 1
       have e2:=(xi HR2.out.last).2 2
       clear hb2 hsp2 hgr2 HP df
       have HM:=hid (MF hgz hp14 hzc HR2.out)
       clear HR2
       go_wp2_with fail
       clear y0 y1 y2 e0 e1 e2 d0 d1 d2
       go_loopw [7,18] (fun lv i w3=>∃ k:Nat,k≤times∧i=.int .i64 (k:Int)∧GuessMid w w3 p g14 g15 s st2 lv u8 (l++List.replicate k ⟨vn,vi,vt⟩) ⟨vn,vi,vt⟩ ⟨vn,vi,vt⟩ words)
        (fun _ i _=>times - (intOf i).toNat)
       case atStart=>exact ⟨0,Nat.zero_le _,rfl,HM.out⟩
       case round =>
        obtain ⟨k,hkt,rfl,hm⟩:=hrel
        have Hm:=hid hm
        obtain ⟨⟨d0,d1,d2⟩,df⟩:=xi hm.new
        simp only at d0 d1 d2
        have hzw:=hm.lt
        have hrow:=hm.row
        clear hm HM df
        have hlr:(l++List.replicate k (⟨vn,vi,vt⟩:CellB)).length≤60:=by
         have:=HSl.out.1
         rw [List.length_append,List.length_replicate];omega
        have ht60:times≤60:=by have:=HSl.out.1;omega
        by_cases hkl:k < times
        ·go_wp2_with (at_builtin;refine wpList_append_own_at _ rfl (.tmp 170) (.tmp 172) 59 rfl (g14+1) 58 i1 (.agg #[.bool false,.int .i64 0,.string ⟨#[]⟩]) 3 32 Tryz.underlying59 hi1 hy0 hy1 hy2 rfl (by decide) _ _ _ rfl (hrow.alloc _) ⟨_,0,none⟩ 1 1 [.bool vn,.int .i64 vi,strB vt] rfl rfl ?c1 ?c2 ?c3 ?c4 ?c5 ?_)
         case c1=>exact qj _ #[.bool vn,.int .i64 vi,strB vt] 58
         case c2=>intro u hu;simp at hu;rcases hu with rfl|rfl|rfl<;>rfl
         case c3=>unfold maxLen;omega
         case c4=>omega
         case c5=>simp;omega
         intro v4 w4 hl4 hg4 _ ha4
         have HR:=hid (Dd hgz hp14 hzc Hm.out (by rw [List.length_append,List.length_replicate];exact hl4) hg4 ha4)
         clear hl4 hg4 ha4 hrow Hm d0 d1 d2
         go_wp2
         go_roundw
         case rel=>exact ⟨k+1,by omega,by go_num,HR.out⟩
         case measure=>simp [intOf];omega
        ·have hke:k=times:=by omega
         subst hke
         have HN:=hid (Az hn hln HG.out.lastLen HG.out.ok Hm.out HSl.out.1 (by have:=HSz.out;simp only at this ⊢;omega) HSo.out.1 HSo.out.2)
         clear hrow hkl
         go_wp2_with fail
         go_roundg (gk - 1)
         case measure=>have:=Hfu2.out;omega
         case rel=>exact ⟨_,_,_,HN.out,Hm.out.words,by have:=HSl.out.1;rw [List.length_append,List.length_replicate];omega,by omega,Hgf2.out,fun hso=>by have h1:=HSl.out.2 hso;have h2:=Hfu2.out;rw [List.length_append,List.length_replicate];omega⟩
     ·have HE:Hid (xT kind n (some (c :: r))=(l,str)):=by
       rw [Hid,HGs.out,← Hgf.out]
       exact Eu _ _ _ _ _ _ _ _ hgo
      by_cases hlt:l.length < n
      ·have hb2:JN str=true:=by
        cases str with
        | none=>rfl
        | some x=>exact absurd ⟨hlt,rfl⟩ hgo
       rw [hb2] at hbad
       clear hgo hb2 hbf
       go_wp2
       go_ret
       rw [HE.out]
       exact ⟨_,rfl,jy HG.out.row (by omega),HG.out.ok,HG.out.spot,HG.out.grown⟩
      ·have hle:n≤l.length:=by omega
       clear hgo hbf hlt
       go_wp2
       go_ret
       rw [HE.out]
       exact ⟨_,rfl,jy HG.out.row (by omega),HG.out.ok,HG.out.spot,HG.out.grown⟩
end Go.Proofs.YthhpbhpfagoapaaGreat
