import Derived.Test.YthhpbhpfagoapaaGreatTk
import Derived.Test.YthhpbhpfagoapaaGreatJBA
import Derived.Test.YthhpbhpfagoapaaGreatJBD
import Derived.Test.YthhpbhpfagoapaaGreatJAY
namespace Go.Proofs.YthhpbhpfagoapaaGreat
set_option linter.unusedVariables false
set_option linter.unusedSimpArgs false
set_option maxRecDepth 100000
set_option maxHeartbeats 16000000
open Go.RowKit
theorem Rm (S:SheetF) (foot:Nat) (parts footer:List UInt8) (T base c:Nat) (pre:List UInt8) (ra:Option Addr) (rcap:Nat) (r:List KeyB) (w:World) (hok:SheetOk foot parts footer S) (hT:ToldAt w T base S) (hc:c < S.cols.length) (hpre:pre.length≤20) (hr:xX r=true) (hrm:r.length≤maxLen) (hl:LiesK w ra r) :
  Calls Tryz.prog 91 #[.pointer (some ⟨T,0,none⟩),.int .i64 (c:Int),strB pre,.slice ra r.length rcap] w (LP (xt pre r S c) w):=by
 have hp:=hok.plan
 simp only [qU,Bool.and_eq_true,decide_eq_true_eq] at hp
 have hh:=hok.heads
 simp only [jV,Bool.and_eq_true,decide_eq_true_eq] at hh
 have hR60:=hok.rows
 have hC6:S.cols.length≤6:=by omega
 have hML:=qQ hok.mods
 obtain ⟨hkd,hk0,hk9⟩:=CL hok hc
 have HMO:=hid (Ab hok.mods)
 have hLn:(qx S).length≤21960:=RJ (by omega) (by omega) (by omega) hR60 hC6
 have HSM:Hid (∀ s ∈ qx S,s.g < 60∧s.c < 60∧s.p < 60∧s.start < 60∧s.many≤60):=Ez (by omega) hR60 (by omega) (by omega) (by omega) hC6
 have HSS:Hid (∀ s ∈ qx S,s.sort=80∨s.sort=77):=ZP
 have hca:=QY hc
 have HFD:Hid (xt pre r S c=if 0 < (S.cols[c]).key∧jA r (S.cols[c]).key=false then ⟨(S.cols[c]).name,(S.cols[c]).kind,(S.cols[c]).key,1,[]⟩ else match jD pre r (S.cols[c]).kind (S.cols[c]).key c (some []) (qx S) S.mods with
   | none=>⟨(S.cols[c]).name,(S.cols[c]).kind,(S.cols[c]).key,2,[]⟩
   | some cells=>⟨(S.cols[c]).name,(S.cols[c]).kind,(S.cols[c]).key,0,cells⟩):=by
  show _=_
  unfold xt
  rw [hca]
  rfl
 have HTH:Hid (∀ i cells,jD pre r (S.cols[c]).kind (S.cols[c]).key c (some []) ((qx S).take i) (S.mods.take i)=some cells→cells.length≤S.rows∧∀ s,(qx S)[i]?=some s→s.sort=77→s.c=c→s.start < cells.length):=fun i cells h=>YZ pre r (S.cols[c]).kind (S.cols[c]).key hc (by omega) (by omega) hML h
 obtain ⟨cv,sv,pv,ev,hT1,hT2,hT3,hT4,hT5⟩:=hT
 obtain ⟨pa,pc,rfl⟩:=jr hT4
 obtain ⟨ea,ec,rfl⟩:=jr hT5
 obtain ⟨ca,cc,rfl⟩:=jr hT2
 obtain ⟨sa,sc,rfl⟩:=jr hT3
 have hTw:T < w.heap.size:=(Array.getElem?_eq_some_iff.1 hT1).1
 have HT1:=hid hT1
 have HT2:=hid hT2
 have HT3:=hid hT3
 have HT4:=hid hT4
 have HT5:=hid hT5
 obtain ⟨cg,hcg,hcgl,t0,t1,t2,t3⟩:=YT hT2 c hc
 subst hcg
 have HLK:=hid hl
 have HSE:=hid (fun w' (h:LiesK w' ra r)=>Zm ra rcap r (S.cols[c]).key w' hrm h)
 have HSC:Hid (jm r (S.cols[c]).key=[] ↔ jA r (S.cols[c]).key=false):=XZ hr
 have HSL:Hid (jA r (S.cols[c]).key=true→(jm r (S.cols[c]).key).length=8):=fun h=>QO hr h
 clear hT1 hT2 hT3 hT4 hT5 hl hp hh hca hok hr
 generalize (S.cols[c]).name=nm at *
 generalize (S.cols[c]).kind=kd at *
 generalize hky:(S.cols[c]).key=ky at *
 have HKY:=hid hky
 clear hky
 generalize hLL:qx S=L at *
 generalize hMM:S.mods=M at *
 clear hLL hMM
 have hci:(c:Int) < (S.cols.length:Int):=by omega
 obtain ⟨hb3,hx0,hx1,hx2⟩:=Sq w found0 #[strB nm,.int .i64 kd,.int .i64 ky,nilV] #[strB nm,.int .i64 kd,.int .i64 ky,.int .i64 0,nilV] 91 61 91
 have HA0:=hid (CAt.mk hb3 hx0 hx1 hx2 (cv:=nilV) (cells:=[]) (World.ownsRow_nil _ _ _ _) (sv:=nilV) (n:=0) (xs:=[]) (World.ownsRow_nil _ _ _ _) (by intro u hu;cases hu))
 clear hb3 hx0 hx1 hx2
 obtain ⟨_,_,_,_,_,d5,_⟩:=xq HT1.out
 go_enter Tryz.func91,Tryz.ntmps91
 go_upto_region 3 with fail
 generalize hW0:((w.alloc _).alloc _).alloc _=W0 at *
 clear hW0 t0 t1 t2 t3 d5
 obtain ⟨_,_,e2,_⟩:=KE HA0.out.b1
 go_cut [44] (fun bv wd=>bv=.bool (decide (0 < ky∧jA r ky=false))∧CAt wd w #[strB nm,.int .i64 kd,.int .i64 ky,nilV] #[strB nm,.int .i64 kd,.int .i64 ky,.int .i64 0,nilV] nilV [] nilV 0 [])
 case first =>
  by_cases hk:0 < ky
  ·go_wp2_with fail
   refine (HSE.out W0 (HLK.out.later HA0.out.below)).mono ?_
   rintro e w1 ⟨rfl,hb1⟩
   have HA1:=hid (HA0.out.later hb1)
   clear hb1 e2
   cases hs:jA r ky with
   | false =>
    rw [HSC.out.2 hs]
    go_wp2
    go_meet
    case rel=>exact ⟨by simp [hk,hs],HA1.out⟩
   | true =>
    obtain ⟨b,l,hbl⟩:∃ b l,jm r ky=b :: l:=by
     have:=HSL.out hs
     match hq:jm r ky with
     | []=>rw [hq] at this;cases this
     | b :: l=>exact ⟨b,l,rfl⟩
    rw [hbl]
    go_wp2
    go_meet
    case rel=>exact ⟨by simp [hs],HA1.out⟩
  ·obtain rfl:ky=0:=by omega
   go_wp2
   go_meet
   case rel=>exact ⟨by simp,HA0.out⟩
 case rest =>
  obtain ⟨hbv,hA⟩:=hcut
  subst hbv
  have HA1:=hid hA
  clear hA HA0 e2
  by_cases hlk:0 < ky∧jA r ky=false
  ·rw [if_pos hlk] at HFD
   have hd:decide (0 < ky∧jA r ky=false)=true:=decide_eq_true hlk
   rw [hd]
   obtain ⟨_,_,_,g3,_⟩:=Uj HA1.out.b2
   have f3:=frozen_of_row wc (w.heap.size+2) 3 _ _ HA1.out.b2
   go_upto_region 5 with fail
   have HE2:Hid (CAt (wc.setCell ⟨w.heap.size+2,3,none⟩ (.int .i64 1)) w #[strB nm,.int .i64 kd,.int .i64 ky,nilV] #[strB nm,.int .i64 kd,.int .i64 ky,.int .i64 1,nilV] nilV [] nilV 0 []):=HA1.out.setF 3 (.int .i64 1)
   clear g3 f3
   generalize hye:wc.setCell _ _=ye at *
   clear hye
   go_wp2_with (first|(refine wpList_load_row rfl 91 (.tmp 11) rfl (w.heap.size+2) rfl 91 #[strB nm,.int .i64 kd,.int .i64 ky,.int .i64 1,nilV] (0,0) _ HE2.out.b2 Tryz.underlying91 rfl (by kernel_rfl) ?_)|(refine wpList_store_row rfl 91 (.tmp 8) (.tmp 46) rfl w.heap.size #[strB nm,.int .i64 kd,.int .i64 ky,.int .i64 1,nilV] rfl rfl 91 found0 HE2.out.b0 (by kernel_rfl) rfl (by simp [Value.oneCell']) ?_))
   have HoE:=hid (setRow_heap ye w.heap.size _ #[strB nm,.int .i64 kd,.int .i64 ky,.int .i64 1,nilV] 91 (0,0) HE2.out.b0)
   have HBE:=hid (HE2.out.below.trans (jg (Qy ye w.heap.size #[strB nm,.int .i64 kd,.int .i64 ky,.int .i64 1,nilV]) (Nat.le_refl _) HE2.out.below.size))
   generalize hze:ye.setRow _ _=ze at *
   clear hze
   rw [HFD.out]
   exact bodyPost_ret (v:=.tuple #[.agg #[strB nm,.int .i64 kd,.int .i64 ky,.int .i64 1,nilV],nilV]) (ql (p:=8) (q:=9) rfl _ _ _ _ _ rfl rfl (run_loadVar_row (P:=Tryz.prog) ze w.heap.size 91 91 #[strB nm,.int .i64 kd,.int .i64 ky,.int .i64 1,nilV] (0,0) _ HoE.out Tryz.underlying91 rfl (by kernel_rfl))) rfl ⟨HBE.out,nilV,nilV,0,[],rfl,World.ownsRow_nil _ _ _ _,(fun x hx=>by cases hx),World.ownsRow_nil _ _ _ _,Nat.zero_le _,(fun u hu=>by cases hu)⟩
  ·rw [if_neg hlk] at HFD
   have hd:decide (0 < ky∧jA r ky=false)=false:=decide_eq_false hlk
   rw [hd]
   have HSL8:Hid (0 < ky→(jm r ky).length≤1000):=fun h=>by
    have:jA r ky=true:=by
     cases hq:jA r ky with
     | true=>rfl
     | false=>exact absurd ⟨h,hq⟩ hlk
    rw [HSL.out this]
    decide
   clear hd hlk HSC HSL HSE
   go_wp2
   go_loopw [12,13,14] (fun cv sv i wr=>∃ (k:Nat) (cells:List CellB) (n:Nat) (xs:List Value),k≤L.length∧i=.int .i64 (k:Int)∧jD pre r kd ky c (some []) (L.take k) (M.take k)=some cells∧CAt wr w #[strB nm,.int .i64 kd,.int .i64 ky,nilV] #[strB nm,.int .i64 kd,.int .i64 ky,.int .i64 0,nilV] cv cells sv n xs∧(∀ x ∈ cells,qz x)∧n≤k) (fun _ _ i _=>L.length - (intOf i).toNat)
   case atStart=>exact ⟨0,[],0,[],Nat.zero_le _,rfl,by simp [jD],HA1.out,(by intro x hx;cases hx),Nat.le_refl _⟩
   case round =>
    obtain ⟨k,cells,n,xs,hkL,rfl,hcf,hA,hsm,hnk⟩:=hrel
    obtain ⟨va,vc,rfl⟩:=jr hA.cellrow
    obtain ⟨za,zc,rfl⟩:=jr hA.sealrow
    have HCF:=hid hcf
    have HA:=hid hA
    have HSMC:=hid hsm
    clear hcf hA hsm HA1
    have d6:=(xq (jb HA.out.below HT1.out)).2.2.2.2.2.2.1
    by_cases hlt:k < L.length
    ·have hki:(k:Int) < (L.length:Int):=by omega
     have hkm:k < M.length:=by omega
     have hkmi:(k:Int) < (M.length:Int):=by omega
     obtain ⟨sg,hsg,hsgl,s0,s1,s2,s3,s4,s5⟩:=UV (jw HT3.out HA.out.below) k hlt
     have hsg':=hsg
     subst hsg'
     have HBX:=hid (qg wr #[strB [(L[k]).sort],.int .i64 ((L[k]).g:Int),.int .i64 ((L[k]).c:Int),.int .i64 ((L[k]).p:Int),.int .i64 ((L[k]).start:Int),.int .i64 ((L[k]).many:Int)] 161).2.2.2
     have HAB:=hid (HA.out.alloc (.cells #[strB [(L[k]).sort],.int .i64 ((L[k]).g:Int),.int .i64 ((L[k]).c:Int),.int .i64 ((L[k]).p:Int),.int .i64 ((L[k]).start:Int),.int .i64 ((L[k]).many:Int)] 161))
     have hBw:=HA.out.size
     have HMOK:=hid (HMO.out k hlt hkm)
     have hq:=HSM.out L[k] (List.getElem_mem hlt)
     have hss:=HSS.out L[k] (List.getElem_mem hlt)
     have HGS:Hid (L[k]?=some L[k]):=List.getElem?_eq_getElem hlt
     have HGM:Hid (M[k]?=some M[k]):=List.getElem?_eq_getElem hkm
     go_upto_region 12 with fail
     clear s0 s1 s2 s3 s4 s5 d6 HA
     generalize hwx:wr.alloc _=wx at *
     clear hwx
     generalize hBB:wr.heap.size=B at *
     clear hBB
     obtain ⟨pg,hpg,_,p0⟩:=Ci (jw HT4.out HAB.out.below) k hkm
     subst hpg
     obtain ⟨_,_,_,_,_,_,_,d7,_⟩:=xq (jb HAB.out.below HT1.out)
     have HMA:=hid (fun y (hb:Below w.heap.size w y)=>Sb (jw HT5.out hb) k hkm)
     generalize L[k]=s at *
     generalize hmk:M[k]=m at *
     clear hmk
     have HST:=hid (ED pre r kd ky c HGS.out HGM.out HCF.out)
     obtain ⟨x0,x1,x2,x3,x4,x5⟩:=JU HBX.out
     by_cases hcc:s.c=c
     ·rw [if_pos hcc] at HST
      have hne:((s.c:Int) != (c:Int))=false:=by simp [hcc]
      have HCC:=hid hcc
      clear hcc
      obtain ⟨_,_,e2,_⟩:=KE HAB.out.b1
      go_upto_if 76 with fail
      clear x0 x1 x2 x3 x4 x5 d7 p0
      go_cut [13,16,17,76] (fun sv' pv' okv _ wd=>∃ n' xs' ok p,pv'=strB p∧okv=.bool ok∧ok=(Jc pre r ky s m).isSome∧(∀ q,Jc pre r ky s m=some q→p=q)∧CAt wd w #[strB nm,.int .i64 kd,.int .i64 ky,nilV] #[strB nm,.int .i64 kd,.int .i64 ky,.int .i64 0,nilV] (.slice va cells.length vc) cells sv' n' xs'∧n'≤k+1∧wd.heap[B]?=some (.cells #[strB [s.sort],.int .i64 (s.g:Int),.int .i64 (s.c:Int),.int .i64 (s.p:Int),.int .i64 (s.start:Int),.int .i64 (s.many:Int)] 161 (0,0)))
      case first =>
       by_cases hk:0 < ky
       ·have HPF:Hid (Jc pre r ky s m=qo (jm r ky) m.nonce (qu pre s.sort s.g s.c s.p) m.body):=by
         show _=_
         unfold Jc
         rw [if_neg (by omega)]
        have hmo:=HMOK.out
        rw [HCC.out,QY hc,HKY.out] at hmo
        have hmo2:m.nonce.length=4∧m.body.length≤65535:=by
         rcases hmo with h|h
         ·omega
         ·exact ⟨h.2.2.1,h.2.2.2.2⟩
        obtain ⟨sec,hsec⟩:∃ sec,sec=jm r ky:=⟨_,rfl⟩
        obtain ⟨bd,hbd⟩:∃ bd,bd=qu pre s.sort s.g s.c s.p:=⟨_,rfl⟩
        obtain ⟨oo,hoo⟩:∃ oo,oo=(Jc pre r ky s m).isSome:=⟨_,rfl⟩
        have HOO:=hid hoo
        have HBD:Hid (∀ w',Calls Tryz.prog 86 #[strB pre,strB [s.sort],.int .i64 (s.g:Int),.int .i64 (s.c:Int),.int .i64 (s.p:Int)] w' fun e w2=>e=.returned (strB bd)∧Below w'.heap.size w' w2):=fun w'=>by
         rw [hbd]
         exact VG pre s.sort s.g s.c s.p w' hpre (by omega) (by omega) (by omega)
        have HOP:Hid (∀ w',LiesK w' ra r→Calls Tryz.prog 89 #[.slice ra r.length rcap,.int .i64 ky,strB bd,.agg #[strB m.nonce,strB m.body]] w' fun e w2=>Below w'.heap.size w' w2∧∃ p,e=.returned (.tuple #[.agg #[strB sec,strB m.nonce,strB bd,strB m.body],strB p,.bool oo])∧∀ q,Jc pre r ky s m=some q→p=q):=fun w' h=>by
         have hbl:=Xu pre s.sort s.g s.c s.p hpre
         have h2:=Ud ra rcap r ky (qu pre s.sort s.g s.c s.p) m.nonce m.body w' h hrm (HSL8.out hk) (by omega) (by omega) (by unfold maxLen;omega)
         rw [hoo,hsec,hbd,HPF.out]
         exact h2
        clear hsec hbd hoo hmo
        obtain ⟨eg,heg,_⟩:=HMA.out wx HAB.out.below
        subst heg
        have HS17:Hid (∀ w',CAt w' w #[strB nm,.int .i64 kd,.int .i64 ky,nilV] #[strB nm,.int .i64 kd,.int .i64 ky,.int .i64 0,nilV] (.slice va cells.length vc) cells (.slice za n zc) n xs→w'.heap[B]?=some (.cells #[strB [s.sort],.int .i64 (s.g:Int),.int .i64 (s.c:Int),.int .i64 (s.p:Int),.int .i64 (s.start:Int),.int .i64 (s.many:Int)] 161 (0,0))→w'.cell? ⟨w.heap.size+1,2,none⟩=some (.int .i64 ky)∧w'.cell? ⟨B,0,none⟩=some (strB [s.sort])∧w'.cell? ⟨B,1,none⟩=some (.int .i64 (s.g:Int))∧w'.cell? ⟨B,2,none⟩=some (.int .i64 (s.c:Int))∧w'.cell? ⟨B,3,none⟩=some (.int .i64 (s.p:Int))∧w'.cell? ⟨T,8,none⟩=some (.slice (some ⟨eg,0,none⟩) M.length ec)∧w'.cell? ⟨eg,k*2,none⟩=some (strB m.nonce)∧w'.cell? ⟨eg,k*2+1,none⟩=some (strB m.body)):=fun y hA hB=>by
         obtain ⟨g,hg,_,h1,h2⟩:=HMA.out y hA.below
         simp only [Option.some.injEq,Addr.mk.injEq,and_true] at hg
         subst hg
         obtain ⟨y0,y1,y2,y3,_⟩:=JU hB
         exact ⟨(KE hA.b1).2.2.1,y0,y1,y2,y3,(xq (jb hA.below HT1.out)).2.2.2.2.2.2.2.2,h1,h2⟩
        have HBS:=hid (qg wx seal0 40).2.2.2
        have HAC:=hid (HAB.out.alloc (.cells seal0 40))
        have HBC:=hid (Jt (.cells seal0 40) HBX.out)
        have HZB:=hid (zG HAB.out.sealrow (Nat.le_refl _))
        have HVB:=hid (zG HAB.out.cellrow (Nat.le_refl _))
        have hB2:=HAB.out.size
        have hBl:B < wx.heap.size:=(Array.getElem?_eq_some_iff.1 HBX.out).1
        clear HAB HBX
        go_upto_region 17 with fail
        clear e2
        generalize hwy:wx.alloc _=wy at *
        clear hwy
        generalize hBs:wx.heap.size=B2 at *
        clear hBs
        have hS:=HS17.out wy HAC.out HBC.out
        refine wp_region_held_drew (S:=fun w'=>w'.cell? ⟨w.heap.size+1,2,none⟩=some (.int .i64 ky)∧w'.cell? ⟨B,0,none⟩=some (strB [s.sort])∧w'.cell? ⟨B,1,none⟩=some (.int .i64 (s.g:Int))∧w'.cell? ⟨B,2,none⟩=some (.int .i64 (s.c:Int))∧w'.cell? ⟨B,3,none⟩=some (.int .i64 (s.p:Int))∧w'.cell? ⟨T,8,none⟩=some (.slice (some ⟨eg,0,none⟩) M.length ec)∧w'.cell? ⟨eg,k*2,none⟩=some (strB m.nonce)∧w'.cell? ⟨eg,k*2+1,none⟩=some (strB m.body)) (by kernel_rfl) hS (fun hHeld=>?_)
        refine tk 0 (.slice ra r.length rcap) ?_
        refine tk 1 (.pointer (some ⟨w.heap.size+1,2,none⟩)) ?_
        refine tk 2 (.int .i64 ky) ?_
        refine tk 3 (strB pre) ?_
        refine tk 4 (.pointer (some ⟨B,0,none⟩)) ?_
        refine tk 5 (strB [s.sort]) ?_
        refine tk 6 (.pointer (some ⟨B,1,none⟩)) ?_
        refine tk 7 (.int .i64 (s.g:Int)) ?_
        refine tk 8 (.pointer (some ⟨B,2,none⟩)) ?_
        refine tk 9 (.int .i64 (s.c:Int)) ?_
        refine tk 10 (.pointer (some ⟨B,3,none⟩)) ?_
        refine tk 11 (.int .i64 (s.p:Int)) ?_
        refine tk 13 (.pointer (some ⟨T,0,none⟩)) ?_
        refine tk 14 (.pointer (some ⟨T,0,none⟩)) ?_
        refine tk 15 (.pointer (some ⟨T,8,none⟩)) ?_
        refine tk 16 (.slice (some ⟨eg,0,none⟩) M.length ec) ?_
        refine tk 17 (.int .i64 (k:Int)) ?_
        refine tk 18 (.pointer (some ⟨eg,k*2,none⟩)) ?_
        refine tk 19 (.agg #[strB m.nonce,strB m.body]) ?_
        simp only [ga,gb,List.getElem_cons_succ,Act.put,gd,ge,gf]
        refine rd 12 (fun K hK=>?_)
        simp only [ga,gb,List.getElem_cons_succ]
        go_simp
        go_at_call 86
        refine (HBD.out _).mono ?_
        rintro e y1 ⟨rfl,hb1⟩
        replace hb1:=ji hb1
        have HA1:=hid (HAC.out.later hb1)
        have HB1:=hid (jb hb1 HBC.out)
        have HS1:=hid (jb hb1 HBS.out)
        clear hb1 hS HAC HBC HBS
        have hS:=HS17.out y1 HA1.out HB1.out
        try go_wp2_with fail
        refine hK.out _ _ hS (fun hHeld=>?_)
        clear hK K
        try simp only [ga,gb,List.getElem_cons_succ,Act.put,gd,ge,gf]
        refine rd 20 (fun K hK=>?_)
        simp only [ga,gb,List.getElem_cons_succ]
        go_simp
        go_at_call 89
        refine (HOP.out _ (HLK.out.later HA1.out.below)).mono ?_
        rintro e y2 ⟨hb2,p,rfl,hpq⟩
        have HPQ:=hid hpq
        have HA2:=hid (HA1.out.later hb2)
        have HB2:=hid (jb hb2 HB1.out)
        have HS2:=hid (jb hb2 HS1.out)
        clear hb2 hS hpq HA1 HB1 HS1
        have hS:=HS17.out y2 HA2.out HB2.out
        try go_wp2_with fail
        refine hK.out _ _ hS (fun hHeld=>?_)
        clear hK K
        try simp only [ga,gb,List.getElem_cons_succ,Act.put,gd,ge,gf]
        refine tk 21 (.tuple #[.agg #[strB sec,strB m.nonce,strB bd,strB m.body],strB p,.bool oo]) ?_
        refine tk 22 (.agg #[strB sec,strB m.nonce,strB bd,strB m.body]) ?_
        refine tk 23 (strB p) ?_
        refine tk 24 (.bool oo) ?_
        simp only [ga,gb,List.getElem_cons_succ,Act.put,gd,ge,gf]
        refine rd 25 (fun K hK=>?_)
        simp only [ga,gb,List.getElem_cons_succ]
        rw [if_pos (by simp [Region.wanted])]
        refine wp_store_row 40 (.tmp 18) (.tmp 100) rfl B2 #[strB sec,strB m.nonce,strB bd,strB m.body] rfl rfl 40 seal0 HS2.out (by kernel_rfl) rfl (by simp [Value.oneCell']) ?_
        have HA3:=hid (HA2.out.rowB B2 #[strB sec,strB m.nonce,strB bd,strB m.body] hB2 HVB.out HZB.out)
        have HB3:=hid (qi (Qy y2 B2 #[strB sec,strB m.nonce,strB bd,strB m.body]) HB2.out (by omega))
        have HS3:=hid (setRow_heap y2 B2 _ #[strB sec,strB m.nonce,strB bd,strB m.body] 40 (0,0) HS2.out)
        clear hS HA2 HB2 HS2
        have hS:=HS17.out _ HA3.out HB3.out
        refine hK.out _ _ hS (fun hHeld=>?_)
        clear hK K
        try simp only [ga,gb,List.getElem_cons_succ,Act.put,gd,ge,gf]
        refine tk 26 (strB p) ?_
        refine tk 27 (.bool oo) ?_
        simp only [ga,gb,List.getElem_cons_succ,Act.put,gd,ge,gf]
        refine wpAnyH_done (by kernel_rfl) ?_ _
        clear hHeld hS
        generalize hy3:y2.setRow _ _=y3 at *
        clear hy3
        obtain ⟨i0,hi,hz0,hz1,hz2⟩:=info_parts Tryz.infoSealed
        go_wp2_with (first|(refine wpList_load_row rfl 40 (.tmp 18) rfl B2 rfl 40 #[strB sec,strB m.nonce,strB bd,strB m.body] (0,0) _ HS3.out Tryz.underlying40 rfl (by kernel_rfl) ?_)|(at_builtin;refine wpList_append_own _ rfl (.tmp 103) (.tmp 105) 28 rfl (w.heap.size+3) 40 i0 _ 4 64 Tryz.underlying28 hi hz0 hz1 hz2 rfl (by decide) _ _ _ rfl (HA3.out.sealrow.alloc _) ⟨_,0,none⟩ 1 1 [strB sec,strB m.nonce,strB bd,strB m.body] rfl rfl (qj y3 #[strB sec,strB m.nonce,strB bd,strB m.body] 40) (by intro u hu;simp at hu;rcases hu with rfl|rfl|rfl|rfl<;>rfl) (by unfold maxLen;omega) (by omega) (by have:=HA3.out.size;simp;omega) ?_;intro v4 w4 hown4 hgr4 _))
        have HA4:=hid ((HA3.out.alloc (.cells #[strB sec,strB m.nonce,strB bd,strB m.body] 40)).sealUp hgr4 hown4 (by
         intro u hu
         rcases List.mem_append.1 hu with h|h
         ·exact HA3.out.one u h
         ·simp at h
          rcases h with rfl|rfl|rfl|rfl<;>rfl))
        have HB4:=hid (jq hgr4 (HA3.out.sealrow.alloc (.cells #[strB sec,strB m.nonce,strB bd,strB m.body] 40)) (Jt (.cells #[strB sec,strB m.nonce,strB bd,strB m.body] 40) HB3.out) (by decide))
        clear hown4 hgr4 HA3 HB3 HS3
        go_wp2
        go_meet
        case rel=>exact ⟨n+1,_,oo,p,rfl,rfl,HOO.out,HPQ.out,HA4.out,by omega,HB4.out⟩
       ·have hk00:ky=0:=by omega
        go_wp2
        go_meet
        case rel=>exact ⟨n,xs,true,m.plain,rfl,rfl,by unfold Jc;rw [if_pos hk00];rfl,fun q hq=>by unfold Jc at hq;rw [if_pos hk00] at hq;injection hq,HAB.out,by omega,HBX.out⟩
      case rest =>
       obtain ⟨n',xs',ok,p,hpv,hov,hok,hpq,hA,hn',hBX⟩:=hcut
       subst hpv hov
       have HAD:=hid hA
       have HBD:=hid hBX
       have HPQ:=hid hpq
       have HOK:=hid hok
       obtain ⟨zb,zd,hze⟩:=jr hA.sealrow
       subst hze
       clear hA hBX hpq hok HAB HBX
       obtain ⟨x0,x1,x2,x3,x4,x5⟩:=JU HBD.out
       obtain ⟨_,e1,e2,_⟩:=KE HAD.out.b1
       cases ok with
       | false =>
        have HPN:Hid (Jc pre r ky s m=none):=by
         show _=_
         cases hq:Jc pre r ky s m with
         | none=>rfl
         | some q=>have:=HOK.out;rw [hq] at this;cases this
        have HSN:Hid (Qi pre r kd ky cells s m=none):=by
         show _=_
         unfold Qi
         rw [HPN.out]
        rw [HSN.out] at HST
        rw [XT pre r kd ky c hML HST.out] at HFD
        clear x0 x1 x2 x3 x4 x5 e1 e2
        go_upto_region 26 with fail
        obtain ⟨_,_,_,g3,_⟩:=Uj HAD.out.b2
        have f3:=frozen_of_row wc (w.heap.size+2) 3 _ _ HAD.out.b2
        go_upto_region 27 with fail
        have HE2:Hid (CAt (wc.setCell ⟨w.heap.size+2,3,none⟩ (.int .i64 2)) w #[strB nm,.int .i64 kd,.int .i64 ky,nilV] #[strB nm,.int .i64 kd,.int .i64 ky,.int .i64 2,nilV] (.slice va cells.length vc) cells (.slice zb n' zd) n' xs'):=HAD.out.setF 3 (.int .i64 2)
        clear g3 f3
        generalize hye:wc.setCell _ _=ye at *
        clear hye
        go_wp2_with (first|(refine wpList_load_row rfl 91 (.tmp 11) rfl (w.heap.size+2) rfl 91 #[strB nm,.int .i64 kd,.int .i64 ky,.int .i64 2,nilV] (0,0) _ HE2.out.b2 Tryz.underlying91 rfl (by kernel_rfl) ?_)|(refine wpList_store_row rfl 91 (.tmp 8) (.tmp 144) rfl w.heap.size #[strB nm,.int .i64 kd,.int .i64 ky,.int .i64 2,nilV] rfl rfl 91 found0 HE2.out.b0 (by kernel_rfl) rfl (by simp [Value.oneCell']) ?_))
        have HoE:=hid (setRow_heap ye w.heap.size _ #[strB nm,.int .i64 kd,.int .i64 ky,.int .i64 2,nilV] 91 (0,0) HE2.out.b0)
        have HBE:=hid (HE2.out.below.trans (jg (Qy ye w.heap.size #[strB nm,.int .i64 kd,.int .i64 ky,.int .i64 2,nilV]) (Nat.le_refl _) HE2.out.below.size))
        generalize hze:ye.setRow _ _=ze at *
        clear hze
        rw [HFD.out]
        exact bodyPost_ret (v:=.tuple #[.agg #[strB nm,.int .i64 kd,.int .i64 ky,.int .i64 2,nilV],nilV]) (ql (p:=8) (q:=9) rfl _ _ _ _ _ rfl rfl (run_loadVar_row (P:=Tryz.prog) ze w.heap.size 91 91 #[strB nm,.int .i64 kd,.int .i64 ky,.int .i64 2,nilV] (0,0) _ HoE.out Tryz.underlying91 rfl (by kernel_rfl))) rfl ⟨HBE.out,nilV,nilV,0,[],rfl,World.ownsRow_nil _ _ _ _,(fun x hx=>by cases hx),World.ownsRow_nil _ _ _ _,Nat.zero_le _,(fun u hu=>by cases hu)⟩
       | true =>
        have HPS:Hid (Jc pre r ky s m=some p):=by
         show _=_
         cases hq:Jc pre r ky s m with
         | none=>have:=HOK.out;rw [hq] at this;cases this
         | some q=>rw [HPQ.out q hq]
        have hpl:p.length≤65535:=by
         have hmo:=HMOK.out
         rw [HCC.out,QY hc,HKY.out] at hmo
         exact Du hmo HPS.out
        have HSF:Hid (Qi pre r kd ky cells s m=if s.sort=77 then (if p=JR kd (cells.drop s.start) then some cells else none) else match qV kd p with
          | none=>none
          | some l=>if l.length=s.many then some (cells++l) else none):=by
         show _=_
         unfold Qi
         rw [HPS.out]
         rfl
        rcases hss with hso|hso
        ·rw [if_neg (by rw [hso];decide)] at HSF
         rw [hso] at x0
         have hvc:=(GJ HAD.out.cellrow).1
         obtain ⟨i1,hi1,hy0,hy1,hy2⟩:=info_parts Tryz.infoCell
         have hcl:=(HTH.out k cells HCF.out).1
         go_wp2_with fail
         clear x0 x1 x2 x3 x4 e1 e2
         refine (MD kd p wc hkd (by unfold maxLen;omega)).mono ?_
         rintro e w5 ⟨v,rfl,hpa,hb5⟩
         have HA5:=hid (HAD.out.later hb5)
         have HB5:=hid (jb hb5 HBD.out)
         clear hb5 HAD HBD x5
         have x5:=(JU HB5.out).2.2.2.2.2
         cases hu:qV kd p with
         | none =>
          rw [hu] at hpa HSF
          simp only [Yw] at hpa
          obtain ⟨a2,cap2,hv⟩:=hpa
          subst hv
          rw [HSF.out] at HST
          rw [XT pre r kd ky c hML HST.out] at HFD
          rw [show (none:Option (List CellB)).isSome=false from rfl]
          go_upto_region 26 with (at_builtin;refine xM rfl (.tmp 138) (.tmp 139) 59 rfl 58 i1 Tryz.underlying59 hi1 va cells.length vc rfl hvc a2 cap2 rfl ?_)
          clear x5
          obtain ⟨_,_,_,g3,_⟩:=Uj HA5.out.b2
          have f3:=frozen_of_row w5 (w.heap.size+2) 3 _ _ HA5.out.b2
          go_upto_region 27 with fail
          have HE2:Hid (CAt (w5.setCell ⟨w.heap.size+2,3,none⟩ (.int .i64 2)) w #[strB nm,.int .i64 kd,.int .i64 ky,nilV] #[strB nm,.int .i64 kd,.int .i64 ky,.int .i64 2,nilV] (.slice va cells.length vc) cells (.slice zb n' zd) n' xs'):=HA5.out.setF 3 (.int .i64 2)
          clear g3 f3
          generalize hye:w5.setCell _ _=ye at *
          clear hye
          go_wp2_with (first|(refine wpList_load_row rfl 91 (.tmp 11) rfl (w.heap.size+2) rfl 91 #[strB nm,.int .i64 kd,.int .i64 ky,.int .i64 2,nilV] (0,0) _ HE2.out.b2 Tryz.underlying91 rfl (by kernel_rfl) ?_)|(refine wpList_store_row rfl 91 (.tmp 8) (.tmp 144) rfl w.heap.size #[strB nm,.int .i64 kd,.int .i64 ky,.int .i64 2,nilV] rfl rfl 91 found0 HE2.out.b0 (by kernel_rfl) rfl (by simp [Value.oneCell']) ?_))
          have HoE:=hid (setRow_heap ye w.heap.size _ #[strB nm,.int .i64 kd,.int .i64 ky,.int .i64 2,nilV] 91 (0,0) HE2.out.b0)
          have HBE:=hid (HE2.out.below.trans (jg (Qy ye w.heap.size #[strB nm,.int .i64 kd,.int .i64 ky,.int .i64 2,nilV]) (Nat.le_refl _) HE2.out.below.size))
          generalize hze:ye.setRow _ _=ze at *
          clear hze
          rw [HFD.out]
          exact bodyPost_ret (v:=.tuple #[.agg #[strB nm,.int .i64 kd,.int .i64 ky,.int .i64 2,nilV],nilV]) (ql (p:=8) (q:=9) rfl _ _ _ _ _ rfl rfl (run_loadVar_row (P:=Tryz.prog) ze w.heap.size 91 91 #[strB nm,.int .i64 kd,.int .i64 ky,.int .i64 2,nilV] (0,0) _ HoE.out Tryz.underlying91 rfl (by kernel_rfl))) rfl ⟨HBE.out,nilV,nilV,0,[],rfl,World.ownsRow_nil _ _ _ _,(fun x hx=>by cases hx),World.ownsRow_nil _ _ _ _,Nat.zero_le _,(fun u hu=>by cases hu)⟩
         | some l =>
          have hl60:l.length≤60:=by
           have:=(XV hu).1
           simp only [qE,Bool.and_eq_true,decide_eq_true_eq] at this
           exact this.1.2
          have HSL2:Hid (∀ x ∈ cells++l,qz x):=fun x hx=>by
           rcases List.mem_append.1 hx with h|h
           ·exact HSMC.out x h
           ·exact VL hu x h
          rw [hu] at hpa HSF
          simp only [Yw] at hpa
          obtain ⟨a2,cap2,hv,hlies⟩:=hpa
          subst hv
          have HLI:=hid hlies
          clear hlies hu
          rw [show (some l).isSome=true from rfl]
          simp only at HSF
          by_cases hlm:l.length=s.many
          ·rw [if_pos hlm] at HSF
           have hbq:((l.length:Int) == (s.many:Int))=true:=by rw [beq_iff_eq];omega
           rw [HSF.out] at HST
           by_cases hl0:l.length=0
           ·obtain rfl:l=[]:=List.eq_nil_of_length_eq_zero hl0
            rw [List.append_nil] at HST
            have hbz:((0:Int) == (s.many:Int))=true:=by rw [beq_iff_eq];simp only [List.length_nil] at hlm;omega
            clear hl0 hlm hbq
            go_wp2_with (at_builtin;refine xM rfl (.tmp 138) (.tmp 139) 59 rfl 58 i1 Tryz.underlying59 hi1 va cells.length vc rfl hvc a2 cap2 rfl ?_)
            clear x5 hbz
            go_wp2
            go_roundw
            case rel=>exact ⟨k+1,cells,n',xs',by omega,by go_num,HST.out,HA5.out,HSMC.out,by omega⟩
            case measure=>simp [intOf];omega
           ·have hl1:0 < l.length:=by omega
            obtain ⟨b2,off2,ha2,_,hcell⟩:=HLI.out.at_ (List.ne_nil_of_length_pos hl1)
            subst ha2
            have HCL:=hid (Lies.cells hcell)
            have hz5:=HA5.out.size
            clear hcell hl0 hlm
            go_wp2_with (at_builtin;refine wpList_append_lies _ rfl _ _ _ rfl (w.heap.size+3) 58 i1 _ 3 32 Tryz.underlying59 hi1 hy0 hy1 hy2 rfl (by omega) _ cells.length (jG cells) rfl HA5.out.cellrow ⟨b2,off2,none⟩ l.length cap2 (jG l) rfl (Jl l) HCL.out (ZN l) hl1 (by unfold maxLen;omega) (by omega) (by omega) _ rfl ?_;intro gg gc w6 hown6 hgr6 hat6 hlt6)
            have HA6:Hid (CAt w6 w #[strB nm,.int .i64 kd,.int .i64 ky,nilV] #[strB nm,.int .i64 kd,.int .i64 ky,.int .i64 0,nilV] (.slice (some ⟨gg,0,none⟩) (cells.length+l.length) gc) (cells++l) (.slice zb n' zd) n' xs'):=HA5.out.cellsUp hgr6 (by
             rw [Jf,List.length_append]
             exact hown6)
            clear hown6 hgr6 hat6 hlt6 x5 hbq HCL
            go_wp2
            go_roundw
            case rel=>exact ⟨k+1,cells++l,n',xs',by omega,by go_num,HST.out,HA6.out,HSL2.out,by omega⟩
            case measure=>simp [intOf];omega
          ·rw [if_neg hlm] at HSF
           have hbq:((l.length:Int) == (s.many:Int))=false:=by rw [beq_eq_false_iff_ne];omega
           rw [HSF.out] at HST
           rw [XT pre r kd ky c hML HST.out] at HFD
           by_cases hl0:l.length=0
           ·obtain rfl:l=[]:=List.eq_nil_of_length_eq_zero hl0
            have hbz:((0:Int) == (s.many:Int))=false:=by rw [beq_eq_false_iff_ne];simp only [List.length_nil] at hlm;omega
            clear hl0 hlm hbq
            go_upto_region 26 with (at_builtin;refine xM rfl (.tmp 138) (.tmp 139) 59 rfl 58 i1 Tryz.underlying59 hi1 va cells.length vc rfl hvc a2 cap2 rfl ?_)
            clear x5 hbz
            obtain ⟨_,_,_,g3,_⟩:=Uj HA5.out.b2
            have f3:=frozen_of_row w5 (w.heap.size+2) 3 _ _ HA5.out.b2
            go_upto_region 27 with fail
            have HE2:Hid (CAt (w5.setCell ⟨w.heap.size+2,3,none⟩ (.int .i64 2)) w #[strB nm,.int .i64 kd,.int .i64 ky,nilV] #[strB nm,.int .i64 kd,.int .i64 ky,.int .i64 2,nilV] (.slice va cells.length vc) cells (.slice zb n' zd) n' xs'):=HA5.out.setF 3 (.int .i64 2)
            clear g3 f3
            generalize hye:w5.setCell _ _=ye at *
            clear hye
            go_wp2_with (first|(refine wpList_load_row rfl 91 (.tmp 11) rfl (w.heap.size+2) rfl 91 #[strB nm,.int .i64 kd,.int .i64 ky,.int .i64 2,nilV] (0,0) _ HE2.out.b2 Tryz.underlying91 rfl (by kernel_rfl) ?_)|(refine wpList_store_row rfl 91 (.tmp 8) (.tmp 144) rfl w.heap.size #[strB nm,.int .i64 kd,.int .i64 ky,.int .i64 2,nilV] rfl rfl 91 found0 HE2.out.b0 (by kernel_rfl) rfl (by simp [Value.oneCell']) ?_))
            have HoE:=hid (setRow_heap ye w.heap.size _ #[strB nm,.int .i64 kd,.int .i64 ky,.int .i64 2,nilV] 91 (0,0) HE2.out.b0)
            have HBE:=hid (HE2.out.below.trans (jg (Qy ye w.heap.size #[strB nm,.int .i64 kd,.int .i64 ky,.int .i64 2,nilV]) (Nat.le_refl _) HE2.out.below.size))
            generalize hze:ye.setRow _ _=ze at *
            clear hze
            rw [HFD.out]
            exact bodyPost_ret (v:=.tuple #[.agg #[strB nm,.int .i64 kd,.int .i64 ky,.int .i64 2,nilV],nilV]) (ql (p:=8) (q:=9) rfl _ _ _ _ _ rfl rfl (run_loadVar_row (P:=Tryz.prog) ze w.heap.size 91 91 #[strB nm,.int .i64 kd,.int .i64 ky,.int .i64 2,nilV] (0,0) _ HoE.out Tryz.underlying91 rfl (by kernel_rfl))) rfl ⟨HBE.out,nilV,nilV,0,[],rfl,World.ownsRow_nil _ _ _ _,(fun x hx=>by cases hx),World.ownsRow_nil _ _ _ _,Nat.zero_le _,(fun u hu=>by cases hu)⟩
           ·have hl1:0 < l.length:=by omega
            obtain ⟨b2,off2,ha2,_,hcell⟩:=HLI.out.at_ (List.ne_nil_of_length_pos hl1)
            subst ha2
            have HCL:=hid (Lies.cells hcell)
            have hz5:=HA5.out.size
            clear hcell hl0 hlm
            go_upto_region 26 with (at_builtin;refine wpList_append_lies _ rfl _ _ _ rfl (w.heap.size+3) 58 i1 _ 3 32 Tryz.underlying59 hi1 hy0 hy1 hy2 rfl (by omega) _ cells.length (jG cells) rfl HA5.out.cellrow ⟨b2,off2,none⟩ l.length cap2 (jG l) rfl (Jl l) HCL.out (ZN l) hl1 (by unfold maxLen;omega) (by omega) (by omega) _ rfl ?_;intro gg gc w6 hown6 hgr6 hat6 hlt6)
            have HA6:Hid (CAt w6 w #[strB nm,.int .i64 kd,.int .i64 ky,nilV] #[strB nm,.int .i64 kd,.int .i64 ky,.int .i64 0,nilV] (.slice (some ⟨gg,0,none⟩) (cells.length+l.length) gc) (cells++l) (.slice zb n' zd) n' xs'):=HA5.out.cellsUp hgr6 (by
             rw [Jf,List.length_append]
             exact hown6)
            clear hown6 hgr6 hat6 hlt6 x5 hbq HCL
            obtain ⟨_,_,_,g3,_⟩:=Uj HA6.out.b2
            have f3:=frozen_of_row w6 (w.heap.size+2) 3 _ _ HA6.out.b2
            go_upto_region 27 with fail
            have HE2:Hid (CAt (w6.setCell ⟨w.heap.size+2,3,none⟩ (.int .i64 2)) w #[strB nm,.int .i64 kd,.int .i64 ky,nilV] #[strB nm,.int .i64 kd,.int .i64 ky,.int .i64 2,nilV] (.slice (some ⟨gg,0,none⟩) (cells.length+l.length) gc) (cells++l) (.slice zb n' zd) n' xs'):=HA6.out.setF 3 (.int .i64 2)
            clear g3 f3
            generalize hye:w6.setCell _ _=ye at *
            clear hye
            go_wp2_with (first|(refine wpList_load_row rfl 91 (.tmp 11) rfl (w.heap.size+2) rfl 91 #[strB nm,.int .i64 kd,.int .i64 ky,.int .i64 2,nilV] (0,0) _ HE2.out.b2 Tryz.underlying91 rfl (by kernel_rfl) ?_)|(refine wpList_store_row rfl 91 (.tmp 8) (.tmp 144) rfl w.heap.size #[strB nm,.int .i64 kd,.int .i64 ky,.int .i64 2,nilV] rfl rfl 91 found0 HE2.out.b0 (by kernel_rfl) rfl (by simp [Value.oneCell']) ?_))
            have HoE:=hid (setRow_heap ye w.heap.size _ #[strB nm,.int .i64 kd,.int .i64 ky,.int .i64 2,nilV] 91 (0,0) HE2.out.b0)
            have HBE:=hid (HE2.out.below.trans (jg (Qy ye w.heap.size #[strB nm,.int .i64 kd,.int .i64 ky,.int .i64 2,nilV]) (Nat.le_refl _) HE2.out.below.size))
            generalize hze:ye.setRow _ _=ze at *
            clear hze
            rw [HFD.out]
            exact bodyPost_ret (v:=.tuple #[.agg #[strB nm,.int .i64 kd,.int .i64 ky,.int .i64 2,nilV],nilV]) (ql (p:=8) (q:=9) rfl _ _ _ _ _ rfl rfl (run_loadVar_row (P:=Tryz.prog) ze w.heap.size 91 91 #[strB nm,.int .i64 kd,.int .i64 ky,.int .i64 2,nilV] (0,0) _ HoE.out Tryz.underlying91 rfl (by kernel_rfl))) rfl ⟨HBE.out,nilV,nilV,0,[],rfl,World.ownsRow_nil _ _ _ _,(fun x hx=>by cases hx),World.ownsRow_nil _ _ _ _,Nat.zero_le _,(fun u hu=>by cases hu)⟩
        ·rw [if_pos hso] at HSF
         have hst:=(HTH.out k cells HCF.out).2 s HGS.out hso HCC.out
         have hcl:=(HTH.out k cells HCF.out).1
         rw [hso] at x0
         have hvc:=(GJ HAD.out.cellrow).1
         obtain ⟨vg,hvg⟩:∃ vg,va=some ⟨vg,0,none⟩:=by
          rcases HAD.out.cellrow.2 with ⟨h0,h1⟩|⟨g,cap,cur,hv,_⟩
          ·omega
          ·injection hv with hv1 _ _
           exact ⟨g,hv1⟩
         subst hvg
         obtain ⟨_,_,hva,_,hlies⟩:=Jz HAD.out.cellrow (fun x hx=>⟨(HSMC.out x hx).1,(HSMC.out x hx).2.1,Nat.le_trans (HSMC.out x hx).2.2 (by decide)⟩)
         injection hva with hva1 hva2 hva3
         subst hva1 hva3
         clear hva2
         have hld:(cells.drop s.start).length=cells.length - s.start:=List.length_drop
         have HLD:Hid (Lies wc (some ⟨vg,s.start*3,none⟩) (cells.drop s.start)):=by
          obtain ⟨b,off,hbo,hb1,hb2⟩:=hlies.at_ (List.ne_nil_of_length_pos (by omega))
          simp only [Option.some.injEq,Addr.mk.injEq,and_true] at hbo
          obtain ⟨rfl,rfl⟩:=hbo
          have h:=Lies.part hlies.ok hb1 hb2 s.start (cells.length - s.start)
          rw [List.take_of_length_le (by omega),Nat.zero_add] at h
          exact h
         obtain ⟨MT,hMT⟩:∃ MT,MT=JR kd (cells.drop s.start):=⟨_,rfl⟩
         rw [← hMT] at HSF
         have HMT:Hid (∀ w',Below wc.heap.size wc w'→Calls Tryz.prog 145 #[.int .i64 kd,.slice (some ⟨vg,s.start*3,none⟩) (cells.length - s.start) (vc - s.start)] w' fun e w2=>e=.returned (strB MT)∧Below w'.heap.size w' w2):=fun w' hw'=>by
          have h:=EY kd (some ⟨vg,s.start*3,none⟩) (vc - s.start) (cells.drop s.start) w' (by omega) (fun x hx=>HSMC.out x (List.mem_of_mem_drop hx)) (HLD.out.later hw')
          rw [hld] at h
          rw [hMT]
          exact h
         clear hMT hlies hld HLD
         have i1:(0:Int)≤(s.start:Int):=by omega
         have i2:(s.start:Int)≤(cells.length:Int):=by omega
         have i3:(cells.length:Int)≤(vc:Int):=by omega
         have i6:¬ vc=s.start:=by omega
         have i8:(cells.length:Int) - (s.start:Int)=((cells.length - s.start:Nat):Int):=by omega
         go_upto_region 20 with fail
         clear x0 x1 x2 x3 x5 e2
         by_cases hpm:p=MT
         ·rw [if_pos hpm] at HSF
          have hpq:(p == MT)=true:=by rw [hpm];simp
          clear hpm
          rw [HSF.out] at HST
          refine wp_region_held_drew (S:=fun w'=>w'.cell? ⟨w.heap.size+1,1,none⟩=some (.int .i64 kd)∧w'.cell? ⟨B,4,none⟩=some (.int .i64 (s.start:Int))) (by kernel_rfl) ⟨e1,x4⟩ (fun hHeld=>?_)
          refine tk 0 (strB p) ?_
          refine tk 1 (.pointer (some ⟨w.heap.size+1,1,none⟩)) ?_
          refine tk 2 (.int .i64 kd) ?_
          refine tk 3 (.slice (some ⟨vg,0,none⟩) cells.length vc) ?_
          refine tk 4 (.pointer (some ⟨B,4,none⟩)) ?_
          refine tk 5 (.int .i64 (s.start:Int)) ?_
          refine tk 6 (.slice (some ⟨vg,s.start*3,none⟩) (cells.length - s.start) (vc - s.start)) ?_
          simp only [ga,gb,List.getElem_cons_succ,Act.put,gd,ge,gf]
          refine rd 7 (fun K hK=>?_)
          simp only [ga,gb,List.getElem_cons_succ]
          go_simp
          go_at_call 145
          refine (HMT.out _ (qa (Below.refl _ _))).mono ?_
          rintro e w5 ⟨rfl,hb5⟩
          replace hb5:=ji hb5
          have HA5:=hid (HAD.out.later hb5)
          have HB5:=hid (jb hb5 HBD.out)
          clear hb5 HAD HBD e1 x4
          have e1:=(KE HA5.out.b1).2.1
          have x4:=(JU HB5.out).2.2.2.2.1
          try go_wp2_with fail
          refine hK.out _ _ ⟨e1,x4⟩ (fun hHeld=>?_)
          clear hK K
          try simp only [ga,gb,List.getElem_cons_succ,Act.put,gd,ge,gf]
          refine tk 8 (.bool true) ?_
          refine tk 9 (.bool true) ?_
          simp only [ga,gb,List.getElem_cons_succ,Act.put,gd,ge,gf]
          refine wpAnyH_done (by kernel_rfl) ?_ _
          clear hHeld e1 x4
          clear hpq
          go_wp2
          go_roundw
          case rel=>exact ⟨k+1,cells,n',xs',by omega,by go_num,HST.out,HA5.out,HSMC.out,by omega⟩
          case measure=>simp [intOf];omega
         ·rw [if_neg hpm] at HSF
          have hpq:(p == MT)=false:=by simp [hpm]
          clear hpm
          rw [HSF.out] at HST
          rw [XT pre r kd ky c hML HST.out] at HFD
          refine wp_region_held_drew (S:=fun w'=>w'.cell? ⟨w.heap.size+1,1,none⟩=some (.int .i64 kd)∧w'.cell? ⟨B,4,none⟩=some (.int .i64 (s.start:Int))) (by kernel_rfl) ⟨e1,x4⟩ (fun hHeld=>?_)
          refine tk 0 (strB p) ?_
          refine tk 1 (.pointer (some ⟨w.heap.size+1,1,none⟩)) ?_
          refine tk 2 (.int .i64 kd) ?_
          refine tk 3 (.slice (some ⟨vg,0,none⟩) cells.length vc) ?_
          refine tk 4 (.pointer (some ⟨B,4,none⟩)) ?_
          refine tk 5 (.int .i64 (s.start:Int)) ?_
          refine tk 6 (.slice (some ⟨vg,s.start*3,none⟩) (cells.length - s.start) (vc - s.start)) ?_
          simp only [ga,gb,List.getElem_cons_succ,Act.put,gd,ge,gf]
          refine rd 7 (fun K hK=>?_)
          simp only [ga,gb,List.getElem_cons_succ]
          go_simp
          go_at_call 145
          refine (HMT.out _ (qa (Below.refl _ _))).mono ?_
          rintro e w5 ⟨rfl,hb5⟩
          replace hb5:=ji hb5
          have HA5:=hid (HAD.out.later hb5)
          have HB5:=hid (jb hb5 HBD.out)
          clear hb5 HAD HBD e1 x4
          have e1:=(KE HA5.out.b1).2.1
          have x4:=(JU HB5.out).2.2.2.2.1
          try go_wp2_with fail
          refine hK.out _ _ ⟨e1,x4⟩ (fun hHeld=>?_)
          clear hK K
          try simp only [ga,gb,List.getElem_cons_succ,Act.put,gd,ge,gf]
          refine tk 8 (.bool false) ?_
          refine tk 9 (.bool false) ?_
          simp only [ga,gb,List.getElem_cons_succ,Act.put,gd,ge,gf]
          refine wpAnyH_done (by kernel_rfl) ?_ _
          clear hHeld e1 x4
          clear hpq
          go_upto_region 26 with fail
          obtain ⟨_,_,_,g3,_⟩:=Uj HA5.out.b2
          have f3:=frozen_of_row w5 (w.heap.size+2) 3 _ _ HA5.out.b2
          go_upto_region 27 with fail
          have HE2:Hid (CAt (w5.setCell ⟨w.heap.size+2,3,none⟩ (.int .i64 2)) w #[strB nm,.int .i64 kd,.int .i64 ky,nilV] #[strB nm,.int .i64 kd,.int .i64 ky,.int .i64 2,nilV] (.slice (some ⟨vg,0,none⟩) cells.length vc) cells (.slice zb n' zd) n' xs'):=HA5.out.setF 3 (.int .i64 2)
          clear g3 f3
          generalize hye:w5.setCell _ _=ye at *
          clear hye
          go_wp2_with (first|(refine wpList_load_row rfl 91 (.tmp 11) rfl (w.heap.size+2) rfl 91 #[strB nm,.int .i64 kd,.int .i64 ky,.int .i64 2,nilV] (0,0) _ HE2.out.b2 Tryz.underlying91 rfl (by kernel_rfl) ?_)|(refine wpList_store_row rfl 91 (.tmp 8) (.tmp 144) rfl w.heap.size #[strB nm,.int .i64 kd,.int .i64 ky,.int .i64 2,nilV] rfl rfl 91 found0 HE2.out.b0 (by kernel_rfl) rfl (by simp [Value.oneCell']) ?_))
          have HoE:=hid (setRow_heap ye w.heap.size _ #[strB nm,.int .i64 kd,.int .i64 ky,.int .i64 2,nilV] 91 (0,0) HE2.out.b0)
          have HBE:=hid (HE2.out.below.trans (jg (Qy ye w.heap.size #[strB nm,.int .i64 kd,.int .i64 ky,.int .i64 2,nilV]) (Nat.le_refl _) HE2.out.below.size))
          generalize hze:ye.setRow _ _=ze at *
          clear hze
          rw [HFD.out]
          exact bodyPost_ret (v:=.tuple #[.agg #[strB nm,.int .i64 kd,.int .i64 ky,.int .i64 2,nilV],nilV]) (ql (p:=8) (q:=9) rfl _ _ _ _ _ rfl rfl (run_loadVar_row (P:=Tryz.prog) ze w.heap.size 91 91 #[strB nm,.int .i64 kd,.int .i64 ky,.int .i64 2,nilV] (0,0) _ HoE.out Tryz.underlying91 rfl (by kernel_rfl))) rfl ⟨HBE.out,nilV,nilV,0,[],rfl,World.ownsRow_nil _ _ _ _,(fun x hx=>by cases hx),World.ownsRow_nil _ _ _ _,Nat.zero_le _,(fun u hu=>by cases hu)⟩
     ·rw [if_neg hcc] at HST
      have hne:((s.c:Int) != (c:Int))=true:=by simp;omega
      go_wp2
      go_roundw
      case rel=>exact ⟨k+1,cells,n,xs,by omega,by go_num,HST.out,HAB.out,HSMC.out,by omega⟩
      case measure=>simp [intOf];omega
    ·have hke:k=L.length:=by omega
     have hki:¬ (k:Int) < (L.length:Int):=by omega
     subst hke
     rw [List.take_length,← hML,List.take_length] at HCF
     rw [HCF.out] at HFD
     simp only at HFD
     obtain ⟨_,_,_,_,g4⟩:=Uj HA.out.b2
     have f4:=frozen_of_row wr (w.heap.size+2) 4 _ _ HA.out.b2
     go_upto_region 29 with fail
     have HE2:Hid (CAt (wr.setCell ⟨w.heap.size+2,4,none⟩ (.slice va cells.length vc)) w #[strB nm,.int .i64 kd,.int .i64 ky,nilV] #[strB nm,.int .i64 kd,.int .i64 ky,.int .i64 0,.slice va cells.length vc] (.slice va cells.length vc) cells (.slice za n zc) n xs):=HA.out.setF 4 (.slice va cells.length vc)
     clear g4 f4 HA d6
     generalize hye:wr.setCell _ _=ye at *
     clear hye
     go_wp2_with (first|(refine wpList_load_row rfl 91 (.tmp 11) rfl (w.heap.size+2) rfl 91 #[strB nm,.int .i64 kd,.int .i64 ky,.int .i64 0,.slice va cells.length vc] (0,0) _ HE2.out.b2 Tryz.underlying91 rfl (by kernel_rfl) ?_)|(refine wpList_store_row rfl 91 (.tmp 8) (.tmp 147) rfl w.heap.size #[strB nm,.int .i64 kd,.int .i64 ky,.int .i64 0,.slice va cells.length vc] rfl rfl 91 found0 HE2.out.b0 (by kernel_rfl) rfl (by simp [Value.oneCell']) ?_))
     have hgr:=Qy ye w.heap.size #[strB nm,.int .i64 kd,.int .i64 ky,.int .i64 0,.slice va cells.length vc]
     have HoE:=hid (setRow_heap ye w.heap.size _ #[strB nm,.int .i64 kd,.int .i64 ky,.int .i64 0,.slice va cells.length vc] 91 (0,0) HE2.out.b0)
     have HBE:=hid (HE2.out.below.trans (jg hgr (Nat.le_refl _) HE2.out.below.size))
     have HCE:=hid (jy (HE2.out.cellrow.kept hgr (Jg HE2.out.cellrow (by omega))) (Nat.le_add_right w.heap.size 3))
     have HON:=hid HE2.out.one
     have HZE:=hid (jy (HE2.out.sealrow.kept hgr (Jg HE2.out.sealrow (by omega))) (Nat.le_add_right w.heap.size 3))
     clear hgr HE2
     generalize hze:ye.setRow _ _=ze at *
     clear hze
     rw [HFD.out]
     exact bodyPost_ret (v:=.tuple #[.agg #[strB nm,.int .i64 kd,.int .i64 ky,.int .i64 0,.slice va cells.length vc],.slice za n zc]) (ql (p:=8) (q:=9) rfl _ _ _ _ _ rfl rfl (run_loadVar_row (P:=Tryz.prog) ze w.heap.size 91 91 #[strB nm,.int .i64 kd,.int .i64 ky,.int .i64 0,.slice va cells.length vc] (0,0) _ HoE.out Tryz.underlying91 rfl (by kernel_rfl))) rfl ⟨HBE.out,_,_,n,xs,rfl,HCE.out,HSMC.out,HZE.out,by omega,HON.out⟩
end Go.Proofs.YthhpbhpfagoapaaGreat
