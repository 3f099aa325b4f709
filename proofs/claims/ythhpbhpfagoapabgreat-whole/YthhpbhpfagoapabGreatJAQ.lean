import Derived.Test.YthhpbhpfagoapabGreatJAO
import Derived.Test.YthhpbhpfagoapabGreatQWrit
import Derived.Test.YthhpbhpfagoapabGreatJBI
namespace Go.Proofs.YthhpbhpfagoapabGreat
set_option linter.unusedVariables false
set_option linter.unusedSimpArgs false
set_option maxRecDepth 100000
set_option maxHeartbeats 16000000
open Go.RowKit
section
def Ii (pre:List UInt8) (r:List KeyB) (S:SheetF) (k:Nat):List SealB:=(List.range k).flatMap fun c=>if xD (qi pre r S c)=true then xq pre r (jf S.cols c).key c (qr S) S.mods else []
theorem Do (pre:List UInt8) (r:List KeyB) (S:SheetF) (k:Nat):Ii pre r S (k+1)=Ii pre r S k++if xD (qi pre r S k)=true then xq pre r (jf S.cols k).key k (qr S) S.mods else []:=by simp [Ii,List.range_succ]
def xe (fs:SealB) (pre:List UInt8) (r:List KeyB) (S:SheetF) (k:Nat):List SealB:=fs :: Ii pre r S k
theorem Il (fs:SealB) (pre:List UInt8) (r:List KeyB) (S:SheetF):xe fs pre r S 0=[fs]:=rfl
theorem EQ (fs:SealB) (pre:List UInt8) (r:List KeyB) (S:SheetF) (k:Nat):xe fs pre r S (k+1)=xe fs pre r S k++if xD (qi pre r S k)=true then xq pre r (jf S.cols k).key k (qr S) S.mods else []:=by
 unfold xe
 rw [Do]
 rfl
theorem YE (pre:List UInt8) (r:List KeyB) (S:SheetF) (c:Nat):(qi pre r S c).key=(jf S.cols c).key:=by
 unfold qi
 split
 ·rfl
 ·split<;>rfl
theorem Yl {pre:List UInt8} {r:List KeyB} {S:SheetF} {c:Nat} (h:xD (qi pre r S c)=true):(jf S.cols c).key≠0:=by
 simp only [xD,Bool.and_eq_true,decide_eq_true_eq] at h
 rw [← YE pre r S c]
 exact h.1
theorem Nl (S:SheetF) (f:FormF) (G P base:Nat) (cv pv:Value) (Kb:Nat) (V:Nat→Value) (Qp:Nat→Nat→List ModF) (Qm:Nat→Nat→ModF) (Pv:Nat→Nat→Value) (pre:List UInt8) (ra:Option Addr) (rcap:Nat) (r:List KeyB) (fa:Option Addr) (fc:Nat) (w:World)
  (hS:SheetGo S G P base w (qR S f cv pv Kb) cv Kb V Qp Qm Pv) (hsz:(qR S f cv pv Kb).size=18) (hone:(qR S f cv pv Kb).all (·.oneCell')=true) (hpre:pre.length≤20) (hft:f.footer.length≤5000) (hsec:∀ key,(ji r key).length≤1000) (hrm:r.length≤maxLen) (hr:LiesK w ra r) (hl:LiesF w fa (qi pre r S) S.cols.length) :
  Calls Tryz.prog 29 #[.agg (qR S f cv pv Kb),.slice fa S.cols.length fc,strB pre,.slice ra r.length rcap] w fun e w'=>∃ v,e=.returned v∧w'.ownsRow w.heap.size 54 4 v (xe ⟨ji r (f.foot:Int),f.nonce,qd pre f,f.body⟩ pre r S S.cols.length).length (qI (xe ⟨ji r (f.foot:Int),f.nonce,qd pre f,f.body⟩ pre r S S.cols.length))∧(xe ⟨ji r (f.foot:Int),f.nonce,qd pre f,f.body⟩ pre r S S.cols.length).length≤1000000∧Below w.heap.size w w':=by
 obtain ⟨i0,hi,hz0,hz1,hz2⟩:=info_parts Tryz.infoSealed
 have hinf:=hS.inf
 have hn6:=hS.n6
 have HFT:=hid (fun (w':World) (hb:Below w.heap.size w w')=>RR S f cv pv Kb ra rcap r pre w' hsz hone hpre hft hrm (hsec _) (hr.later hb))
 have HCO:=hid (fun (c:Nat) (w':World) (hb:Below w.heap.size w w') hc hk=>Yz S G P base (qR S f cv pv Kb) cv Kb V Qp Qm Pv pre ra rcap r c w' (hS.later hb) hc hk hpre (hsec _) hrm (hr.later hb))
 have Hl:=hid hl
 have HST:=hid (EQ ⟨ji r (f.foot:Int),f.nonce,qd pre f,f.body⟩ pre r S)
 have HS0:=hid (Il ⟨ji r (f.foot:Int),f.nonce,qd pre f,f.body⟩ pre r S)
 have HPK:=hid (fun c=>Yl (pre:=pre) (r:=r) (S:=S) (c:=c))
 have HPV:=hid (fun c=>Rj (qi pre r S c))
 clear hS hsz hone hpre hft hsec hr hl
 generalize hSC:qR S f cv pv Kb=SC at *
 clear hSC
 generalize qi pre r S=F at *
 generalize hFS:(⟨ji r (f.foot:Int),f.nonce,qd pre f,f.body⟩:SealB)=fs at *
 clear hFS
 generalize S.cols.length=n at *
 obtain ⟨hb0,hl0,_,ho0⟩:=jK w SC 82
 have Ho0:=hid ho0
 have Hinf:=hid hinf
 clear ho0 hinf
 go_enter Tryz.func29,Tryz.ntmps29
 go_wp2_with (refine wpList_load_row rfl 82 (.tmp 4) rfl w.heap.size rfl 82 SC (0,0) _ Ho0.out Tryz.underlying82 rfl Hinf.out ?_)
 have Hb0:=hid hb0
 clear hb0
 generalize w.alloc _=w0 at *
 refine (HFT.out w0 Hb0.out).mono ?_
 clear HFT
 rintro e w1 ⟨rfl,hb1⟩
 obtain ⟨fs1,fs2,fs3,fs4⟩:=fs
 simp only
 have HB1:=hid (Hb0.out.trans (hb1.mono Hb0.out.size))
 have Ho1:=hid (jd hb1 Ho0.out)
 clear hb1
 obtain ⟨hb2,hs2,_,hh2⟩:=jK w1 #[strB fs1,strB fs2,strB fs3,strB fs4] 54
 have HB2:=hid (HB1.out.trans (hb2.mono HB1.out.size))
 have Ho2:=hid (jd hb2 Ho1.out)
 have hlw1:=Nat.lt_of_lt_of_le (Array.getElem?_eq_some_iff.1 Ho1.out).1 hb2.size
 have HOW2:Hid ((w1.alloc (.cells #[strB fs1,strB fs2,strB fs3,strB fs4] 54)).ownsRow w.heap.size 54 4 (.slice (some ⟨w1.heap.size,0,none⟩) 1 1) (xe ⟨fs1,fs2,fs3,fs4⟩ pre r S 0).length (qI (xe ⟨fs1,fs2,fs3,fs4⟩ pre r S 0))):=by
  rw [HS0.out]
  exact ⟨rfl,.inr ⟨w1.heap.size,1,_,rfl,HB1.out.size,hh2,Nat.le_refl _,by decide,rfl,rfl⟩⟩
 clear hb2 hs2 hh2
 go_wp2
 generalize w1.alloc _=w2 at *
 go_loopw [9,19] (fun v i wr=>∃ k:Nat,k≤n∧i=.int .i64 (k:Int)∧wr.ownsRow w.heap.size 54 4 v (xe ⟨fs1,fs2,fs3,fs4⟩ pre r S k).length (qI (xe ⟨fs1,fs2,fs3,fs4⟩ pre r S k))∧(xe ⟨fs1,fs2,fs3,fs4⟩ pre r S k).length≤1+3660*k∧wr.heap[w.heap.size]?=some (.cells SC 82 (0,0))∧w.heap.size < wr.heap.size∧Below w.heap.size w wr) (fun _ i _=>n - (intOf i).toNat)
 case atStart=>exact ⟨0,Nat.zero_le _,rfl,HOW2.out,by rw [HS0.out];exact Nat.le_refl _,Ho2.out,hlw1,HB2.out⟩
 case round =>
  obtain ⟨k,hkn,rfl,hown,hll,hsh,hlw,hB⟩:=hrel
  have HOwn:=hid hown
  have HB:=hid hB
  have HSH:=hid hsh
  obtain ⟨wa,wcp,rfl⟩:=jL hown
  clear hown hB hsh
  by_cases hlt:k < n
  ·have hki:(k:Int) < (n:Int):=by omega
   obtain ⟨b,rfl,hbw,hcell⟩:=(Hl.out.later HB.out).at_ (by omega)
   obtain ⟨ca,ccp,g1,g2,g3,g4,g5,_⟩:=hcell k hlt
   have HP:=hid (HPV.out k (.slice ca (F k).cells.length ccp))
   have HSTk:=hid (HST.out k)
   have HPKk:=hid (HPK.out k)
   have HCOk:=hid (fun w' hb=>HCO.out k w' hb hlt)
   clear hcell
   generalize xq pre r (jf S.cols k).key k (qr S) S.mods=SL at *
   generalize xD (F k)=pvb at *
   generalize (F k).cells.length=m at *
   generalize (F k).name=nm at *
   generalize (F k).kind=kd at *
   generalize (F k).key=ky at *
   generalize (F k).state=st at *
   go_upto_region 5 with fail
   clear g1 g2 g3 g4 g5
   obtain ⟨hbb,hsb,_,hhb⟩:=jK wr #[strB nm,.int .i64 kd,.int .i64 ky,.int .i64 st,.slice ca m ccp] 94
   generalize wr.alloc (.cells #[.string ⟨nm.toArray⟩,.int .i64 kd,.int .i64 ky,.int .i64 st,.slice ca m ccp] 94)=w3 at *
   have x0:w3.cell? ⟨wr.heap.size,0,none⟩=some (strB nm):=by rw [jb hhb];rfl
   have x1:w3.cell? ⟨wr.heap.size,1,none⟩=some (.int .i64 kd):=by rw [jb hhb];rfl
   have x2:w3.cell? ⟨wr.heap.size,2,none⟩=some (.int .i64 ky):=by rw [jb hhb];rfl
   have x3:w3.cell? ⟨wr.heap.size,3,none⟩=some (.int .i64 st):=by rw [jb hhb];rfl
   have x4:w3.cell? ⟨wr.heap.size,4,none⟩=some (.slice ca m ccp):=by rw [jb hhb];rfl
   have HBB:=hid hbb
   clear hhb hbb hsb
   go_wp2_with fail
   refine (HP.out _).mono ?_
   clear HP x0 x1 x2 x3 x4
   rintro e w4 ⟨rfl,hb4⟩
   have HB4':=hid (HBB.out.trans (hb4.mono HBB.out.size))
   have HB4:=hid (HB.out.trans (HB4'.out.mono HB.out.size))
   have HSH4:=hid (jd HB4'.out HSH.out)
   have HO4:=hid (jN HOwn.out HB4'.out)
   have hlw4:w.heap.size < w4.heap.size:=Nat.lt_of_lt_of_le hlw HB4'.out.size
   clear hb4 HBB HB4' HOwn
   cases pvb with
   | false =>
    have e0:xe ⟨fs1,fs2,fs3,fs4⟩ pre r S (k+1)=xe ⟨fs1,fs2,fs3,fs4⟩ pre r S k:=by rw [HSTk.out,if_neg (by decide),List.append_nil]
    have HOF:Hid (w4.ownsRow w.heap.size 54 4 (.slice wa (xe ⟨fs1,fs2,fs3,fs4⟩ pre r S k).length wcp) (xe ⟨fs1,fs2,fs3,fs4⟩ pre r S (k+1)).length (qI (xe ⟨fs1,fs2,fs3,fs4⟩ pre r S (k+1)))):=by rw [e0];exact HO4.out
    have HLF:Hid ((xe ⟨fs1,fs2,fs3,fs4⟩ pre r S (k+1)).length≤1+3660*(k+1)):=by show List.length _≤_;rw [e0];omega
    clear e0 HO4
    go_wp2
    go_roundw
    case rel=>exact ⟨k+1,by omega,by go_num,HOF.out,HLF.out,HSH4.out,hlw4,HB4.out⟩
    case measure=>simp [intOf];omega
   | true =>
    have e0:xe ⟨fs1,fs2,fs3,fs4⟩ pre r S (k+1)=xe ⟨fs1,fs2,fs3,fs4⟩ pre r S k++SL:=by rw [HSTk.out,if_pos rfl]
    have HE0:=hid e0
    clear e0
    go_wp2_with (refine wpList_load_row rfl 82 (.tmp 4) rfl w.heap.size rfl 82 SC (0,0) _ HSH4.out Tryz.underlying82 rfl Hinf.out ?_)
    refine (HCOk.out w4 HB4.out (HPKk.out (by trivial))).mono ?_
    clear HCOk
    rintro e w5 ⟨v5,rfl,hown5,hl5,hb5⟩
    obtain ⟨a5,c5,rfl⟩:=jL hown5
    have HB5:=hid (HB4.out.trans (hb5.mono HB4.out.size))
    have HSH5:=hid (jd hb5 HSH4.out)
    have HO5:=hid (jN HO4.out hb5)
    have HN5:=hid hown5
    have hlw5:w.heap.size < w5.heap.size:=Nat.lt_of_lt_of_le hlw4 hb5.size
    have hzs:=HB5.out.size
    clear hb5 hown5 HO4 HSH4
    generalize hSK:(xe ⟨fs1,fs2,fs3,fs4⟩ pre r S k)=SK at *
    have HSK1:Hid ((xe ⟨fs1,fs2,fs3,fs4⟩ pre r S (k+1))=SK++SL):=by show _=_;rw [HE0.out,← hSK]
    clear hSK HE0
    by_cases hz:SL.length=0
    ·have hn0:SL=[]:=List.eq_nil_of_length_eq_zero hz
     have hcap:=(Bi HO5.out).1
     have HOF:Hid (w5.ownsRow w.heap.size 54 4 (.slice wa SK.length wcp) (xe ⟨fs1,fs2,fs3,fs4⟩ pre r S (k+1)).length (qI (xe ⟨fs1,fs2,fs3,fs4⟩ pre r S (k+1)))):=by rw [HSK1.out,hn0,List.append_nil];exact HO5.out
     have HLF:Hid ((xe ⟨fs1,fs2,fs3,fs4⟩ pre r S (k+1)).length≤1+3660*(k+1)):=by show List.length _≤_;rw [HSK1.out,hn0,List.append_nil];omega
     rw [hz]
     clear hz hn0 HN5
     go_wp2_with (at_builtin;refine Ua rfl (.tmp 26) (.tmp 31) 37 rfl 54 i0 Tryz.underlying37 hi wa SK.length wcp rfl hcap a5 c5 rfl ?_)
     go_roundw
     case rel=>exact ⟨k+1,by omega,by go_num,HOF.out,HLF.out,HSH5.out,hlw5,HB5.out⟩
     case measure=>simp [intOf];omega
    ·obtain ⟨g5,rfl⟩:∃ g5,a5=some ⟨g5,0,none⟩:=by
      rcases HN5.out.2 with ⟨_,h0⟩|⟨g,cap,cur,h,_⟩
      ·omega
      ·simp only [Value.slice.injEq] at h;exact ⟨g,h.1⟩
     have HSL:=hid (Xj SL)
     go_wp2_with (at_builtin;refine wpList_append_own _ rfl (.tmp 26) (.tmp 31) 37 rfl w.heap.size 54 i0 _ 4 64 Tryz.underlying37 hi hz0 hz1 hz2 rfl (by decide) _ SK.length (qI SK) rfl HO5.out ⟨g5,0,none⟩ SL.length c5 (qI SL) rfl HSL.out (VL HN5.out) (Vr SL) (by unfold maxLen;omega) (by omega) hzs ?_)
     intro v6 w6 hown6 hgr6 _
     have hlsh:=(Array.getElem?_eq_some_iff.1 HSH5.out).1
     have HSH6:=hid ((hgr6.block w.heap.size hlsh (fun e=>Mx HO5.out HSH5.out (by decide) e.symm)).trans HSH5.out)
     have HB6:=hid (HB5.out.grown hgr6 hzs (fun k hk=>(HO5.out.lt k hk).1))
     have hlw6:w.heap.size < w6.heap.size:=Nat.lt_of_lt_of_le hlw5 hgr6.size
     have HOF:Hid (w6.ownsRow w.heap.size 54 4 v6 (xe ⟨fs1,fs2,fs3,fs4⟩ pre r S (k+1)).length (qI (xe ⟨fs1,fs2,fs3,fs4⟩ pre r S (k+1)))):=by rw [HSK1.out,KJ,List.length_append];exact hown6
     have HLF:Hid ((xe ⟨fs1,fs2,fs3,fs4⟩ pre r S (k+1)).length≤1+3660*(k+1)):=by show List.length _≤_;rw [HSK1.out,List.length_append];omega
     clear hown6 hgr6 HO5 HN5
     go_wp2
     go_roundw
     case rel=>exact ⟨k+1,by omega,by go_num,HOF.out,HLF.out,HSH6.out,hlw6,HB6.out⟩
     case measure=>simp [intOf];omega
  ·have hke:k=n:=by omega
   subst hke
   go_wp2
   go_ret
   exact ⟨_,rfl,HOwn.out,by omega,HB.out⟩
end
section
def ForgedX (js:List JobB) (r:List KeyB) (file pre:List UInt8) (e:Ending):Prop :=
 (¬ XM js r∧e=.returned (.tuple #[sealV ⟨[],[],[],[]⟩,.int .i64 10])) ∨
 (XM js r∧(((∃ err,xg file pre r false=(err,none)∧err≠0)∧e=.returned (.tuple #[sealV ⟨[],[],[],[]⟩,.int .i64 11])) ∨
  ∃ S f,xg file pre r false=(0,some S)∧zq file=some f ∧
   ((Jo (qi pre r S) S.cols.length pre js∧e=.returned (.tuple #[sealV ⟨[],[],[],[]⟩,.int .i64 11])) ∨
    (¬ Jo (qi pre r S) S.cols.length pre js∧e=.returned (XD (zp (Zr pre r f S) (xf js r)))))))
theorem ForgedX.same {js:List JobB} {r:List KeyB} {file pre:List UInt8} {e e':Ending} (h:ForgedX js r file pre e) (h':ForgedX js r file pre e'):e=e':=by
 rcases h with ⟨h1,rfl⟩|⟨h1,h⟩
 ·rcases h' with ⟨_,rfl⟩|⟨h2,_⟩
  ·rfl
  ·exact absurd h2 h1
 ·rcases h' with ⟨h2,_⟩|⟨_,h'⟩
  ·exact absurd h1 h2
  ·rcases h with ⟨⟨err,hs,_⟩,rfl⟩|⟨S,f,hs,hf,h⟩
   ·rcases h' with ⟨_,rfl⟩|⟨S',f',hs',_⟩
    ·rfl
    ·rw [hs] at hs';simp at hs'
   ·rcases h' with ⟨⟨err,hs',_⟩,_⟩|⟨S',f',hs',hf',h'⟩
    ·rw [hs] at hs';simp at hs'
    ·rw [hs] at hs'
     rw [hf] at hf'
     simp only [Prod.mk.injEq,Option.some.injEq,true_and] at hs' hf'
     subst hs'
     subst hf'
     rcases h with ⟨hw,rfl⟩|⟨hw,rfl⟩
     ·rcases h' with ⟨_,rfl⟩|⟨hw',_⟩
      ·rfl
      ·exact absurd hw hw'
     ·rcases h' with ⟨hw',_⟩|⟨_,rfl⟩
      ·exact absurd hw' hw
      ·rfl
theorem BN {pre:List UInt8} {r:List KeyB} {f:FormF} {S:SheetF} (h:f.told=false→f.footer=[]):xe ⟨ji r (f.foot:Int),f.nonce,qd pre f,f.body⟩ pre r S S.cols.length=Zr pre r f S:=by
 have e:(⟨ji r (f.foot:Int),f.nonce,qd pre f,f.body⟩:SealB)=zi pre r f:=by
  unfold zi qd
  cases ht:f.told with
  | true=>simp
  | false=>simp [h ht]
 rw [e]
 rfl
theorem Uk {file pre:List UInt8} {r:List KeyB} {S:SheetF} {f:FormF} (h:xg file pre r false=(0,some S)) (hf:zq file=some f):f.footer.length≤5000∧(f.told=false→f.footer=[]):=by
 obtain ⟨_,_,f',footer,hf',_,hS,h1,h2⟩:=Vg h
 rw [hf] at hf'
 cases hf'
 have hok:=(Kj hf).1
 refine ⟨?_,hok.none_⟩
 cases ht:f.told with
 | false=>rw [hok.none_ ht];decide
 | true =>
  have e:=(h1 ht).1
  subst e
  have hs:=Ze hS
  have:=Xb (fun x hx=>by
   have hle:=Xo _ _ _ _ x hx
   have h3:=(Zf f).2.2
   have h4:=(zO hok rfl).len
   have h5:=hok.short
   have h6:=hs.parts
   rw [← h6] at hle
   have h7:=(Kj hf).2
   omega) hs
  omega
theorem Cl {r:List KeyB} (hr:xI r=true) (key:Int):(ji r key).length≤1000:=by
 cases hh:jw r key with
 | true=>rw [Qk hr hh];decide
 | false=>rw [(ZD hr).2 hh];decide
theorem Cf (ja:Option Addr) (jc:Nat) (js:List JobB) (ra:Option Addr) (rcap:Nat) (r:List KeyB) (file pre:List UInt8) (w:World) (hjm:js.length≤maxLen) (hjc:js.length≤jc) (hj:LiesJs w ja js) (hr:LiesK w ra r) (hrm:r.length≤maxLen) (hfl:file.length≤maxLen) (hpl:pre.length≤maxLen) :
  Calls Tryz.prog 17 #[.slice ja js.length jc,.slice ra r.length rcap,strB file,strB pre] w fun e w'=>ForgedX js r file pre e∧Below w.heap.size w w':=by
 obtain ⟨hb0,hs0,_,hh0⟩:=jK w #[strB [],strB [],strB [],strB []] 54
 have HX:Hid (∀ e,ForgedX js r file pre e ↔ ForgedX js r file pre e):=fun e=>Iff.rfl
 have Hjm:=hid hjm
 have HSJ:=hid (fun (w':World) (hb:Below w.heap.size w w')=>Ey ja jc js ra rcap r w' hjm hjc (hj.later hb) (hr.later hb) hrm)
 have HRS:=hid (fun (w':World) (hb:Below w.heap.size w w')=>UU file pre ra rcap r false w' hfl hpl hrm (hr.later hb))
 have HIW:=hid (fun F n a cap (w':World) (hb:Below w.heap.size w w') (hn:n≤1000) (hl:LiesF w' a F n)=>YB a cap F n pre ja jc js w' hn hjm hl (hj.later hb))
 have HR:=hid hr
 have Hrm:=hid hrm
 have Hb0:=hid hb0
 have Hh0:=hid hh0
 clear hj hr hrm hfl hpl hjm hb0 hh0 HX
 go_enter Tryz.func17,Tryz.ntmps17
 go_wp2_with fail
 generalize w.alloc _=w0 at *
 refine (HSJ.out w0 Hb0.out).mono ?_
 clear HSJ
 rintro e w1 ⟨⟨hno,rfl⟩|⟨hok,lv,rfl,hlog,hll⟩,hb1⟩
 ·have HB1:=hid (Hb0.out.trans (hb1.mono Hb0.out.size))
  have Ho:=hid (jd hb1 Hh0.out)
  obtain ⟨⟨y0,y1,y2,y3⟩,f0,f1,f2,f3⟩:=Qq Ho.out
  have HO5:=hid (Na Ho.out (strB []) (strB []) (strB []) (strB []))
  have HBS:=hid ((((HB1.out.setCell (p:=⟨w.heap.size,0,none⟩) (Nat.le_refl _) (strB [])).setCell (p:=⟨w.heap.size,1,none⟩) (Nat.le_refl _) (strB [])).setCell (p:=⟨w.heap.size,2,none⟩) (Nat.le_refl _) (strB [])).setCell (p:=⟨w.heap.size,3,none⟩) (Nat.le_refl _) (strB []))
  have HNO:=hid hno
  clear hb1 hno
  go_wp2
  generalize (((w1.setCell _ _).setCell _ _).setCell _ _).setCell _ _=W at *
  obtain ⟨d0,d1,d2,d3⟩:=xO HO5.out
  exact bodyPost_ret (v:=.tuple #[sealV ⟨[],[],[],[]⟩,.int .i64 10]) (by simp [results,Tryz.results17,go_sem,d0,d1,d2,d3]) rfl ⟨.inl ⟨HNO.out,rfl⟩,HBS.out⟩
 ·have HOK:=hid hok
  have HB1:=hid (Hb0.out.trans (hb1.mono Hb0.out.size))
  have Ho1:=hid (jd hb1 Hh0.out)
  obtain ⟨la,lc,hlv,hLS⟩:=Kp hlog
  subst hlv
  have HLS1:=hid hLS
  clear hok hb1 hlog hLS Hb0 Hh0
  go_wp2_with fail
  refine (HRS.out w1 HB1.out).mono ?_
  clear HRS
  rintro e w2 ⟨f,hform,hb2,⟨err,CC,hn,herr,hsz,hone,rfl⟩|⟨S,cv,pv,Kb,V,Qp,Qm,Pv,hn,rfl,hin⟩⟩
  ·have hinf:(Tryz.prog.info? 82).map (·.size)=some CC.size:=by rw [hsz];kernel_rfl
   have hsz0:sheet0.size=CC.size:=by rw [hsz];rfl
   obtain ⟨hbA,hlA,_,hoA⟩:=jK w2 sheet0 82
   have gA:=jy (w2.alloc (.cells sheet0 82)) w2.heap.size CC
   have HB2:=hid (HB1.out.trans (hb2.mono HB1.out.size))
   have Ho2:=hid (jd hb2 Ho1.out)
   have hlt2:=(Array.getElem?_eq_some_iff.1 Ho2.out).1
   have HoA:=hid (jk gA (jd hbA Ho2.out) (by omega))
   have HBA:=hid ((HB2.out.trans (hbA.mono HB2.out.size)).trans (jq gA HB2.out.size (Nat.le_trans HB2.out.size hbA.size)))
   have hne:(err != 0)=true:=by rw [bne_iff_ne];exact herr
   have HER:Hid (∃ err,xg file pre r false=(err,none)∧err≠0):=⟨err,hn,herr⟩
   obtain ⟨⟨y0,y1,y2,y3⟩,f0,f1,f2,f3⟩:=Qq HoA.out
   have HO5:=hid (Na HoA.out (strB []) (strB []) (strB []) (strB []))
   have HBS:=hid ((((HBA.out.setCell (p:=⟨w.heap.size,0,none⟩) (Nat.le_refl _) (strB [])).setCell (p:=⟨w.heap.size,1,none⟩) (Nat.le_refl _) (strB [])).setCell (p:=⟨w.heap.size,2,none⟩) (Nat.le_refl _) (strB [])).setCell (p:=⟨w.heap.size,3,none⟩) (Nat.le_refl _) (strB []))
   clear hsz hn herr hbA gA hb2 hform
   go_wp2_with (refine wpList_store_row rfl 82 (.tmp 12) (.tmp 29) rfl w2.heap.size CC rfl rfl 82 sheet0 hoA hinf hsz0 hone ?_)
   generalize (w2.alloc _).setRow _ _=w3 at *
   generalize (((w3.setCell _ _).setCell _ _).setCell _ _).setCell _ _=W at *
   obtain ⟨d0,d1,d2,d3⟩:=xO HO5.out
   exact bodyPost_ret (v:=.tuple #[sealV ⟨[],[],[],[]⟩,.int .i64 11]) (by simp [results,Tryz.results17,go_sem,d0,d1,d2,d3]) rfl ⟨.inr ⟨HOK.out,.inl ⟨HER.out,rfl⟩⟩,HBS.out⟩
  ·obtain ⟨h20,hring,foot,parts,footer,hok⟩:=Ux hn
   have hform':=hform S hn
   obtain ⟨hft,hnone⟩:=Uk hn hform'
   obtain ⟨hc1000,hshort⟩:=GR _ _ _ _ _ hn
   obtain ⟨_,hsz,hone⟩:=hin.one
   obtain ⟨hbA,hlA,_,hoA⟩:=jK w2 sheet0 82
   have gA:=jy (w2.alloc (.cells sheet0 82)) w2.heap.size (qR S f cv pv Kb)
   have oA:=setRow_heap (w2.alloc (.cells sheet0 82)) w2.heap.size _ (qR S f cv pv Kb) 82 (0,0) hoA
   have HB2:=hid (HB1.out.trans (hb2.mono HB1.out.size))
   have Ho2:=hid (jd hb2 Ho1.out)
   have hlt2:=(Array.getElem?_eq_some_iff.1 Ho2.out).1
   have HoA:=hid (jk gA (jd hbA Ho2.out) (by omega))
   have hbg:=jq gA HB2.out.size (Nat.le_trans HB2.out.size hbA.size)
   have HBA:=hid ((HB2.out.trans (hbA.mono HB2.out.size)).trans hbg)
   have hb1A:Below w1.heap.size w1 ((w2.alloc (.cells sheet0 82)).setRow w2.heap.size (qR S f cv pv Kb)):=(hb2.trans (hbA.mono hb2.size)).trans (jq gA hb2.size (Nat.le_trans hb2.size hbA.size))
   have HLSA:=hid (HLS1.out.later hb1A)
   have hGO:=Tk ((hin.later hbA).grown gA hoA (by decide) (by decide) (by decide) (by decide)) hok
   have HFX:=hid (KS S _ _ _ _ _ _ _ _ _ _ pre ra rcap r _ hGO h20 hring Hrm.out (HR.out.later HBA.out))
   have HOS:=hid (fun fa fc (w':World) (hb:Below ((w2.alloc (.cells sheet0 82)).setRow w2.heap.size (qR S f cv pv Kb)).heap.size ((w2.alloc (.cells sheet0 82)).setRow w2.heap.size (qR S f cv pv Kb)) w') hl=>Nl S f _ _ _ cv pv Kb V Qp Qm Pv pre ra rcap r fa fc w' (hGO.later hb) hsz hone h20 hft (Cl hring) Hrm.out (HR.out.later (HBA.out.trans (hb.mono HBA.out.size))) hl)
   have HSE:=hid (BN (pre:=pre) (r:=r) (S:=S) hnone)
   have HN:=hid hn
   have HF:=hid hform'
   clear hn hin hok hbA gA hb2 hGO hform hform' hft hnone hb1A hbg
   generalize hCC:qR S f cv pv Kb=CC at *
   clear hCC
   have hinf:(Tryz.prog.info? 82).map (·.size)=some CC.size:=by rw [hsz];kernel_rfl
   have hsz0:sheet0.size=CC.size:=by rw [hsz];rfl
   clear hsz
   have HINF:=hid hinf
   have HSZ:=hid hsz0
   have HONE:=hid hone
   have HOA:=hid hoA
   have HoR:=hid oA
   clear hinf hsz0 hone hoA oA
   go_wp2_with (first|(refine wpList_store_row rfl 82 (.tmp 12) (.tmp 29) rfl w2.heap.size CC rfl rfl 82 sheet0 HOA.out HINF.out HSZ.out HONE.out ?_)|(refine wpList_load_row rfl 82 (.tmp 12) rfl w2.heap.size rfl 82 CC (0,0) _ HoR.out Tryz.underlying82 rfl HINF.out ?_))
   refine HFX.out.mono ?_
   clear HFX HOA
   generalize (w2.alloc _).setRow _ _=w3 at *
   rintro e w4 ⟨hb4,v,Vs,rfl,hfa⟩
   obtain ⟨va,vc,hva,hLF⟩:=hfa.lies hshort
   subst hva
   have HLF4:=hid hLF
   have HB4:=hid (HBA.out.trans (hb4.mono HBA.out.size))
   have Ho4:=hid (jd hb4 HoA.out)
   have HoR4:=hid (jd hb4 HoR.out)
   have HLS4:=hid (HLSA.out.later hb4)
   have HB34:=hid hb4
   clear hb4 hfa hLF HoA HoR HLSA hshort
   go_wp2_with fail
   refine (HIW.out _ _ va vc w4 HB4.out hc1000 HLF4.out).mono ?_
   clear HIW
   rintro e w5 ⟨⟨rfl,hw⟩|⟨rfl,hw⟩,hb5⟩
   ·have HW:=hid hw
    have HB5:=hid (HB4.out.trans (hb5.mono HB4.out.size))
    have Ho5:=hid (jd hb5 Ho4.out)
    obtain ⟨⟨y0,y1,y2,y3⟩,f0,f1,f2,f3⟩:=Qq Ho5.out
    have HO5:=hid (Na Ho5.out (strB []) (strB []) (strB []) (strB []))
    have HBS:=hid ((((HB5.out.setCell (p:=⟨w.heap.size,0,none⟩) (Nat.le_refl _) (strB [])).setCell (p:=⟨w.heap.size,1,none⟩) (Nat.le_refl _) (strB [])).setCell (p:=⟨w.heap.size,2,none⟩) (Nat.le_refl _) (strB [])).setCell (p:=⟨w.heap.size,3,none⟩) (Nat.le_refl _) (strB []))
    clear hb5 hw HOS
    go_wp2
    generalize (((w5.setCell _ _).setCell _ _).setCell _ _).setCell _ _=W at *
    obtain ⟨d0,d1,d2,d3⟩:=xO HO5.out
    exact bodyPost_ret (v:=.tuple #[sealV ⟨[],[],[],[]⟩,.int .i64 11]) (by simp [results,Tryz.results17,go_sem,d0,d1,d2,d3]) rfl ⟨.inr ⟨HOK.out,.inr ⟨S,f,HN.out,HF.out,.inl ⟨HW.out,rfl⟩⟩⟩,HBS.out⟩
   ·have HW:=hid hw
    have HB5:=hid (HB4.out.trans (hb5.mono HB4.out.size))
    have Ho5:=hid (jd hb5 Ho4.out)
    have HoR5:=hid (jd hb5 HoR4.out)
    have HLS5:=hid (HLS4.out.later hb5)
    have HOS5:=hid (HOS.out va vc w5 (HB34.out.trans (hb5.mono HB34.out.size)) (HLF4.out.later hb5))
    clear hb5 hw HOS HLF4 HoR4 HLS4 Ho4
    go_wp2_with (refine wpList_load_row rfl 82 (.tmp 12) rfl w2.heap.size rfl 82 CC (0,0) _ HoR5.out Tryz.underlying82 rfl HINF.out ?_)
    refine HOS5.out.mono ?_
    clear HOS5
    rintro e w6 ⟨v6,rfl,hown6,hl6,hb6⟩
    rw [HSE.out] at hown6 hl6
    obtain ⟨sa,sc,hv6,hS6⟩:=Kp hown6
    subst hv6
    have HB6:=hid (HB5.out.trans (hb6.mono HB5.out.size))
    have Ho6:=hid (jd hb6 Ho5.out)
    have HFS:=hid (Nn sa la sc lc (Zr pre r f S) (xf js r) w6 (by omega) (by omega) hS6 (HLS5.out.later hb6))
    clear hb6 hown6 hS6
    go_wp2_with fail
    refine HFS.out.mono ?_
    clear HFS
    rintro e w7 ⟨rfl,hb7⟩
    have HB7:=hid (HB6.out.trans (hb7.mono HB6.out.size))
    have Ho7:=hid (jd hb7 Ho6.out)
    clear hb7
    have HFIN:Hid (ForgedX js r file pre (.returned (XD (zp (Zr pre r f S) (xf js r))))):=.inr ⟨HOK.out,.inr ⟨S,f,HN.out,HF.out,.inr ⟨HW.out,rfl⟩⟩⟩
    generalize zp (Zr pre r f S) (xf js r)=ST at *
    obtain ⟨⟨y0,y1,y2,y3⟩,f0,f1,f2,f3⟩:=Qq Ho7.out
    obtain ⟨x,er,hxe⟩:∃ (x:SealB) (er:Int),XD ST=.tuple #[sealV x,.int .i64 er]:=by
     cases ST with
     | none=>exact ⟨_,_,rfl⟩
     | some x=>exact ⟨x,0,rfl⟩
    rw [hxe] at HFIN ⊢
    have HO8:=hid (Na Ho7.out (strB x.secret) (strB x.nonce) (strB x.extra) (strB x.body))
    have HBS:=hid ((((HB7.out.setCell (p:=⟨w.heap.size,0,none⟩) (Nat.le_refl _) (strB x.secret)).setCell (p:=⟨w.heap.size,1,none⟩) (Nat.le_refl _) (strB x.nonce)).setCell (p:=⟨w.heap.size,2,none⟩) (Nat.le_refl _) (strB x.extra)).setCell (p:=⟨w.heap.size,3,none⟩) (Nat.le_refl _) (strB x.body))
    clear hxe
    go_wp2
    generalize (((w7.setCell _ _).setCell _ _).setCell _ _).setCell _ _=W at *
    obtain ⟨d0,d1,d2,d3⟩:=xO HO8.out
    exact bodyPost_ret (v:=.tuple #[sealV x,.int .i64 er]) (by simp [results,Tryz.results17,go_sem,d0,d1,d2,d3]) rfl ⟨HFIN.out,HBS.out⟩
end
end Go.Proofs.YthhpbhpfagoapabGreat
