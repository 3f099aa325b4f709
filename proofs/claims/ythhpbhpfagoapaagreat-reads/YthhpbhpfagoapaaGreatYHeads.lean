import Derived.Test.YthhpbhpfagoapaaGreatTk
import Derived.Test.YthhpbhpfagoapaaGreatJAG
namespace Go.Proofs.YthhpbhpfagoapaaGreat
set_option linter.unusedVariables false
set_option linter.unusedSimpArgs false
set_option maxRecDepth 100000
set_option maxHeartbeats 16000000
open Go.RowKit
abbrev toldC (r g p f:Int) (cv sv pv ev:Value):Array Value:=#[.int .i64 r,.int .i64 g,.int .i64 p,.int .i64 f,.bool false,cv,sv,pv,ev]
abbrev nilV:Value:=.slice none 0 0
theorem xu {w:World} {q:Nat} {a b c d e f g h i:Value} {t:TypeId} (hh:w.heap[q]?=some (.cells #[a,b,c,d,e,f,g,h,i] t (0,0))) :
  w.cell? ⟨q,0,none⟩=some a∧w.cell? ⟨q,1,none⟩=some b∧w.cell? ⟨q,2,none⟩=some c∧w.cell? ⟨q,3,none⟩=some d∧w.cell? ⟨q,4,none⟩=some e∧w.cell? ⟨q,5,none⟩=some f∧w.cell? ⟨q,6,none⟩=some g∧w.cell? ⟨q,7,none⟩=some h∧w.cell? ⟨q,8,none⟩=some i:=by
 refine ⟨?_,?_,?_,?_,?_,?_,?_,?_,?_⟩<;>rw [cell_of_row w q _ _ _ (0,0) hh]<;>rfl
theorem Kh {w w':World} (h:Below w.heap.size w w'):w.grownBy w' none:=⟨h.os,h.tape,h.output,h.size,fun k hk _=>h.block k hk⟩
theorem Gh {w w' w2:World} {p:Nat} (h:w.grownBy w' (some p)) (hb:Below w'.heap.size w' w2):w.grownBy w2 (some p) :=
 ⟨hb.os.trans h.os,hb.tape.trans h.tape,hb.output.trans h.output,Nat.le_trans h.size hb.size,fun i hi hne=>(hb.block i (Nat.lt_of_lt_of_le hi h.size)).trans (h.block i hi hne)⟩
theorem Ef (p foot:Nat) (footer:List UInt8) (w:World) (hs:footer.length≤maxLen) (hp:jS w p footer (some footer)) (hf:foot≤255) :
  Calls Tryz.prog 151 #[.pointer (some ⟨p,0,none⟩),.int .i64 (foot:Int)] w fun e w'=>w.grownBy w' (some p) ∧
   ∃ T cv,e=.returned (.tuple #[.pointer (some ⟨T,0,none⟩),.bool (ZN foot footer)])∧w.heap.size≤T∧w'.heap[T]?=some (.cells (toldC (qK footer:Int) (zn footer).group (zn footer).page (zn footer).foot cv nilV nilV nilV) 179 (0,0))∧w'.ownsRow w.heap.size 61 4 cv (xO footer).1.length (zK (xO footer).1):=by
 obtain ⟨i0,hi,hz0,hz1,hz2⟩:=info_parts Tryz.infoColumnX
 have hpw:=JV hp
 obtain ⟨_,_,_,ho0⟩:=qg w (toldC 0 0 0 0 nilV nilV nilV nilV) 179
 have HS0:=hid (zq hp hpw (.cells (toldC 0 0 0 0 nilV nilV nilV nilV) 179))
 have HG0:=hid (World.grownBy_alloc w (.cells (toldC 0 0 0 0 nilV nilV nilV nilV) 179) (some p))
 have HT0:=hid ho0
 have HR:Hid (qK footer=(jJ 60 (some footer)).1):=rfl
 have HP:Hid (zn footer=⟨((jJ 60 (jJ 60 (some footer)).2).1:Nat),((jJ 60 (jJ 60 (jJ 60 (some footer)).2).2).1:Nat),((jJ 9 (jJ 60 (jJ 60 (jJ 60 (some footer)).2).2).2).1:Nat),false⟩):=rfl
 have HC:Hid (xO footer=xJ (jJ 6 (jJ 9 (jJ 60 (jJ 60 (jJ 60 (some footer)).2).2).2).2).2 (jJ 6 (jJ 9 (jJ 60 (jJ 60 (jJ 60 (some footer)).2).2).2).2).1):=rfl
 clear hp ho0
 go_enter Tryz.func151,Tryz.ntmps151
 go_upto_region 2 with fail
 generalize w.alloc _=W0 at *
 go_wp2_with fail
 refine (Jn p footer (some footer) 60 W0 hs (by decide) (by decide) HS0.out).mono ?_
 rintro e x ⟨rfl,hsp,hg⟩
 have HTa:=hid (qi hg HT0.out (by omega))
 have HGa:=hid (ja HG0.out hg)
 have HSa:=hid hsp
 have hle:=xH 60 (some footer)
 clear hg hsp HT0 HG0 HS0
 rw [show (60:Int).toNat=60 from rfl] at HSa ⊢
 generalize jJ 60 (some footer)=y at *
 obtain ⟨v0,s1⟩:=y
 simp only at HR HP HC HSa hle ⊢
 have cc:=(xu HTa.out).1
 have ff:=frozen_of_row x w.heap.size 0 _ _ HTa.out
 go_upto_region 3 with fail
 clear cc ff
 have hgs:=zS x w.heap.size 0 (.int .i64 (v0:Int))
 have HT1:Hid ((x.setCell ⟨w.heap.size,0,none⟩ (.int .i64 (v0:Int))).heap[w.heap.size]?=some (.cells (toldC (v0:Int) 0 0 0 nilV nilV nilV nilV) 179 (0,0))):=heap_setCell_same x w.heap.size 0 _ _ (.int .i64 (v0:Int)) HTa.out
 have HS1:=hid (xk HSa.out hgs (by omega))
 have HG1:=hid (zh HGa.out hgs (Nat.le_refl _))
 clear hgs HTa HSa HGa
 generalize x.setCell _ _=W1 at *
 go_wp2_with fail
 refine (Jn p footer s1 60 W1 hs (by decide) (by decide) HS1.out).mono ?_
 rintro e x ⟨rfl,hsp,hg⟩
 have HTa:=hid (qi hg HT1.out (by omega))
 have HGa:=hid (ja HG1.out hg)
 have HSa:=hid hsp
 have hle:=xH 60 s1
 clear hg hsp HT1 HG1 HS1
 rw [show (60:Int).toNat=60 from rfl] at HSa ⊢
 generalize jJ 60 s1=y at *
 obtain ⟨v1,s2⟩:=y
 simp only at HR HP HC HSa hle ⊢
 have cc:=(xu HTa.out).2.1
 have ff:=frozen_of_row x w.heap.size 1 _ _ HTa.out
 go_upto_region 4 with fail
 clear cc ff
 have hgs:=zS x w.heap.size 1 (.int .i64 (v1:Int))
 have HT2:Hid ((x.setCell ⟨w.heap.size,1,none⟩ (.int .i64 (v1:Int))).heap[w.heap.size]?=some (.cells (toldC (v0:Int) (v1:Int) 0 0 nilV nilV nilV nilV) 179 (0,0))):=heap_setCell_same x w.heap.size 1 _ _ (.int .i64 (v1:Int)) HTa.out
 have HS2:=hid (xk HSa.out hgs (by omega))
 have HG2:=hid (zh HGa.out hgs (Nat.le_refl _))
 clear hgs HTa HSa HGa
 generalize x.setCell _ _=W2 at *
 go_wp2_with fail
 refine (Jn p footer s2 60 W2 hs (by decide) (by decide) HS2.out).mono ?_
 rintro e x ⟨rfl,hsp,hg⟩
 have HTa:=hid (qi hg HT2.out (by omega))
 have HGa:=hid (ja HG2.out hg)
 have HSa:=hid hsp
 have hle:=xH 60 s2
 clear hg hsp HT2 HG2 HS2
 rw [show (60:Int).toNat=60 from rfl] at HSa ⊢
 generalize jJ 60 s2=y at *
 obtain ⟨v2,s3⟩:=y
 simp only at HR HP HC HSa hle ⊢
 have cc:=(xu HTa.out).2.2.1
 have ff:=frozen_of_row x w.heap.size 2 _ _ HTa.out
 go_upto_region 5 with fail
 clear cc ff
 have hgs:=zS x w.heap.size 2 (.int .i64 (v2:Int))
 have HT3:Hid ((x.setCell ⟨w.heap.size,2,none⟩ (.int .i64 (v2:Int))).heap[w.heap.size]?=some (.cells (toldC (v0:Int) (v1:Int) (v2:Int) 0 nilV nilV nilV nilV) 179 (0,0))):=heap_setCell_same x w.heap.size 2 _ _ (.int .i64 (v2:Int)) HTa.out
 have HS3:=hid (xk HSa.out hgs (by omega))
 have HG3:=hid (zh HGa.out hgs (Nat.le_refl _))
 clear hgs HTa HSa HGa
 generalize x.setCell _ _=W3 at *
 go_wp2_with fail
 refine (Jn p footer s3 9 W3 hs (by decide) (by decide) HS3.out).mono ?_
 rintro e x ⟨rfl,hsp,hg⟩
 have HTa:=hid (qi hg HT3.out (by omega))
 have HGa:=hid (ja HG3.out hg)
 have HSa:=hid hsp
 have hle:=xH 9 s3
 clear hg hsp HT3 HG3 HS3
 rw [show (9:Int).toNat=9 from rfl] at HSa ⊢
 generalize jJ 9 s3=y at *
 obtain ⟨v3,s4⟩:=y
 simp only at HR HP HC HSa hle ⊢
 have cc:=(xu HTa.out).2.2.2.1
 have ff:=frozen_of_row x w.heap.size 3 _ _ HTa.out
 go_upto_region 6 with fail
 clear cc ff
 have hgs:=zS x w.heap.size 3 (.int .i64 (v3:Int))
 have HT4:Hid ((x.setCell ⟨w.heap.size,3,none⟩ (.int .i64 (v3:Int))).heap[w.heap.size]?=some (.cells (toldC (v0:Int) (v1:Int) (v2:Int) (v3:Int) nilV nilV nilV nilV) 179 (0,0))):=heap_setCell_same x w.heap.size 3 _ _ (.int .i64 (v3:Int)) HTa.out
 have HS4:=hid (xk HSa.out hgs (by omega))
 have HG4:=hid (zh HGa.out hgs (Nat.le_refl _))
 clear hgs HTa HSa HGa
 generalize x.setCell _ _=W4 at *
 go_wp2_with fail
 refine (Jn p footer s4 6 W4 hs (by decide) (by decide) HS4.out).mono ?_
 rintro e W5 ⟨rfl,hsp,hg⟩
 have HT5:=hid (qi hg HT4.out (by omega))
 have HG5:=hid (ja HG4.out hg)
 have HS5:=hid hsp
 have hn6:=xH 6 s4
 clear hg hsp HT4 HG4 HS4
 rw [show (6:Int).toNat=6 from rfl] at HS5 ⊢
 generalize jJ 6 s4=y at *
 obtain ⟨n,s5⟩:=y
 simp only at HC HS5 hn6 ⊢
 go_wp2
 go_loopw [8] (fun i wr=>∃ (k:Nat) (cv:Value),k≤n∧i=.int .i64 (k:Int)∧wr.heap[w.heap.size]?=some (.cells (toldC (v0:Int) (v1:Int) (v2:Int) (v3:Int) cv nilV nilV nilV) 179 (0,0))∧wr.ownsRow (w.heap.size+1) 61 4 cv k (zK (xJ s5 k).1)∧jS wr p footer (xJ s5 k).2∧w.grownBy wr (some p)) (fun i _=>n - (intOf i).toNat)
 case atStart=>exact ⟨0,nilV,Nat.zero_le _,rfl,HT5.out,World.ownsRow_nil _ _ _ _,HS5.out,HG5.out⟩
 case round =>
  obtain ⟨k,cv,hkn,rfl,hT,hown,hsp,hg⟩:=hrel
  have HT:=hid hT
  have HO:=hid hown
  have HS:=hid hsp
  have HG:=hid hg
  have hwz:=hg.size
  obtain ⟨va,vc,rfl⟩:=jr hown
  clear hT hown hsp hg
  by_cases hlt:k < n
  ·have hki:(k:Int) < (n:Int):=by omega
   have HST:Hid (xJ s5 (k+1)=((xJ s5 k).1++[⟨(xR 8 (xJ s5 k).2).1,((jJ 1 (xR 8 (xJ s5 k).2).2).1:Nat),((jJ 9 (jJ 1 (xR 8 (xJ s5 k).2).2).2).1:Nat),[]⟩],(jJ 9 (jJ 1 (xR 8 (xJ s5 k).2).2).2).2)):=rfl
   generalize xJ s5 k=q at *
   obtain ⟨tk,sk⟩:=q
   simp only at HO HS HST ⊢
   go_wp2_with fail
   refine (Yo p footer sk 8 wr hs (by decide) (by decide) HS.out).mono ?_
   rintro e wa ⟨rfl,hsp,hg⟩
   rw [show (8:Int).toNat=8 from rfl] at hsp ⊢
   generalize xR 8 sk=y at *
   obtain ⟨nm,sa⟩:=y
   simp only at HST hsp ⊢
   have hza:=hg.size
   have HTa:=hid (JB (.cells #[Value.string { data:=nm.toArray },.int .i64 0,.int .i64 0,.slice none 0 0] 61) (qi hg HT.out (by omega)))
   have HOa:=hid ((qS HO.out (by omega) hg).alloc (.cells #[Value.string { data:=nm.toArray },.int .i64 0,.int .i64 0,.slice none 0 0] 61))
   have HSa:=hid (zq hsp (JV hsp) (.cells #[Value.string { data:=nm.toArray },.int .i64 0,.int .i64 0,.slice none 0 0] 61))
   have HGa:=hid (xT (ja HG.out hg) (.cells #[Value.string { data:=nm.toArray },.int .i64 0,.int .i64 0,.slice none 0 0] 61))
   have Hba:=hid (qg wa #[Value.string { data:=nm.toArray },.int .i64 0,.int .i64 0,.slice none 0 0] 61).2.2.2
   have hBT:w.heap.size < wa.heap.size:=(Array.getElem?_eq_some_iff.1 (qi hg HT.out (by omega))).1
   have HOB:Hid ((Value.slice va k vc).ownBlock=none∨(Value.slice va k vc).ownBlock≠some wa.heap.size):=by
    rcases hv:(Value.slice va k vc).ownBlock with _|b
    ·exact .inl rfl
    ·refine .inr (fun e=>?_)
     have:=(HO.out.lt b hv).2
     injection e with e
     omega
   clear hsp hg HT HO HS HG
   go_wp2_with fail
   generalize hwb:wa.alloc _=wb at *
   clear hwb
   generalize hBB:wa.heap.size=B at Hba hBT hza HOB ⊢
   clear hBB
   refine (Jn p footer sa 1 wb hs (by decide) (by decide) HSa.out).mono ?_
   rintro e x ⟨rfl,hsp,hg⟩
   rw [show (1:Int).toNat=1 from rfl] at hsp ⊢
   have hl1:=xH 1 sa
   generalize jJ 1 sa=y at *
   obtain ⟨kd,sb⟩:=y
   simp only at HST hsp hl1 ⊢
   have hbx:=qi hg Hba.out (by omega)
   have HTx:=hid (qi hg HTa.out (by omega))
   have HOx:=hid (qS HOa.out (by omega) hg)
   have HGx:=hid (ja HGa.out hg)
   have cc:x.cell? ⟨B,1,none⟩=some (.int .i64 0):=by rw [cell_of_row x B 1 _ _ (0,0) hbx];rfl
   have ff:=frozen_of_row x B 1 _ _ hbx
   have Hbx:=hid hbx
   have HSx:=hid hsp
   clear hbx hsp hg HTa HOa HGa HSa Hba
   go_upto_region 12 with fail
   clear cc ff
   have hgs:=zS x B 1 (.int .i64 (kd:Int))
   have Hba:Hid ((x.setCell ⟨B,1,none⟩ (.int .i64 (kd:Int))).heap[B]?=some (.cells #[Value.string { data:=nm.toArray },.int .i64 (kd:Int),.int .i64 0,.slice none 0 0] 61 (0,0))):=heap_setCell_same x B 1 _ _ (.int .i64 (kd:Int)) Hbx.out
   have HTa:=hid (qi hgs HTx.out (by omega))
   have HOa:=hid (HOx.out.kept hgs HOB.out)
   have HSa:=hid (xk HSx.out hgs (by omega))
   have HGa:=hid (zh HGx.out hgs (by omega))
   clear hgs Hbx HTx HOx HSx HGx
   generalize x.setCell _ _=wc at *
   go_wp2_with fail
   refine (Jn p footer sb 9 wc hs (by decide) (by decide) HSa.out).mono ?_
   rintro e x ⟨rfl,hsp,hg⟩
   rw [show (9:Int).toNat=9 from rfl] at hsp ⊢
   have hl9:=xH 9 sb
   generalize jJ 9 sb=y at *
   obtain ⟨ky,sc⟩:=y
   simp only at HST hsp hl9 ⊢
   have hbx:=qi hg Hba.out (by omega)
   have HTx:=hid (qi hg HTa.out (by omega))
   have HOx:=hid (qS HOa.out (by omega) hg)
   have HGx:=hid (ja HGa.out hg)
   have cc:x.cell? ⟨B,2,none⟩=some (.int .i64 0):=by rw [cell_of_row x B 2 _ _ (0,0) hbx];rfl
   have ff:=frozen_of_row x B 2 _ _ hbx
   have Hbx:=hid hbx
   have HSx:=hid hsp
   clear hbx hsp hg HTa HOa HGa HSa Hba
   go_upto_region 13 with fail
   clear cc ff
   have hgs:=zS x B 2 (.int .i64 (ky:Int))
   have Hba:Hid ((x.setCell ⟨B,2,none⟩ (.int .i64 (ky:Int))).heap[B]?=some (.cells #[Value.string { data:=nm.toArray },.int .i64 (kd:Int),.int .i64 (ky:Int),.slice none 0 0] 61 (0,0))):=heap_setCell_same x B 2 _ _ (.int .i64 (ky:Int)) Hbx.out
   have HTa:=hid (qi hgs HTx.out (by omega))
   have HOa:=hid (HOx.out.kept hgs HOB.out)
   have HSa:=hid (xk HSx.out hgs (by omega))
   have HGa:=hid (zh HGx.out hgs (by omega))
   clear hgs Hbx HTx HOx HSx HGx
   generalize x.setCell _ _=wd at *
   have c5:=(xu HTa.out).2.2.2.2.2.1
   refine wp_region_held_drew (S:=fun w'=>w'.heap[B]?=some (.cells #[Value.string { data:=nm.toArray },.int .i64 (kd:Int),.int .i64 (ky:Int),.slice none 0 0] 61 (0,0))) (by kernel_rfl) Hba.out (fun hHeld=>?_)
   refine tk 0 (.pointer (some ⟨w.heap.size,0,none⟩)) ?_
   refine tk 1 (.pointer (some ⟨w.heap.size,0,none⟩)) ?_
   refine tk 2 (.pointer (some ⟨w.heap.size,0,none⟩)) ?_
   refine tk 3 (.pointer (some ⟨w.heap.size,5,none⟩)) ?_
   simp only [ga,gb,gc,Act.put,gd,ge,gf]
   refine wpAnyH_take (i:=5) (oi:=_) (v:=.agg #[Value.string { data:=nm.toArray },.int .i64 (kd:Int),.int .i64 (ky:Int),.slice none 0 0]) rfl (by kernel_rfl) (by kernel_rfl) (by kernel_rfl) (fun _ _ _ h=>h) (Or.inl ⟨by rfl,fun w hSw=>?_⟩) (by assumption) ?_
   ·have hrl:=run_loadVar_row (P:=Tryz.prog) w B 61 61 #[Value.string { data:=nm.toArray },.int .i64 (kd:Int),.int .i64 (ky:Int),.slice none 0 0] (0,0) _ hSw Tryz.underlying61 rfl (by kernel_rfl)
    unfold execOp
    simp [List.getElem_toArray,List.getElem_cons_zero,Act.eval,Instr.loadAt,Instr.sureAddr,Sem.run_bind,Sem.run_pure,Result.andThen_ok,hrl]
   simp only [ga,gb,gc,Act.put,gd,ge,gf]
   refine wpAnyH_ready (rs:=[4,6]) (by kernel_rfl) (by simp) ?_
   refine AllReadyH.cons (o:=_) rfl (fun K hK=>?_) (AllReadyH.cons (o:=_) rfl (fun K hK=>?_) AllReadyH.nil)
   ·simp only [ga,gb,gc]
    go_simp
    try go_wp2_with fail
    refine hK.out _ _ Hba.out (fun hHeld=>?_)
    clear hK K
    try simp only [ga,gb,gc,Act.put,gd,ge,gf]
    refine rd 6 (fun K hK=>?_)
    simp only [ga,gb,gc]
    go_simp
    try go_wp2_with fail
    have HbW:Hid ((wd.alloc (.cells #[Value.string { data:=nm.toArray },.int .i64 (kd:Int),.int .i64 (ky:Int),.slice none 0 0] 61)).drew.heap[B]?=some (.cells #[Value.string { data:=nm.toArray },.int .i64 (kd:Int),.int .i64 (ky:Int),.slice none 0 0] 61 (0,0))):=JB _ Hba.out
    have HTW:Hid ((wd.alloc (.cells #[Value.string { data:=nm.toArray },.int .i64 (kd:Int),.int .i64 (ky:Int),.slice none 0 0] 61)).drew.heap[w.heap.size]?=some (.cells (toldC (v0:Int) (v1:Int) (v2:Int) (v3:Int) (.slice va k vc) nilV nilV nilV) 179 (0,0))):=JB _ HTa.out
    have HOW:Hid ((wd.alloc (.cells #[Value.string { data:=nm.toArray },.int .i64 (kd:Int),.int .i64 (ky:Int),.slice none 0 0] 61)).drew.ownsRow (w.heap.size+1) 61 4 (.slice va k vc) k (zK tk)):=HOa.out.alloc _
    have HSW:Hid (jS (wd.alloc (.cells #[Value.string { data:=nm.toArray },.int .i64 (kd:Int),.int .i64 (ky:Int),.slice none 0 0] 61)).drew p footer sc):=zq HSa.out (JV HSa.out) _
    have HGW:Hid (w.grownBy (wd.alloc (.cells #[Value.string { data:=nm.toArray },.int .i64 (kd:Int),.int .i64 (ky:Int),.slice none 0 0] 61)).drew (some p)):=zX (xT HGa.out _) 1
    have HNW:Hid (∀ j u,([Value.string { data:=nm.toArray },.int .i64 (kd:Int),.int .i64 (ky:Int),.slice none 0 0]:List Value)[j]?=some u→(wd.alloc (.cells #[Value.string { data:=nm.toArray },.int .i64 (kd:Int),.int .i64 (ky:Int),.slice none 0 0] 61)).drew.cell? ((⟨wd.heap.size,0,none⟩:Addr).add j)=some u):=xf wd #[Value.string { data:=nm.toArray },.int .i64 (kd:Int),.int .i64 (ky:Int),.slice none 0 0] 61 (by simp)
    have hzW:w.heap.size+1≤(wd.alloc (.cells #[Value.string { data:=nm.toArray },.int .i64 (kd:Int),.int .i64 (ky:Int),.slice none 0 0] 61)).drew.heap.size:=Nat.succ_le_of_lt (Array.getElem?_eq_some_iff.1 HTW.out).1
    have c5W:=(xu HTW.out).2.2.2.2.2.1
    refine hK.out _ _ HbW.out (fun hHeld=>?_)
    clear hK K c5
    try simp only [ga,gb,gc,Act.put,gd,ge,gf]
    generalize hWX:(wd.alloc (.cells #[Value.string { data:=nm.toArray },.int .i64 (kd:Int),.int .i64 (ky:Int),.slice none 0 0] 61)).drew=WX at *
    clear hWX
    generalize hnb:wd.heap.size=nb at HNW ⊢
    clear hnb Hba HTa HOa HSa HGa
    refine rd 7 (fun K hK=>?_)
    simp only [ga,gb,gc]
    rw [if_pos (by simp [Region.wanted])]
    refine wp_append_own _ (.tmp 57) (.tmp 59) 22 rfl (w.heap.size+1) 61 i0 _ 4 56 Tryz.underlying22 hi hz0 hz1 hz2 rfl (by decide) (.slice va k vc) k (zK tk) rfl HOW.out ⟨nb,0,none⟩ 1 1 [Value.string { data:=nm.toArray },.int .i64 (kd:Int),.int .i64 (ky:Int),.slice none 0 0] rfl rfl HNW.out ?_ (by unfold maxLen;omega) (by omega) hzW ?_
    ·intro u hu
     simp at hu
     rcases hu with rfl|rfl|rfl|rfl<;>rfl
    intro v5 w5 hown5 hgr5 _
    have HB5:Hid (w5.heap[B]?=some (.cells #[Value.string { data:=nm.toArray },.int .i64 (kd:Int),.int .i64 (ky:Int),.slice none 0 0] 61 (0,0))):=by
     show _=_
     rw [hgr5.block B (Array.getElem?_eq_some_iff.1 HbW.out).1 (by
      intro e
      rcases HOB.out with h|h
      ·rw [h] at e;cases e
      ·exact h e.symm)]
     exact HbW.out
    have HT5':=hid (jq hgr5 HOW.out HTW.out (by decide))
    have HS5':=hid (JI HSW.out (JV HSW.out) hgr5 (fun b hb=>by have:=(HOW.out.lt b hb).1;omega))
    have HG5':Hid (w.grownBy w5 (some p)):=by
     refine ⟨hgr5.os.trans HGW.out.os,hgr5.tape.trans HGW.out.tape,hgr5.output.trans HGW.out.output,Nat.le_trans HGW.out.size hgr5.size,fun i hi hne=>(hgr5.block i (Nat.lt_of_lt_of_le hi HGW.out.size) ?_).trans (HGW.out.block i hi hne)⟩
     intro e
     have:=(HOW.out.lt i e.symm).1
     omega
    have HO5':=hid hown5
    obtain ⟨ua,uc,rfl⟩:=jr hown5
    clear hown5 hgr5 HNW HTW HOW HSW HGW HbW c5W
    refine hK.out _ _ HB5.out (fun hHeld=>?_)
    clear hK K
    try simp only [ga,gb,gc,Act.put,gd,ge,gf]
    refine tk 8 (.pointer (some ⟨w.heap.size,0,none⟩)) ?_
    refine tk 9 (.pointer (some ⟨w.heap.size,5,none⟩)) ?_
    simp only [ga,gb,gc,Act.put,gd,ge,gf]
    refine rd 10 (fun K hK=>?_)
    simp only [ga,gb,gc]
    have c5:=(xu HT5'.out).2.2.2.2.2.1
    have f5:=frozen_of_row w5 w.heap.size 5 _ _ HT5'.out
    go_simp
    try go_wp2_with fail
    have hgs:=zS w5 w.heap.size 5 (.slice ua (k+1) uc)
    have HBs:=qi hgs HB5.out (by omega)
    refine hK.out _ _ HBs (fun hHeld=>?_)
    clear hK K c5 f5
    refine wpAnyH_done (by kernel_rfl) ?_ _
    clear hHeld HBs
    have HTe:Hid ((w5.setCell ⟨w.heap.size,5,none⟩ (.slice ua (k+1) uc)).heap[w.heap.size]?=some (.cells (toldC (v0:Int) (v1:Int) (v2:Int) (v3:Int) (.slice ua (k+1) uc) nilV nilV nilV) 179 (0,0))):=heap_setCell_same w5 w.heap.size 5 _ _ _ HT5'.out
    have HOe:=hid (HO5'.out.kept hgs (by
     rcases hv:(Value.slice ua (k+1) uc).ownBlock with _|b
     ·exact .inl rfl
     ·refine .inr (fun e=>?_)
      have:=(HO5'.out.lt b hv).1
      injection e with e
      omega))
    have HSe:=hid (xk HS5'.out hgs (by omega))
    have HGe:=hid (zh HG5'.out hgs (Nat.le_refl _))
    clear hgs HT5' HO5' HS5' HG5' HB5
    generalize w5.setCell _ _=w6 at *
    go_wp2
    go_roundw
    case rel =>
     refine ⟨k+1,_,by omega,by go_num,HTe.out,?_,?_,HGe.out⟩
     ·rw [HST.out,Ud]
      exact HOe.out
     ·rw [HST.out]
      exact HSe.out
    case measure=>simp [intOf];omega
   ·simp only [ga,gb,gc]
    go_simp
    try go_wp2_with fail
    have HbW:Hid ((wd.alloc (.cells #[Value.string { data:=nm.toArray },.int .i64 (kd:Int),.int .i64 (ky:Int),.slice none 0 0] 61)).drew.heap[B]?=some (.cells #[Value.string { data:=nm.toArray },.int .i64 (kd:Int),.int .i64 (ky:Int),.slice none 0 0] 61 (0,0))):=JB _ Hba.out
    have HTW:Hid ((wd.alloc (.cells #[Value.string { data:=nm.toArray },.int .i64 (kd:Int),.int .i64 (ky:Int),.slice none 0 0] 61)).drew.heap[w.heap.size]?=some (.cells (toldC (v0:Int) (v1:Int) (v2:Int) (v3:Int) (.slice va k vc) nilV nilV nilV) 179 (0,0))):=JB _ HTa.out
    have HOW:Hid ((wd.alloc (.cells #[Value.string { data:=nm.toArray },.int .i64 (kd:Int),.int .i64 (ky:Int),.slice none 0 0] 61)).drew.ownsRow (w.heap.size+1) 61 4 (.slice va k vc) k (zK tk)):=HOa.out.alloc _
    have HSW:Hid (jS (wd.alloc (.cells #[Value.string { data:=nm.toArray },.int .i64 (kd:Int),.int .i64 (ky:Int),.slice none 0 0] 61)).drew p footer sc):=zq HSa.out (JV HSa.out) _
    have HGW:Hid (w.grownBy (wd.alloc (.cells #[Value.string { data:=nm.toArray },.int .i64 (kd:Int),.int .i64 (ky:Int),.slice none 0 0] 61)).drew (some p)):=zX (xT HGa.out _) 1
    have HNW:Hid (∀ j u,([Value.string { data:=nm.toArray },.int .i64 (kd:Int),.int .i64 (ky:Int),.slice none 0 0]:List Value)[j]?=some u→(wd.alloc (.cells #[Value.string { data:=nm.toArray },.int .i64 (kd:Int),.int .i64 (ky:Int),.slice none 0 0] 61)).drew.cell? ((⟨wd.heap.size,0,none⟩:Addr).add j)=some u):=xf wd #[Value.string { data:=nm.toArray },.int .i64 (kd:Int),.int .i64 (ky:Int),.slice none 0 0] 61 (by simp)
    have hzW:w.heap.size+1≤(wd.alloc (.cells #[Value.string { data:=nm.toArray },.int .i64 (kd:Int),.int .i64 (ky:Int),.slice none 0 0] 61)).drew.heap.size:=Nat.succ_le_of_lt (Array.getElem?_eq_some_iff.1 HTW.out).1
    have c5W:=(xu HTW.out).2.2.2.2.2.1
    refine hK.out _ _ HbW.out (fun hHeld=>?_)
    clear hK K c5
    try simp only [ga,gb,gc,Act.put,gd,ge,gf]
    generalize hWX:(wd.alloc (.cells #[Value.string { data:=nm.toArray },.int .i64 (kd:Int),.int .i64 (ky:Int),.slice none 0 0] 61)).drew=WX at *
    clear hWX
    generalize hnb:wd.heap.size=nb at HNW ⊢
    clear hnb Hba HTa HOa HSa HGa
    refine rd 4 (fun K hK=>?_)
    simp only [ga,gb,gc]
    go_simp
    try go_wp2_with fail
    refine hK.out _ _ HbW.out (fun hHeld=>?_)
    clear hK K
    try simp only [ga,gb,gc,Act.put,gd,ge,gf]
    refine rd 7 (fun K hK=>?_)
    simp only [ga,gb,gc]
    rw [if_pos (by simp [Region.wanted])]
    refine wp_append_own _ (.tmp 57) (.tmp 59) 22 rfl (w.heap.size+1) 61 i0 _ 4 56 Tryz.underlying22 hi hz0 hz1 hz2 rfl (by decide) (.slice va k vc) k (zK tk) rfl HOW.out ⟨nb,0,none⟩ 1 1 [Value.string { data:=nm.toArray },.int .i64 (kd:Int),.int .i64 (ky:Int),.slice none 0 0] rfl rfl HNW.out ?_ (by unfold maxLen;omega) (by omega) hzW ?_
    ·intro u hu
     simp at hu
     rcases hu with rfl|rfl|rfl|rfl<;>rfl
    intro v5 w5 hown5 hgr5 _
    have HB5:Hid (w5.heap[B]?=some (.cells #[Value.string { data:=nm.toArray },.int .i64 (kd:Int),.int .i64 (ky:Int),.slice none 0 0] 61 (0,0))):=by
     show _=_
     rw [hgr5.block B (Array.getElem?_eq_some_iff.1 HbW.out).1 (by
      intro e
      rcases HOB.out with h|h
      ·rw [h] at e;cases e
      ·exact h e.symm)]
     exact HbW.out
    have HT5':=hid (jq hgr5 HOW.out HTW.out (by decide))
    have HS5':=hid (JI HSW.out (JV HSW.out) hgr5 (fun b hb=>by have:=(HOW.out.lt b hb).1;omega))
    have HG5':Hid (w.grownBy w5 (some p)):=by
     refine ⟨hgr5.os.trans HGW.out.os,hgr5.tape.trans HGW.out.tape,hgr5.output.trans HGW.out.output,Nat.le_trans HGW.out.size hgr5.size,fun i hi hne=>(hgr5.block i (Nat.lt_of_lt_of_le hi HGW.out.size) ?_).trans (HGW.out.block i hi hne)⟩
     intro e
     have:=(HOW.out.lt i e.symm).1
     omega
    have HO5':=hid hown5
    obtain ⟨ua,uc,rfl⟩:=jr hown5
    clear hown5 hgr5 HNW HTW HOW HSW HGW HbW c5W
    refine hK.out _ _ HB5.out (fun hHeld=>?_)
    clear hK K
    try simp only [ga,gb,gc,Act.put,gd,ge,gf]
    refine tk 8 (.pointer (some ⟨w.heap.size,0,none⟩)) ?_
    refine tk 9 (.pointer (some ⟨w.heap.size,5,none⟩)) ?_
    simp only [ga,gb,gc,Act.put,gd,ge,gf]
    refine rd 10 (fun K hK=>?_)
    simp only [ga,gb,gc]
    have c5:=(xu HT5'.out).2.2.2.2.2.1
    have f5:=frozen_of_row w5 w.heap.size 5 _ _ HT5'.out
    go_simp
    try go_wp2_with fail
    have hgs:=zS w5 w.heap.size 5 (.slice ua (k+1) uc)
    have HBs:=qi hgs HB5.out (by omega)
    refine hK.out _ _ HBs (fun hHeld=>?_)
    clear hK K c5 f5
    refine wpAnyH_done (by kernel_rfl) ?_ _
    clear hHeld HBs
    have HTe:Hid ((w5.setCell ⟨w.heap.size,5,none⟩ (.slice ua (k+1) uc)).heap[w.heap.size]?=some (.cells (toldC (v0:Int) (v1:Int) (v2:Int) (v3:Int) (.slice ua (k+1) uc) nilV nilV nilV) 179 (0,0))):=heap_setCell_same w5 w.heap.size 5 _ _ _ HT5'.out
    have HOe:=hid (HO5'.out.kept hgs (by
     rcases hv:(Value.slice ua (k+1) uc).ownBlock with _|b
     ·exact .inl rfl
     ·refine .inr (fun e=>?_)
      have:=(HO5'.out.lt b hv).1
      injection e with e
      omega))
    have HSe:=hid (xk HS5'.out hgs (by omega))
    have HGe:=hid (zh HG5'.out hgs (Nat.le_refl _))
    clear hgs HT5' HO5' HS5' HG5' HB5
    generalize w5.setCell _ _=w6 at *
    go_wp2
    go_roundw
    case rel =>
     refine ⟨k+1,_,by omega,by go_num,HTe.out,?_,?_,HGe.out⟩
     ·rw [HST.out,Ud]
      exact HOe.out
     ·rw [HST.out]
      exact HSe.out
    case measure=>simp [intOf];omega
  ·have hke:k=n:=by omega
   subst hke
   clear hlt
   have hty:=CB s5 k
   have HSM:Hid (∀ c ∈ (xJ s5 k).1,SmallC c):=fun c hc=>by
    obtain ⟨h1,h2,h3,h4⟩:=VR s5 k c hc
    exact ⟨h1,h2,⟨h3,h4⟩,Ut s5 k c hc⟩
   obtain ⟨ta,tc,hva,_,hlies⟩:=VC HO.out hty HSM.out
   injection hva with hva1 hva2 hva3
   subst hva1 hva3
   clear hva2
   have Hli:=hid hlies
   have Hty:=hid hty
   have HHD:Hid (ZN foot footer=(!(xJ s5 k).2.isNone && (qW ⟨(v1:Int),(v2:Int),(v3:Int),false⟩ && (jU (xJ s5 k).1 && decide ((v3:Int)=(foot:Int)))))):=by
    show _=_
    unfold ZN
    rw [HC.out,HP.out]
   clear hlies hty
   obtain ⟨d0,d1,d2,d3,d4,d5,_⟩:=xu HT.out
   go_wp2_with fail
   clear d0 d1 d2 d3 d4 d5
   refine (IC ⟨(v1:Int),(v2:Int),(v3:Int),false⟩ wr).mono ?_
   rintro e wx ⟨rfl,hbx⟩
   have HTx:=hid (jb hbx HT.out)
   have HSx:Hid (jS wx p footer (xJ s5 k).2):=JI HS.out (JV HS.out) (Kh hbx) (fun b hb=>by cases hb)
   have HOx:=hid (jw HO.out hbx)
   have HGx:=hid (Gh HG.out hbx)
   have Hlx:=hid (Hli.out.later hbx)
   clear hbx HT HS HO HG Hli
   obtain ⟨d0,d1,d2,d3,d4,d5,_⟩:=xu HTx.out
   generalize qW ⟨(v1:Int),(v2:Int),(v3:Int),false⟩=bp at *
   go_wp2_with fail
   clear d0 d1 d2 d3 d4 d5
   have HHE:=hid (Yx va vc (xJ s5 k).1 wx (by rw [Hty.out];unfold maxLen;omega) Hlx.out)
   rw [Hty.out] at HHE
   refine HHE.out.mono ?_
   rintro e wy ⟨rfl,hby⟩
   have HTz:=hid (jb hby HTx.out)
   have HSz:Hid (jS wy p footer (xJ s5 k).2):=JI HSx.out (JV HSx.out) (Kh hby) (fun b hb=>by cases hb)
   have HOz:=hid (jw HOx.out hby)
   have HGz:=hid (Gh HGx.out hby)
   clear hby HTx HSx HOx HGx Hlx HHE
   generalize jU (xJ s5 k).1=bh at *
   have HTE:Hid (wy.drew.heap[w.heap.size]?=some (.cells (toldC (qK footer:Int) (zn footer).group (zn footer).page (zn footer).foot (.slice va k vc) nilV nilV nilV) 179 (0,0))):=by
    show _=_
    rw [HR.out,HP.out]
    exact HTz.out
   have HOE:Hid (wy.drew.ownsRow w.heap.size 61 4 (.slice va k vc) (xO footer).1.length (zK (xO footer).1)):=by
    show World.ownsRow _ _ _ _ _ _ _
    rw [HC.out,Hty.out]
    exact jy HOz.out (Nat.le_succ _)
   have k3:=(xu HTz.out).2.2.2.1
   have k2:=Kv HSz.out
   go_upto_region 16 with fail
   generalize (xJ s5 k).2=sz at *
   rcases sz with _|sz
   ·simp only [JO] at k2
    refine wp_region_held_drew (S:=fun w'=>w'.cell? ⟨p,2,none⟩=some (.bool true)∧w'.cell? ⟨w.heap.size,3,none⟩=some (.int .i64 (v3:Int))) (by kernel_rfl) ⟨k2,k3⟩ (fun hHeld=>?_)
    refine tk 0 (.pointer (some ⟨w.heap.size,0,none⟩)) ?_
    refine tk 1 (.pointer (some ⟨p,0,none⟩)) ?_
    refine tk 2 (.pointer (some ⟨p,0,none⟩)) ?_
    refine tk 3 (.pointer (some ⟨p,2,none⟩)) ?_
    refine tk 4 (.bool true) ?_
    refine tk 5 (.bool false) ?_
    refine tk 6 (.bool false) ?_
    refine tu 7 ?_
    refine tk 8 (.bool false) ?_
    refine tk 9 (.bool false) ?_
    refine tu 10 ?_
    refine tk 11 (.bool false) ?_
    refine tk 12 (.bool false) ?_
    refine tu 13 ?_
    refine tu 14 ?_
    refine tu 15 ?_
    refine tu 16 ?_
    refine tu 17 ?_
    refine tu 18 ?_
    refine tu 19 ?_
    refine tk 20 (.bool false) ?_
    refine tk 21 (.pointer (some ⟨w.heap.size,0,none⟩)) ?_
    refine tk 22 (.bool false) ?_
    simp only [ga,gb,gc,Act.put,gd,ge,gf]
    refine wpAnyH_done (by kernel_rfl) ?_ _
    clear hHeld
    go_wp2
    go_ret2
    refine ⟨zX HGz.out 1,w.heap.size,_,?_,Nat.le_refl _,HTE.out,HOE.out⟩
    rw [HHD.out]
    rfl
   ·simp only [JO] at k2
    cases bp with
    | false =>
     refine wp_region_held_drew (S:=fun w'=>w'.cell? ⟨p,2,none⟩=some (.bool false)∧w'.cell? ⟨w.heap.size,3,none⟩=some (.int .i64 (v3:Int))) (by kernel_rfl) ⟨k2,k3⟩ (fun hHeld=>?_)
     refine tk 0 (.pointer (some ⟨w.heap.size,0,none⟩)) ?_
     refine tk 1 (.pointer (some ⟨p,0,none⟩)) ?_
     refine tk 2 (.pointer (some ⟨p,0,none⟩)) ?_
     refine tk 3 (.pointer (some ⟨p,2,none⟩)) ?_
     refine tk 4 (.bool false) ?_
     refine tk 5 (.bool true) ?_
     refine tk 6 (.bool true) ?_
     refine tk 7 (.bool false) ?_
     refine tk 8 (.bool false) ?_
     refine tk 9 (.bool false) ?_
     refine tu 10 ?_
     refine tk 11 (.bool false) ?_
     refine tk 12 (.bool false) ?_
     refine tu 13 ?_
     refine tu 14 ?_
     refine tu 15 ?_
     refine tu 16 ?_
     refine tu 17 ?_
     refine tu 18 ?_
     refine tu 19 ?_
     refine tk 20 (.bool false) ?_
     refine tk 21 (.pointer (some ⟨w.heap.size,0,none⟩)) ?_
     refine tk 22 (.bool false) ?_
     simp only [ga,gb,gc,Act.put,gd,ge,gf]
     refine wpAnyH_done (by kernel_rfl) ?_ _
     clear hHeld
     go_wp2
     go_ret2
     refine ⟨zX HGz.out 1,w.heap.size,_,?_,Nat.le_refl _,HTE.out,HOE.out⟩
     rw [HHD.out]
     rfl
    | true =>
     cases bh with
     | false =>
      refine wp_region_held_drew (S:=fun w'=>w'.cell? ⟨p,2,none⟩=some (.bool false)∧w'.cell? ⟨w.heap.size,3,none⟩=some (.int .i64 (v3:Int))) (by kernel_rfl) ⟨k2,k3⟩ (fun hHeld=>?_)
      refine tk 0 (.pointer (some ⟨w.heap.size,0,none⟩)) ?_
      refine tk 1 (.pointer (some ⟨p,0,none⟩)) ?_
      refine tk 2 (.pointer (some ⟨p,0,none⟩)) ?_
      refine tk 3 (.pointer (some ⟨p,2,none⟩)) ?_
      refine tk 4 (.bool false) ?_
      refine tk 5 (.bool true) ?_
      refine tk 6 (.bool true) ?_
      refine tk 7 (.bool true) ?_
      refine tk 8 (.bool true) ?_
      refine tk 9 (.bool true) ?_
      refine tk 10 (.bool false) ?_
      refine tk 11 (.bool false) ?_
      refine tk 12 (.bool false) ?_
      refine tu 13 ?_
      refine tu 14 ?_
      refine tu 15 ?_
      refine tu 16 ?_
      refine tu 17 ?_
      refine tu 18 ?_
      refine tu 19 ?_
      refine tk 20 (.bool false) ?_
      refine tk 21 (.pointer (some ⟨w.heap.size,0,none⟩)) ?_
      refine tk 22 (.bool false) ?_
      simp only [ga,gb,gc,Act.put,gd,ge,gf]
      refine wpAnyH_done (by kernel_rfl) ?_ _
      clear hHeld
      go_wp2
      go_ret2
      refine ⟨zX HGz.out 1,w.heap.size,_,?_,Nat.le_refl _,HTE.out,HOE.out⟩
      rw [HHD.out]
      rfl
     | true =>
      by_cases hft:v3=foot
      ·have hbq:((v3:Int) == (foot:Int))=true:=by rw [beq_iff_eq];omega
       have hdq:decide ((v3:Int)=(foot:Int))=true:=decide_eq_true (by omega)
       rw [hdq] at HHD
       clear hdq hft
       refine wp_region_held_drew (S:=fun w'=>w'.cell? ⟨p,2,none⟩=some (.bool false)∧w'.cell? ⟨w.heap.size,3,none⟩=some (.int .i64 (v3:Int))) (by kernel_rfl) ⟨k2,k3⟩ (fun hHeld=>?_)
       refine tk 0 (.pointer (some ⟨w.heap.size,0,none⟩)) ?_
       refine tk 1 (.pointer (some ⟨p,0,none⟩)) ?_
       refine tk 2 (.pointer (some ⟨p,0,none⟩)) ?_
       refine tk 3 (.pointer (some ⟨p,2,none⟩)) ?_
       refine tk 4 (.bool false) ?_
       refine tk 5 (.bool true) ?_
       refine tk 6 (.bool true) ?_
       refine tk 7 (.bool true) ?_
       refine tk 8 (.bool true) ?_
       refine tk 9 (.bool true) ?_
       refine tk 10 (.bool true) ?_
       refine tk 11 (.bool true) ?_
       refine tk 12 (.bool true) ?_
       refine tk 13 (.pointer (some ⟨w.heap.size,0,none⟩)) ?_
       refine tk 14 (.pointer (some ⟨w.heap.size,0,none⟩)) ?_
       refine tk 15 (.pointer (some ⟨w.heap.size,1,none⟩)) ?_
       refine tk 16 (.pointer (some ⟨w.heap.size,3,none⟩)) ?_
       refine tk 17 (.int .i64 (v3:Int)) ?_
       refine tk 18 (.int .i64 (foot:Int)) ?_
       refine tk 19 (.bool true) ?_
       refine tk 20 (.bool true) ?_
       refine tk 21 (.pointer (some ⟨w.heap.size,0,none⟩)) ?_
       refine tk 22 (.bool true) ?_
       simp only [ga,gb,gc,Act.put,gd,ge,gf]
       refine wpAnyH_done (by kernel_rfl) ?_ _
       clear hHeld
       go_wp2
       go_ret2
       refine ⟨zX HGz.out 1,w.heap.size,_,?_,Nat.le_refl _,HTE.out,HOE.out⟩
       rw [HHD.out]
       rfl
      ·have hbq:((v3:Int) == (foot:Int))=false:=by rw [beq_eq_false_iff_ne];omega
       have hdq:decide ((v3:Int)=(foot:Int))=false:=decide_eq_false (by omega)
       rw [hdq] at HHD
       clear hdq hft
       refine wp_region_held_drew (S:=fun w'=>w'.cell? ⟨p,2,none⟩=some (.bool false)∧w'.cell? ⟨w.heap.size,3,none⟩=some (.int .i64 (v3:Int))) (by kernel_rfl) ⟨k2,k3⟩ (fun hHeld=>?_)
       refine tk 0 (.pointer (some ⟨w.heap.size,0,none⟩)) ?_
       refine tk 1 (.pointer (some ⟨p,0,none⟩)) ?_
       refine tk 2 (.pointer (some ⟨p,0,none⟩)) ?_
       refine tk 3 (.pointer (some ⟨p,2,none⟩)) ?_
       refine tk 4 (.bool false) ?_
       refine tk 5 (.bool true) ?_
       refine tk 6 (.bool true) ?_
       refine tk 7 (.bool true) ?_
       refine tk 8 (.bool true) ?_
       refine tk 9 (.bool true) ?_
       refine tk 10 (.bool true) ?_
       refine tk 11 (.bool true) ?_
       refine tk 12 (.bool true) ?_
       refine tk 13 (.pointer (some ⟨w.heap.size,0,none⟩)) ?_
       refine tk 14 (.pointer (some ⟨w.heap.size,0,none⟩)) ?_
       refine tk 15 (.pointer (some ⟨w.heap.size,1,none⟩)) ?_
       refine tk 16 (.pointer (some ⟨w.heap.size,3,none⟩)) ?_
       refine tk 17 (.int .i64 (v3:Int)) ?_
       refine tk 18 (.int .i64 (foot:Int)) ?_
       refine tk 19 (.bool false) ?_
       refine tk 20 (.bool false) ?_
       refine tk 21 (.pointer (some ⟨w.heap.size,0,none⟩)) ?_
       refine tk 22 (.bool false) ?_
       simp only [ga,gb,gc,Act.put,gd,ge,gf]
       refine wpAnyH_done (by kernel_rfl) ?_ _
       clear hHeld
       go_wp2
       go_ret2
       refine ⟨zX HGz.out 1,w.heap.size,_,?_,Nat.le_refl _,HTE.out,HOE.out⟩
       rw [HHD.out]
       rfl
end Go.Proofs.YthhpbhpfagoapaaGreat
