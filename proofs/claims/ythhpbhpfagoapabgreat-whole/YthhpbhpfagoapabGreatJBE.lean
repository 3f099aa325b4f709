import Derived.Test.YthhpbhpfagoapabGreatJBC
import Derived.Deep.RegionLaw
import Derived.Deep.RegionLawGrows
import Derived.Test.YthhpbhpfagoapabGreatRTk
import Derived.Test.YthhpbhpfagoapabGreatJBL
import Derived.Test.YthhpbhpfagoapabGreatJBI
namespace Go.Proofs.YthhpbhpfagoapabGreat
set_option linter.unusedVariables false
set_option linter.unusedSimpArgs false
set_option maxRecDepth 100000
set_option maxHeartbeats 16000000
open Go.RowKit
section
theorem El (B q:Nat) (tv rv:Value) (j:JobB) (st:StB) (plain:List UInt8) (w:World) (hs:st.out.length≤90000000) (hl:plain.length≤5000)
  (hB:B≤w.heap.size) (hp:PressAt w B q tv rv j st) :
  Calls Tryz.prog 98 #[.pointer (some ⟨q,0,none⟩),strB plain] w fun e w'=>e=.returned (.tuple #[])∧PressAt w' B q tv rv j (zU plain st)∧KeptT pressT B w w':=by
 have Hp:=hid hp
 have HO:Hid (zU plain st=⟨st.out++[qz (plain.length:Int),plain].flatten,st.log⟩):=by simp [Hid,zU]
 have htl:=jx (plain.length:Int)
 clear hp
 go_enter Tryz.func98,Tryz.ntmps98
 go_wp2_with fail
 refine (Qf (plain.length:Int) w (by omega) (by omega)).mono ?_
 rintro e w1 ⟨rfl,hb1⟩
 have hfl:([qz (plain.length:Int),plain]:List (List UInt8)).flatten.length=plain.length+2:=by simp [htl];omega
 generalize qz (plain.length:Int)=T at *
 go_wp2_with fail
 obtain ⟨hb2,_,_,hh2⟩:=jK w1 #[strB T,strB plain] 9
 refine (Zh B q w1.heap.size 2 tv rv j st [T,plain] _ rfl (by decide) (by omega) ?_ ((Hp.out.later hb1).later hb2) hh2).mono ?_
 ·have:=hb1.size;have:=hb2.size;omega
 rintro e w3 ⟨rfl,hp3,hk3⟩
 have HK:=hid (((Below.keptT hb1 hB).trans (Below.keptT hb2 (Nat.le_trans hB hb1.size))).trans hk3)
 have HP3:=hid hp3
 clear hp3 hk3
 go_wp2
 go_end0
 exact ⟨rfl,by rw [HO.out];exact HP3.out,HK.out⟩
theorem Ff (sec non ext plain:List UInt8) (w:World) (h1:sec.length≤1000) (h2:non.length≤1000) (h3:ext.length≤5000) (h4:plain.length≤5000) :
  Calls Tryz.prog 124 #[strB sec,strB non,strB ext,strB plain] w fun e w'=>e=.returned (strB (za sec non ext plain))∧Below w.heap.size w w' :=
 LX ⟨sec.toArray⟩ ⟨non.toArray⟩ ⟨ext.toArray⟩ ⟨plain.toArray⟩ w (by rw [jM];exact h1) (by rw [jM];exact h2) (by rw [jM];exact h3) (by rw [jM];exact h4)
theorem JT {w:World} {q:Nat} {tv rv ov lv:Value} {j:JobB} (h:w.heap[q]?=some (.cells (pressC tv rv ov lv j) 131 (0,0))) :
  w.cell? ⟨q,6,none⟩=some (.int .i64 j.draw)∧w.cell? ⟨q,9,none⟩=some lv:=⟨(qO h).1.2.2.2.2.1,(qO h).1.2.2.2.2.2.2.2⟩
theorem AM (s:List UInt8) (G:Nat) (w:World) (hs:s.length≤1000) (h:w.heap[G]?=some (.cells #[strB s] 9 (0,0))) :
  Calls Tryz.prog 93 #[.slice (some ⟨G,0,none⟩) 1 1] w fun e w2=>e=.returned (strB s)∧Below w.heap.size w w2:=by
 have:=Kt [s] G 1 w (by simp) (by simp;omega) (Array.getElem?_eq_some_iff.1 h).1 (by
  intro i hi
  have h0:i=0:=by simpa using hi
  subst h0
  rw [jb h]
  rfl)
 simpa using this
theorem Gw (B q:Nat) (tv:Value) (ra:Option Addr) (rcap:Nat) (r:List KeyB) (j:JobB) (st:StB) (key:Int) (plain extra:List UInt8) (w:World) (hs:st.out.length≤90000000) (hg:st.log.length≤60000) (hl:plain.length≤5000) (he:extra.length≤5000)
  (hd0:0≤j.draw) (hd1:j.draw≤65535) (hsec:(ji r key).length≤1000) (hrm:r.length≤maxLen) (hr:LiesK w ra r) (hB:B≤w.heap.size) (hp:PressAt w B q tv (.slice ra r.length rcap) j st) :
  Calls Tryz.prog 99 #[.pointer (some ⟨q,0,none⟩),.int .i64 key,strB plain,strB extra] w fun e w'=>e=.returned (.tuple #[])∧PressAt w' B q tv (.slice ra r.length rcap) j (zx j.draw (ji r key) extra plain st)∧KeptT pressT B w w':=by
 obtain ⟨i0,hi,hz0,hz1,hz2⟩:=info_parts Tryz.infoSealed
 have Hp:=hid hp
 have Hr:=hid hr
 clear hp hr
 have HST:Hid (zx j.draw (ji r key) extra plain st=⟨st.out++[qz ((za (ji r key) (xo j.draw st.log.length) extra plain).length:Int),xo j.draw st.log.length,za (ji r key) (xo j.draw st.log.length) extra plain].flatten,
   st.log++[⟨ji r key,xo j.draw st.log.length,extra,za (ji r key) (xo j.draw st.log.length) extra plain⟩]⟩):=by simp [Hid,zx]
 have HN:Hid ([qz j.draw,qz (st.log.length:Int)].flatten=xo j.draw st.log.length):=by simp [Hid,xo]
 have hnl:(xo j.draw st.log.length).length≤4:=Nat.le_of_eq (GA j.draw st.log.length)
 have hbl:(za (ji r key) (xo j.draw st.log.length) extra plain).length≤plain.length+2:=Nat.le_of_eq (zc (ji r key) (xo j.draw st.log.length) extra plain)
 have h2a:(qz j.draw).length≤2:=Nat.le_of_eq (jx j.draw)
 have h2b:(qz (st.log.length:Int)).length≤2:=Nat.le_of_eq (jx (st.log.length:Int))
 obtain ⟨ov,lv,hrow,hBq,hout,hlog⟩:=Hp.out
 obtain ⟨la,lc,rfl⟩:=jL hlog
 have c7:=(qO hrow).1.2.2.2.2.2.1
 have Hrow:=hid hrow
 have Hout:=hid hout
 have Hlog:=hid hlog
 have Hsec:=hid hsec
 clear hrow hout hlog hsec
 go_enter Tryz.func99,Tryz.ntmps99
 go_wp2_with fail
 refine (QW ra rcap r key w hrm Hr.out).mono ?_
 rintro e w1 ⟨rfl,hb1⟩
 have hsl:=Hsec.out
 generalize jw r key=hk at *
 generalize hSE:ji r key=sec at *
 have HSE:=hid hSE
 clear hSE c7
 have Hrow1:=hid (jd hb1 Hrow.out)
 go_wp2_with fail
 generalize hTA:qz j.draw=TA at *
 generalize hTB:qz (st.log.length:Int)=TB at *
 have HA:Hid (∀ w',Calls Tryz.prog 100 #[.int .i64 j.draw] w' fun e w2=>e=.returned (strB TA)∧Below w'.heap.size w' w2):=by
  intro w';rw [← hTA];exact Qf _ w' hd0 hd1
 have HBt:Hid (∀ w',Calls Tryz.prog 100 #[.int .i64 (st.log.length:Int)] w' fun e w2=>e=.returned (strB TB)∧Below w'.heap.size w' w2):=by
  intro w';rw [← hTB];exact Qf _ w' (by omega) (by omega)
 clear hTA hTB
 go_region_held3 (fun w'=>w'.cell? ⟨q,6,none⟩=some (.int .i64 j.draw)∧w'.cell? ⟨q,9,none⟩=some (.slice la st.log.length lc))
  (first|exact JT Y4|exact JT (jo _ Y3)|exact JT Y3|exact JT Y2|exact JT Hrow1.out)
  (first
   | (go_at_call_of 100 (Value.int IntKind.i64 j.draw);refine (HA.out _).mono ?_;rintro e w2 ⟨rfl,hb2⟩;replace hb2:=jl hb2;have Y2:=jd hb2 Hrow1.out)
   | (go_at_call 100;refine (HBt.out _).mono ?_;rintro e w3 ⟨rfl,hb3⟩;have Y3:=jd hb3 Y2)
   | (go_at_call 93;refine (Xk [TA,TB] #[strB TA,strB TB] 2 _ _ ?_ rfl rfl ?_ ?_).mono ?_;(first|rfl|simp);decide;(simp;omega);rintro e w4 ⟨rfl,hb4⟩;have Y4:=jd hb4 Y3))
 have hB2:=hb1.trans (hb2.mono hb1.size)
 have hB3:=hB2.trans (hb3.mono hB2.size)
 have hB4:=hB3.trans (hb4.mono hB3.size)
 have Hrow4:=hid Y4
 clear Y2 Y3 Y4 hb1 hb2 hb3 hb4 hB2 hB3
 have hfj:(TA++TB)=xo j.draw st.log.length:=by rw [← HN.out];simp
 go_simp
 clear hfj HN
 generalize xo j.draw st.log.length=non at *
 go_wp2_with fail
 refine (Ff sec non extra plain w4 hsl (by omega) he hl).mono ?_
 rintro e w5 ⟨rfl,hb5⟩
 generalize hBO:za sec non extra plain=body at *
 clear hBO
 have hB5:=hB4.trans (hb5.mono hB4.size)
 have Hrow5:=hid (jd hb5 Hrow4.out)
 clear hB4 hb5
 go_wp2_with fail
 refine (Qf (body.length:Int) w5 (by omega) (by omega)).mono ?_
 rintro e w6 ⟨rfl,hb6⟩
 have hB6:=hB5.trans (hb6.mono hB5.size)
 have h2c:(qz (body.length:Int)).length≤2:=Nat.le_of_eq (jx (body.length:Int))
 have hfl:([qz (body.length:Int),non,body]:List (List UInt8)).flatten.length≤body.length+6:=by simp;omega
 generalize qz (body.length:Int)=TC at *
 clear hb6 hB5
 go_wp2_with fail
 obtain ⟨hb7,_,_,hh7⟩:=jK w6 #[strB TC,strB non,strB body] 9
 have hB7:=hB6.trans (hb7.mono hB6.size)
 refine (Zh B q w6.heap.size 3 tv (.slice ra r.length rcap) j st [TC,non,body] _ rfl (by decide) (by omega) ?_ (Hp.out.later hB7) hh7).mono ?_
 ·have:=hB7.size;omega
 rintro e w8 ⟨rfl,hp8,hk8⟩
 have HK8:=hid ((Below.keptT (T:=pressT) hB7 hB).trans hk8)
 have hz8:=HK8.out.size
 have HSQ:Hid (⟨sec,non,extra,body⟩=(⟨sec,non,extra,body⟩:SealB)):=rfl
 generalize hO2:st.out++[TC,non,body].flatten=out2 at *
 have HO2:=hid hO2
 clear hO2 hh7 hb7 hB7 hB6 hk8 hfl Hrow Hrow1 Hrow4 Hrow5 Hp Hout Hlog
 obtain ⟨ov8,lv8,hrow8,_,hout8,hlog8⟩:=hp8
 simp only at hout8 hlog8
 obtain ⟨la8,lc8,rfl⟩:=jL hlog8
 go_wp2_with fail
 have c9:=(qO hrow8).1.2.2.2.2.2.2.2
 have hq8:q < w8.heap.size:=(Array.getElem?_eq_some_iff.1 hrow8).1
 have hrow8d:w8.drew.heap[q]?=some (.cells (pressC tv (.slice ra r.length rcap) ov8 (.slice la8 st.log.length lc8) j) 131 (0,0)):=hrow8
 have hra:=jo (.cells #[strB sec] 9) hrow8d
 have c9a:=(JT hra).2
 have HL8:=hid (World.ownsRow.alloc (World.ownsRow.drew hlog8) (.cells #[strB sec] 9))
 have HO8:=hid (World.ownsRow.alloc (World.ownsRow.drew hout8) (.cells #[strB sec] 9))
 have hBz:B≤w8.heap.size:=Nat.le_trans hB hz8
 first|go_region_law (first
   | (refine step_append_lies _ (by rfl) _ _ _ (by rfl) B 54 i0 _ 4 64 Tryz.underlying37 hi hz0 hz1 hz2 rfl (by omega) _ st.log.length (qI st.log) (by rfl) ((ju HL8.out hb9).alloc _) ⟨w9.heap.size,0,none⟩ 1 1 [strB sec,strB non,strB extra,strB body] (by rfl) (by rfl) (World.news_of_block (cs:=#[strB sec,strB non,strB extra,strB body]) (t:=54) (fr:=(0,0)) (heap_alloc_new w9 _)) (by simp [Value.oneCell']) (by omega) (by unfold maxLen;omega) (by omega) (by have:=hb9.size;simp at *;omega) _ rfl ?_;intro gg cc w10 hown10 hgr10 hat10 hlt10;have hrow10:=jz hgr10 ((ju HL8.out hb9).alloc _) (jo _ (jd hb9 hra)) (by decide);have cf10:=(qO hrow10).2 9;have cx10:=(JT hrow10).2)
   | (go_simp;go_at_call 93;refine (AM sec _ _ hsl ?_).mono ?_;exact heap_alloc_new _ _;rintro e w9 ⟨rfl,hb9⟩;have c9b:=(JT (jd hb9 hra)).2;have c9c:=(JT (jo (.cells #[strB sec,strB non,strB extra,strB body] 54) (jd hb9 hra))).2))|fail
 all_goals
  have HR:=hid (Pe (st:=⟨out2,st.log⟩) (log2:=st.log++[⟨sec,non,extra,body⟩]) (jo _ (jd hb9 hra)) hBq ((ju HO8.out hb9).alloc _) ((ju HL8.out hb9).alloc _) (by have:=hb9.size;simp at *;omega) (by rw [An];exact hown10) (by simp) hgr10)
  have hk9:KeptT pressT B w8 w9:=KeptT.undrew (((KeptT.refl _ _ _).alloc (by simpa using hBz) _).trans (Below.keptT hb9 (by simp;omega)))
  have HKF:=hid ((HK8.out.trans hk9).trans ((Below.keptT ((Below.refl _ _).alloc (Nat.le_refl _) _) (by have:=hb9.size;simp at *;omega)).trans HR.out.2))
  clear hra c9 c9a hrow8 hrow8d hout8 hlog8 hb9 hown10 hgr10 hrow10 cf10 cx10 hk9
  go_wp2
  go_end0
  exact ⟨rfl,by rw [HSE.out,HST.out];exact HR.out.1,HKF.out⟩
theorem AX (B q:Nat) (tv:Value) (ra:Option Addr) (rcap:Nat) (r:List KeyB) (j:JobB) (st:StB) (key:Int) (sort:UInt8) (g c p:Nat) (plain:List UInt8) (w:World) (hs:st.out.length≤90000000) (hg:st.log.length≤60000) (hl:plain.length≤5000)
  (hg6:g≤65535) (hc6:c≤65535) (hp6:p≤65535) (hpre:j.pre.length≤20)
  (hd0:0≤j.draw) (hd1:j.draw≤65535) (hsec:(ji r key).length≤1000) (hrm:r.length≤maxLen) (hr:LiesK w ra r) (hB:B≤w.heap.size) (hp:PressAt w B q tv (.slice ra r.length rcap) j st) :
  Calls Tryz.prog 121 #[.pointer (some ⟨q,0,none⟩),.int .i64 key,modV sort g c p,strB plain] w fun e w'=>e=.returned (.tuple #[])∧PressAt w' B q tv (.slice ra r.length rcap) j (QA j r key sort g c p plain st)∧KeptT pressT B w w':=by
 have Hp:=hid hp
 have Hr:=hid hr
 have Hsec:=hid hsec
 clear hp hr hsec
 obtain ⟨hb0,hs0,hc0,hh0⟩:=jK w #[strB [sort],.int .i64 (g:Int),.int .i64 (c:Int),.int .i64 (p:Int)] 73
 by_cases hk:key=0
 ·have HM:Hid (QA j r key sort g c p plain st=zU plain st):=by simp [Hid,QA,hk]
  subst hk
  go_enter Tryz.func121,Tryz.ntmps121
  go_wp2_with fail
  refine (El B q tv (.slice ra r.length rcap) j st plain _ hs hl (Nat.le_trans hB hb0.size) (Hp.out.later hb0)).mono ?_
  rintro e w1 ⟨rfl,hp1,hk1⟩
  have HK:=hid ((Below.keptT hb0 hB).trans hk1)
  have HP1:=hid hp1
  clear hp1 hk1 hb0 hc0 hh0
  go_wp2
  refine bodyPost_ret (results_none rfl _ _ _) rfl ?_
  exact ⟨rfl,by rw [HM.out];exact HP1.out,HK.out⟩
 ·have HM:Hid (QA j r key sort g c p plain st=zx j.draw (ji r key) (jR j.pre sort g c p) plain st):=by simp [Hid,QA,hk]
  have hk2:(key == 0)=false:=by simp [hk]
  have hbl:=JO j.pre sort g c p hpre
  have Hb0:=hid hb0
  have Hp0:=hid (Hp.out.later hb0)
  have Hr0:=hid (Hr.out.later hb0)
  have X0:BoxM _ w.heap.size sort g c p:=⟨hc0 0,hc0 1,hc0 2,hc0 3⟩
  clear hk hc0 hh0 hb0
  go_enter Tryz.func121,Tryz.ntmps121
  go_wp2_with fail
  generalize w.alloc _=wb at *
  obtain ⟨ov,lv,hrow,_⟩:=Hp0.out
  have c5:=(qO hrow).1.2.2.2.1
  obtain ⟨x0,x1,x2,x3⟩:=X0
  have HE:Hid (∀ w',Below w'.heap.size w' w'→Calls Tryz.prog 87 #[modV sort g c p,strB j.pre,.slice none 0 0] w' fun e w2=>e=.returned (strB (jR j.pre sort g c p++[]))∧Below w'.heap.size w' w2):=fun w' _=>XW sort g c p j.pre (.slice none 0 0) [] w' hg6 hc6 hp6 hpre (by simp) (KK w')
  rw [List.append_nil] at HE
  generalize jR j.pre sort g c p=ex at *
  go_region_with (first
   | (go_at_call 87;refine (HE.out _ (Below.refl _ _)).mono ?_;rintro e w1 ⟨rfl,hb1⟩;replace hb1:=jl hb1)
   | (go_at_call 99;refine (Gw B q tv ra rcap r j st key plain ex _ hs hg hl (by omega) hd0 hd1 Hsec.out hrm (Hr0.out.later hb1) ?_ (Hp0.out.later hb1)).mono ?_;exact Nat.le_trans hB (Nat.le_trans Hb0.out.size hb1.size);rintro e w2 ⟨rfl,hp2,hk2⟩))
  all_goals
   have HK:=hid (((Below.keptT Hb0.out hB).trans (Below.keptT hb1 (Nat.le_trans hB Hb0.out.size))).trans hk2)
   have HP2:=hid hp2
   clear hp2 hk2 hb1 x0 x1 x2 x3 hrow c5
   go_wp2
   go_end0
   exact ⟨rfl,by rw [HM.out];exact HP2.out,HK.out⟩
end
section
def jO (key:Int) (m:ModF):NB:=(m.nonce,if key=0 then m.plain else m.body)
theorem Kg (p g c k:Nat) (key:Int) (sort s rest:List UInt8) (w:World) (hs:s.length≤maxLen) (hp:qy w p s rest) :
  Calls Tryz.prog 173 #[.pointer (some ⟨p,0,none⟩),.int .i64 key,moduleV sort g c k] w (Vi (ze key) (qq key) (fun m=>pieceV sort g c k (jO key m)) p s rest w):=by
 have Hs:=hid hs
 have Hp:=hid hp
 have hplt:=xF hp
 clear hs hp
 obtain ⟨hb0,hl0,hm0,ho0⟩:=JY w #[strB sort,.int .i64 (g:Int),.int .i64 (c:Int),.int .i64 (k:Int)] 73 #[Value.string { data:=#[] },.int .i64 0,.int .i64 0,.int .i64 0,Value.string { data:=#[] },Value.string { data:=#[] }] 75
 by_cases hk:key=0
 ·subst hk
  have HXM:Hid (∀ (m:ModF) (q:List UInt8),ze 0 m→rest=qq 0 m++q→m.plain.length≤65535∧rest=qz (m.plain.length:Int)++(m.plain++q)):=by
   intro m q hm h
   rcases hm with ⟨_,h1,h2,h3⟩|⟨h0,_⟩
   ·refine ⟨h3,?_⟩
    rw [h]
    simp [qq]
   ·exact absurd rfl h0
  go_enter Tryz.func173,Tryz.ntmps173
  go_wp2_with fail
  generalize (w.alloc _).alloc _=W0 at *
  have Hp0:=hid (qJ Hp.out hb0 hplt)
  have hG0:w.grownBy W0 (some p):=jG (jU w _) hb0
  have hne0:w.heap.size≠p:=by omega
  have hne1:w.heap.size+1≠p:=by omega
  have HC0:=hid (Um hm0)
  have Hm0:=hid hm0
  have Ho0:=hid ho0
  clear hb0 hm0 ho0
  refine wp_region_held_drew (S:=fun w'=>w'.cell? ⟨w.heap.size,0,none⟩=some (strB sort)∧w'.cell? ⟨w.heap.size,1,none⟩=some (.int .i64 (g:Int))∧w'.cell? ⟨w.heap.size,2,none⟩=some (.int .i64 (c:Int))∧w'.cell? ⟨w.heap.size,3,none⟩=some (.int .i64 (k:Int))) (by kernel_rfl) ?_ (fun hHeld=>?_)
  ·exact HC0.out
  refine tk 0 (moduleV sort g c k) ?_
  refine tk 1 (.pointer (some ⟨p,0,none⟩)) ?_
  refine tk 2 (.pointer (some ⟨p,0,none⟩)) ?_
  simp only [jA,jB,jC,Act.put,jD,jE,jF]
  refine rd 3 (fun K hK=>?_)
  simp only [jA,jB,jC]
  go_simp
  go_at_call 101
  refine (VB p s rest _ Hs.out (show qy W0.drew p s rest from Hp0.out)).mono ?_
  rintro e w3 ⟨hg3,⟨hr,rfl⟩|⟨a,b,r,hr,rfl,hp3⟩⟩
  ·refine ⟨rfl,jg hG0 (jP hg3),.inl ⟨rfl,fun m q hm h=>?_⟩⟩
   have:=(HXM.out m q hm h).2
   rw [this] at hr
   simp only [List.length_append,jx] at hr
   omega
  have hm3:=jk (jP hg3) Hm0.out hne0
  have ho3:=jk (jP hg3) Ho0.out hne1
  have HG3:=hid (jg hG0 (jP hg3))
  have Hp3:=hid hp3
  have HC3:=hid (Um hm3)
  have Ho3:=hid ho3
  have Hm3:=hid hm3
  have hab:a.toNat+256*b.toNat≤65535:=by have:=a.toNat_lt;have:=b.toNat_lt;omega
  have HX:Hid (∀ (m:ModF) (q:List UInt8),ze 0 m→rest=qq 0 m++q→m.plain.length=a.toNat+256*b.toNat∧r=m.plain++q):=by
   intro m q hm h
   obtain ⟨h1,h2⟩:=HXM.out m q hm h
   rw [hr] at h2
   have h':[a,b]++r=qz (m.plain.length:Int)++(m.plain++q):=h2
   obtain ⟨h3,h4⟩:=List.append_inj h' (by rw [jx];rfl)
   rw [← Zc a b] at h3
   exact ⟨(Jm hab h1 h3).symm,h4⟩
  have HY:Hid (a.toNat+256*b.toNat≤r.length→ze 0 ⟨r.take (a.toNat+256*b.toNat),[],[]⟩∧rest=qq 0 ⟨r.take (a.toNat+256*b.toNat),[],[]⟩++r.drop (a.toNat+256*b.toNat)):=by
   intro hl
   have hl2:(r.take (a.toNat+256*b.toNat)).length=a.toNat+256*b.toNat:=by rw [List.length_take];omega
   refine ⟨.inl ⟨rfl,rfl,rfl,by simp only [hl2];exact hab⟩,?_⟩
   simp only [qq,if_true]
   rw [hl2,Zc,List.append_assoc,List.take_append_drop,hr]
   rfl
  clear hg3 hp3 hm3 ho3 hr
  generalize a.toNat+256*b.toNat=n at *
  try go_wp2_with fail
  refine hK.out _ _ HC3.out (fun hHeld=>?_)
  clear hK K
  try simp only [jA,jB,jC,Act.put,jD,jE,jF]
  refine rd 4 (fun K hK=>?_)
  simp only [jA,jB,jC]
  go_simp
  go_at_call 102
  refine (Js p s r n w3 Hs.out (by omega) Hp3.out).mono ?_
  rintro e w4 ⟨hg4,⟨hlt,rfl⟩|⟨hle2,rfl,hp4⟩⟩
  ·refine ⟨rfl,jg HG3.out hg4,.inl ⟨rfl,fun m q hm h=>?_⟩⟩
   obtain ⟨h3,h4⟩:=HX.out m q hm h
   rw [h4,List.length_append] at hlt
   omega
  have hm4:=jk hg4 Hm3.out hne0
  have ho4:=jk hg4 Ho3.out hne1
  have HG4:=hid (jg HG3.out hg4)
  have Hp4:=hid hp4
  have HC4:=hid (Um hm4)
  have Ho4:=hid ho4
  have Hm4:=hid hm4
  have HE:=hid (HY.out hle2)
  clear hg4 hp4 hm4 ho4 HX HY
  generalize r.take n=U at *
  generalize r.drop n=V at *
  try go_wp2_with fail
  refine hK.out _ _ HC4.out (fun hHeld=>?_)
  clear hK K
  try simp only [jA,jB,jC,Act.put,jD,jE,jF]
  refine rd 5 (fun K hK=>?_)
  simp only [jA,jB,jC]
  go_simp
  try go_wp2_with fail
  refine hK.out _ _ HC4.out (fun hHeld=>?_)
  clear hK K
  try simp only [jA,jB,jC,Act.put,jD,jE,jF]
  obtain ⟨⟨q0,q1,q2,q3,q4,q5⟩,z0,z1,z2,z3,z4,z5⟩:=Zb Ho4.out
  refine rd 6 (fun K hK=>?_)
  simp only [jA,jB,jC]
  try go_simp
  show K _ (w4.setCells (w.heap.size+1) 0 [strB sort,.int .i64 (g:Int),.int .i64 (c:Int),.int .i64 (k:Int),Value.string { data:=#[] },strB U])
  have ho5:=JP [strB sort,.int .i64 (g:Int),.int .i64 (c:Int),.int .i64 (k:Int),Value.string { data:=#[] },strB U] (by rfl) Ho4.out
  have hg5:=xP (w.heap.size+1) [strB sort,.int .i64 (g:Int),.int .i64 (c:Int),.int .i64 (k:Int),Value.string { data:=#[] },strB U] w4 0
  clear q0 q1 q2 q3 q4 q5 z0 z1 z2 z3 z4 z5
  generalize w4.setCells _ _ _=W5 at *
  have HC5:=hid (Um (jk hg5 Hm4.out (by omega)))
  have HG5:=hid (JQ HG4.out hg5 (by rintro k hk;cases hk;omega))
  have Hp5:=hid (zF Hp4.out hg5 (by omega))
  clear hg5
  refine hK.out _ _ HC5.out (fun hHeld=>?_)
  clear hK K
  refine wpAnyH_done (by kernel_rfl) ?_ _
  obtain ⟨⟨q0,q1,q2,q3,q4,q5⟩,_⟩:=Zb ho5
  go_wp2
  exact bodyPost_ret (v:=pieceV sort g c k (jO 0 ⟨U,[],[]⟩)) (by simp [results,Tryz.results173,go_sem,q0,q1,q2,q3,q4,q5,jO]) rfl ⟨HG5.out,.inr ⟨⟨U,[],[]⟩,V,HE.out.1,rfl,Hp5.out,HE.out.2⟩⟩
 ·have hki:(key == 0)=false:=by simpa using hk
  go_enter Tryz.func173,Tryz.ntmps173
  go_wp2_with fail
  generalize (w.alloc _).alloc _=W0 at *
  have Hp0:=hid (qJ Hp.out hb0 hplt)
  have hG0:w.grownBy W0 (some p):=jG (jU w _) hb0
  have hne1:w.heap.size+1≠p:=by omega
  have HXM:Hid (∀ (m:ModF) (q:List UInt8),ze key m→rest=qq key m++q→JG (m.nonce,m.body)∧rest=xK (m.nonce,m.body)++q):=by
   intro m q hm h
   rcases hm with ⟨h0,_⟩|⟨_,h1,h2,h3,h4⟩
   ·exact absurd h0 hk
   ·refine ⟨⟨h2,h3,h4⟩,?_⟩
    rw [h,qq,if_neg hk]
    rfl
  have HYM:Hid (∀ (x:NB) (q:List UInt8),JG x→rest=xK x++q→ze key ⟨[],x.1,x.2⟩∧rest=qq key ⟨[],x.1,x.2⟩++q∧jO key ⟨[],x.1,x.2⟩=x):=by
   intro x q hx h
   refine ⟨.inr ⟨hk,rfl,hx.1,hx.2.1,hx.2.2⟩,?_,?_⟩
   ·rw [h,qq,if_neg hk]
    rfl
   ·simp only [jO,if_neg hk]
  have Ho0:=hid ho0
  clear hm0 ho0 hb0 hk hki
  refine (Uv p g c k sort s rest W0 Hs.out Hp0.out).mono ?_
  rintro e w1 ⟨hg1,⟨rfl,hno⟩|⟨x,r,hx,rfl,hp1,hr⟩⟩
  ·have HN:Hid (∀ (m:ModF) (q:List UInt8),ze key m→rest≠qq key m++q):=fun m q hm h=>hno (m.nonce,m.body) q (HXM.out m q hm h).1 (HXM.out m q hm h).2
   have HG:=hid (jg hG0 hg1)
   clear hno hg1 hG0
   go_wp2
   exact ⟨rfl,HG.out,.inl ⟨rfl,HN.out⟩⟩
  have HE:=hid (HYM.out x r hx hr)
  have Ho1:=hid (jk hg1 Ho0.out hne1)
  have HG1:=hid (jg hG0 hg1)
  have Hp1:=hid hp1
  clear hg1 hG0 hp1 hr
  obtain ⟨⟨q0,q1,q2,q3,q4,q5⟩,z0,z1,z2,z3,z4,z5⟩:=Zb Ho1.out
  have ho5:=hid (JP [strB sort,.int .i64 (g:Int),.int .i64 (c:Int),.int .i64 (k:Int),strB x.1,strB x.2] (by rfl) Ho1.out)
  have hg5:=hid (xP (w.heap.size+1) [strB sort,.int .i64 (g:Int),.int .i64 (c:Int),.int .i64 (k:Int),strB x.1,strB x.2] w1 0)
  go_wp2
  show bodyPost _ _ _ _ _ (w1.setCells (w.heap.size+1) 0 [strB sort,.int .i64 (g:Int),.int .i64 (c:Int),.int .i64 (k:Int),strB x.1,strB x.2])
  clear q0 q1 q2 q3 q4 q5 z0 z1 z2 z3 z4 z5
  generalize w1.setCells _ _ _=W5 at *
  have HG5:=hid (JQ HG1.out hg5.out (by rintro k hk;cases hk;omega))
  have Hp5:=hid (zF Hp1.out hg5.out (by omega))
  obtain ⟨⟨q0,q1,q2,q3,q4,q5⟩,_⟩:=Zb ho5.out
  exact bodyPost_ret (v:=pieceV sort g c k x) (by simp [results,Tryz.results173,go_sem,q0,q1,q2,q3,q4,q5]) rfl ⟨HG5.out,.inr ⟨⟨[],x.1,x.2⟩,r,HE.out.1,by simp only [HE.out.2.2],Hp5.out,HE.out.2.1⟩⟩
end
end Go.Proofs.YthhpbhpfagoapabGreat
