import Derived.Test.YthhpbhpfagoapaaGreatJAY
import Derived.Lib.Strings
import Derived.Test.YthhpbhpfagoapaaGreatTk
import Derived.Test.YthhpbhpfagoapaaGreatJAV
import Derived.Test.YthhpbhpfagoapaaGreatJAH
namespace Go.Proofs.YthhpbhpfagoapaaGreat
set_option linter.unusedVariables false
set_option linter.unusedSimpArgs false
set_option maxRecDepth 100000
set_option maxHeartbeats 16000000
open Go.RowKit
section
end
section
def Uk (body:List UInt8):List UInt8:=body.take (body.length - 2)
def PZ (body:List UInt8):List UInt8:=body.drop (body.length - 2)
def Zg (sec non ext body:List UInt8):Bool:=PZ body == Rl sec non ext (Uk body)
theorem Ih (sec non ext c:List UInt8):Xh sec non ext (zl sec non c)=c++Rl sec non ext c:=by
 unfold Xh
 rw [Ix]
theorem ZQ (sec non ext body:List UInt8):(Xh sec non ext (zl sec non (Uk body)) == body)=Zg sec non ext body:=by
 rw [Ih]
 have h:body=Uk body++PZ body:=(List.take_append_drop _ _).symm
 unfold Zg
 rw [Bool.eq_iff_iff]
 simp only [beq_iff_eq]
 constructor
 ·intro e
  have:=e.trans h
  exact (List.append_cancel_left this).symm
 ·intro e
  rw [← e];exact h.symm
theorem IS (sec non ext body:ByteArray) (w:World) (h:body.size < 2) :
  Calls Tryz.prog 180 #[.string sec,.string non,.string ext,.string body] w fun e w' =>
   e=.returned (.tuple #[strB [],.bool false])∧w'=w:=by
 go_enter Tryz.func180,Tryz.ntmps180
 go_wp2
 go_ret2
 exact ⟨rfl,rfl⟩
theorem Iv (b:ByteArray):b.toList=b.data.toList:=ByteArray.toList_eq b
theorem Nu (b:ByteArray):b.data.toList.length=b.size:=by simp
theorem DL (body:ByteArray):(body.extract 0 (body.size - 2)).data.toList=Uk body.data.toList:=by
 simp [Uk]
theorem EP (body:ByteArray) (hb:body.size≤5002):(body.extract 0 (body.size - 2)).size≤5000:=by
 simp;omega
theorem Po (sec non ext:List UInt8) (body:ByteArray) (h:2≤body.size) :
  (!(body.extract ((body.size:Int) - 2).toNat body.size).toList == Rl sec non ext (List.take (body.size - 2) body.data.toList))=!Zg sec non ext body.data.toList:=by
 have e1:((body.size:Int) - 2).toNat=body.size - 2:=by omega
 have e2:(body.extract (body.size - 2) body.size).toList=PZ body.data.toList:=by
  unfold PZ
  rw [Nu,Lib.extract_toList,List.take_of_length_le (by rw [List.length_drop,Nu];omega)]
 rw [e1,e2]
 rfl
theorem MY (sec non ext body:ByteArray) (w:World) (h:2≤body.size) (hb:body.size≤5002) (h1:sec.size≤1000) (h2:non.size≤1000) (h3:ext.size≤5000)
  (ho:Zg sec.data.toList non.data.toList ext.data.toList body.data.toList=true) :
  Calls Tryz.prog 180 #[.string sec,.string non,.string ext,.string body] w fun e w' =>
   e=.returned (.tuple #[strB (zl sec.data.toList non.data.toList (Uk body.data.toList)),.bool true])∧Below w.heap.size w w':=by
 have hm:(1000:Nat)≤maxLen:=by decide
 have i1:(2:Int)≤(body.size:Int):=by omega
 have i2:(body.size:Int) - 2≤(body.size:Int):=by omega
 have i3:(0:Int)≤(body.size:Int) - 2:=by omega
 have hcmp:=Po sec.data.toList non.data.toList ext.data.toList body h
 rw [ho] at hcmp
 clear ho
 go_enter Tryz.func180,Tryz.ntmps180
 go_wp2_with fail
 go_region_with (go_at_call 239;refine (DR sec non ext _ _ (Nat.le_trans h1 hm) (Nat.le_trans h2 hm) h3 ?_).mono ?_;(simp;unfold maxLen;omega);rintro e w1 ⟨rfl,hb1⟩)
 all_goals
  go_wp2_with fail
  refine (TS sec non _ _ (Nat.le_trans h1 hm) (Nat.le_trans h2 hm) (EP body hb)).mono ?_
  rintro e w2 ⟨rfl,hb2⟩
  rw [DL]
  go_wp2
  go_ret2
  exact ⟨rfl,(ji hb1).trans (hb2.mono hb1.size)⟩
theorem Pa (sec non ext body:ByteArray) (w:World) (h:2≤body.size) (hb:body.size≤5002) (h1:sec.size≤1000) (h2:non.size≤1000) (h3:ext.size≤5000)
  (ho:Zg sec.data.toList non.data.toList ext.data.toList body.data.toList=false) :
  Calls Tryz.prog 180 #[.string sec,.string non,.string ext,.string body] w fun e w' =>
   e=.returned (.tuple #[strB [],.bool false])∧Below w.heap.size w w':=by
 have hm:(1000:Nat)≤maxLen:=by decide
 have i1:(2:Int)≤(body.size:Int):=by omega
 have i2:(body.size:Int) - 2≤(body.size:Int):=by omega
 have i3:(0:Int)≤(body.size:Int) - 2:=by omega
 have hcmp:=Po sec.data.toList non.data.toList ext.data.toList body h
 rw [ho] at hcmp
 clear ho
 go_enter Tryz.func180,Tryz.ntmps180
 go_wp2_with fail
 go_region_with (go_at_call 239;refine (DR sec non ext _ _ (Nat.le_trans h1 hm) (Nat.le_trans h2 hm) h3 ?_).mono ?_;(simp;unfold maxLen;omega);rintro e w1 ⟨rfl,hb1⟩)
 all_goals
  go_wp2
  go_ret2
  exact ⟨rfl,ji hb1⟩
theorem Rs (sec non ext body:ByteArray) (w:World) (h:body.size < 2) :
  Calls Tryz.prog 120 #[.string sec,.string non,.string ext,.string body] w fun e w' =>
   e=.returned (.tuple #[strB [],.bool false])∧w'=w:=by
 go_enter Tryz.func120,Tryz.ntmps120
 go_wp2
 go_ret2
 exact ⟨rfl,rfl⟩
theorem PF (body:List UInt8):(Uk body).length=body.length - 2:=by simp [Uk]
theorem Ij (sec non ext body:ByteArray) (w:World) (h:2≤body.size) (hb:body.size≤5002) (h1:sec.size≤1000) (h2:non.size≤1000) (h3:ext.size≤5000) :
  Calls Tryz.prog 120 #[.string sec,.string non,.string ext,.string body] w fun e w' =>
   e=.returned (.tuple #[strB (zl sec.data.toList non.data.toList (Uk body.data.toList)),.bool (Zg sec.data.toList non.data.toList ext.data.toList body.data.toList)])∧Below w.heap.size w w':=by
 have i1:(2:Int)≤(body.size:Int):=by omega
 have i2:(body.size:Int) - 2≤(body.size:Int):=by omega
 have i3:(0:Int)≤(body.size:Int) - 2:=by omega
 have HO:=hid (ZQ sec.data.toList non.data.toList ext.data.toList body.data.toList)
 have hl:(zl sec.data.toList non.data.toList (Uk body.data.toList)).length≤5000:=by rw [zA,PF,Nu];omega
 go_enter Tryz.func120,Tryz.ntmps120
 go_wp2_with fail
 refine (VS sec non _ _ h1 h2 (EP body hb)).mono ?_
 rintro e w1 ⟨rfl,hb1⟩
 rw [DL]
 generalize hp:zl sec.data.toList non.data.toList (Uk body.data.toList)=plain at *
 have HP:=hid hp
 clear hp
 go_wp2_with fail
 refine (Iz sec non ext ⟨plain.toArray⟩ _ h1 h2 h3 (by rw [jK];exact hl)).mono ?_
 rintro e w2 ⟨rfl,hb2⟩
 have e0:(⟨plain.toArray⟩:ByteArray).data.toList=plain:=by simp
 rw [e0]
 clear e0
 generalize hq:Xh sec.data.toList non.data.toList ext.data.toList plain=bd at *
 have HQ:=hid hq
 clear hq
 go_wp2
 go_ret2
 refine ⟨?_,hb1.trans (hb2.mono hb1.size)⟩
 show Ending.returned (.tuple #[strB plain,.bool (bd == body.toList)])=_
 rw [HP.out,← HO.out,Iv]
end
section
def jM (key:Int) (m:ModF):NB:=(m.nonce,if key=0 then m.plain else m.body)
theorem Zd (p g c k:Nat) (key:Int) (sort s rest:List UInt8) (w:World) (hs:s.length≤maxLen) (hp:qq w p s rest) :
  Calls Tryz.prog 274 #[.pointer (some ⟨p,0,none⟩),.int .i64 key,moduleV sort g c k] w (Uo (xW key) (qC key) (fun m=>pieceV sort g c k (jM key m)) p s rest w):=by
 have Hs:=hid hs
 have Hp:=hid hp
 have hplt:=xh hp
 clear hs hp
 obtain ⟨hb0,hl0,hm0,ho0⟩:=JQ w #[strB sort,.int .i64 (g:Int),.int .i64 (c:Int),.int .i64 (k:Int)] 111 #[Value.string { data:=#[] },.int .i64 0,.int .i64 0,.int .i64 0,Value.string { data:=#[] },Value.string { data:=#[] }] 113
 by_cases hk:key=0
 ·subst hk
  have HXM:Hid (∀ (m:ModF) (q:List UInt8),xW 0 m→rest=qC 0 m++q→m.plain.length≤65535∧rest=qw (m.plain.length:Int)++(m.plain++q)):=by
   intro m q hm h
   rcases hm with ⟨_,h1,h2,h3⟩|⟨h0,_⟩
   ·refine ⟨h3,?_⟩
    rw [h]
    simp [qC]
   ·exact absurd rfl h0
  go_enter Tryz.func274,Tryz.ntmps274
  go_wp2_with fail
  generalize (w.alloc _).alloc _=W0 at *
  have Hp0:=hid (qA Hp.out hb0 hplt)
  have hG0:w.grownBy W0 (some p):=jz (jL w _) hb0
  have hne0:w.heap.size≠p:=by omega
  have hne1:w.heap.size+1≠p:=by omega
  have HC0:=hid (Kf hm0)
  have Hm0:=hid hm0
  have Ho0:=hid ho0
  clear hb0 hm0 ho0
  refine wp_region_held_drew (S:=fun w'=>w'.cell? ⟨w.heap.size,0,none⟩=some (strB sort)∧w'.cell? ⟨w.heap.size,1,none⟩=some (.int .i64 (g:Int))∧w'.cell? ⟨w.heap.size,2,none⟩=some (.int .i64 (c:Int))∧w'.cell? ⟨w.heap.size,3,none⟩=some (.int .i64 (k:Int))) (by kernel_rfl) ?_ (fun hHeld=>?_)
  ·exact HC0.out
  refine tk 0 (moduleV sort g c k) ?_
  refine tk 1 (.pointer (some ⟨p,0,none⟩)) ?_
  refine tk 2 (.pointer (some ⟨p,0,none⟩)) ?_
  simp only [ga,gb,gc,Act.put,gd,ge,gf]
  refine rd 3 (fun K hK=>?_)
  simp only [ga,gb,gc]
  go_simp
  go_at_call 223
  refine (UA p s rest _ Hs.out (show qq W0.drew p s rest from Hp0.out)).mono ?_
  rintro e w3 ⟨hg3,⟨hr,rfl⟩|⟨a,b,r,hr,rfl,hp3⟩⟩
  ·refine ⟨rfl,ja hG0 (jx hg3),.inl ⟨rfl,fun m q hm h=>?_⟩⟩
   have:=(HXM.out m q hm h).2
   rw [this] at hr
   simp only [List.length_append,jB] at hr
   omega
  have hm3:=jf (jx hg3) Hm0.out hne0
  have ho3:=jf (jx hg3) Ho0.out hne1
  have HG3:=hid (ja hG0 (jx hg3))
  have Hp3:=hid hp3
  have HC3:=hid (Kf hm3)
  have Ho3:=hid ho3
  have Hm3:=hid hm3
  have hab:a.toNat+256*b.toNat≤65535:=by have:=a.toNat_lt;have:=b.toNat_lt;omega
  have HX:Hid (∀ (m:ModF) (q:List UInt8),xW 0 m→rest=qC 0 m++q→m.plain.length=a.toNat+256*b.toNat∧r=m.plain++q):=by
   intro m q hm h
   obtain ⟨h1,h2⟩:=HXM.out m q hm h
   rw [hr] at h2
   have h':[a,b]++r=qw (m.plain.length:Int)++(m.plain++q):=h2
   obtain ⟨h3,h4⟩:=List.append_inj h' (by rw [jB];rfl)
   rw [← XD a b] at h3
   exact ⟨(Qq hab h1 h3).symm,h4⟩
  have HY:Hid (a.toNat+256*b.toNat≤r.length→xW 0 ⟨r.take (a.toNat+256*b.toNat),[],[]⟩∧rest=qC 0 ⟨r.take (a.toNat+256*b.toNat),[],[]⟩++r.drop (a.toNat+256*b.toNat)):=by
   intro hl
   have hl2:(r.take (a.toNat+256*b.toNat)).length=a.toNat+256*b.toNat:=by rw [List.length_take];omega
   refine ⟨.inl ⟨rfl,rfl,rfl,by simp only [hl2];exact hab⟩,?_⟩
   simp only [qC,if_true]
   rw [hl2,XD,List.append_assoc,List.take_append_drop,hr]
   rfl
  clear hg3 hp3 hm3 ho3 hr
  generalize a.toNat+256*b.toNat=n at *
  try go_wp2_with fail
  refine hK.out _ _ HC3.out (fun hHeld=>?_)
  clear hK K
  try simp only [ga,gb,gc,Act.put,gd,ge,gf]
  refine rd 4 (fun K hK=>?_)
  simp only [ga,gb,gc]
  go_simp
  go_at_call 224
  refine (Jk p s r n w3 Hs.out (by omega) Hp3.out).mono ?_
  rintro e w4 ⟨hg4,⟨hlt,rfl⟩|⟨hle2,rfl,hp4⟩⟩
  ·refine ⟨rfl,ja HG3.out hg4,.inl ⟨rfl,fun m q hm h=>?_⟩⟩
   obtain ⟨h3,h4⟩:=HX.out m q hm h
   rw [h4,List.length_append] at hlt
   omega
  have hm4:=jf hg4 Hm3.out hne0
  have ho4:=jf hg4 Ho3.out hne1
  have HG4:=hid (ja HG3.out hg4)
  have Hp4:=hid hp4
  have HC4:=hid (Kf hm4)
  have Ho4:=hid ho4
  have Hm4:=hid hm4
  have HE:=hid (HY.out hle2)
  clear hg4 hp4 hm4 ho4 HX HY
  generalize r.take n=U at *
  generalize r.drop n=V at *
  try go_wp2_with fail
  refine hK.out _ _ HC4.out (fun hHeld=>?_)
  clear hK K
  try simp only [ga,gb,gc,Act.put,gd,ge,gf]
  refine rd 5 (fun K hK=>?_)
  simp only [ga,gb,gc]
  go_simp
  try go_wp2_with fail
  refine hK.out _ _ HC4.out (fun hHeld=>?_)
  clear hK K
  try simp only [ga,gb,gc,Act.put,gd,ge,gf]
  obtain ⟨⟨q0,q1,q2,q3,q4,q5⟩,z0,z1,z2,z3,z4,z5⟩:=XJ Ho4.out
  refine rd 6 (fun K hK=>?_)
  simp only [ga,gb,gc]
  try go_simp
  show K _ (w4.setCells (w.heap.size+1) 0 [strB sort,.int .i64 (g:Int),.int .i64 (c:Int),.int .i64 (k:Int),Value.string { data:=#[] },strB U])
  have ho5:=JJ [strB sort,.int .i64 (g:Int),.int .i64 (c:Int),.int .i64 (k:Int),Value.string { data:=#[] },strB U] (by rfl) Ho4.out
  have hg5:=xC (w.heap.size+1) [strB sort,.int .i64 (g:Int),.int .i64 (c:Int),.int .i64 (k:Int),Value.string { data:=#[] },strB U] w4 0
  clear q0 q1 q2 q3 q4 q5 z0 z1 z2 z3 z4 z5
  generalize w4.setCells _ _ _=W5 at *
  have HC5:=hid (Kf (jf hg5 Hm4.out (by omega)))
  have HG5:=hid (zo HG4.out hg5 (by rintro k hk;cases hk;omega))
  have Hp5:=hid (zC Hp4.out hg5 (by omega))
  clear hg5
  refine hK.out _ _ HC5.out (fun hHeld=>?_)
  clear hK K
  refine wpAnyH_done (by kernel_rfl) ?_ _
  obtain ⟨⟨q0,q1,q2,q3,q4,q5⟩,_⟩:=XJ ho5
  go_wp2
  exact bodyPost_ret (v:=pieceV sort g c k (jM 0 ⟨U,[],[]⟩)) (by simp [results,Tryz.results274,go_sem,q0,q1,q2,q3,q4,q5,jM]) rfl ⟨HG5.out,.inr ⟨⟨U,[],[]⟩,V,HE.out.1,rfl,Hp5.out,HE.out.2⟩⟩
 ·have hki:(key == 0)=false:=by simpa using hk
  go_enter Tryz.func274,Tryz.ntmps274
  go_wp2_with fail
  generalize (w.alloc _).alloc _=W0 at *
  have Hp0:=hid (qA Hp.out hb0 hplt)
  have hG0:w.grownBy W0 (some p):=jz (jL w _) hb0
  have hne1:w.heap.size+1≠p:=by omega
  have HXM:Hid (∀ (m:ModF) (q:List UInt8),xW key m→rest=qC key m++q→Jy (m.nonce,m.body)∧rest=xn (m.nonce,m.body)++q):=by
   intro m q hm h
   rcases hm with ⟨h0,_⟩|⟨_,h1,h2,h3,h4⟩
   ·exact absurd h0 hk
   ·refine ⟨⟨h2,h3,h4⟩,?_⟩
    rw [h,qC,if_neg hk]
    rfl
  have HYM:Hid (∀ (x:NB) (q:List UInt8),Jy x→rest=xn x++q→xW key ⟨[],x.1,x.2⟩∧rest=qC key ⟨[],x.1,x.2⟩++q∧jM key ⟨[],x.1,x.2⟩=x):=by
   intro x q hx h
   refine ⟨.inr ⟨hk,rfl,hx.1,hx.2.1,hx.2.2⟩,?_,?_⟩
   ·rw [h,qC,if_neg hk]
    rfl
   ·simp only [jM,if_neg hk]
  have Ho0:=hid ho0
  clear hm0 ho0 hb0 hk hki
  refine (Kv p g c k sort s rest W0 Hs.out Hp0.out).mono ?_
  rintro e w1 ⟨hg1,⟨rfl,hno⟩|⟨x,r,hx,rfl,hp1,hr⟩⟩
  ·have HN:Hid (∀ (m:ModF) (q:List UInt8),xW key m→rest≠qC key m++q):=fun m q hm h=>hno (m.nonce,m.body) q (HXM.out m q hm h).1 (HXM.out m q hm h).2
   have HG:=hid (ja hG0 hg1)
   clear hno hg1 hG0
   go_wp2
   exact ⟨rfl,HG.out,.inl ⟨rfl,HN.out⟩⟩
  have HE:=hid (HYM.out x r hx hr)
  have Ho1:=hid (jf hg1 Ho0.out hne1)
  have HG1:=hid (ja hG0 hg1)
  have Hp1:=hid hp1
  clear hg1 hG0 hp1 hr
  obtain ⟨⟨q0,q1,q2,q3,q4,q5⟩,z0,z1,z2,z3,z4,z5⟩:=XJ Ho1.out
  have ho5:=hid (JJ [strB sort,.int .i64 (g:Int),.int .i64 (c:Int),.int .i64 (k:Int),strB x.1,strB x.2] (by rfl) Ho1.out)
  have hg5:=hid (xC (w.heap.size+1) [strB sort,.int .i64 (g:Int),.int .i64 (c:Int),.int .i64 (k:Int),strB x.1,strB x.2] w1 0)
  go_wp2
  show bodyPost _ _ _ _ _ (w1.setCells (w.heap.size+1) 0 [strB sort,.int .i64 (g:Int),.int .i64 (c:Int),.int .i64 (k:Int),strB x.1,strB x.2])
  clear q0 q1 q2 q3 q4 q5 z0 z1 z2 z3 z4 z5
  generalize w1.setCells _ _ _=W5 at *
  have HG5:=hid (zo HG1.out hg5.out (by rintro k hk;cases hk;omega))
  have Hp5:=hid (zC Hp1.out hg5.out (by omega))
  obtain ⟨⟨q0,q1,q2,q3,q4,q5⟩,_⟩:=XJ ho5.out
  exact bodyPost_ret (v:=pieceV sort g c k x) (by simp [results,Tryz.results274,go_sem,q0,q1,q2,q3,q4,q5]) rfl ⟨HG5.out,.inr ⟨⟨[],x.1,x.2⟩,r,HE.out.1,by simp only [HE.out.2.2],Hp5.out,HE.out.2.1⟩⟩
end
end Go.Proofs.YthhpbhpfagoapaaGreat
