import Derived.Test.YthhpbhpfagoapaaGreatJAJ
import Derived.ProofKit
import Derived.OpenShut
import Derived.Deep.Slices
import Derived.Deep.Strs
import Derived.SizedLaws
import Derived.Test.YthhpbhpfagoapaaGreatJAK
import Derived.Test.YthhpbhpfagoapaaGreatJAI
namespace Go.Proofs.YthhpbhpfagoapaaGreat
set_option linter.unusedVariables false
set_option linter.unusedSimpArgs false
set_option maxRecDepth 100000
set_option maxHeartbeats 16000000
section
open Go.ChangeShapes Go.WideShapes Go.ChangeAt Go.RowKit Go.Deep
theorem Dh {w:World} {b o:Nat} {v:Value} (h:w.cell? ⟨b,o,none⟩=some v):b < w.heap.size:=by
 rcases Nat.lt_or_ge b w.heap.size with h1|h1
 ·exact h1
 ·simp [World.cell?,Array.getElem?_eq_none h1] at h
theorem CU {x:Int} (h:(Lit.int .i64 x).wf=true):-9223372036854775808≤x∧x≤9223372036854775807:=by
 simp [Lit.wf,IntKind.min,IntKind.max,IntKind.signed,IntKind.bits] at h
 exact ⟨by omega,by omega⟩
theorem Tryz.cellsInt:Tryz.prog.cellsOf 3=1:=by kernel_rfl
theorem Tryz.cellsString:Tryz.prog.cellsOf 9=1:=by kernel_rfl
end
section
open Go.RowKit
def qP (kind:Int) (e:Nat) (words:List (List UInt8)) (n len:Nat) (last:CellB) (st:Option (List UInt8)):CellB × Nat × Option (List UInt8) :=
 if kind=0∧e=0 then (⟨false,(bR st).1,[]⟩,1,(bR st).2)
 else if kind=0∧e=1 then (⟨false,wrap64 (last.int+zOf (uR st).1),[]⟩,1,(uR st).2)
 else if kind=0∧e=2 then (⟨false,zOf (uR (jJ (n - len) st).2).1,[]⟩,(jJ (n - len) st).1,if (jJ (n - len) st).1=0 then none else (uR (jJ (n - len) st).2).2)
 else if kind=1∧e=0 then (⟨false,0,(xR 12 st).1⟩,1,(xR 12 st).2)
 else if kind=1∧e=3∧words≠[] then (⟨false,0,words.getD (jJ (words.length - 1) st).1 []⟩,1,(jJ (words.length - 1) st).2)
 else if kind=1∧e=4 then (⟨false,0,last.text.take (jJ last.text.length st).1++(xR 12 (jJ last.text.length st).2).1⟩,1,(xR 12 (jJ last.text.length st).2).2)
 else (⟨false,0,[]⟩,1,none)
def xF (kind:Int) (e:Nat) (words:List (List UInt8)) (n:Nat):Nat→List CellB→CellB→Option (List UInt8)→List CellB × Option (List UInt8)
 | 0,l,_,st=>(l,st)
 | f+1,l,last,st =>
  if l.length < n∧st.isSome=true then
   xF kind e words n f (l++List.replicate (qP kind e words n l.length last st).2.1 (qP kind e words n l.length last st).1) (qP kind e words n l.length last st).1 (qP kind e words n l.length last st).2.2
  else (l,st)
def zI (w:Nat) (v:List CellB):Nat→Nat→List UInt8
 | _,0=>[]
 | i,k+1=>qG w v i++zI w v (i+1) k
theorem AP (w:Nat) (v:List CellB):∀ (k i:Nat),js w v (i+k)=js w v i++zI w v i k:=by
 intro k
 induction k with
 | zero=>intro i;simp [zI]
 | succ k ih =>
  intro i
  rw [show i+(k+1)=(i+1)+k by omega,ih (i+1)]
  simp [js,zI]
theorem KC (w:Nat) (v:List CellB):js w v v.length=zI w v 0 v.length:=by
 have:=AP w v v.length 0
 simpa [js] using this
theorem Zw (kind:Int) (e w:Nat) (words:List (List UInt8)) (v:List CellB) (r:List UInt8)
  (hstep:∀ i (h:i < v.length) (rest:List UInt8),qP kind e words v.length i (jR v i) (some (qG w v i++rest))=(v[i],1,some rest)) :
  ∀ (k i:Nat),i+k=v.length→xF kind e words v.length (k+1) (v.take i) (jR v i) (some (zI w v i k++r))=(v,some r):=by
 intro k
 induction k with
 | zero =>
  intro i hi
  have hl:(v.take i).length=v.length:=by rw [List.length_take];omega
  simp only [xF,zI,List.nil_append]
  rw [if_neg (by rw [hl];omega)]
  rw [List.take_of_length_le (by omega)]
 | succ k ih =>
  intro i hi
  have hlt:i < v.length:=by omega
  have hl:(v.take i).length=i:=by rw [List.length_take];omega
  rw [xF,if_pos (by rw [hl];exact ⟨hlt,rfl⟩),hl]
  simp only [zI,List.append_assoc]
  rw [hstep i hlt (zI w v (i+1) k++r)]
  have e1:v.take i++List.replicate 1 v[i]=v.take (i+1):=by rw [List.take_succ_eq_append_getElem hlt];rfl
  have e2:v[i]=jR v (i+1):=by
   unfold jR
   rw [if_neg (by omega),Nat.add_sub_cancel,jY v i hlt]
  simp only [e1]
  rw [e2]
  exact ih (i+1) (by omega)
def MM (c:CellB):Prop:=c.null=false∧c.text=[]∧-9223372036854775808≤c.int∧c.int≤9223372036854775807
def Rx (c:CellB):Prop:=c.null=false∧c.int=0∧c.text.length≤12
theorem UL {c:CellB} (h:MM c):c=⟨false,c.int,[]⟩:=by
 obtain ⟨n,i,t⟩:=c
 obtain ⟨h1,h2,_⟩:=h
 simp at h1 h2
 subst h1 h2
 rfl
theorem Nv {c:CellB} (h:Rx c):c=⟨false,0,c.text⟩:=by
 obtain ⟨n,i,t⟩:=c
 obtain ⟨h1,h2,_⟩:=h
 simp at h1 h2
 subst h1 h2
 rfl
theorem Ls (v:List CellB) (r:List UInt8) (hv:∀ c ∈ v,MM c):xF 0 0 [] v.length (v.length+1) [] qz (some (zI 0 v 0 v.length++r))=(v,some r):=by
 have:=Zw 0 0 0 [] v r (fun i h rest=>by
  have hc:=hv v[i] (List.getElem_mem h)
  have hs:qG 0 v i=bB (v[i]).int:=by show bB (xP v i).int=_;rw [jY v i h]
  unfold qP
  rw [if_pos ⟨rfl,rfl⟩,hs,SN _ rest hc.2.2.1 hc.2.2.2]
  exact Prod.ext (UL hc).symm rfl) v.length 0 (by omega)
 simpa [jR] using this
theorem ML (a b:Int) (h0:-9223372036854775808≤b) (h1:b≤9223372036854775807):wrap64 (a+wrap64 (b - a))=b:=by
 unfold wrap64;omega
theorem Lu (v:List CellB) (r:List UInt8) (hv:∀ c ∈ v,MM c):xF 0 1 [] v.length (v.length+1) [] qz (some (zI 1 v 0 v.length++r))=(v,some r):=by
 have:=Zw 0 1 1 [] v r (fun i h rest=>by
  have hc:=hv v[i] (List.getElem_mem h)
  have hs:qG 1 v i=zB (wrap64 ((v[i]).int - (jR v i).int)):=by show zB (wrap64 ((xP v i).int - (jR v i).int))=_;rw [jY v i h]
  have hr:=zk ((v[i]).int - (jR v i).int)
  unfold qP
  rw [if_neg (by omega),if_pos ⟨rfl,rfl⟩,hs,SH _ rest hr.1 hr.2,AZ,ML _ _ hc.2.2.1 hc.2.2.2]
  exact Prod.ext (UL hc).symm rfl) v.length 0 (by omega)
 simpa [jR] using this
theorem Lf (v:List CellB) (r:List UInt8) (hv:∀ c ∈ v,Rx c):xF 1 0 [] v.length (v.length+1) [] qz (some (zI 5 v 0 v.length++r))=(v,some r):=by
 have:=Zw 1 0 5 [] v r (fun i h rest=>by
  have hc:=hv v[i] (List.getElem_mem h)
  have hs:qG 5 v i=xB (v[i]).text:=by show xB (xP v i).text=_;rw [jY v i h]
  unfold qP
  rw [if_neg (by omega),if_neg (by omega),if_neg (by omega),if_pos ⟨rfl,rfl⟩,hs,Ma 12 _ rest hc.2.2 (by omega)]
  exact Prod.ext (Nv hc).symm rfl) v.length 0 (by omega)
 simpa [jR] using this
theorem ES (s t:List UInt8):t.take (jF s t)++s.drop (jF s t)=s:=by
 have h:=zY s t
 have e:t.take (jF s t)=s.take (jF s t):=by
  apply List.ext_getElem
  ·rw [List.length_take,List.length_take];omega
  ·intro i h1 h2
   rw [List.length_take] at h1
   simp only [List.getElem_take]
   exact (Uj s t i (by omega) (by omega) (by omega)).symm
 rw [e,List.take_append_drop]
theorem Lb (v:List CellB) (r:List UInt8) (hv:∀ c ∈ v,Rx c):xF 1 4 [] v.length (v.length+1) [] qz (some (zI 4 v 0 v.length++r))=(v,some r):=by
 have:=Zw 1 4 4 [] v r (fun i h rest=>by
  have hc:=hv v[i] (List.getElem_mem h)
  have hp:(jR v i).text.length≤12:=by
   unfold jR;split
   ·decide
   ·rw [jY v (i - 1) (by omega)];exact (hv _ (List.getElem_mem _)).2.2
  have hs:qG 4 v i=uB (jF (v[i]).text (jR v i).text)++xB ((v[i]).text.drop (jF (v[i]).text (jR v i).text)):=by simp only [qG,jY v i h]
  have hle:=zY (v[i]).text (jR v i).text
  unfold qP
  rw [if_neg (by omega),if_neg (by omega),if_neg (by omega),if_neg (by omega),if_neg (by omega),if_pos ⟨rfl,rfl⟩,hs,List.append_assoc,
   Jo _ _ _ hle.2 (by omega),Ma 12 _ rest (by rw [List.length_drop];have:=hc.2.2;omega) (by omega),ES]
  exact Prod.ext (Nv hc).symm rfl) v.length 0 (by omega)
 simpa [jR] using this
end
section
open Go.RowKit
theorem RO (a:Option Addr) (cap:Nat) (l:List CellB) (t:List UInt8) (w:World) (hn:l.length≤1000) (hl:Lies w a l) (hex:∃ c ∈ l,c.text=t) :
  Calls Tryz.prog 178 #[.slice a l.length cap,strB t] w fun e w'=>e=.returned (.int .i64 (jP l t:Int))∧w'=w:=by
 have Hl:=hid hl
 obtain ⟨hf1,hf2⟩:=QJ l t hex
 have HF2:=hid hf2
 have HF3:=hid (Vf l t)
 obtain ⟨b,off,rfl,hbw,hcell⟩:=hl.at_ (List.ne_nil_of_length_pos (by omega))
 have Hcell:=hid hcell
 clear hl hf2 hex hcell
 go_enter Tryz.func178,Tryz.ntmps178
 go_wp2
 go_loop [5] (fun i=>∃ m:Nat,m≤jP l t∧i=.int .i64 (m:Int)) (fun i=>1000 - (intOf i).toNat)
 case atStart=>exact ⟨0,Nat.zero_le _,rfl⟩
 case round =>
  obtain ⟨m,hm,rfl⟩:=hrel
  have hml:m < l.length:=by omega
  obtain ⟨g1,g2,g3⟩:=Hcell.out m hml
  by_cases hlt:m < jP l t
  ·have hne:((l[m]'hml).text == t)=false:=by simpa using HF3.out m hlt hml
   generalize (l[m]'hml).text=tx at *
   clear g1 g2
   go_wp2
   go_round
   case rel=>exact ⟨m+1,by omega,by go_num⟩
   case measure=>simp [intOf];omega
  ·have hme:m=jP l t:=by omega
   have HM:=hid hme
   have heq:(l[m]'hml).text=t:=by have:=HF2.out;subst hme;exact this
   rw [heq] at g3
   clear g1 g2 heq hme
   go_wp2
   go_ret
   exact ⟨qZ (by rw [← HM.out]),rfl⟩
theorem Jh (a:Option Addr) (cap:Nat) (l:List CellB) (w:World) (hn:l.length≤1000) (hl:Lies w a l) :
  Calls Tryz.prog 175 #[.slice a l.length cap] w fun e w'=>∃ v,e=.returned v∧w'.ownsRow w.heap.size 58 3 v (qa l).length (jG (qa l))∧Below w.heap.size w w':=by
 obtain ⟨i1,hi1,hy0,hy1,hy2⟩:=info_parts Tryz.infoCell
 have Hl:=hid hl
 clear hl
 go_enter Tryz.func175,Tryz.ntmps175
 go_wp2
 go_loopw [3,4] (fun v i wr=>∃ k:Nat,k≤l.length∧i=.int .i64 k∧wr.ownsRow w.heap.size 58 3 v (jZ l k).length (jG (jZ l k))∧Below w.heap.size w wr) (fun _ i _=>l.length - (intOf i).toNat)
 case atStart=>exact ⟨0,Nat.zero_le _,rfl,World.ownsRow_nil _ _ _ _,Below.refl _ _⟩
 case round =>
  obtain ⟨k,hkl,rfl,hown,hB⟩:=hrel
  by_cases hlt:k < l.length
  ·have hlies:=Hl.out.later hB
   have HLi:=hid hlies
   obtain ⟨b,off,ha,hbw,hcell⟩:=hlies.at_ (List.ne_nil_of_length_pos (by omega))
   subst ha
   obtain ⟨g1,g2,g3⟩:=hcell k hlt
   clear hcell hlies
   have HF:Hid (jZ l (k+1)=jZ l k++(if jP l (xP l k).text=k then [xP l k] else [])):=rfl
   have HN:=hid (jY l k hlt)
   have hvl:=zp l k
   generalize jZ l k=ds at *
   have hfl:=Vw l k hlt
   go_wp2_with fail
   refine (RO _ cap l (l[k]).text _ hn HLi.out ⟨l[k],List.getElem_mem hlt,rfl⟩).mono ?_
   rintro e wr ⟨rfl,rfl⟩
   by_cases hfk:jP l (l[k]).text=k
   ·have HF2:Hid (jZ l (k+1)=ds++[l[k]]):=by have:=HF.out;rw [HN.out,if_pos hfk] at this;exact this
    rw [hfk]
    clear HF hfk hfl
    go_wp2_with (at_builtin;refine wpList_append_own _ rfl (.tmp 22) (.tmp 27) 59 rfl w.heap.size 58 i1 (.agg #[.bool false,.int .i64 0,.string ⟨#[]⟩]) 3 32 Tryz.underlying59 hi1 hy0 hy1 hy2 rfl (by decide) _ _ _ rfl (hown.alloc _) ⟨_,0,none⟩ 1 1 [.bool (l[k]).null,.int .i64 (l[k]).int,strB (l[k]).text] rfl rfl ?c1 ?c2 ?c3 ?c4 ?c5 ?_)
    case c1=>exact qj wr #[.bool (l[k]).null,.int .i64 (l[k]).int,strB (l[k]).text] 58
    case c2=>intro u hu;simp at hu;rcases hu with rfl|rfl|rfl<;>rfl
    case c3=>unfold maxLen;omega
    case c4=>omega
    case c5=>have:=hB.size;simp;omega
    intro v2 w2 hl2 hg2 _
    have HR:=hid (RA (c:=l[k]) hB rfl hown hl2 hg2)
    clear hl2 hg2 hB hown g1 g2 g3
    go_wp2
    go_roundw
    case rel=>exact ⟨k+1,by omega,by go_num,by rw [HF2.out];exact HR.out.1,HR.out.2⟩
    case measure=>simp [intOf];omega
   ·have HF2:Hid (jZ l (k+1)=ds):=by have:=HF.out;rw [HN.out,if_neg hfk] at this;simpa [Hid] using this
    have hfb:((jP l (l[k]).text:Int) == (k:Int))=false:=by simp;omega
    generalize jP l (l[k]).text=ff at *
    clear HF hfk hfl
    go_wp2
    go_roundw
    case rel=>exact ⟨k+1,by omega,by go_num,by rw [HF2.out];exact hown,hB⟩
    case measure=>simp [intOf];omega
  ·have hk5:k=l.length:=by omega
   subst hk5
   go_wp2
   go_ret
   exact ⟨_,rfl,hown,hB⟩
end
section
open Go.RowKit
set_option maxRecDepth 100000 in
theorem Jn (p:Nat) (s:List UInt8) (st:Option (List UInt8)) (max:Int) (w:World) (hs:s.length≤maxLen) (h0:0≤max) (h1:max≤1000000000000) (hp:jS w p s st) :
  Calls Tryz.prog 172 #[.pointer (some ⟨p,0,none⟩),.int .i64 max] w fun e w'=>e=.returned (.int .i64 ((jJ max.toNat st).1:Int))∧jS w' p s (jJ max.toNat st).2∧w.grownBy w' (some p):=by
 have Hp:=hid hp
 clear hp
 obtain ⟨m,rfl⟩:=Int.eq_ofNat_of_zero_le h0
 rw [Int.toNat_natCast]
 have hul:=DU st
 go_enter Tryz.func172,Tryz.ntmps172
 go_wp2_with fail
 refine (Ps p s st _ hs Hp.out).mono ?_
 rintro e w1 ⟨rfl,hsp1,hg1⟩
 have HF:Hid (jJ m st=if m < (uR st).1 then (0,none) else uR st):=rfl
 have e1:uP 10 0 1 st=uR st:=rfl
 rw [e1] at hsp1 ⊢
 have Hsp1:=hid hsp1
 have Hg1:=hid hg1
 have Hul:=hid hul
 clear e1 hsp1 hg1 hul
 generalize hx:uR st=x at *
 obtain ⟨n,st1⟩:=x
 simp only at Hsp1 HF Hul ⊢
 clear hx
 by_cases hlt:m < n
 ·have HF2:Hid (jJ m st=(0,none)):=by have:=HF.out;rw [if_pos hlt] at this;exact this
  obtain ⟨at_,bad,hrow,hat,_⟩:=Hsp1.out
  have f2:=(xj hrow).2 2
  have c2:=(xj hrow).1.2.2
  have Hrow:=hid hrow
  have hi:(m:Int) < (n:Int):=by omega
  clear hrow HF hlt
  go_wp2
  go_ret
  rw [HF2.out]
  have hb:=Xo (v:=.bool true) Hrow.out
  exact ⟨rfl,⟨at_,true,hb.1,hat,rfl⟩,ja Hg1.out hb.2⟩
 ·have HF2:Hid (jJ m st=(n,st1)):=by have:=HF.out;rw [if_neg hlt] at this;exact this
  have hi:(n:Int)≤(m:Int):=by omega
  clear HF hlt
  go_wp2
  go_ret
  rw [HF2.out]
  exact ⟨rfl,Hsp1.out,Hg1.out⟩
theorem Yo (p:Nat) (s:List UInt8) (st:Option (List UInt8)) (max:Int) (w:World) (hs:s.length≤maxLen) (h0:0≤max) (h1:max≤1000000000000) (hp:jS w p s st) :
  Calls Tryz.prog 222 #[.pointer (some ⟨p,0,none⟩),.int .i64 max] w fun e w'=>e=.returned (strB (xR max.toNat st).1)∧jS w' p s (xR max.toNat st).2∧w.grownBy w' (some p):=by
 have Hp:=hid hp
 clear hp
 have hle:=xH max.toNat st
 go_enter Tryz.func222,Tryz.ntmps222
 go_wp2_with fail
 refine (Jn p s st max _ hs h0 h1 Hp.out).mono ?_
 rintro e w1 ⟨rfl,hsp1,hg1⟩
 have HX:Hid (xR max.toNat st=qd ((jJ max.toNat st).1:Int) (jJ max.toNat st).2):=rfl
 have Hsp1:=hid hsp1
 clear hsp1
 generalize jJ max.toNat st=x at *
 go_wp2_with fail
 refine (Qj p s x.2 _ _ hs (by omega) (by omega) Hsp1.out).mono ?_
 rintro e w2 ⟨rfl,hsp2,hg2⟩
 go_wp2
 go_ret
 rw [HX.out]
 exact ⟨rfl,hsp2,ja hg1 hg2⟩
theorem SR (n:Nat) (h:n < 18446744073709551616):wrap64 (IntKind.u64.wrap ((n:Int) / 2))=(n:Int) / 2:=by
 rw [IntKind.wrap_u64];unfold wrap64;omega
theorem LM (n:Nat) (h:n < 18446744073709551616):wrap64 (wrap64 (-wrap64 (IntKind.u64.wrap ((n:Int) / 2))) - 1)=-((n:Int) / 2) - 1:=by
 rw [IntKind.wrap_u64];unfold wrap64;omega
theorem KJ {n:Int} (h0:0≤n) (h1:n≤9223372036854775807):IntKind.i64.wrap n=n:=IntWalk.i64_in n ⟨by omega,by omega⟩
set_option maxRecDepth 100000 in
theorem TA (p:Nat) (s:List UInt8) (st:Option (List UInt8)) (w:World) (hs:s.length≤maxLen) (hp:jS w p s st) :
  Calls Tryz.prog 238 #[.pointer (some ⟨p,0,none⟩)] w fun e w'=>e=.returned (.int .i64 (zOf (uR st).1))∧jS w' p s (uR st).2∧w.grownBy w' (some p):=by
 have Hp:=hid hp
 clear hp
 have hul:=DU st
 go_enter Tryz.func238,Tryz.ntmps238
 go_wp2_with fail
 refine (Ps p s st _ hs Hp.out).mono ?_
 rintro e w1 ⟨rfl,hsp1,hg1⟩
 have e1:uP 10 0 1 st=uR st:=rfl
 rw [e1] at hsp1 ⊢
 have Hsp1:=hid hsp1
 have HZ:Hid (∀ n,n=(uR st).1→zOf n=zOf (uR st).1):=by intro n h;rw [h]
 clear e1 hsp1
 have hux:∃ n,n=(uR st).1:=⟨_,rfl⟩
 obtain ⟨n,hn⟩:=hux
 rw [← hn] at hul ⊢
 have HN:=hid hn
 clear hn
 have Hul:=hid hul
 by_cases hev:n % 2=0
 ·have hb:((n:Int) % 2 == 0)=true:=by simp;omega
  have HE:Hid (zOf n=(n:Int) / 2):=by simp [Hid,zOf,hev]
  clear hev hul
  go_wp2
  go_ret
  exact ⟨qZ (by rw [← HZ.out n HN.out,HE.out];exact SR n Hul.out),Hsp1.out,hg1⟩
 ·have hb:((n:Int) % 2 == 0)=false:=by simp;omega
  have HE:Hid (zOf n=-((n:Int) / 2) - 1):=by simp [Hid,zOf,hev]
  clear hev hul
  go_wp2
  go_ret
  exact ⟨qZ (by rw [← HZ.out n HN.out,HE.out];exact LM n Hul.out),Hsp1.out,hg1⟩
theorem LU (n c:Nat) (h:n < 18446744073709551616) (hc:c < 256):IntKind.u64.wrap (IntKind.u64.wrap (256*(n:Int))+IntKind.u64.wrap (c:Int))=(((256*n+c) % 18446744073709551616:Nat):Int):=by
 rw [IntKind.wrap_u64,IntKind.wrap_u64,IntKind.wrap_u64];omega
set_option maxRecDepth 100000 in
theorem SU (p:Nat) (s:List UInt8) (st:Option (List UInt8)) (w:World) (hs:s.length≤maxLen) (hp:jS w p s st) :
  Calls Tryz.prog 237 #[.pointer (some ⟨p,0,none⟩)] w fun e w'=>e=.returned (.int .i64 (bR st).1)∧jS w' p s (bR st).2∧w.grownBy w' (some p):=by
 have Hp:=hid hp
 clear hp
 go_enter Tryz.func237,Tryz.ntmps237
 go_wp2_with fail
 refine (Qj p s st 8 _ hs (by decide) (by decide) Hp.out).mono ?_
 rintro e w1 ⟨rfl,hsp1,hg1⟩
 have HB:Hid (bR st=(wrap64 (Un (qd 8 st).1:Int),(qd 8 st).2)):=rfl
 have Hsp1:=hid hsp1
 have Hg1:=hid hg1
 have hl8:=AO st
 clear hsp1 hg1
 generalize (qd 8 st).1=t at *
 go_wp2_with fail
 go_loop [4,5] (fun n i=>∃ k:Nat,k≤t.length∧i=.int .i64 ((k:Int) - 1)∧n=.int .u64 (Un (t.drop k):Int)) (fun _ i=>((intOf i)+1).toNat)
 case atStart=>exact ⟨t.length,Nat.le_refl _,rfl,by simp [Un]⟩
 case round =>
  obtain ⟨k,hk,rfl,rfl⟩:=hrel
  by_cases hk0:k=0
  ·subst hk0
   go_wp2
   go_ret
   rw [HB.out]
   exact ⟨rfl,Hsp1.out,Hg1.out⟩
  ·obtain ⟨m,rfl⟩:∃ m,k=m+1:=⟨k - 1,by omega⟩
   have hm:m < t.length:=by omega
   have HS:=hid (Ty t m hm)
   have Hlt:=hid (Sy (t.drop (m+1)))
   generalize Un (t.drop (m+1))=n1 at *
   have e1:((m+1:Nat):Int) - 1=(m:Int):=by omega
   rw [e1]
   have hmi:(m:Int) < (t.length:Int):=by omega
   clear e1 hk0
   go_wp2
   go_round
   case rel=>exact ⟨m,by omega,rfl,by rw [HS.out];exact congrArg (Value.int IntKind.u64) (LU n1 (t[m]).toNat Hlt.out (t[m]).toNat_lt)⟩
   case measure=>simp [intOf]
end
section
structure ColB where
 name:List UInt8
 kind:Int
 key:Int
 cells:List CellB
structure KeyB where
 number:Int
 secret:List UInt8
structure PlanB where
 group:Int
 page:Int
 foot:Int
 told:Bool
structure JobB where
 table:List ColB
 plan:PlanB
 pre:List UInt8
 draw:Int
structure SealB where
 secret:List UInt8
 nonce:List UInt8
 extra:List UInt8
 body:List UInt8
def xI (s:List UInt8):Bool:=s.all (fun b=>decide (97≤b.toNat) && decide (b.toNat≤122)) && (decide (1≤s.length) && decide (s.length≤8))
def zJ (c:ColB):Bool:=xI c.name && ((decide (0≤c.kind) && decide (c.kind≤1)) && (decide (0≤c.key) && decide (c.key≤9)))
def zj (t:List ColB) (s:List UInt8):Bool:=t.any fun c=>c.name == s
def JH (t:List ColB):Nat→Bool
 | 0=>true
 | k+1=>JH t k && (match t[k]? with|some c=>zJ c && !zj (t.take k) c.name|none=>true)
def jU (t:List ColB):Bool:=JH t t.length && (decide (1≤t.length) && decide (t.length≤6))
def Nk:List ColB→Nat
 | []=>0
 | c :: _=>c.cells.length
def qW (p:PlanB):Bool:=(decide (1≤p.group) && decide (p.group≤60)) && ((decide (1≤p.page) && decide (p.page≤60)) && (decide (1≤p.foot) && decide (p.foot≤9)))
def jA (r:List KeyB) (n:Int):Bool:=r.any fun k=>decide (k.number=n)
def Xf (k:KeyB):Bool:=(decide (1≤k.number) && decide (k.number≤9)) && decide (k.secret.length=8)
def Xe (r:List KeyB):Nat→Bool
 | 0=>true
 | k+1=>Xe r k && (match r[k]? with|some c=>Xf c && !jA (r.take k) c.number|none=>true)
def xX (r:List KeyB):Bool:=Xe r r.length
def Gl (r:List KeyB) (n:Int):Option (List UInt8):=(r.find? fun k=>decide (k.number=n)).map (·.secret)
def jm (r:List KeyB) (n:Int):List UInt8:=(Gl r n).getD []
def qu (pre:List UInt8) (sort:UInt8) (g c p:Nat):List UInt8:=xB pre++[sort]++qv (g:Int)++qv (c:Int)++qv (p:Int)
def jv (n size i:Nat):Nat:=min size (n - i*size)
def jW (n size:Nat):Nat:=(n+size - 1) / size
structure SpotB where
 sort:UInt8
 g:Nat
 c:Nat
 p:Nat
 start:Nat
 many:Nat
def jo (P g c start n:Nat) (k:Nat):List SpotB:=(List.range k).map fun p=>⟨80,g,c,p,start+p*P,jv n P p⟩
def jh (R G P g c:Nat):List SpotB:=jo P g c (g*G) (jv R G g) (jW (jv R G g) P)++[⟨77,g,c,0,g*G,jv R G g⟩]
def ju (R G P g C:Nat):List SpotB:=(List.range C).flatMap fun c=>jh R G P g c
def jQ (R C G P n:Nat):List SpotB:=(List.range n).flatMap fun g=>ju R G P g C
def jC (R C G P:Nat):List SpotB:=jQ R C G P (jW R G)
def zu (l:List CellB):Int→Int:=fun x=>l.foldl (fun m c=>if c.int < m then c.int else m) x
def JN (l:List CellB):Int→Int:=fun x=>l.foldl (fun m c=>if m < c.int then c.int else m) x
def qC:List CellB→Int
 | []=>0
 | c :: _=>c.int
def JR (kind:Int) (l:List CellB):List UInt8 :=
 uB (l.length - (je l).length)++if kind=0∧je l≠[] then [1]++zB (zu (je l) (qC (je l)))++zB (JN (je l) (qC (je l))) else [0]
def jk (t:List ColB) (c:Nat):ColB:=t.getD c ⟨[],0,0,[]⟩
def TB (t:List ColB) (s:SpotB):List UInt8 :=
 if s.sort=77 then JR (jk t s.c).kind (((jk t s.c).cells.drop s.start).take s.many) else xw (jk t s.c).kind (((jk t s.c).cells.drop s.start).take s.many)
structure StB where
 out:List UInt8
 log:List SealB
def Lx (plain:List UInt8) (st:StB):StB:=⟨st.out++(qv (plain.length:Int)++plain),st.log⟩
def Uu (draw:Int) (n:Nat):List UInt8:=qv draw++qv (n:Int)
def TU (draw:Int) (secret extra plain:List UInt8) (st:StB):StB :=
 ⟨st.out++(qv ((Xi secret (Uu draw st.log.length) extra plain).length:Int)++(Uu draw st.log.length++Xi secret (Uu draw st.log.length) extra plain)),
  st.log++[⟨secret,Uu draw st.log.length,extra,Xi secret (Uu draw st.log.length) extra plain⟩]⟩
def SG (j:JobB) (r:List KeyB) (key:Int) (sort:UInt8) (g c p:Nat) (plain:List UInt8) (st:StB):StB :=
 if key=0 then Lx plain st else TU j.draw (jm r key) (qu j.pre sort g c p) plain st
def NJ (j:JobB) (r:List KeyB) (st:StB) (s:SpotB):StB:=SG j r (jk j.table s.c).key s.sort s.g s.c s.p (TB j.table s) st
def DV (j:JobB) (r:List KeyB) (st:StB) (l:List SpotB):StB:=l.foldl (NJ j r) st
def qE (b:Bool):List SpotB→Bool
 | []=>b
 | s :: l=>qE (decide (s.sort=77)) l
def zw (j:JobB) (r:List KeyB):StB→Bool→List SpotB→List Nat
 | st,b,[]=>[]
 | st,b,s :: l=>(if b=true then [st.out.length] else [])++zw j r (NJ j r st s) (decide (s.sort=77)) l
def jT (c:ColB):List UInt8:=xB c.name++uB c.kind.toNat++uB c.key.toNat
def qH (rows:Nat) (p:PlanB) (t:List ColB) (places:List Nat):List UInt8 :=
 uB rows++uB p.group.toNat++uB p.page.toNat++uB p.foot.toNat++uB t.length++t.flatMap jT++places.flatMap uB
/- The laws of these. -/
theorem JW (l m:List SpotB):∀ b,qE b (l++m)=qE (qE b l) m:=by
 induction l with
 | nil=>intro b;rfl
 | cons s l ih=>intro b;simp only [List.cons_append,qE];exact ih _
theorem Qf (j:JobB) (r:List KeyB) (l m:List SpotB):∀ st b,zw j r st b (l++m)=zw j r st b l++zw j r (DV j r st l) (qE b l) m:=by
 induction l with
 | nil=>intro st b;rfl
 | cons s l ih =>
  intro st b
  simp only [List.cons_append,zw,qE,List.append_assoc]
  rw [ih]
  rfl
theorem Yf (j:JobB) (r:List KeyB) (l:List SpotB) (h:∀ s ∈ l,s.sort=80):∀ st,zw j r st false l=[]:=by
 induction l with
 | nil=>intro st;rfl
 | cons s l ih =>
  intro st
  have h1:=h s (List.mem_cons_self ..)
  simp only [zw,h1]
  exact ih (fun x hx=>h x (List.mem_cons_of_mem _ hx)) _
theorem Kq (l:List SpotB) (h:∀ s ∈ l,s.sort=80):l≠[]→∀ b,qE b l=false:=by
 induction l with
 | nil=>intro h0;exact absurd rfl h0
 | cons s l ih =>
  intro _ b
  have h1:=h s (List.mem_cons_self ..)
  simp only [qE,h1]
  by_cases hl:l=[]
  ·subst hl;rfl
  ·exact ih (fun x hx=>h x (List.mem_cons_of_mem _ hx)) hl _
theorem XC (P g c start n k:Nat):∀ s ∈ jo P g c start n k,s.sort=80:=by
 intro s hs
 simp only [jo,List.mem_map] at hs
 obtain ⟨p,_,rfl⟩:=hs
 rfl
theorem Yp (j:JobB) (r:List KeyB) (st:StB) (R G P g c:Nat):zw j r st true (jh R G P g c)=[st.out.length]:=by
 unfold jh
 have hs:=XC P g c (g*G) (jv R G g) (jW (jv R G g) P)
 generalize jo P g c (g*G) (jv R G g) (jW (jv R G g) P)=L at *
 cases L with
 | nil=>simp [zw]
 | cons s l =>
  have h1:=hs s (List.mem_cons_self ..)
  have hl:∀ x ∈ l,x.sort=80:=fun x hx=>hs x (List.mem_cons_of_mem _ hx)
  simp only [List.cons_append,zw,h1,if_true]
  rw [Qf]
  have e1:(decide ((80:UInt8)=77))=false:=by decide
  rw [e1,Yf j r l hl]
  have e2:qE false l=false:=by
   by_cases h0:l=[]
   ·subst h0;rfl
   ·exact Kq l hl h0 _
  rw [e2]
  simp [zw]
theorem GN (b:Bool) (R G P g c:Nat):qE b (jh R G P g c)=true:=by
 unfold jh
 rw [JW]
 rfl
theorem XJ (R G P g C:Nat):qE true (ju R G P g C)=true:=by
 unfold ju
 induction C with
 | zero=>rfl
 | succ C ih=>rw [List.range_succ,List.flatMap_append,JW,ih];simp only [List.flatMap_cons,List.flatMap_nil,List.append_nil];exact GN _ _ _ _ _ _
theorem Ki (R C G P n:Nat):qE true (jQ R C G P n)=true:=by
 unfold jQ
 induction n with
 | zero=>rfl
 | succ n ih=>rw [List.range_succ,List.flatMap_append,JW,ih];simp only [List.flatMap_cons,List.flatMap_nil,List.append_nil];exact XJ _ _ _ _ _
theorem Qb (R G P g C:Nat):ju R G P g (C+1)=ju R G P g C++jh R G P g C:=by
 unfold ju;rw [List.range_succ,List.flatMap_append];simp
theorem Qa (R C G P n:Nat):jQ R C G P (n+1)=jQ R C G P n++ju R G P n C:=by
 unfold jQ;rw [List.range_succ,List.flatMap_append];simp
theorem QO (P g c start n k:Nat):jo P g c start n (k+1)=jo P g c start n k++[⟨80,g,c,k,start+k*P,jv n P k⟩]:=by
 unfold jo;rw [List.range_succ,List.map_append];rfl
theorem Qn {n size i:Nat} (hs:1≤size):i < jW n size ↔ i*size < n:=by
 unfold jW
 rw [Nat.lt_div_iff_mul_lt (by omega)]
 constructor<;>intro h<;>omega
theorem Xg {n size:Nat} (hs:1≤size):jW n size≤n:=by
 rcases Nat.lt_or_ge n (jW n size) with h|h
 ·have h2:=(Qn (n:=n) (i:=n) hs).1 h
  have:n*1≤n*size:=Nat.mul_le_mul (Nat.le_refl _) hs
  omega
 ·exact h
theorem JT (n size i:Nat):jv n size i≤size∧jv n size i≤n:=by unfold jv;omega
theorem Ko (n size i:Nat) (h:i*size < n):i*size+jv n size i=min (i*size+size) n:=by unfold jv;omega
theorem UQ {n size i:Nat} (hs:1≤size):0 < jv n size i ↔ i*size < n:=by unfold jv;omega
theorem CO (R G P g c:Nat) (hP:1≤P) (hG:G≤60):(jh R G P g c).length≤61:=by
 unfold jh jo
 have h1:=Xg (n:=jv R G g) hP
 have h2:=(JT R G g).1
 simp;omega
theorem RQ (R G P g C:Nat) (hP:1≤P) (hG:G≤60):(ju R G P g C).length≤61*C:=by
 induction C with
 | zero=>simp [ju]
 | succ C ih=>have:=CO R G P g C hP hG;rw [Qb,List.length_append];omega
theorem Ru (R C G P n:Nat) (hP:1≤P) (hG:G≤60) (hC:C≤6):(jQ R C G P n).length≤366*n:=by
 induction n with
 | zero=>simp [jQ]
 | succ n ih=>have:=RQ R G P n C hP hG;rw [Qa,List.length_append];omega
theorem Kx (l:List CellB) (h:∀ c ∈ l,qw c):∀ x:Int,(-9223372036854775808≤x∧x≤9223372036854775807)→-9223372036854775808≤zu l x∧zu l x≤9223372036854775807:=by
 induction l with
 | nil=>intro x hx;exact hx
 | cons c l ih =>
  intro x hx
  obtain ⟨c0,c1,_⟩:=h c (List.mem_cons_self ..)
  refine ih (fun y hy=>h y (List.mem_cons_of_mem _ hy)) _ ?_
  dsimp only
  split<;>omega
theorem Uk (l:List CellB) (h:∀ c ∈ l,qw c):∀ x:Int,(-9223372036854775808≤x∧x≤9223372036854775807)→-9223372036854775808≤JN l x∧JN l x≤9223372036854775807:=by
 induction l with
 | nil=>intro x hx;exact hx
 | cons c l ih =>
  intro x hx
  obtain ⟨c0,c1,_⟩:=h c (List.mem_cons_self ..)
  refine ih (fun y hy=>h y (List.mem_cons_of_mem _ hy)) _ ?_
  dsimp only
  split<;>omega
theorem Qx (l:List CellB) (h:∀ c ∈ l,qw c):-9223372036854775808≤qC l∧qC l≤9223372036854775807:=by
 cases l with
 | nil=>simp [qC]
 | cons c l=>obtain ⟨c0,c1,_⟩:=h c (List.mem_cons_self ..);exact ⟨c0,c1⟩
theorem Xv (pre:List UInt8) (sort:UInt8) (g c p:Nat) (h:pre.length≤20):(qu pre sort g c p).length≤40:=by
 have:=jN pre.length (by omega)
 simp only [qu,xB,List.length_append,jB,List.length_cons,List.length_nil];omega
structure SpotIn (t:List ColB) (s:SpotB):Prop where
 sort:s.sort=80∨s.sort=77
 col:s.c < t.length
 rows:s.start+s.many≤Nk t
 few:s.g < 60∧s.c < 60∧s.p < 60∧s.start < 60∧s.many≤60
theorem PU {t:List ColB} {R G P g c k:Nat} (hR:R=Nk t) (hr:R≤60) (hG:1≤G) (hP:1≤P) (hG6:G≤60) (hc:c < t.length) (hC:t.length≤6) (hg:g*G < R) (hk:k*P < jv R G g) :
  SpotIn t ⟨80,g,c,k,g*G+k*P,jv (jv R G g) P k⟩:=by
 have h1:g*1≤g*G:=Nat.mul_le_mul (Nat.le_refl _) hG
 have h2:k*1≤k*P:=Nat.mul_le_mul (Nat.le_refl _) hP
 have h3:=Ko R G g hg
 have h4:=Ko (jv R G g) P k hk
 have h5:=JT R G g
 refine ⟨.inl rfl,hc,?_,?_,?_,?_,?_,?_⟩<;>simp only<;>omega
theorem Sf {t:List ColB} {R G g c:Nat} (hR:R=Nk t) (hr:R≤60) (hG:1≤G) (hG6:G≤60) (hc:c < t.length) (hC:t.length≤6) (hg:g*G < R) :
  SpotIn t ⟨77,g,c,0,g*G,jv R G g⟩:=by
 have h1:g*1≤g*G:=Nat.mul_le_mul (Nat.le_refl _) hG
 have h3:=Ko R G g hg
 have h5:=JT R G g
 refine ⟨.inr rfl,hc,?_,?_,?_,?_,?_,?_⟩<;>simp only<;>omega
theorem CW {t:List ColB} {R G P g c:Nat} (hR:R=Nk t) (hr:R≤60) (hG:1≤G) (hP:1≤P) (hG6:G≤60) (hc:c < t.length) (hC:t.length≤6) (hg:g*G < R) :
  ∀ s ∈ jh R G P g c,SpotIn t s:=by
 intro s hs
 rcases List.mem_append.1 hs with hs|hs
 ·simp only [jo,List.mem_map,List.mem_range] at hs
  obtain ⟨k,hk,rfl⟩:=hs
  exact PU hR hr hG hP hG6 hc hC hg ((Qn hP).1 hk)
 ·simp only [List.mem_cons,List.not_mem_nil,or_false] at hs
  subst hs
  exact Sf hR hr hG hG6 hc hC hg
theorem TV {t:List ColB} {R G P:Nat} (hR:R=Nk t) (hr:R≤60) (hG:1≤G) (hP:1≤P) (hG6:G≤60) (hC:t.length≤6) :
  ∀ s ∈ jC R t.length G P,SpotIn t s:=by
 intro s hs
 simp only [jC,jQ,ju,List.mem_flatMap,List.mem_range] at hs
 obtain ⟨g,hg,c,hc,hs⟩:=hs
 exact CW hR hr hG hP hG6 hc hC ((Qn hG).1 hg) s hs
theorem QP {t:List ColB} {n:Nat} (h:JH t n=true) (hn:n≤t.length):∀ k (hk:k < n),zJ (t[k]'(by omega))=true∧zj (t.take k) (t[k]'(by omega)).name=false:=by
 induction n with
 | zero=>intro k hk;omega
 | succ n ih =>
  intro k hk
  simp only [JH,Bool.and_eq_true] at h
  rcases Nat.lt_or_ge k n with hkn|hkn
  ·exact ih h.1 (by omega) k hkn
  ·have:k=n:=by omega
   subst this
   have h2:=h.2
   rw [List.getElem?_eq_getElem (by omega)] at h2
   simpa using h2
theorem QB {c:ColB} (h:zJ c=true):xI c.name=true∧(c.kind=0∨c.kind=1)∧0≤c.key∧c.key≤9:=by
 simp only [zJ,Bool.and_eq_true,decide_eq_true_eq] at h
 exact ⟨h.1,by omega,h.2.2.1,h.2.2.2⟩
theorem Nq {s:List UInt8} (h:xI s=true):1≤s.length∧s.length≤8:=by
 simp only [xI,Bool.and_eq_true,decide_eq_true_eq] at h
 exact h.2
theorem Xb {t:List ColB} {c:Nat} (h:c < t.length):jk t c=t[c]:=by simp [jk,h]
theorem Zv (j:JobB) (r:List KeyB) (st:StB) (R G P g C:Nat):(zw j r st true (ju R G P g C)).length=C:=by
 induction C with
 | zero=>rfl
 | succ C ih=>rw [Qb,Qf,List.length_append,ih,XJ,Yp];rfl
theorem Zf (j:JobB) (r:List KeyB) (st:StB) (R C G P n:Nat):(zw j r st true (jQ R C G P n)).length=n*C:=by
 induction n with
 | zero=>simp [jQ,zw]
 | succ n ih=>rw [Qa,Qf,List.length_append,ih,Ki,Zv,Nat.succ_mul]
theorem NY {α:Type} (f:α→List UInt8) (m:Nat) (l:List α) (h:∀ x ∈ l,(f x).length≤m):(l.flatMap f).length≤m*l.length:=by
 induction l with
 | nil=>simp
 | cons a l ih =>
  have h1:=h a (List.mem_cons_self ..)
  have h2:=ih (fun x hx=>h x (List.mem_cons_of_mem _ hx))
  rw [List.flatMap_cons,List.length_append,List.length_cons,Nat.mul_succ]
  omega
theorem EA {c:ColB} (h:c.name.length≤8) (h1:c.kind=0∨c.kind=1) (h2:0≤c.key∧c.key≤9):(jT c).length≤38:=by
 have a:=jN c.name.length (by omega)
 have b:=jN c.kind.toNat (by omega)
 have d:=jN c.key.toNat (by omega)
 simp only [jT,xB,List.length_append];omega
end
section
structure FormF where
 told:Bool
 foot:Nat
 parts:List UInt8
 footer:List UInt8
 nonce:List UInt8
 body:List UInt8
def qr (f:FormF):List UInt8:=(if f.told=true then qv (f.footer.length:Int)++f.footer else [])++(qv (f.body.length:Int)++(f.nonce++f.body))
def xi (f:FormF):List UInt8:=([67,70]++[if f.told=true then 79 else 69]++[byB (f.foot:Int)])++(f.parts++(qr f++(qv ((qr f).length:Int)++[67,70])))
structure FormOk (f:FormF):Prop where
 nonce:f.nonce.length=4
 body:2≤f.body.length
 foot:1≤f.foot∧f.foot≤9
 short:(xi f).length≤65000
 none_:f.told=false→f.footer=[]
theorem Qt {a b:Nat} (ha:a≤65535) (hb:b≤65535) (h:qv (a:Int)=qv (b:Int)):a=b:=by
 unfold qv at h
 simp only [List.cons.injEq,and_true] at h
 obtain ⟨h1,h2⟩:=h
 have e1:=congrArg UInt8.toNat h1
 have e2:=congrArg UInt8.toNat h2
 simp only [UInt8.toNat_ofNat'] at e1 e2
 omega
theorem FormOk.lens {f:FormF} (h:FormOk f):(qr f).length≤64992∧f.body.length≤64992∧f.footer.length≤64992:=by
 have hs:=h.short
 have e:(xi f).length=4+(f.parts.length+((qr f).length+4)):=by
  simp only [xi,List.length_append,List.length_cons,List.length_nil,jB]
 have hfp:(qr f).length=(if f.told=true then 2+f.footer.length else 0)+(2+(f.nonce.length+f.body.length)):=by
  unfold qr
  rw [List.length_append]
  split<;>simp only [List.length_append,jB,List.length_nil]
 refine ⟨by omega,by omega,?_⟩
 cases ht:f.told with
 | true=>rw [ht] at hfp;simp only [if_true] at hfp;omega
 | false=>rw [h.none_ ht];simp
theorem Zp {a b c d:List UInt8} (h:a++b=c++d) (hl:b.length=d.length):a=c∧b=d:=by
 have hlen:=congrArg List.length h
 rw [List.length_append,List.length_append] at hlen
 exact List.append_inj h (by omega)
theorem Ex {f g:FormF} (hf:FormOk f) (hg:FormOk g) (h:xi f=xi g):f=g:=by
 obtain ⟨l1,l2,l3⟩:=hf.lens
 obtain ⟨m1,m2,m3⟩:=hg.lens
 unfold xi at h
 obtain ⟨h1,h2⟩:=List.append_inj h (by simp)
 have ht:f.told=g.told:=by
  cases e1:f.told<;>cases e2:g.told<;>simp_all
 have hft:f.foot=g.foot:=by
  simp only [ht,List.cons_append,List.nil_append,List.cons.injEq,and_true,true_and] at h1
  have e:=congrArg UInt8.toNat h1
  have b1:=xE (f.foot:Int) (by omega) (by have:=hf.foot;omega)
  have b2:=xE (g.foot:Int) (by omega) (by have:=hg.foot;omega)
  omega
 have h2':(f.parts++qr f)++(qv ((qr f).length:Int)++[67,70])=(g.parts++qr g)++(qv ((qr g).length:Int)++[67,70]):=by
  rw [List.append_assoc,List.append_assoc];exact h2
 obtain ⟨h3,h4⟩:=Zp h2' (by simp [jB])
 obtain ⟨h5,_⟩:=List.append_inj h4 (by rw [jB,jB])
 have hl:=Qt (by omega) (by omega) h5
 obtain ⟨h6,h7⟩:=Zp h3 hl
 have key:f.footer=g.footer∧f.nonce=g.nonce∧f.body=g.body:=by
  unfold qr at h7
  rw [← ht] at h7
  have tail:∀ {a b:FormF},FormOk a→FormOk b→a.body.length≤65535→b.body.length≤65535→qv (a.body.length:Int)++(a.nonce++a.body)=qv (b.body.length:Int)++(b.nonce++b.body)→a.nonce=b.nonce∧a.body=b.body:=by
   intro a b ha hb _ _ e
   obtain ⟨_,e2⟩:=List.append_inj e (by rw [jB,jB])
   exact List.append_inj e2 (by rw [ha.nonce,hb.nonce])
  cases htt:f.told with
  | false =>
   rw [htt] at h7
   simp only [Bool.false_eq_true,if_false,List.nil_append] at h7
   obtain ⟨a,b⟩:=tail hf hg (by omega) (by omega) h7
   exact ⟨by rw [hf.none_ htt,hg.none_ (ht ▸ htt)],a,b⟩
  | true =>
   rw [htt] at h7
   simp only [if_true,List.append_assoc] at h7
   obtain ⟨e1,e2⟩:=List.append_inj h7 (by rw [jB,jB])
   have hlen:=Qt (by omega) (by omega) e1
   obtain ⟨e3,e4⟩:=List.append_inj e2 hlen
   obtain ⟨a,b⟩:=tail hf hg (by omega) (by omega) e4
   exact ⟨e3,a,b⟩
 obtain ⟨k1,k2,k3⟩:=key
 cases f
 cases g
 simp_all
end
section
theorem xA:∀ (n m:Nat) (r q:List UInt8),uB n++r=uB m++q→n=m∧r=q:=by
 intro n
 induction n using Nat.strongRecOn with
 | _ n ih =>
  intro m r q h
  by_cases hn:n≤127
  ·by_cases hm:m≤127
   ·rw [zM hn,zM hm] at h
    simp only [List.cons_append,List.nil_append,List.cons.injEq] at h
    obtain ⟨h1,h2⟩:=h
    have e:=congrArg UInt8.toNat h1
    rw [JL n (by omega),JL m (by omega)] at e
    exact ⟨e,h2⟩
   ·exfalso
    rw [zM hn,XF (n:=m) (by omega)] at h
    simp only [List.cons_append,List.nil_append,List.cons.injEq] at h
    have e:=congrArg UInt8.toNat h.1
    have b1:=xE (n:Int) (by omega) (by omega)
    have b2:=xE ((m:Int) % 128+128) (by omega) (by omega)
    omega
  ·by_cases hm:m≤127
   ·exfalso
    rw [zM hm,XF (n:=n) (by omega)] at h
    simp only [List.cons_append,List.nil_append,List.cons.injEq] at h
    have e:=congrArg UInt8.toNat h.1
    have b1:=xE (m:Int) (by omega) (by omega)
    have b2:=xE ((n:Int) % 128+128) (by omega) (by omega)
    omega
   ·rw [XF (n:=n) (by omega),XF (n:=m) (by omega)] at h
    simp only [List.cons_append,List.cons.injEq] at h
    obtain ⟨h1,h2⟩:=h
    have e:=congrArg UInt8.toNat h1
    have b1:=xE ((n:Int) % 128+128) (by omega) (by omega)
    have b2:=xE ((m:Int) % 128+128) (by omega) (by omega)
    obtain ⟨h3,h4⟩:=ih (n / 128) (by omega) (m / 128) r q h2
    exact ⟨by omega,h4⟩
theorem Nz {s t r q:List UInt8} (h:xB s++r=xB t++q):s=t∧r=q:=by
 unfold xB at h
 rw [List.append_assoc,List.append_assoc] at h
 obtain ⟨h1,h2⟩:=xA _ _ _ _ h
 exact List.append_inj h2 h1
theorem Eh:∀ (a b:List Nat),a.length=b.length→a.flatMap uB=b.flatMap uB→a=b:=by
 intro a
 induction a with
 | nil=>intro b hl _;cases b with
  | nil=>rfl
  | cons x l=>simp at hl
 | cons x l ih =>
  intro b hl h
  cases b with
  | nil=>simp at hl
  | cons y m =>
   rw [List.flatMap_cons,List.flatMap_cons] at h
   obtain ⟨h1,h2⟩:=xA _ _ _ _ h
   rw [h1,ih m (by simpa using hl) h2]
def QX (c:ColB):List UInt8 × Nat × Nat:=(c.name,c.kind.toNat,c.key.toNat)
theorem Kl:∀ (a b:List ColB) (r q:List UInt8),a.length=b.length→a.flatMap jT++r=b.flatMap jT++q→a.map QX=b.map QX∧r=q:=by
 intro a
 induction a with
 | nil=>intro b r q hl h;cases b with
  | nil=>exact ⟨rfl,h⟩
  | cons x l=>simp at hl
 | cons x l ih =>
  intro b r q hl h
  cases b with
  | nil=>simp at hl
  | cons y m =>
   rw [List.flatMap_cons,List.flatMap_cons] at h
   simp only [jT,List.append_assoc] at h
   obtain ⟨h1,h2⟩:=Nz h
   obtain ⟨h3,h4⟩:=xA _ _ _ _ h2
   obtain ⟨h5,h6⟩:=xA _ _ _ _ h4
   obtain ⟨h7,h8⟩:=ih m r q (by simpa using hl) h6
   refine ⟨?_,h8⟩
   simp only [List.map_cons,h7,QX,h1,h3,h5]
theorem KX {R R':Nat} {p p':PlanB} {t t':List ColB} {pl pl':List Nat} (hl:pl.length=jW R p.group.toNat*t.length) (hl':pl'.length=jW R' p'.group.toNat*t'.length)
  (h:qH R p t pl=qH R' p' t' pl'):R=R'∧p.group.toNat=p'.group.toNat∧p.page.toNat=p'.page.toNat∧p.foot.toNat=p'.foot.toNat∧t.map QX=t'.map QX∧pl=pl':=by
 unfold qH at h
 simp only [List.append_assoc] at h
 obtain ⟨h1,h⟩:=xA _ _ _ _ h
 obtain ⟨h2,h⟩:=xA _ _ _ _ h
 obtain ⟨h3,h⟩:=xA _ _ _ _ h
 obtain ⟨h4,h⟩:=xA _ _ _ _ h
 obtain ⟨h5,h⟩:=xA _ _ _ _ h
 obtain ⟨h6,h⟩:=Kl t t' _ _ h5 h
 exact ⟨h1,h2,h3,h4,h6,Eh _ _ (by rw [hl,hl',h1,h2,h5]) h⟩
end
section
structure ModF where
 plain:List UInt8
 nonce:List UInt8
 body:List UInt8
def qB (key:Int) (m:ModF):List UInt8:=if key=0 then qv (m.plain.length:Int)++m.plain else qv (m.body.length:Int)++(m.nonce++m.body)
def xW (key:Int) (m:ModF):Prop:=(key=0∧m.nonce=[]∧m.body=[]∧m.plain.length≤65535)∨(key≠0∧m.plain=[]∧m.nonce.length=4∧2≤m.body.length∧m.body.length≤65535)
def jl (t:List ColB):List SpotB→List ModF→List UInt8
 | s :: L,m :: M=>qB (jk t s.c).key m++jl t L M
 | _,_=>[]
def jp (t:List ColB):Nat→Bool→List SpotB→List ModF→List Nat
 | n,b,s :: L,m :: M=>(if b=true then [n] else [])++jp t (n+(qB (jk t s.c).key m).length) (decide (s.sort=77)) L M
 | _,_,_,_=>[]
inductive ModsOk (t:List ColB):List SpotB→List ModF→Prop
 | nil:ModsOk t [] []
 | cons {s:SpotB} {L:List SpotB} {m:ModF} {M:List ModF}:xW (jk t s.c).key m→ModsOk t L M→ModsOk t (s :: L) (m :: M)
theorem Qu {key:Int} {m m':ModF} {r q:List UInt8} (h:xW key m) (h':xW key m') (e:qB key m++r=qB key m'++q):m=m'∧r=q:=by
 unfold qB at e
 rcases h with ⟨hk,a1,a2,a3⟩|⟨hk,a1,a2,a3,a4⟩
 ·rcases h' with ⟨_,b1,b2,b3⟩|⟨hk',_⟩
  ·rw [if_pos hk,if_pos hk,List.append_assoc,List.append_assoc] at e
   obtain ⟨e1,e2⟩:=List.append_inj e (by rw [jB,jB])
   have hl:=Qt a3 b3 e1
   obtain ⟨e3,e4⟩:=List.append_inj e2 hl
   refine ⟨?_,e4⟩
   cases m;cases m';simp_all
  ·exact absurd hk hk'
 ·rcases h' with ⟨hk',_⟩|⟨_,b1,b2,b3,b4⟩
  ·exact absurd hk' hk
  ·rw [if_neg hk,if_neg hk,List.append_assoc,List.append_assoc,List.append_assoc,List.append_assoc] at e
   obtain ⟨e1,e2⟩:=List.append_inj e (by rw [jB,jB])
   have hl:=Qt a4 b4 e1
   obtain ⟨e3,e4⟩:=List.append_inj e2 (by rw [a2,b2])
   obtain ⟨e5,e6⟩:=List.append_inj e4 hl
   refine ⟨?_,e6⟩
   cases m;cases m';simp_all
theorem IY {t:List ColB} {L:List SpotB} {M M':List ModF} (h:ModsOk t L M) (h':ModsOk t L M') (e:jl t L M=jl t L M'):M=M':=by
 induction h generalizing M' with
 | nil=>cases h';rfl
 | cons hm _ ih =>
  cases h' with
  | cons hm' h2' =>
   simp only [jl] at e
   obtain ⟨e1,e2⟩:=Qu hm hm' e
   rw [e1,ih h2' e2]
structure SheetF where
 rows:Nat
 plan:PlanB
 cols:List ColB
 mods:List ModF
def qy (S:SheetF):List SpotB:=jC S.rows S.cols.length S.plan.group.toNat S.plan.page.toNat
structure SheetOk (foot:Nat) (parts footer:List UInt8) (S:SheetF):Prop where
 rows:S.rows≤60
 plan:qW S.plan=true
 told:S.plan.told=false
 foot:S.plan.foot=(foot:Int)
 heads:jU S.cols=true
 bare:∀ c ∈ S.cols,c.cells=[]
 mods:ModsOk S.cols (qy S) S.mods
 parts:parts=jl S.cols (qy S) S.mods
 footer:footer=qH S.rows S.plan S.cols (jp S.cols 4 true (qy S) S.mods)
theorem qR {t:List ColB} {L:List SpotB} {M:List ModF} (h:ModsOk t L M):M.length=L.length:=by
 induction h with
 | nil=>rfl
 | cons _ _ ih=>simp [ih]
theorem XB {t:List ColB} (j:JobB) (r:List KeyB):∀ (L:List SpotB) (M:List ModF) (n:Nat) (b:Bool) (st:StB),M.length=L.length→(jp t n b L M).length=(zw j r st b L).length:=by
 intro L
 induction L with
 | nil=>intro M n b st h;cases M with
  | nil=>rfl
  | cons m M=>simp at h
 | cons s L ih =>
  intro M n b st h
  cases M with
  | nil=>simp at h
  | cons m M =>
   simp only [jp,zw,List.length_append]
   rw [ih M _ _ (NJ j r st s) (by simpa using h)]
   cases b<;>rfl
theorem Ql {foot:Nat} {parts footer:List UInt8} {S:SheetF} (h:SheetOk foot parts footer S):(jp S.cols 4 true (qy S) S.mods).length=jW S.rows S.plan.group.toNat*S.cols.length:=by
 rw [XB ⟨[],⟨0,0,0,false⟩,[],0⟩ [] _ _ _ _ ⟨[],[]⟩ (qR h.mods)]
 exact Zf _ _ _ _ _ _ _ _
theorem DH {p q:PlanB} (hp:qW p=true) (hq:qW q=true) (ht:p.told=q.told) (h1:p.group.toNat=q.group.toNat) (h2:p.page.toNat=q.page.toNat) (h3:p.foot.toNat=q.foot.toNat):p=q:=by
 simp only [qW,Bool.and_eq_true,decide_eq_true_eq] at hp hq
 have e1:p.group=q.group:=by omega
 have e2:p.page=q.page:=by omega
 have e3:p.foot=q.foot:=by omega
 cases p;cases q;simp_all
theorem Sw {a b:List ColB} (ha:jU a=true) (hb:jU b=true) (ca:∀ c ∈ a,c.cells=[]) (cb:∀ c ∈ b,c.cells=[]) (h:a.map QX=b.map QX):a=b:=by
 have hl:a.length=b.length:=by have:=congrArg List.length h;simpa using this
 have parts:∀ {t:List ColB},jU t=true→∀ k (hk:k < t.length),0≤(t[k]).kind∧0≤(t[k]).key:=by
  intro t ht k hk
  simp only [jU,Bool.and_eq_true] at ht
  obtain ⟨_,h1,h2,_⟩:=QB (QP ht.1 (Nat.le_refl _) k hk).1
  exact ⟨by omega,h2⟩
 apply List.ext_getElem hl
 intro k h1 h2
 have e:QX a[k]=QX b[k]:=by
  have:(a.map QX)[k]'(by simpa using h1)=(b.map QX)[k]'(by simpa using h2):=by simp only [h]
  simpa using this
 obtain ⟨p1,p2⟩:=parts ha k h1
 obtain ⟨q1,q2⟩:=parts hb k h2
 have c1:=ca a[k] (List.getElem_mem h1)
 have c2:=cb b[k] (List.getElem_mem h2)
 generalize a[k]=x at *
 generalize b[k]=y at *
 simp only [QX,Prod.mk.injEq] at e
 obtain ⟨e1,e2,e3⟩:=e
 have k1:x.kind=y.kind:=by omega
 have k2:x.key=y.key:=by omega
 cases x;cases y;simp_all
theorem Yl {foot:Nat} {parts footer:List UInt8} {S S':SheetF} (h:SheetOk foot parts footer S) (h':SheetOk foot parts footer S'):S=S':=by
 have hf:=h.footer.symm.trans h'.footer
 obtain ⟨e1,e2,e3,e4,e5,e6⟩:=KX (Ql h) (Ql h') hf
 have hp:=DH h.plan h'.plan (h.told.trans h'.told.symm) e2 e3 e4
 have hc:=Sw h.heads h'.heads h.bare h'.bare e5
 have hm:=h.parts.symm.trans h'.parts
 have hs:qy S=qy S':=by unfold qy;rw [e1,hp,hc]
 rw [hs,hc] at hm
 have m1:=h.mods
 rw [hs,hc] at m1
 have e7:=IY m1 h'.mods hm
 cases S;cases S';simp_all
end
end Go.Proofs.YthhpbhpfagoapaaGreat
