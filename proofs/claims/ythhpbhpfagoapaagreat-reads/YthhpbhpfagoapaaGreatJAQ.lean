import Derived.Test.YthhpbhpfagoapaaGreatJAA
import Derived.Test.YthhpbhpfagoapaaGreatJAP
import Derived.Test.YthhpbhpfagoapaaGreatJAO
namespace Go.Proofs.YthhpbhpfagoapaaGreat
set_option linter.unusedVariables false
set_option linter.unusedSimpArgs false
set_option maxRecDepth 100000
set_option maxHeartbeats 16000000
open Go.RowKit
section
def jO (l:List CellB):List Value:=l.flatMap fun c=>[.bool c.null,.int .i64 c.int,strB c.text]
theorem Jt (l:List CellB):(jO l).length=l.length*3:=by
 induction l with
 | nil=>rfl
 | cons c l ih=>simp only [jO,a9,ab,aH,aR] at ih ⊢;omega
theorem Js (a b:List CellB):jO (a++b)=jO a++jO b:=by simp [jO]
theorem KW (l:List CellB):∀ (j:Nat) (h:j < l.length),(jO l)[j*3]?=some (.bool (l[j]).null)∧(jO l)[j*3+1]?=some (.int .i64 (l[j]).int)∧(jO l)[j*3+2]?=some (strB (l[j]).text):=by
 induction l with
 | nil=>intro j h;simp at h
 | cons c l ih =>
  intro j h
  cases j with
  | zero=>simp [jO]
  | succ j =>
   have hj:j < l.length:=by simpa using h
   have e:jO (c :: l)=[.bool c.null,.int .i64 c.int,strB c.text]++jO l:=by simp [jO]
   obtain ⟨h1,h2,h3⟩:=ih j hj
   rw [e]
   refine ⟨?_,?_,?_⟩
   ·rw [aU (by simp;omega)]
    simpa [show (j+1)*3 - 3=j*3 by omega] using h1
   ·rw [aU (by simp;omega)]
    simpa [show (j+1)*3+1 - 3=j*3+1 by omega] using h2
   ·rw [aU (by simp;omega)]
    simpa [show (j+1)*3+2 - 3=j*3+2 by omega] using h3
theorem JF {w:World} {base n:Nat} {v:Value} {l:List CellB} (h:w.ownsRow base 58 3 v n (jO l)) (hok:∀ c ∈ l,okC c) :
  ∃ a cap,v=.slice a l.length cap∧n=l.length∧Lies w a l:=by
 have hn:n=l.length:=by have:=h.1;rw [Jt] at this;omega
 subst hn
 rcases h.2 with ⟨rfl,h0⟩|⟨g,cap,cur,rfl,_,hg,_⟩
 ·have:l=[]:=ao h0
  subst this
  exact ⟨none,0,rfl,rfl,hok,fun hne=>absurd rfl hne⟩
 ·refine ⟨_,_,rfl,rfl,hok,fun _=>⟨g,0,rfl,(h.lt g rfl).2,fun j hj=>?_⟩⟩
  obtain ⟨h1,h2,h3⟩:=KW l j hj
  simp only [bK]
  exact ⟨by rw [h.cellAt (j*3) (by omega)];exact h1,by rw [h.cellAt (j*3+1) (by omega)];exact h2,by rw [h.cellAt (j*3+2) (by omega)];exact h3⟩
theorem Tryz.infoCell:(Tryz.prog.info? 58).map (fun i=>(i.zero,i.size,i.bytes))=some (some (.agg #[.bool false,.int .i64 0,.string ⟨#[]⟩]),3,32):=by kernel_rfl
theorem qq (w:World) (C:Array Value) (t:TypeId):∀ (j:Nat) (u:Value),C.toList[j]?=some u→(w.alloc (.cells C t)).cell? ((⟨w.heap.size,0,none⟩:Addr).add j)=some u:=by
 intro j u h
 have:(⟨w.heap.size,0,none⟩:Addr).add j=⟨w.heap.size,j,none⟩:=by unfold Addr.add;split<;>simp_all
 rw [this,World.cell?_alloc_mark]
 simpa using h
theorem RV {w wr w2:World} {v v':Value} {n:Nat} {l:List CellB} {c:CellB} {o:Obj} (hB:Below w.heap.size w wr) (hn:n=l.length)
  (hl:wr.ownsRow w.heap.size 58 3 v n (jO l)) (hl2:w2.ownsRow w.heap.size 58 3 v' (n+1) (jO l++[.bool c.null,.int .i64 c.int,strB c.text])) (hg:(wr.alloc o).grownBy w2 v.ownBlock) :
  w2.ownsRow w.heap.size 58 3 v' (l++[c]).length (jO (l++[c]))∧Below w.heap.size w w2:=by
 have hz:=hB.size
 subst hn
 refine ⟨?_,(hB.alloc hz o).grown hg (by simp;omega) (fun k hk=>(hl.lt k hk).1)⟩
 rw [Js,ab]
 exact hl2
theorem EZ (l:List CellB) (k:Nat) (h:k < l.length):je (l.take (k+1))=je (l.take k)++(if (l[k]).null=true then [] else [l[k]]):=by
 unfold je
 rw [ax h,cu]
 congr 1
 cases hc:(l[k]).null<;>simp [hc]
theorem Dg (l:List CellB) (k:Nat):(je (l.take k)).length≤k:=by
 have h1:(je (l.take k)).length≤(l.take k).length:=bE _ _
 have h2:(l.take k).length≤k:=List.length_take_le _ _
 omega
theorem NF (a:Option Addr) (cap:Nat) (l:List CellB) (w:World) (hn:l.length≤1000) (hl:Lies w a l) :
  Calls Tryz.prog 114 #[.slice a l.length cap] w fun e w'=>∃ v,e=.returned v∧w'.ownsRow w.heap.size 58 3 v (je l).length (jO (je l))∧Below w.heap.size w w':=by
 obtain ⟨i1,hi1,hy0,hy1,hy2⟩:=info_parts Tryz.infoCell
 have Hl:=hid hl
 clear hl
 go_enter Tryz.func114,Tryz.ntmps114
 go_wp2
 go_loopw [3,4] (fun v i wr=>∃ k:Nat,k≤l.length∧i=.int .i64 k∧wr.ownsRow w.heap.size 58 3 v (je (l.take k)).length (jO (je (l.take k)))∧Below w.heap.size w wr) (fun _ i _=>l.length - (intOf i).toNat)
 case atStart=>exact ⟨0,ah _,rfl,World.ownsRow_nil _ _ _ _,Below.refl _ _⟩
 case round =>
  obtain ⟨k,hkl,rfl,hown,hB⟩:=hrel
  by_cases hlt:k < l.length
  ·obtain ⟨b,off,rfl,hbw,hcell⟩:=(Hl.out.later hB).at_ (ai (by omega))
   obtain ⟨g1,g2,g3⟩:=hcell k hlt
   clear hcell
   have HF:=hid (EZ l k hlt)
   have hvl:=Dg l k
   generalize je (l.take k)=vs at *
   cases hnull:(l[k]).null with
   | true =>
    have HF2:Hid (je (l.take (k+1))=vs):=by have:=HF.out;rw [hnull] at this;simpa [Hid] using this
    rw [hnull] at g1
    clear HF hnull
    go_wp2
    go_roundw
    case rel=>exact ⟨k+1,by omega,by go_num,by rw [HF2.out];exact hown,hB⟩
    case measure=>simp [intOf];omega
   | false =>
    have HF2:Hid (je (l.take (k+1))=vs++[l[k]]):=by have:=HF.out;rw [hnull] at this;simpa [Hid] using this
    have HN:=hid hnull
    rw [hnull] at g1
    clear HF hnull
    go_wp2_with (at_builtin;refine wpList_append_own _ rfl (.tmp 17) (.tmp 22) 59 rfl w.heap.size 58 i1 (.agg #[.bool false,.int .i64 0,.string ⟨#[]⟩]) 3 32 Tryz.underlying59 hi1 hy0 hy1 hy2 rfl (by decide) _ _ _ rfl (hown.alloc _) ⟨_,0,none⟩ 1 1 [.bool false,.int .i64 (l[k]).int,strB (l[k]).text] rfl rfl ?c1 ?c2 ?c3 ?c4 ?c5 ?_)
    case c1=>exact qq wr #[.bool false,.int .i64 (l[k]).int,strB (l[k]).text] 58
    case c2=>intro u hu;simp at hu;rcases hu with rfl|rfl|rfl<;>rfl
    case c3=>unfold maxLen;omega
    case c4=>omega
    case c5=>have:=hB.size;simp;omega
    intro v2 w2 hl2 hg2 _
    have HR:=hid (RV (c:=l[k]) hB rfl hown (by rw [HN.out];exact hl2) hg2)
    clear hl2 hg2 hB hown g1 g2 g3
    go_wp2
    go_roundw
    case rel=>exact ⟨k+1,by omega,by go_num,by rw [HF2.out];exact HR.out.1,HR.out.2⟩
    case measure=>simp [intOf];omega
  ·have hk5:k=l.length:=by omega
   subst hk5
   rw [aF] at hown
   go_wp2
   go_ret
   exact ⟨_,rfl,hown,hB⟩
theorem Lo (a:Option Addr) (cap i:Nat) (b:Bool) (l:List CellB) (w:World) (hn:l.length≤1000) (hi:i≤l.length) (hl:Lies w a l) :
  Calls Tryz.prog 174 #[.slice a l.length cap,.int .i64 (i:Int),.bool b] w fun e w'=>e=.returned (.int .i64 (rowB b (l.drop i):Int))∧w'=w:=by
 have Hl:=hid hl
 clear hl
 have hr:=Ki b (l.drop i)
 rw [an] at hr
 go_enter Tryz.func174,Tryz.ntmps174
 go_wp2
 go_loop [7] (fun n=>∃ m:Nat,m≤rowB b (l.drop i)∧n=.int .i64 (m:Int)) (fun n=>1000 - (intOf n).toNat)
 case atStart=>exact ⟨0,ah _,rfl⟩
 case round =>
  obtain ⟨m,hm,rfl⟩:=hrel
  by_cases hlt:m < rowB b (l.drop i)
  ·obtain ⟨h1,h2⟩:=Np b (l.drop i) m hlt
   rw [an] at h1
   rw [aZ] at h2
   have hil:i+m < l.length:=by omega
   obtain ⟨bb,off,rfl,hbw,hcell⟩:=Hl.out.at_ (ai (by omega))
   obtain ⟨g1,g2,g3⟩:=hcell (i+m) hil
   rw [h2] at g1
   clear hcell h2 g2 g3
   have hit:(i:Int)+(m:Int) < (l.length:Int):=by omega
   go_wp2
   go_round
   case rel=>exact ⟨m+1,by omega,by go_num⟩
   case measure=>simp [intOf];omega
  ·have hme:m=rowB b (l.drop i):=by omega
   have HM:=hid hme
   by_cases hend:i+m < l.length
   ·have hlen:rowB b (l.drop i) < (l.drop i).length:=by rw [an];omega
    have h2:=RC b (l.drop i) hlen
    have h3:(l[i+m]'hend).null=!b:=by
     rw [← h2,aZ]
     congr 2
     omega
    obtain ⟨bb,off,rfl,hbw,hcell⟩:=Hl.out.at_ (ai (by omega))
    obtain ⟨g1,g2,g3⟩:=hcell (i+m) hend
    rw [h3] at g1
    clear hcell h2 h3 g2 g3 hme hlen
    have hit:(i:Int)+(m:Int) < (l.length:Int):=by omega
    cases b
    all_goals
     simp only [Bool.not_false,Bool.not_true] at g1
     go_wp2
     go_ret
     exact ⟨xm (by rw [← HM.out]),rfl⟩
   ·have hit:(l.length:Int)≤(i:Int)+(m:Int):=by omega
    clear hme
    go_wp2
    go_ret
    exact ⟨xm (by rw [← HM.out]),rfl⟩
theorem YK (l:List CellB) (i:Nat) (b:Bool) (h:i < l.length) :
  2*(l.length - (i+rowB b (l.drop i)))+(if rowB (!b) (l.drop (i+rowB b (l.drop i)))=0 then 1 else 0) < 2*(l.length - i)+(if rowB b (l.drop i)=0 then 1 else 0):=by
 by_cases h0:rowB b (l.drop i)=0
 ·rw [h0,cP,aw rfl]
  have hne:rowB (!b) (l.drop i)≠0:=by
   have hd:l.drop i≠[]:=by intro e;have:=aT List.length e;simp at this;omega
   cases hl:l.drop i with
   | nil=>exact absurd hl hd
   | cons c t =>
    rw [hl] at h0
    simp only [rowB] at h0 ⊢
    have hc:¬ c.null=b:=by intro e;simp [e] at h0
    have hc2:c.null=!b:=by cases hn:c.null<;>cases b<;>simp_all
    simp [hc2]
  rw [aj hne]
  omega
 ·rw [aj h0]
  have hr:=Ki b (l.drop i)
  rw [an] at hr
  split<;>omega
def PR:Value→Bool
 | .bool b=>b
 | _=>false
theorem Ij (a:Option Addr) (cap:Nat) (l:List CellB) (w:World) (hn:l.length≤60) (hl:Lies w a l) :
  Calls Tryz.prog 115 #[.slice a l.length cap] w fun e w'=>e=.returned (strB (zC l))∧Below w.heap.size w w':=by
 have Hl:=hid hl
 clear hl
 have HH:=hid (XC l hn)
 go_enter Tryz.func115,Tryz.ntmps115
 go_wp2_with fail
 refine (Rg _ _ (by omega) (by omega)).mono ?_
 rintro e w1 ⟨rfl,hb1⟩
 rw [aY]
 go_wp2_with fail
 go_loopw [3,4,5] (fun s n i wr=>∃ (k:Nat) (b:Bool) (acc:List UInt8),k≤l.length∧i=.int .i64 (k:Int)∧n=.bool b∧s=strB acc∧acc++qV b (l.drop k)=zC l∧Below w.heap.size w wr)
  (fun _ n i _=>2*(l.length - (intOf i).toNat)+(if rowB (PR n) (l.drop (intOf i).toNat)=0 then 1 else 0))
 case atStart=>exact ⟨0,false,uB l.length,ah _,rfl,rfl,rfl,rfl,hb1⟩
 case round =>
  obtain ⟨k,b,acc,hk,rfl,rfl,rfl,hacc,hB⟩:=hrel
  have HA:=hid hacc
  have hal:acc.length≤1000:=by
   have h1:=HH.out
   have h2:=aT List.length hacc
   rw [ab] at h2
   omega
  clear hacc
  by_cases hlt:k < l.length
  ·have hne:l.drop k≠[]:=by intro e;have:=aT List.length e;simp at this;omega
   have HS:=hid (Xf b (l.drop k) hne)
   have HMs:=hid (YK l k b hlt)
   have hr:=Ki b (l.drop k)
   rw [an] at hr
   have hul:=jM (rowB b (l.drop k)) (by omega)
   clear hne
   go_wp2_with fail
   refine (Lo a cap k b l _ (by omega) hk (Hl.out.later hB)).mono ?_
   rintro e w2 ⟨rfl,rfl⟩
   generalize hrr:rowB b (l.drop k)=r at *
   have HRr:=hid hrr
   clear hrr
   go_wp2_with fail
   refine (Rg _ _ (by omega) (by omega)).mono ?_
   rintro e w3 ⟨rfl,hb3⟩
   rw [aY]
   have hB3:=hB.trans (hb3.mono hB.size)
   clear hb3
   go_wp2
   go_roundw
   case rel=>
    refine ⟨k+r,!b,acc++uB r,by omega,by go_num,rfl,by rw [xo],?_,hB3⟩
    rw [← HA.out,HS.out,af,bz]
   case measure=>
    have h5:=HMs.out
    have e1:((k:Int)+(r:Int)).toNat=k+r:=by omega
    simp only [intOf,PR,e1,aY,HRr.out]
    exact h5
  ·have hke:k=l.length:=by omega
   subst hke
   go_wp2
   go_ret
   exact ⟨qC (by rw [← HA.out];simp [qV]),hB⟩
end
section
theorem RW (a:Option Addr) (cap:Nat) (l:List CellB) (t:List UInt8) (w:World) (hn:l.length≤1000) (hl:Lies w a l) (hex:∃ c ∈ l,c.text=t) :
  Calls Tryz.prog 178 #[.slice a l.length cap,strB t] w fun e w'=>e=.returned (.int .i64 (jV l t:Int))∧w'=w:=by
 have Hl:=hid hl
 obtain ⟨hf1,hf2⟩:=QT l t hex
 have HF2:=hid hf2
 have HF3:=hid (VQ l t)
 obtain ⟨b,off,rfl,hbw,hcell⟩:=hl.at_ (ai (by omega))
 have Hcell:=hid hcell
 clear hl hf2 hex hcell
 go_enter Tryz.func178,Tryz.ntmps178
 go_wp2
 go_loop [5] (fun i=>∃ m:Nat,m≤jV l t∧i=.int .i64 (m:Int)) (fun i=>1000 - (intOf i).toNat)
 case atStart=>exact ⟨0,ah _,rfl⟩
 case round =>
  obtain ⟨m,hm,rfl⟩:=hrel
  have hml:m < l.length:=by omega
  obtain ⟨g1,g2,g3⟩:=Hcell.out m hml
  by_cases hlt:m < jV l t
  ·have hne:((l[m]'hml).text == t)=false:=by simpa using HF3.out m hlt hml
   generalize (l[m]'hml).text=tx at *
   clear g1 g2
   go_wp2
   go_round
   case rel=>exact ⟨m+1,by omega,by go_num⟩
   case measure=>simp [intOf];omega
  ·have hme:m=jV l t:=by omega
   have HM:=hid hme
   have heq:(l[m]'hml).text=t:=by have:=HF2.out;subst hme;exact this
   rw [heq] at g3
   clear g1 g2 heq hme
   go_wp2
   go_ret
   exact ⟨xm (by rw [← HM.out]),rfl⟩
theorem Jr (a:Option Addr) (cap:Nat) (l:List CellB) (w:World) (hn:l.length≤1000) (hl:Lies w a l) :
  Calls Tryz.prog 175 #[.slice a l.length cap] w fun e w'=>∃ v,e=.returned v∧w'.ownsRow w.heap.size 58 3 v (qi l).length (jO (qi l))∧Below w.heap.size w w':=by
 obtain ⟨i1,hi1,hy0,hy1,hy2⟩:=info_parts Tryz.infoCell
 have Hl:=hid hl
 clear hl
 go_enter Tryz.func175,Tryz.ntmps175
 go_wp2
 go_loopw [3,4] (fun v i wr=>∃ k:Nat,k≤l.length∧i=.int .i64 k∧wr.ownsRow w.heap.size 58 3 v (qh l k).length (jO (qh l k))∧Below w.heap.size w wr) (fun _ i _=>l.length - (intOf i).toNat)
 case atStart=>exact ⟨0,ah _,rfl,World.ownsRow_nil _ _ _ _,Below.refl _ _⟩
 case round =>
  obtain ⟨k,hkl,rfl,hown,hB⟩:=hrel
  by_cases hlt:k < l.length
  ·have hlies:=Hl.out.later hB
   have HLi:=hid hlies
   obtain ⟨b,off,ha,hbw,hcell⟩:=hlies.at_ (ai (by omega))
   subst ha
   obtain ⟨g1,g2,g3⟩:=hcell k hlt
   clear hcell hlies
   have HF:Hid (qh l (k+1)=qh l k++(if jV l (xX l k).text=k then [xX l k] else [])):=rfl
   have HN:=hid (qg l k hlt)
   have hvl:=zA l k
   generalize qh l k=ds at *
   have hfl:=Gc l k hlt
   go_wp2_with fail
   refine (RW _ cap l (l[k]).text _ hn HLi.out ⟨l[k],al hlt,rfl⟩).mono ?_
   rintro e wr ⟨rfl,rfl⟩
   by_cases hfk:jV l (l[k]).text=k
   ·have HF2:Hid (qh l (k+1)=ds++[l[k]]):=by have:=HF.out;rw [HN.out,aw hfk] at this;exact this
    rw [hfk]
    clear HF hfk hfl
    go_wp2_with (at_builtin;refine wpList_append_own _ rfl (.tmp 22) (.tmp 27) 59 rfl w.heap.size 58 i1 (.agg #[.bool false,.int .i64 0,.string ⟨#[]⟩]) 3 32 Tryz.underlying59 hi1 hy0 hy1 hy2 rfl (by decide) _ _ _ rfl (hown.alloc _) ⟨_,0,none⟩ 1 1 [.bool (l[k]).null,.int .i64 (l[k]).int,strB (l[k]).text] rfl rfl ?c1 ?c2 ?c3 ?c4 ?c5 ?_)
    case c1=>exact qq wr #[.bool (l[k]).null,.int .i64 (l[k]).int,strB (l[k]).text] 58
    case c2=>intro u hu;simp at hu;rcases hu with rfl|rfl|rfl<;>rfl
    case c3=>unfold maxLen;omega
    case c4=>omega
    case c5=>have:=hB.size;simp;omega
    intro v2 w2 hl2 hg2 _
    have HR:=hid (RV (c:=l[k]) hB rfl hown hl2 hg2)
    clear hl2 hg2 hB hown g1 g2 g3
    go_wp2
    go_roundw
    case rel=>exact ⟨k+1,by omega,by go_num,by rw [HF2.out];exact HR.out.1,HR.out.2⟩
    case measure=>simp [intOf];omega
   ·have HF2:Hid (qh l (k+1)=ds):=by have:=HF.out;rw [HN.out,aj hfk] at this;simpa [Hid] using this
    have hfb:((jV l (l[k]).text:Int) == (k:Int))=false:=by simp;omega
    generalize jV l (l[k]).text=ff at *
    clear HF hfk hfl
    go_wp2
    go_roundw
    case rel=>exact ⟨k+1,by omega,by go_num,by rw [HF2.out];exact hown,hB⟩
    case measure=>simp [intOf];omega
  ·have hk5:k=l.length:=by omega
   subst hk5
   go_wp2
   go_ret
   exact ⟨_,rfl,hown,hB⟩
end
end Go.Proofs.YthhpbhpfagoapaaGreat
