import Derived.Test.YthhpbhpfagoapaaGreatJAP
import Derived.Test.YthhpbhpfagoapaaGreatJAK
import Derived.Test.YthhpbhpfagoapaaGreatXRChunk
import Derived.Test.YthhpbhpfagoapaaGreatJAO
import Derived.Test.YthhpbhpfagoapaaGreatJAX
import Derived.Test.YthhpbhpfagoapaaGreatJAH
import Derived.Test.YthhpbhpfagoapaaGreatJAQ
namespace Go.Proofs.YthhpbhpfagoapaaGreat
set_option linter.unusedVariables false
set_option linter.unusedSimpArgs false
set_option maxRecDepth 100000
set_option maxHeartbeats 16000000
section
open Go.RowKit
def markK:KeyB:=⟨-77,[109,97,114,107]⟩
theorem Rz (w:World) :
  Calls Tryz.prog 40 #[] w fun e w'=>e=.returned (keyV markK)∧Below w.heap.size w w':=by
 go_enter Tryz.func40,Tryz.ntmps40
 go_wp2
 exact bodyPost_ret (v:=keyV markK) (by simp [results,Tryz.results40,go_sem,keyV,markK]) rfl ⟨rfl,(Below.refl _ _).alloc (Nat.le_refl _) _⟩
def xV (l:List KeyB):List Value:=l.flatMap fun c=>[.int .i64 c.number,strB c.secret]
theorem JM (l:List KeyB):(xV l).length=l.length*2:=XZ _ 2 (fun _=>rfl) l
theorem UE (a b:List KeyB):xV (a++b)=xV a++xV b:=by simp [xV]
theorem UU (l:List KeyB) (j:Nat) (h:j < l.length):(xV l)[j*2]?=some (.int .i64 (l[j]).number)∧(xV l)[j*2+1]?=some (strB (l[j]).secret) :=
 ⟨Xj _ 2 (fun _=>rfl) l j 0 h (by decide),Xj _ 2 (fun _=>rfl) l j 1 h (by decide)⟩
theorem LiesK.cells {w:World} {b off:Nat} {l:List KeyB} (h:∀ j (h:j < l.length),
  w.cell? ⟨b,off+j*2,none⟩=some (.int .i64 (l[j]).number)∧w.cell? ⟨b,off+j*2+1,none⟩=some (strB (l[j]).secret)) :
  ∀ i v,(xV l)[i]?=some v→w.cell? ((⟨b,off,none⟩:Addr).add i)=some v:=by
 intro i v hi
 have hil:i < (xV l).length:=(List.getElem?_eq_some_iff.1 hi).1
 rw [JM] at hil
 have hj:i / 2 < l.length:=by omega
 obtain ⟨h1,h2⟩:=h (i / 2) hj
 obtain ⟨c1,c2⟩:=UU l (i / 2) hj
 have ha:(⟨b,off,none⟩:Addr).add i=⟨b,off+i,none⟩:=by unfold Addr.add;split<;>simp_all
 rw [ha]
 have hm:i % 2=0∨i % 2=1:=by omega
 rcases hm with hm|hm
 ·have e:i=i / 2*2:=by omega
  rw [e] at hi ⊢
  rw [c1] at hi
  rw [h1];exact hi
 ·have e:i=i / 2*2+1:=by omega
  rw [e] at hi ⊢
  rw [c2] at hi
  rw [← Nat.add_assoc,h2];exact hi
theorem Cd (l:List KeyB):∀ v ∈ xV l,v.oneCell'=true:=by
 intro v hv
 simp only [xV,List.mem_flatMap] at hv
 obtain ⟨c,_,hc⟩:=hv
 simp at hc
 rcases hc with rfl|rfl<;>rfl
theorem Ea:(Tryz.prog.info? 63).map (·.size)=some 2:=by kernel_rfl
theorem Tryz.infoKeyW:(Tryz.prog.info? 63).map (fun i=>(i.zero,i.size,i.bytes))=some (some (.agg #[.int .i64 0,.string ⟨#[]⟩]),2,24):=by kernel_rfl
theorem Mb (w:World) (ty:TypeId) (g n:Nat) (sa:Option Addr) (scap base:Nat) (l:List KeyB) (xs:List Value) (hln:l.length≤n)
  (hown:w.ownsRow base 63 2 (.slice (some ⟨g,0,none⟩) n n) n xs) (hl:LiesK w sa l) :
  ∃ w',(Builtin.copy_ #[27,27] ty #[.slice (some ⟨g,0,none⟩) n n,.slice sa l.length scap]).run Tryz.prog w=.ok (goInt l.length) w' ∧
   w'.ownsRow base 63 2 (.slice (some ⟨g,0,none⟩) n n) n (xV l++xs.drop (l.length*2))∧w.grownBy w' (some g):=by
 obtain ⟨hlen,hrow⟩:=hown
 rcases hrow with ⟨h',_⟩|⟨g',cap',cur,h',hb,hg,hnc,hcm,hcs,htake⟩
 ·simp at h'
 simp only [Value.slice.injEq,Option.some.injEq,Addr.mk.injEq,and_true,true_and] at h'
 obtain ⟨rfl,rfl⟩:=h'
 have hcl:=JM l
 have hfull:cur.toList=xs:=by rw [← htake,List.take_of_length_le (by rw [Array.length_toList,hcs];exact Nat.le_refl _)]
 have hmin:Nat.min l.length n=l.length:=Nat.min_eq_left hln
 by_cases hne:l=[]
 ·subst hne
  have hown1:w.ownsRow base 63 2 (.slice (some ⟨g,0,none⟩) n n) n xs:=⟨hlen,.inr ⟨g,n,cur,rfl,hb,hg,hnc,hcm,hcs,htake⟩⟩
  have e1:xV []++xs.drop (([]:List KeyB).length*2)=xs:=by simp [xV]
  have hown0:w.ownsRow base 63 2 (.slice (some ⟨g,0,none⟩) n n) n (xV []++xs.drop (([]:List KeyB).length*2)):=by rw [e1];exact hown1
  cases sa with
  | none=>exact ⟨w,Rc w 27 27 ty 63 g n n 2 scap Tryz.underlying27 Ea,hown0,World.grownBy.refl _ _⟩
  | some ad =>
   have hrun:=KW w 27 27 ty 63 g n n 2 ad 0 scap cur 63 [] Tryz.underlying27 Ea hg (by simp) (by simp) (by simp) (by simp)
   have hself:w.setRow g (([]:List Value)++cur.toList.drop ([]:List Value).length).toArray=w:=by
    simpa using setRow_self w g cur 63 (0,0) hg
   rw [hself] at hrun
   have e0:Nat.min 0 n=0:=Nat.min_eq_left (Nat.zero_le _)
   rw [e0] at hrun
   exact ⟨w,hrun,hown0,World.grownBy.refl _ _⟩
 ·obtain ⟨b,off,rfl,hbw,hcell⟩:=hl.at_ hne
  have hrun:=KW w 27 27 ty 63 g n n 2 ⟨b,off,none⟩ l.length scap cur 63 (xV l) Tryz.underlying27 Ea hg (by rw [hmin,hcl]) (LiesK.cells hcell) (by rw [hcl,hcs];omega) (Cd l)
  rw [hmin,hfull] at hrun
  refine ⟨_,hrun,⟨?_,.inr ⟨g,n,_,rfl,hb,setRow_heap w g cur _ 63 _ hg,hnc,hcm,?_,?_⟩⟩,⟨rfl,rfl,rfl,by simp,fun k _ hk=>setRow_other w g k _ (fun e=>hk (by simp [e]))⟩⟩
  ·rw [List.length_append,List.length_drop,hcl,hlen];omega
  ·simp only [List.size_toArray,List.length_append,List.length_drop,hcl,hlen];omega
  ·rw [List.toList_toArray,hcl,List.take_of_length_le (by rw [List.length_append,List.length_drop,hcl,hlen];omega)]
def XE:KeyB:=⟨0,[]⟩
def Js (l:List KeyB) (k:Nat):List KeyB:=l++List.replicate k markK++List.replicate (8 - k) XE
theorem Ax (n:Nat):xV (List.replicate n XE)=(madeCells (Value.agg #[.int .i64 0,.string ⟨#[]⟩]).cells (n*2)).toList:=by
 apply List.ext_getElem?
 intro i
 by_cases h:i < n*2
 ·have hj:i / 2 < (List.replicate n XE).length:=by simp;omega
  obtain ⟨c1,c2⟩:=UU (List.replicate n XE) (i / 2) hj
  simp only [List.getElem_replicate] at c1 c2
  have hm:i % 2=0∨i % 2=1:=by omega
  have hz:(Value.agg #[.int .i64 0,.string ⟨#[]⟩]).cells=#[.int .i64 0,.string ⟨#[]⟩]:=rfl
  rcases hm with hm|hm
  ·have e:i=i / 2*2:=by omega
   rw [e,c1,hz]
   simp [madeCells,show i / 2*2 < n*2 by omega,XE]
  ·have e:i=i / 2*2+1:=by omega
   rw [e,c2,hz]
   simp [madeCells,show i / 2*2+1 < n*2 by omega,XE,show (i / 2*2+1) % 2=1 by omega]
 ·rw [List.getElem?_eq_none (by rw [JM];simp;omega),List.getElem?_eq_none (by rw [Array.length_toList,size_madeCells];omega)]
theorem Si (l:List KeyB):xV l++(xV (List.replicate (l.length+8) XE)).drop (l.length*2)=xV (Js l 0):=by
 have e:List.replicate (l.length+8) XE=List.replicate l.length XE++List.replicate 8 XE:=by rw [List.replicate_append_replicate]
 rw [e,UE,List.drop_left' (by rw [JM];simp)]
 simp [Js,UE]
theorem LE (A B:List KeyB) (z c:KeyB):((xV (A++z :: B)).set (A.length*2) (.int .i64 c.number)).set (A.length*2+1) (strB c.secret)=xV (A++c :: B):=by
 have hA:=JM A
 have e1:∀ d:KeyB,xV (A++d :: B)=xV A++(.int .i64 d.number :: strB d.secret :: xV B):=by intro d;simp [xV]
 rw [e1,e1,← hA]
 rw [List.set_append_right _ _ (Nat.le_refl _),List.set_append_right _ _ (by omega)]
 simp
theorem YY (l:List KeyB) (k:Nat) (hk:k < 8):Js l k=(l++List.replicate k markK)++XE :: List.replicate (7 - k) XE∧Js l (k+1)=(l++List.replicate k markK)++markK :: List.replicate (7 - k) XE:=by
 unfold Js
 constructor
 ·rw [show 8 - k=(7 - k)+1 by omega,List.replicate_succ]
 ·rw [show 8 - (k+1)=7 - k by omega,List.replicate_succ']
  simp
theorem Dx {W:World} {base g:Nat} {l:List KeyB} {k:Nat} (hk:k < 8) (h:W.ownsRow base 63 2 (.slice (some ⟨g,0,none⟩) (l.length+8) (l.length+8)) (l.length+8) (xV (Js l k))) :
  ((W.setCell ⟨g,(l.length+k)*2,none⟩ (.int .i64 markK.number)).setCell ⟨g,(l.length+k)*2+1,none⟩ (strB markK.secret)).ownsRow base 63 2 (.slice (some ⟨g,0,none⟩) (l.length+8) (l.length+8)) (l.length+8) (xV (Js l (k+1))):=by
 have h1:=(h.stored ((l.length+k)*2) (.int .i64 markK.number)).1
 have h2:=(h1.stored ((l.length+k)*2+1) (strB markK.secret)).1
 obtain ⟨e1,e2⟩:=YY l k hk
 rw [e1] at h2
 rw [e2,← LE (l++List.replicate k markK) (List.replicate (7 - k) XE) XE markK]
 have hl:(l++List.replicate k markK).length=l.length+k:=by simp
 rw [hl]
 exact h2
theorem PI {W:World} {base g n:Nat} {xs:List Value} (h:W.ownsRow base 63 2 (.slice (some ⟨g,0,none⟩) n n) n xs) (j:Nat) (hj:j < n) :
  (∃ v,W.cell? ⟨g,j*2,none⟩=some v)∧(∃ v,W.cell? ⟨g,j*2+1,none⟩=some v):=by
 have hl:=h.1
 refine ⟨?_,?_⟩
 ·rw [h.cellAt (j*2) (by omega),List.getElem?_eq_getElem (by omega)];exact ⟨_,rfl⟩
 ·rw [h.cellAt (j*2+1) (by omega),List.getElem?_eq_getElem (by omega)];exact ⟨_,rfl⟩
theorem IZ (a:Option Addr) (cap:Nat) (l:List KeyB) (w:World) (hm:l.length*24≤140737488351232) (hl:LiesK w a l) :
  Calls Tryz.prog 11 #[.slice a l.length cap] w fun e w'=>∃ g,e=.returned (.slice (some ⟨g,0,none⟩) l.length (l.length+8)) ∧
   w'.ownsRow w.heap.size 63 2 (.slice (some ⟨g,0,none⟩) (l.length+8) (l.length+8)) (l.length+8) (xV (Js l 8))∧Below w.heap.size w w':=by
 obtain ⟨i1,hi1,hy0,hy1,hy2⟩:=info_parts Tryz.infoKeyW
 have Hl:=hid hl
 clear hl
 go_enter Tryz.func11,Tryz.ntmps11
 go_wp2_with (at_make;refine wpList_make_full _ rfl (.tmp 9) (.tmp 9) 27 rfl w.heap.size 63 i1 (.agg #[.int .i64 0,.string ⟨#[]⟩]) 2 Tryz.underlying27 hi1 hy0 hy1 .i64 .i64 _ _ (l.length+8) rfl rfl (by omega) (by omega) (by rw [hy2];omega) (by unfold maxLen;omega) (Nat.le_refl _) ?_;intro w3 hown hgr;rw [← Ax] at hown;obtain ⟨w4,hrun,hown4,hgr4⟩:=Mb w3 3 w.heap.size (l.length+8) a cap w.heap.size l _ (by omega) hown (Hl.out.later ((Below.refl _ _).grown hgr (Nat.le_refl _) (fun _ h=>by cases h))))
 rw [Si] at hown4
 have hB3:Below w.heap.size w w3:=(Below.refl _ _).grown hgr (Nat.le_refl _) (fun _ h=>by cases h)
 have hB4:Below w.heap.size w w4:=hB3.grown hgr4 hB3.size (fun k h=>by cases h;exact Nat.le_refl _)
 have hG:w.heap.size < w4.heap.size:=(hown4.lt _ rfl).2
 clear hown hgr hgr4 hrun hB3
 generalize hgg:w.heap.size=g at *
 go_loopw [5] (fun i wr=>∃ k:Nat,k≤8∧i=.int .i64 (k:Int)∧wr.ownsRow g 63 2 (.slice (some ⟨g,0,none⟩) (l.length+8) (l.length+8)) (l.length+8) (xV (Js l k))∧Below g w wr∧g < wr.heap.size) (fun i _=>8 - (intOf i).toNat)
 case atStart=>exact ⟨0,Nat.zero_le _,rfl,hown4,hB4,hG⟩
 case round =>
  clear hown4 hB4 hG
  obtain ⟨k,hk,rfl,hown,hB,hG⟩:=hrel
  by_cases hlt:k < 8
  ·go_wp2_with fail
   refine (Rz _).mono ?_
   rintro e w5 ⟨rfl,hb5⟩
   have hown5:=hown.kept (Yv hb5) (.inr (by simp [Value.ownBlock]))
   have hzl:(xV (Js l k)).length=(l.length+8)*2:=hown5.1
   obtain ⟨⟨e1,d1⟩,⟨e2,d2⟩⟩:=PI hown5 (l.length+k) (by omega)
   have f1:=hown5.frozenAt ((l.length+k)*2)
   have f2:=hown5.frozenAt ((l.length+k)*2+1)
   have HR:=hid (Dx hlt hown5)
   have hz5:=hb5.size
   have HB5:=hid (((hB.trans (hb5.mono (Nat.le_of_lt hG))).setCell (p:=⟨g,(l.length+k)*2,none⟩) (Nat.le_refl _) (.int .i64 markK.number)).setCell (p:=⟨g,(l.length+k)*2+1,none⟩) (Nat.le_refl _) (strB markK.secret))
   clear hown hown5 hB hb5 hzl
   go_wp2
   go_roundw
   case rel=>exact ⟨k+1,by omega,by go_num,HR.out,HB5.out,by simp;omega⟩
   case measure=>simp [intOf];omega
  ·have hk8:k=8:=by omega
   subst hk8
   go_wp2
   go_ret
   exact ⟨g,rfl,by rw [hgg];exact hown,by rw [hgg];exact hB⟩
theorem Tm (a a2:Option Addr) (cap cap2:Nat) (l:List KeyB) (w:World) (hm:l.length≤maxLen) (hl:LiesK w a l) (hl2:LiesK w a2 l) :
  Calls Tryz.prog 47 #[.slice a l.length cap,.slice a2 l.length cap2] w fun e w'=>e=.returned (.bool true)∧Below w.heap.size w w':=by
 have Hl:=hid hl
 have Hl2:=hid hl2
 clear hl hl2
 unfold maxLen at hm
 have hne:((l.length:Int) != (l.length:Int))=false:=by simp
 go_enter Tryz.func47,Tryz.ntmps47
 go_wp2
 go_loopw [5] (fun i wr=>∃ k:Nat,k≤l.length∧i=.int .i64 (k:Int)∧Below w.heap.size w wr) (fun i _=>l.length - (intOf i).toNat)
 case atStart=>exact ⟨0,Nat.zero_le _,rfl,Below.refl _ _⟩
 case round =>
  obtain ⟨k,hk,rfl,hB⟩:=hrel
  by_cases hlt:k < l.length
  ·obtain ⟨b,off,rfl,hbw,hcell⟩:=(Hl.out.later hB).at_ (List.ne_nil_of_length_pos (by omega))
   obtain ⟨g1,g2⟩:=hcell k hlt
   obtain ⟨b',off',rfl,hbw',hcell'⟩:=(Hl2.out.later hB).at_ (List.ne_nil_of_length_pos (by omega))
   obtain ⟨k1,k2⟩:=hcell' k hlt
   clear hcell hcell'
   generalize l[k]=c at *
   have hki:(k:Int) < (l.length:Int):=by omega
   go_wp2_with fail
   go_quiet (fail)
   go_wp2_with fail
   go_roundw
   case rel=>exact ⟨k+1,by omega,by go_num,below_drewN hB nq⟩
   case measure=>simp [intOf];omega
  ·go_wp2
   go_ret
   exact ⟨rfl,hB⟩
theorem Gc {W:World} {base g n:Nat} {l r:List KeyB} (h:W.ownsRow base 63 2 (.slice (some ⟨g,0,none⟩) n n) n (xV (l++r))) (hok:∀ c ∈ l,DB c):LiesK W (some ⟨g,0,none⟩) l:=by
 refine ⟨hok,fun hne=>⟨g,0,rfl,(h.lt g rfl).2,fun j hj=>?_⟩⟩
 have hn:=h.1
 rw [JM,List.length_append] at hn
 obtain ⟨h1,h2⟩:=UU (l++r) j (by rw [List.length_append];omega)
 rw [List.getElem_append_left hj] at h1 h2
 simp only [Nat.zero_add]
 exact ⟨by rw [h.cellAt (j*2) (by omega)];exact h1,by rw [h.cellAt (j*2+1) (by omega)];exact h2⟩
theorem Zz (l:List KeyB):Js l 8=l++List.replicate 8 markK:=by simp [Js]
theorem EZ {W:World} {base g:Nat} {l:List KeyB} (h:W.ownsRow base 63 2 (.slice (some ⟨g,0,none⟩) (l.length+8) (l.length+8)) (l.length+8) (xV (Js l 8))) (k:Nat) (hk:k < 8) :
  W.cell? ⟨g,(l.length+k)*2,none⟩=some (.int .i64 markK.number)∧W.cell? ⟨g,(l.length+k)*2+1,none⟩=some (strB markK.secret):=by
 rw [Zz] at h
 obtain ⟨h1,h2⟩:=UU (l++List.replicate 8 markK) (l.length+k) (by simp;omega)
 have e:(l++List.replicate 8 markK)[l.length+k]'(by simp;omega)=markK:=by rw [List.getElem_append_right (by omega)];simp only [List.getElem_replicate]
 rw [e] at h1 h2
 exact ⟨by rw [h.cellAt _ (by omega)];exact h1,by rw [h.cellAt _ (by omega)];exact h2⟩
theorem NZ (a:Option Addr) (cap g base:Nat) (l:List KeyB) (w:World) (hm:l.length*24≤140737488351232) (hl:LiesK w a l)
  (hown:w.ownsRow base 63 2 (.slice (some ⟨g,0,none⟩) (l.length+8) (l.length+8)) (l.length+8) (xV (Js l 8))) :
  Calls Tryz.prog 14 #[.slice (some ⟨g,0,none⟩) l.length (l.length+8),.slice a l.length cap] w fun e w'=>e=.returned (.bool true)∧Below w.heap.size w w':=by
 have Hl:=hid hl
 have Hown:=hid hown
 have hG:g < w.heap.size:=(hown.lt g rfl).2
 clear hl hown
 go_enter Tryz.func14,Tryz.ntmps14
 go_wp2_with fail
 refine (Tm _ a (l.length+8) cap l _ (by unfold maxLen;omega) (Gc (by have:=Hown.out;rw [Zz] at this;exact this) Hl.out.ok) Hl.out).mono ?_
 rintro e w1 ⟨rfl,hb1⟩
 go_wp2_with fail
 go_loopw [8] (fun i wr=>∃ k:Nat,k≤8∧i=.int .i64 (k:Int)∧Below w.heap.size w wr) (fun i _=>8 - (intOf i).toNat)
 case atStart=>exact ⟨0,Nat.zero_le _,rfl,hb1⟩
 case round =>
  clear hb1
  obtain ⟨k,hk,rfl,hB⟩:=hrel
  by_cases hlt:k < 8
  ·obtain ⟨g1,g2⟩:=EZ Hown.out k hlt
   have d1:=(hB.cell (p:=⟨g,(l.length+k)*2,none⟩) hG).trans g1
   have d2:=(hB.cell (p:=⟨g,(l.length+k)*2+1,none⟩) hG).trans g2
   have hGr:g < wr.heap.size:=Nat.lt_of_lt_of_le hG hB.size
   have hki:(l.length:Int)+(k:Int) < (l.length:Int)+8:=by omega
   have hk0:(0:Int)≤(l.length:Int)+(k:Int):=by omega
   have hkw:IntKind.i64.wrap ((l.length:Int)+(k:Int))=(l.length:Int)+(k:Int):=IntWalk.i64_in _ ⟨by omega,by omega⟩
   have htn:((l.length:Int)+(k:Int)).toNat=l.length+k:=by omega
   have hmk:=hid Rz
   clear g1 g2 Hown
   generalize markK=mc at *
   go_wp2_with fail
   go_region_with (go_at_call 40;refine (hmk.out _).mono ?_;rintro e w5 ⟨rfl,hb5⟩;have x1:=(hb5.cell (p:=⟨g,(l.length+k)*2,none⟩) hGr).trans d1;have x2:=(hb5.cell (p:=⟨g,(l.length+k)*2+1,none⟩) hGr).trans d2)
   all_goals
    go_wp2_with fail
    go_roundw
    case rel=>exact ⟨k+1,by omega,by go_num,hB.trans ((ji hb5).mono hB.size)⟩
    case measure=>simp [intOf];omega
  ·have hk8:k=8:=by omega
   subst hk8
   go_wp2
   go_ret
   exact ⟨rfl,hB⟩
end
section
open Go.RowKit
structure Touch2 (w w':World) (p q:Nat):Prop where
 os:w'.os=w.os
 tape:w'.tape=w.tape
 output:w'.output=w.output
 size:w.heap.size≤w'.heap.size
 block:∀ k,k < w.heap.size→k≠p→k≠q→w'.heap[k]?=w.heap[k]?
theorem Touch2.refl (w:World) (p q:Nat):Touch2 w w p q:=⟨rfl,rfl,rfl,Nat.le_refl _,fun _ _ _ _=>rfl⟩
theorem Touch2.grown {w a b:World} {p q:Nat} {r:Option Nat} (h:Touch2 w a p q) (hg:a.grownBy b r) (hr:∀ k,r=some k→k=p∨k=q∨w.heap.size≤k):Touch2 w b p q:=by
 refine ⟨hg.os.trans h.os,hg.tape.trans h.tape,hg.output.trans h.output,Nat.le_trans h.size hg.size,fun k hk h1 h2=>?_⟩
 rw [hg.block k (Nat.lt_of_lt_of_le hk h.size) ?_]
 ·exact h.block k hk h1 h2
 ·intro e
  have:=hr k e.symm
  omega
theorem Touch2.later {w a b:World} {p q:Nat} (h:Touch2 w a p q) (hb:Below a.heap.size a b):Touch2 w b p q:=h.grown (jz (jL a none) hb) (fun k hk=>by cases hk)
theorem Touch2.below {w a:World} {p q B:Nat} (h:Touch2 w a p q) (hp:B≤p) (hq:B≤q) (hB:B≤w.heap.size):Below B w a:=⟨h.os,h.tape,h.output,h.size,fun k hk=>h.block k (by omega) (by omega) (by omega)⟩
theorem Touch2.keeps {w a:World} {p q k:Nat} {o:Obj} (h:Touch2 w a p q) (hk:w.heap[k]?=some o) (h1:k≠p) (h2:k≠q):a.heap[k]?=some o :=
 (h.block k (Array.getElem?_eq_some_iff.1 hk).1 h1 h2).trans hk
theorem Touch2.owns {w a:World} {p q base e size n:Nat} {v:Value} {xs:List Value} {Cp Cq:Array Value} {tp tq:TypeId} (h:Touch2 w a p q) (ho:w.ownsRow base e size v n xs) (hp:w.heap[p]?=some (.cells Cp tp (0,0))) (hq:w.heap[q]?=some (.cells Cq tq (0,0))) (h1:tp≠e) (h2:tq≠e):a.ownsRow base e size v n xs:=by
 refine ⟨ho.1,?_⟩
 rcases ho.2 with hn|⟨g,cap,cur,rfl,hb',hg',rest⟩
 ·exact .inl hn
 ·refine .inr ⟨g,cap,cur,rfl,hb',h.keeps hg' ?_ ?_,rest⟩
  ·rintro rfl
   rw [hg'] at hp
   cases hp
   exact h1 rfl
  ·rintro rfl
   rw [hg'] at hq
   cases hq
   exact h2 rfl
def Zr (R G:Nat) (key:Int) (c:Nat) (Qm:Nat→Nat→ModF) (Pv:Nat→Nat→Value) (g:Nat):List Value:=[.int .i64 ((jv R G g:Nat):Int),Pv g c,strB [77],.int .i64 (g:Int),.int .i64 (c:Int),.int .i64 0,strB (jM key (Qm g c)).1,strB (jM key (Qm g c)).2]
def xN (R G:Nat) (key:Int) (c:Nat) (Qm:Nat→Nat→ModF) (Pv:Nat→Nat→Value) (k:Nat):List Value:=(List.range k).flatMap (Zr R G key c Qm Pv)
theorem Xz (R G:Nat) (key:Int) (c:Nat) (Qm:Nat→Nat→ModF) (Pv:Nat→Nat→Value) (k:Nat):xN R G key c Qm Pv (k+1)=xN R G key c Qm Pv k++Zr R G key c Qm Pv k:=by
 unfold xN
 rw [List.range_succ,List.flatMap_append]
 simp
theorem ZZ {R G:Nat} {key:Int} {c:Nat} {Qm Qm':Nat→Nat→ModF} {Pv Pv':Nat→Nat→Value} {k:Nat} (h1:∀ g,g < k→Qm g c=Qm' g c) (h2:∀ g,g < k→Pv g c=Pv' g c):xN R G key c Qm Pv k=xN R G key c Qm' Pv' k:=by
 induction k with
 | zero=>rfl
 | succ k ih =>
  rw [Xz,Xz,ih (fun g hg=>h1 g (by omega)) (fun g hg=>h2 g (by omega))]
  unfold Zr
  rw [h1 k (by omega),h2 k (by omega)]
structure ColIn (t:List ColB) (R G P base:Nat) (w:World) (c k:Nat) (v:Value) (Qp:Nat→Nat→List ModF) (Qm:Nat→Nat→ModF) (Pv:Nat→Nat→Value):Prop where
 row:w.ownsRow base 261 8 v k (xN R G (jk t c).key c Qm Pv k)
 pages:∀ g,g < k→w.ownsRow base 113 6 (Pv g c) (Qp g c).length (Jq (jk t c).key g c (Qp g c))
 ok:∀ g,g < k→ModsOk t (jh R G P g c) (Qp g c++[Qm g c])∧(Qp g c).length=jW (jv R G g) P
theorem ColIn.congr {t:List ColB} {R G P base:Nat} {w:World} {c k:Nat} {v:Value} {Qp Qp':Nat→Nat→List ModF} {Qm Qm':Nat→Nat→ModF} {Pv Pv':Nat→Nat→Value} (h:ColIn t R G P base w c k v Qp Qm Pv) (h1:∀ g,g < k→Qm g c=Qm' g c) (h2:∀ g,g < k→Pv g c=Pv' g c) (h3:∀ g,g < k→Qp g c=Qp' g c):ColIn t R G P base w c k v Qp' Qm' Pv':=by
 refine ⟨?_,fun g hg=>?_,fun g hg=>?_⟩
 ·rw [← ZZ h1 h2];exact h.row
 ·rw [← h2 g hg,← h3 g hg];exact h.pages g hg
 ·rw [← h1 g hg,← h3 g hg];exact h.ok g hg
theorem ColIn.keep {t:List ColB} {R G P base:Nat} {w w':World} {c k:Nat} {v:Value} {Qp:Nat→Nat→List ModF} {Qm:Nat→Nat→ModF} {Pv:Nat→Nat→Value} (h:ColIn t R G P base w c k v Qp Qm Pv)
  (h1:∀ n xs,w.ownsRow base 261 8 v n xs→w'.ownsRow base 261 8 v n xs) (h2:∀ u n xs,w.ownsRow base 113 6 u n xs→w'.ownsRow base 113 6 u n xs):ColIn t R G P base w' c k v Qp Qm Pv :=
 ⟨h1 _ _ h.row,fun g hg=>h2 _ _ _ (h.pages g hg),h.ok⟩
structure ShAt (t:List ColB) (R G P n Q p Kb:Nat) (H:List Value) (w0 w:World) (g c:Nat) (V:Nat→Value) (Qp:Nat→Nat→List ModF) (Qm:Nat→Nat→ModF) (Pv:Nat→Nat→Value):Prop where
 touch:Touch2 w0 w p Q
 sheet:w.heap[Q]?=some (.cells (H++[Value.slice (some ⟨Kb,0,none⟩) n n]).toArray 120 (0,0))
 new:w0.heap.size≤Kb
 kb:w.heap[Kb]?=some (.cells ((List.range n).map V).toArray 258 (0,0))
 cols:∀ i,i < n→ColIn t R G P w0.heap.size w i (if i < c then g+1 else g) (V i) Qp Qm Pv
 apart:∀ i j,i < n→j < n→i≠j→(V i).ownBlock=none∨(V i).ownBlock≠(V j).ownBlock
def upd {α:Type} (f:Nat→α) (c:Nat) (x:α):Nat→α:=fun i=>if i=c then x else f i
def QZ {α:Type} (f:Nat→Nat→α) (g c:Nat) (x:α):Nat→Nat→α:=fun i j=>if i=g∧j=c then x else f i j
theorem Sn {V:Nat→Value} {n c:Nat} {v:Value} (hc:c < n):((List.range n).map V).set c v=(List.range n).map (upd V c v):=by
 apply List.ext_getElem
 ·simp
 ·intro i h1 h2
  rw [List.getElem_set]
  simp only [List.getElem_map,List.getElem_range,upd]
  by_cases h:c=i
  ·rw [if_pos h,if_pos h.symm]
  ·rw [if_neg h,if_neg (fun e=>h e.symm)]
theorem ShAt.step {t:List ColB} {R G P n Q p Kb:Nat} {H:List Value} {w0 w w1 w2:World} {g c gg gc:Nat} {V:Nat→Value} {Qp:Nat→Nat→List ModF} {Qm:Nat→Nat→ModF} {Pv:Nat→Nat→Value} {s r:List UInt8} {mp:List ModF} {mm:ModF} {pv:Value} {o:Obj}
  (h:ShAt t R G P n Q p Kb H w0 w g c V Qp Qm Pv) (hc:c < n) (hrd:qp w p s r) (hpw:p < w0.heap.size) (hQw:Q < w0.heap.size) (hpQ:p≠Q)
  (hg1:w.grownBy w1 (some p)) (hpv:w1.ownsRow w.heap.size 113 6 pv mp.length (Jq (jk t c).key g c mp)) (hok:ModsOk t (jh R G P g c) (mp++[mm])) (hml:mp.length=jW (jv R G g) P)
  (hown:w2.ownsRow w0.heap.size 261 8 (.slice (some ⟨gg,0,none⟩) (g+1) gc) (g+1) (xN R G (jk t c).key c Qm Pv g++[.int .i64 ((jv R G g:Nat):Int),pv,strB [77],.int .i64 (g:Int),.int .i64 (c:Int),.int .i64 0,strB (jM (jk t c).key mm).1,strB (jM (jk t c).key mm).2]))
  (hg2:(w1.alloc o).grownBy w2 (V c).ownBlock) (hat:(V c).ownBlock=some gg∨gg=(w1.alloc o).heap.size) :
  ShAt t R G P n Q p Kb H w0 (w2.setCell ⟨Kb,c,none⟩ (.slice (some ⟨gg,0,none⟩) (g+1) gc)) g (c+1) (upd V c (.slice (some ⟨gg,0,none⟩) (g+1) gc)) (QZ Qp g c mp) (QZ Qm g c mm) (QZ Pv g c pv):=by
 have hcc:=h.cols c hc
 rw [if_neg (by omega)] at hcc
 have hrowc:=hcc.row
 have hrb:=xQ hrd
 have hrow1:=qk hrowc hg1 hrb (by decide)
 have hrowA:=hrow1.alloc o
 -- the block of the row is fresh
 have hfresh:∀ k,(V c).ownBlock=some k→w0.heap.size≤k:=fun k hk=>(hrowc.lt k hk).1
 have hneR:∀ (k:Nat) (C:Array Value) (T:TypeId),(w1.alloc o).heap[k]?=some (.cells C T (0,0))→T≠261→w2.heap[k]?=some (.cells C T (0,0)):=fun k C T hk hT=>jq hg2 hrowA hk hT
 have hs1:=h.touch.size
 have hs2:=hg1.size
 have hKp:Kb≠p:=by have:=h.new;omega
 have hKQ:Kb≠Q:=by have:=h.new;omega
 have hkb1:=jf hg1 h.kb hKp
 have hkb2:=hneR Kb _ _ (jt o hkb1) (by decide)
 have hsh1:=jf hg1 h.sheet (Ne.symm hpQ)
 have hsh2:=hneR Q _ _ (jt o hsh1) (by decide)
 have hset:=qn w2 Kb c (.slice (some ⟨gg,0,none⟩) (g+1) gc)
 have t1:Touch2 w0 w1 p Q:=h.touch.grown hg1 (fun k hk=>by cases hk;exact .inl rfl)
 have tA:Touch2 w0 (w1.alloc o) p Q:=t1.grown (World.grownBy_alloc w1 o none) (fun k hk=>by cases hk)
 have t2:Touch2 w0 w2 p Q:=tA.grown hg2 (fun k hk=>.inr (.inr (hfresh k hk)))
 have t3:=t2.grown hset (fun k hk=>by cases hk;exact .inr (.inr h.new))
 have keepP:∀ u n xs,w.ownsRow w0.heap.size 113 6 u n xs→(w2.setCell ⟨Kb,c,none⟩ (.slice (some ⟨gg,0,none⟩) (g+1) gc)).ownsRow w0.heap.size 113 6 u n xs:=by
  intro u n xs hu
  have a1:=(qk hu hg1 hrb (by decide)).alloc o
  exact qk (a1.kept hg2 (qc a1 hrowA (by decide))) hset hkb2 (by decide)
 refine ⟨t3,jf hset hsh2 hKQ.symm,h.new,?_,?_,?_⟩
 ·rw [heap_setCell_same w2 Kb c _ _ _ hkb2]
  congr 2
  rw [← Sn hc]
  simp
 ·intro i hi
  by_cases hic:i=c
  ·subst hic
   rw [if_pos (by omega)]
   refine ⟨?_,fun g' hg'=>?_,fun g' hg'=>?_⟩
   ·simp only [upd,if_true]
    rw [Xz]
    have e1:xN R G (jk t i).key i (QZ Qm g i mm) (QZ Pv g i pv) g=xN R G (jk t i).key i Qm Pv g:=ZZ (fun g' hg'=>by simp [QZ];omega) (fun g' hg'=>by simp [QZ];omega)
    rw [e1]
    have e2:Zr R G (jk t i).key i (QZ Qm g i mm) (QZ Pv g i pv) g=[.int .i64 ((jv R G g:Nat):Int),pv,strB [77],.int .i64 (g:Int),.int .i64 (i:Int),.int .i64 0,strB (jM (jk t i).key mm).1,strB (jM (jk t i).key mm).2]:=by simp [Zr,QZ]
    rw [e2]
    exact qk hown hset hkb2 (by decide)
   ·by_cases hgg:g'=g
    ·subst hgg
     simp only [QZ,and_self,if_true]
     have a1:=(jy hpv (show w0.heap.size≤w.heap.size from hs1)).alloc o
     exact qk (a1.kept hg2 (qc a1 hrowA (by decide))) hset hkb2 (by decide)
    ·have h1:=hcc.pages g' (by omega)
     simp only [QZ,hgg,false_and,if_false]
     exact keepP _ _ _ h1
   ·by_cases hgg:g'=g
    ·subst hgg
     simp only [QZ,and_self,if_true]
     exact ⟨hok,hml⟩
    ·simp only [QZ,hgg,false_and,if_false]
     exact hcc.ok g' (by omega)
  ·have hci:=h.cols i hi
   have hk:(if i < c+1 then g+1 else g)=(if i < c then g+1 else g):=by
    by_cases h1:i < c
    ·rw [if_pos h1,if_pos (by omega)]
    ·rw [if_neg h1,if_neg (by omega)]
   rw [hk]
   have hV:upd V c (.slice (some ⟨gg,0,none⟩) (g+1) gc) i=V i:=by simp [upd,hic]
   rw [hV]
   refine (hci.keep (fun n xs hu=>?_) keepP).congr (fun g' _=>by simp [QZ,hic]) (fun g' _=>by simp [QZ,hic]) (fun g' _=>by simp [QZ,hic])
   have a1:=(qk hu hg1 hrb (by decide)).alloc o
   exact qk (a1.kept hg2 (h.apart i c hi hc hic)) hset hkb2 (by decide)
 ·intro i j hi hj hij
  have hlt:∀ i,i < n→∀ k,(V i).ownBlock=some k→k < w.heap.size:=fun i hi k hk=>((h.cols i hi).row.lt k hk).2
  by_cases hic:i=c
  ·subst hic
   have hj':upd V i (.slice (some ⟨gg,0,none⟩) (g+1) gc) j=V j:=by simp [upd,Ne.symm hij]
   have hi':upd V i (.slice (some ⟨gg,0,none⟩) (g+1) gc) i=.slice (some ⟨gg,0,none⟩) (g+1) gc:=by simp [upd]
   rw [hj',hi']
   right
   show some gg≠_
   rcases hat with he|rfl
   ·rw [← he]
    rcases h.apart i j hi hj hij with h1|h1
    ·rw [h1] at he;cases he
    ·exact h1
   ·intro e
    have:=hlt j hj _ e.symm
    simp at this
    omega
  ·have hi':upd V c (.slice (some ⟨gg,0,none⟩) (g+1) gc) i=V i:=by simp [upd,hic]
   rw [hi']
   by_cases hjc:j=c
   ·subst hjc
    have hj':upd V j (.slice (some ⟨gg,0,none⟩) (g+1) gc) j=.slice (some ⟨gg,0,none⟩) (g+1) gc:=by simp [upd]
    rw [hj']
    show _∨_≠some gg
    rcases hat with he|rfl
    ·rw [← he]
     exact h.apart i j hi hj hij
    ·right
     intro e
     have:=hlt i hi _ e
     simp at this
     omega
   ·have hj':upd V c (.slice (some ⟨gg,0,none⟩) (g+1) gc) j=V j:=by simp [upd,hjc]
    rw [hj']
    exact h.apart i j hi hj hij
theorem ShAt.next {t:List ColB} {R G P n Q p Kb:Nat} {H:List Value} {w0 w:World} {g:Nat} {V:Nat→Value} {Qp:Nat→Nat→List ModF} {Qm:Nat→Nat→ModF} {Pv:Nat→Nat→Value} (h:ShAt t R G P n Q p Kb H w0 w g n V Qp Qm Pv):ShAt t R G P n Q p Kb H w0 w (g+1) 0 V Qp Qm Pv :=
 ⟨h.touch,h.sheet,h.new,h.kb,fun i hi=>by have:=h.cols i hi;rw [if_pos hi] at this;rw [if_neg (by omega)];exact this,h.apart⟩
theorem ShAt.later {t:List ColB} {R G P n Q p Kb:Nat} {H:List Value} {w0 w w':World} {g c:Nat} {V:Nat→Value} {Qp:Nat→Nat→List ModF} {Qm:Nat→Nat→ModF} {Pv:Nat→Nat→Value} (h:ShAt t R G P n Q p Kb H w0 w g c V Qp Qm Pv) (hb:Below w.heap.size w w'):ShAt t R G P n Q p Kb H w0 w' g c V Qp Qm Pv :=
 ⟨h.touch.later hb,jb hb h.sheet,h.new,jb hb h.kb,fun i hi=>(h.cols i hi).keep (fun n xs hu=>jw hu hb) (fun u n xs hu=>jw hu hb),h.apart⟩
end
section
theorem ZQ {t:List ColB} {L:List SpotB} {M:List ModF} {L2:List SpotB} {rest q:List UInt8} {M':List ModF} (h:ModsOk t L M) (h':ModsOk t (L++L2) M') (e:jl t L M++rest=jl t (L++L2) M'++q) :
  ∃ M2,M'=M++M2∧ModsOk t L2 M2∧rest=jl t L2 M2++q:=by
 induction h generalizing M' with
 | nil=>exact ⟨M',rfl,h',by simpa [jl] using e⟩
 | cons hm _ ih =>
  cases h' with
  | cons hm' h2' =>
   simp only [List.cons_append,jl,List.append_assoc] at e
   obtain ⟨e1,e2⟩:=Qu hm hm' e
   obtain ⟨M2,h3,h4,h5⟩:=ih h2' e2
   exact ⟨M2,by rw [e1,h3];rfl,h4,h5⟩
def LS (R G P n k c:Nat):List SpotB:=jQ R n G P k++ju R G P k c
def MS (Qp:Nat→Nat→List ModF) (Qm:Nat→Nat→ModF) (n k c:Nat):List ModF:=qV (fun g c=>Qp g c++[Qm g c]) n k++xD (fun g c=>Qp g c++[Qm g c]) k c
theorem Nc {R G P n k c:Nat} (hk:k < jW R G) (hc:c < n):∃ L3,jC R n G P=LS R G P n k c++(jh R G P k c++L3):=by
 obtain ⟨d,hd⟩:∃ d,jW R G=k+1+d:=⟨jW R G - (k+1),by omega⟩
 obtain ⟨f,hf⟩:∃ f,n=c+1+f:=⟨n - (c+1),by omega⟩
 have h1:jC R n G P=jQ R n G P (k+1)++((List.range d).map (k+1+·)).flatMap (fun g=>ju R G P g n):=by
  unfold jC
  rw [hd]
  unfold jQ
  rw [List.range_add,List.flatMap_append]
 have h2:ju R G P k n=ju R G P k (c+1)++((List.range f).map (c+1+·)).flatMap (fun c=>jh R G P k c):=by
  rw [hf]
  unfold ju
  rw [List.range_add,List.flatMap_append]
 rw [h1,Qa,h2,Qb]
 unfold LS
 simp only [List.append_assoc]
 exact ⟨_,rfl⟩
theorem DF (R G P n k c:Nat):LS R G P n k (c+1)=LS R G P n k c++jh R G P k c:=by
 unfold LS;rw [Qb,List.append_assoc]
theorem Ys (R G P n k:Nat):LS R G P n k n=LS R G P n (k+1) 0:=by
 unfold LS;rw [Qa];simp [ju]
theorem DD (Qp:Nat→Nat→List ModF) (Qm:Nat→Nat→ModF) (n k:Nat):MS Qp Qm n k n=MS Qp Qm n (k+1) 0:=by
 unfold MS;rw [QU];simp [xD]
theorem Dz (R G P n:Nat):LS R G P n 0 0=[]:=by simp [LS,jQ,ju]
theorem DA (Qp:Nat→Nat→List ModF) (Qm:Nat→Nat→ModF) (n:Nat):MS Qp Qm n 0 0=[]:=by simp [MS,qV,xD]
theorem Lj (R G P n:Nat):LS R G P n (jW R G) 0=jC R n G P:=by simp [LS,jC,ju]
theorem Lm (Qp:Nat→Nat→List ModF) (Qm:Nat→Nat→ModF) (n k:Nat):MS Qp Qm n k 0=qV (fun g c=>Qp g c++[Qm g c]) n k:=by simp [MS,xD]
theorem ZW {Q Q':Nat→Nat→List ModF} {g:Nat}:∀ {c:Nat},(∀ i,i < c→Q g i=Q' g i)→xD Q g c=xD Q' g c:=by
 intro c
 induction c with
 | zero=>intro _;rfl
 | succ c ih=>intro h;rw [Jy,Jy,ih (fun i hi=>h i (by omega)),h c (by omega)]
theorem YN {Q Q':Nat→Nat→List ModF} {n:Nat}:∀ {k:Nat},(∀ g,g < k→∀ i,i < n→Q g i=Q' g i)→qV Q n k=qV Q' n k:=by
 intro k
 induction k with
 | zero=>intro _;rfl
 | succ k ih=>intro h;rw [QU,QU,ih (fun g hg=>h g (by omega)),ZW (h k (by omega))]
theorem Pi {Qp:Nat→Nat→List ModF} {Qm:Nat→Nat→ModF} {n k c:Nat} {mp:List ModF} {mm:ModF}:MS (QZ Qp k c mp) (QZ Qm k c mm) n k (c+1)=MS Qp Qm n k c++(mp++[mm]):=by
 unfold MS
 rw [Jy,← List.append_assoc]
 have e1:qV (fun g c'=>QZ Qp k c mp g c'++[QZ Qm k c mm g c']) n k=qV (fun g c=>Qp g c++[Qm g c]) n k:=YN (fun g hg i _=>by
  have:¬ (g=k∧i=c):=by omega
  simp only [QZ,if_neg this])
 have e2:xD (fun g c'=>QZ Qp k c mp g c'++[QZ Qm k c mm g c']) k c=xD (fun g c=>Qp g c++[Qm g c]) k c:=ZW (fun i hi=>by
  have:i≠c:=by omega
  simp [QZ,this])
 rw [e1,e2]
 simp [QZ]
theorem SJ {t:List ColB} {R G P n k c:Nat} {Qp:Nat→Nat→List ModF} {Qm:Nat→Nat→ModF} (hc:c≤n) (h:∀ i,i < n→∀ g,g < (if i < c then k+1 else k)→ModsOk t (jh R G P g i) (Qp g i++[Qm g i])):ModsOk t (LS R G P n k c) (MS Qp Qm n k c):=by
 refine (RB (fun g hg i hi=>h i hi g ?_)).append (ZU (fun i hi=>h i (by omega) k ?_))
 ·split<;>omega
 ·rw [if_pos hi];omega
theorem Sp (R G P n k c:Nat):qE true (LS R G P n k c)=true:=by
 unfold LS;rw [JW,Ki,XJ]
theorem Mx {t:List ColB} {R G P n k c:Nat} {M:List ModF} (h:ModsOk t (LS R G P n k c) M):(jp t 4 true (LS R G P n k c) M).length=k*n+c:=by
 rw [XB ⟨[],⟨0,0,0,false⟩,[],0⟩ [] _ _ _ _ ⟨[],[]⟩ (qR h)]
 unfold LS
 rw [Qf,List.length_append,Zf,Ki,Zv]
theorem NO {t:List ColB} {R G P n k c:Nat} {M M2:List ModF} (h:ModsOk t (LS R G P n k c) M) (h2:M2.length=(jh R G P k c).length) :
  jp t 4 true (LS R G P n k c++jh R G P k c) (M++M2)=jp t 4 true (LS R G P n k c) M++[4+(jl t (LS R G P n k c) M).length]:=by
 rw [Jr _ _ _ _ _ _ (qR h),Sp,Vq h2]
theorem Ph {t:List ColB} {R G P n k c:Nat} {M:List ModF} {rk:List UInt8} (hk:k < jW R G) (hc:c < n) (h:ModsOk t (LS R G P n k c) M) (hno:∀ M q,ModsOk t (jh R G P k c) M→rk≠jl t (jh R G P k c) M++q) :
  ∀ M' q,ModsOk t (jC R n G P) M'→jl t (LS R G P n k c) M++rk≠jl t (jC R n G P) M'++q:=by
 intro M' q hM' e
 obtain ⟨L3,hL3⟩:=Nc (R:=R) (P:=P) hk hc
 rw [hL3] at hM' e
 obtain ⟨M2,rfl,h2,h3⟩:=ZQ h hM' e
 obtain ⟨M3,M4,rfl,h4,h5⟩:=Nf h2
 rw [zO _ _ _ _ (qR h4),List.append_assoc] at h3
 exact hno M3 _ h4 h3
theorem TQ {t:List ColB} {R G P n k c:Nat} {M:List ModF} {rk:List UInt8} {pl:List Nat} (hk:k < jW R G) (hc:c < n) (h:ModsOk t (LS R G P n k c) M) (hi:k*n+c < pl.length) (hne:pl[k*n+c]≠4+(jl t (LS R G P n k c) M).length) :
  ∀ M' q,ModsOk t (jC R n G P) M'→jl t (LS R G P n k c) M++rk=jl t (jC R n G P) M'++q→pl≠jp t 4 true (jC R n G P) M':=by
 intro M' q hM' e hpl
 obtain ⟨L3,hL3⟩:=Nc (R:=R) (P:=P) hk hc
 rw [hL3] at hM' e hpl
 obtain ⟨M2,rfl,h2,h3⟩:=ZQ h hM' e
 obtain ⟨M3,M4,rfl,h4,h5⟩:=Nf h2
 rw [← List.append_assoc,← List.append_assoc,Jr _ _ _ _ _ _ (qR (h.append h4)),NO h (qR h4),List.append_assoc] at hpl
 apply hne
 have hl:=Mx h
 subst hpl
 rw [List.getElem_append_right (by omega)]
 simp [hl]
end
section
theorem Er:∀ (l:List Nat),(∀ x ∈ l,x < 18446744073709551616)→(l.flatMap uB).length≤10*l.length:=by
 intro l
 induction l with
 | nil=>intro _;simp
 | cons x l ih =>
  intro h
  have h1:=jN x (h x (by simp))
  have h2:=ih (fun y hy=>h y (List.mem_cons_of_mem _ hy))
  rw [List.flatMap_cons,List.length_append,List.length_cons]
  omega
theorem Zu {foot:Nat} {parts footer:List UInt8} {S:SheetF} (hl:∀ x ∈ jp S.cols 4 true (qy S) S.mods,x < 18446744073709551616) (h:SheetOk foot parts footer S):footer.length≤4200:=by
 have hp:=h.plan
 simp only [qW,Bool.and_eq_true,decide_eq_true_eq] at hp
 have hh:=h.heads
 simp only [jU,Bool.and_eq_true,decide_eq_true_eq] at hh
 have hr:=h.rows
 have hc:∀ c ∈ S.cols,(jT c).length≤38:=by
  intro c hc
  obtain ⟨k,hk,rfl⟩:=List.mem_iff_getElem.1 hc
  obtain ⟨a,b,c,d⟩:=QB (QP hh.1 (Nat.le_refl _) k hk).1
  exact EA (Nq a).2 b ⟨c,d⟩
 have h1:=NY jT 38 S.cols hc
 have h2:=Er _ hl
 have h3:=Ql h
 have hcn:jW S.rows S.plan.group.toNat≤S.rows:=Xg (by omega)
 have h4:jW S.rows S.plan.group.toNat*S.cols.length≤60*6:=Nat.mul_le_mul (by omega) hh.2.2
 have u1:=jN S.rows (by omega)
 have u2:=jN S.plan.group.toNat (by omega)
 have u3:=jN S.plan.page.toNat (by omega)
 have u4:=jN S.plan.foot.toNat (by omega)
 have u5:=jN S.cols.length (by omega)
 rw [h.footer]
 unfold qH
 simp only [List.length_append]
 omega
end
section
theorem Ah (t:List ColB) (st:Option (List UInt8)) {L:List SpotB} {i:Nat} {s:SpotB} (h:L[i]?=some s):qI t st (L.take (i+1))=((qI t st (L.take i)).1++[(Kp (jk t s.c).key (qI t st (L.take i)).2).1],(Kp (jk t s.c).key (qI t st (L.take i)).2).2):=by
 rw [List.take_add_one,h]
 show qI t st (L.take i++[s])=_
 rw [Dj]
 rfl
theorem MC {t:List ColB} {parts rest:List UInt8} {L:List SpotB} {M:List ModF} (h:qI t (some parts) L=(M,some rest)):ModsOk t L M∧parts=jl t L M++rest∧M.length=L.length:=by
 obtain ⟨M1,h1,h2,h3⟩:=ND t L [] parts rest M h
 rw [List.nil_append] at h1
 subst h1
 exact ⟨h2,h3,qR h2⟩
theorem Gr {t:List ColB} {L:List SpotB} {i:Nat} {s:SpotB} (h:L[i]?=some s) {M:List ModF} (hM:M.length=i) (m:ModF) :
  jp t 4 true (L.take (i+1)) (M++[m])=jp t 4 true (L.take i) M++(if qE true (L.take i)=true then [4+(jl t (L.take i) M).length] else []):=by
 have hi:i < L.length:=(List.getElem?_eq_some_iff.1 h).1
 rw [List.take_add_one,h]
 show jp t 4 true (L.take i++[s]) (M++[m])=_
 rw [Jr _ _ _ _ _ _ (by simp;omega)]
 simp [jp]
theorem IJ {L:List SpotB}:∀ {k:Nat} {s:SpotB} (b:Bool),L[k]?=some s→qE b (L.take (k+1))=decide (s.sort=77):=by
 induction L with
 | nil=>intro k s b h;simp at h
 | cons x L ih =>
  intro k s b h
  rcases k with _|k
  ·simp at h
   subst h
   simp [qE]
  ·simp at h
   simp only [List.take_succ_cons,qE]
   exact ih _ h
end
section
open Go.RowKit
theorem MZ (st:Option (List UInt8)):qd 2 st=([],none)∨∃ a b r,st=some (a :: b :: r)∧qd 2 st=([a,b],some r):=by
 rcases st with _|l
 ·exact .inl rfl
 rcases l with _|⟨a,_|⟨b,r⟩⟩
 ·exact .inl (Qg (.inr (by simp)))
 ·exact .inl (Qg (.inr (by simp)))
 ·refine .inr ⟨a,b,r,rfl,?_⟩
  rw [zR (by decide) (by simp;omega)]
  rfl
theorem PW (a b:UInt8):wrap64 (wrap64 (((⟨#[a,b]⟩:ByteArray)[0]'(by simp [ByteArray.size])).toNat:Int)+wrap64 (256*wrap64 (((⟨#[a,b]⟩:ByteArray)[1]'(by simp [ByteArray.size])).toNat:Int)))=((Qe [a,b]:Nat):Int):=by
 have h1:=a.toNat_lt
 have h2:=b.toNat_lt
 show wrap64 (wrap64 (a.toNat:Int)+wrap64 (256*wrap64 (b.toNat:Int)))=((a.toNat+256*b.toNat:Nat):Int)
 generalize a.toNat=x at *
 generalize b.toNat=y at *
 simp only [wrap64]
 omega
theorem GO (p:Nat) (s:List UInt8) (st:Option (List UInt8)) (w:World) (hs:s.length≤maxLen) (hp:jS w p s st) :
  Calls Tryz.prog 148 #[.pointer (some ⟨p,0,none⟩)] w fun e w'=>e=.returned (.int .i64 ((xq st).1:Int))∧jS w' p s (xq st).2∧w.grownBy w' (some p):=by
 have Hp:=hid hp
 clear hp
 go_enter Tryz.func148,Tryz.ntmps148
 go_wp2_with fail
 refine (Qj p s st 2 _ hs (by decide) (by decide) Hp.out).mono ?_
 rintro e w1 ⟨rfl,hsp1,hg1⟩
 have hb1:=Kv hsp1
 have Hsp1:=hid hsp1
 have HG1:=hid hg1
 have HT:Hid (xq st=(Qe (qd 2 st).1,(qd 2 st).2)):=rfl
 clear hsp1 hg1
 rcases MZ st with ht|⟨a,b,r,rfl,ht⟩
 ·rw [ht] at hb1 Hsp1 HT ⊢
  simp only [JO] at hb1
  clear ht
  go_wp2
  go_ret
  rw [HT.out]
  exact ⟨rfl,Hsp1.out,HG1.out⟩
 ·rw [ht] at hb1 Hsp1 HT ⊢
  simp only [JO] at hb1
  clear ht
  have ha:=a.toNat_lt
  have hb:=b.toNat_lt
  go_wp2_with fail
  go_quiet (fail)
  go_wp2
  go_ret
  rw [HT.out]
  exact ⟨qZ (PW a b),Hsp1.out,zX HG1.out nq⟩
theorem qi {w w':World} {p B:Nat} {o:Obj} (hg:w.grownBy w' (some p)) (h:w.heap[B]?=some o) (hne:B≠p):w'.heap[B]?=some o:=by
 have hlt:=(Array.getElem?_eq_some_iff.1 h).1
 rw [hg.block B hlt (by intro e;injection e with e;exact hne e)]
 exact h
theorem JB {w:World} {q:Nat} {o:Obj} (o':Obj) (h:w.heap[q]?=some o):(w.alloc o').heap[q]?=some o:=by
 have hlt:=(Array.getElem?_eq_some_iff.1 h).1
 rw [(World.grownBy_alloc w o' none).block q hlt (by simp)]
 exact h
theorem zS (w:World) (q i:Nat) (v:Value):w.grownBy (w.setCell ⟨q,i,none⟩ v) (some q) :=
 ⟨rfl,rfl,rfl,by simp,fun k _ hk=>heap_setCell_other w ⟨q,i,none⟩ k v (fun e=>hk (by simp [e]))⟩
theorem Qy (w:World) (q:Nat) (cs:Array Value):w.grownBy (w.setRow q cs) (some q) :=
 ⟨rfl,rfl,rfl,by simp,fun k _ hk=>setRow_other w q k cs (fun e=>hk (by rw [e]))⟩
theorem zh {w w' w2:World} {p q:Nat} (h:w.grownBy w' (some p)) (h2:w'.grownBy w2 (some q)) (hq:w.heap.size≤q):w.grownBy w2 (some p) :=
 ⟨h2.os.trans h.os,h2.tape.trans h.tape,h2.output.trans h.output,Nat.le_trans h.size h2.size,fun i hi hne=>(h2.block i (Nat.lt_of_lt_of_le hi h.size) (by intro e;injection e with e;omega)).trans (h.block i hi hne)⟩
theorem JV {w:World} {p:Nat} {s:List UInt8} {st:Option (List UInt8)} (h:jS w p s st):p < w.heap.size:=by
 obtain ⟨_,_,h,_⟩:=h
 exact (Array.getElem?_eq_some_iff.1 h).1
theorem xk {w w':World} {p q:Nat} {s:List UInt8} {st:Option (List UInt8)} (h:jS w p s st) (hg:w.grownBy w' (some q)) (hq:p≠q):jS w' p s st:=by
 obtain ⟨at_,bad,hrow,hat,hst⟩:=h
 exact ⟨at_,bad,qi hg hrow hq,hat,hst⟩
theorem KA (p:Nat) (s:List UInt8) (st:Option (List UInt8)) (w:World) (hs:s.length≤maxLen) (hp:jS w p s st) :
  Calls Tryz.prog 150 #[.pointer (some ⟨p,0,none⟩)] w fun e w'=>e=.returned (.agg #[strB (qm st).1.1,strB (qm st).1.2])∧jS w' p s (qm st).2∧w.grownBy w' (some p):=by
 have hpw:=JV hp
 obtain ⟨hb0,hl0,_,ho0⟩:=qg w #[Value.string { data:=#[] },Value.string { data:=#[] }] 167
 have HS0:=hid (zq hp hpw (.cells #[Value.string { data:=#[] },Value.string { data:=#[] }] 167))
 have HR:Hid (qm st=(((qd 4 (xq st).2).1,(qd ((xq st).1:Int) (qd 4 (xq st).2).2).1),if (xq st).1 < 2 then none else (qd ((xq st).1:Int) (qd 4 (xq st).2).2).2)):=rfl
 have hn:=GG (qd 2 st).1
 have hn2:(xq st).1≤65535:=hn
 have HA0:=hid (World.grownBy_alloc w (.cells #[Value.string { data:=#[] },Value.string { data:=#[] }] 167) (some p))
 have Ho0:=hid ho0
 clear hp hb0 ho0 hn
 go_enter Tryz.func150,Tryz.ntmps150
 go_wp2_with fail
 generalize w.alloc _=W0 at *
 refine (GO p s st W0 hs HS0.out).mono ?_
 rintro e w1 ⟨rfl,hsp1,hg1⟩
 have HG1:=hid (ja HA0.out hg1)
 have Ho1:=hid (qi hg1 Ho0.out (by omega))
 have HS1:=hid hsp1
 clear hg1 hsp1 HS0
 generalize xq st=x at *
 obtain ⟨n,st1⟩:=x
 simp only at HR hn2 HS1 ⊢
 go_wp2_with fail
 refine (Qj p s st1 4 w1 hs (by decide) (by decide) HS1.out).mono ?_
 rintro e w2 ⟨rfl,hsp2,hg2⟩
 have HG2:=hid (ja HG1.out hg2)
 have Ho2:=hid (qi hg2 Ho1.out (by omega))
 have HS2:=hid hsp2
 clear hg2 hsp2 HS1 Ho1 HG1 Ho0
 generalize qd 4 st1=x at *
 obtain ⟨non,st2⟩:=x
 simp only at HR HS2 ⊢
 go_wp2_with fail
 obtain ⟨hb3,_,_,hB3⟩:=qg w2 #[Value.string { data:=non.toArray },Value.string { data:=#[] }] 167
 have hpB:=JV HS2.out
 have hwB:w.heap.size < w2.heap.size:=(Array.getElem?_eq_some_iff.1 Ho2.out).1
 have HS3:=hid (zq HS2.out hpB (.cells #[Value.string { data:=non.toArray },Value.string { data:=#[] }] 167))
 have Ho3:=hid (JB (.cells #[Value.string { data:=non.toArray },Value.string { data:=#[] }] 167) Ho2.out)
 have HG3:=hid (xT HG2.out (.cells #[Value.string { data:=non.toArray },Value.string { data:=#[] }] 167))
 have HB3:=hid hB3
 clear hb3 hB3 HS2 Ho2
 generalize hW:w2.alloc _=W2 at *
 clear hW
 generalize w2.heap.size=B at *
 refine (Qj p s st2 (n:Int) W2 hs (by omega) (by omega) HS3.out).mono ?_
 rintro e w3 ⟨rfl,hsp4,hg4⟩
 have HG4:=hid (ja HG3.out hg4)
 have Ho4:=hid (qi hg4 Ho3.out (by omega))
 have HB4:=hid (qi hg4 HB3.out (by omega))
 have HS4:=hid hsp4
 clear hg4 hsp4 HG3 Ho3 HB3 HS3
 generalize qd (n:Int) st2=x at *
 obtain ⟨body,st3⟩:=x
 simp only at HR HS4 ⊢
 have hB0:w3.cell? ⟨B,1,none⟩=some (Value.string { data:=#[] }):=by rw [cell_of_row w3 B 1 _ _ (0,0) HB4.out];rfl
 have hz0:=frozen_of_row w3 B 1 _ _ HB4.out
 go_upto_region 4 with fail
 clear hB0 hz0
 have HB5:=hid (heap_setCell_same w3 B 1 _ _ (strB body) HB4.out)
 have HS5:=hid (KZ HS4.out (q:=⟨B,1,none⟩) (by show p≠B;omega) (strB body))
 have Ho5:=hid (qi (zS w3 B 1 (strB body)) Ho4.out (by omega))
 have HG5:=hid (zh HG4.out (zS w3 B 1 (strB body)) (by omega))
 clear HB4 HS4 Ho4 HG4
 generalize w3.setCell _ _=w5 at *
 obtain ⟨at_,bad,hrow,hat,hst⟩:=HS5.out
 obtain ⟨⟨c0,c1,c2⟩,cf⟩:=xj hrow
 have f2:=cf 2
 have Hrow:=hid hrow
 clear hrow cf c0 c1
 cases bad with
 | true =>
  go_upto_region 5 with fail
  obtain ⟨hb1,hb2⟩:=Xo (v:=.bool true) Hrow.out
  have HSX:Hid (jS (w5.setCell ⟨p,2,none⟩ (.bool true)) p s (qm st).2):=⟨at_,true,hb1,hat,by rw [HR.out];rw [hst];simp⟩
  have Ho6:=hid (qi hb2 Ho5.out (by omega))
  have HB6:=hid (qi hb2 HB5.out (by omega))
  have HG6:=hid (ja HG5.out hb2)
  clear hb1 hb2 c2 f2
  generalize w5.setCell _ _=w6 at *
  go_wp2_with (first|(refine wpList_load_row rfl 167 (.tmp 4) rfl B rfl 167 #[strB non,strB body] (0,0) _ HB6.out Tryz.underlying167 rfl (by kernel_rfl) ?_)|(refine wpList_store_row rfl 167 (.tmp 2) (.tmp 25) rfl w.heap.size #[strB non,strB body] rfl rfl 167 #[Value.string { data:=#[] },Value.string { data:=#[] }] Ho6.out (by kernel_rfl) rfl (by simp [Value.oneCell']) ?_))
  have HR1:Hid ((qm st).1=(non,body)):=by show _=_;rw [HR.out]
  rw [HR1.out]
  have Ho7:=hid (setRow_heap w6 w.heap.size _ #[strB non,strB body] 167 (0,0) Ho6.out)
  have HS7:=hid (xk HSX.out (Qy w6 w.heap.size #[strB non,strB body]) (by omega))
  have HG7:=hid (zh HG6.out (Qy w6 w.heap.size #[strB non,strB body]) (Nat.le_refl _))
  generalize w6.setRow _ _=w7 at *
  exact bodyPost_ret (v:=.agg #[strB non,strB body]) (results_cell_row (P:=Tryz.prog) (p:=2) (ty:=167) rfl _ _ w.heap.size 167 #[strB non,strB body] (0,0) _ rfl Ho7.out Tryz.underlying167 rfl (by kernel_rfl)) rfl ⟨rfl,HS7.out,HG7.out⟩
 | false =>
  by_cases hlt:n < 2
  ·have hni:(n:Int) < 2:=by omega
   have hd:decide ((n:Int) < 2)=true:=decide_eq_true hni
   go_upto_region 5 with fail
   obtain ⟨hb1,hb2⟩:=Xo (v:=.bool true) Hrow.out
   have HSX:Hid (jS (w5.setCell ⟨p,2,none⟩ (.bool true)) p s (qm st).2):=⟨at_,true,hb1,hat,by rw [HR.out];simp [hlt]⟩
   have Ho6:=hid (qi hb2 Ho5.out (by omega))
   have HB6:=hid (qi hb2 HB5.out (by omega))
   have HG6:=hid (ja HG5.out hb2)
   clear hb1 hb2 c2 f2
   generalize w5.setCell _ _=w6 at *
   go_wp2_with (first|(refine wpList_load_row rfl 167 (.tmp 4) rfl B rfl 167 #[strB non,strB body] (0,0) _ HB6.out Tryz.underlying167 rfl (by kernel_rfl) ?_)|(refine wpList_store_row rfl 167 (.tmp 2) (.tmp 25) rfl w.heap.size #[strB non,strB body] rfl rfl 167 #[Value.string { data:=#[] },Value.string { data:=#[] }] Ho6.out (by kernel_rfl) rfl (by simp [Value.oneCell']) ?_))
   have HR1:Hid ((qm st).1=(non,body)):=by show _=_;rw [HR.out]
   rw [HR1.out]
   have Ho7:=hid (setRow_heap w6 w.heap.size _ #[strB non,strB body] 167 (0,0) Ho6.out)
   have HS7:=hid (xk HSX.out (Qy w6 w.heap.size #[strB non,strB body]) (by omega))
   have HG7:=hid (zh HG6.out (Qy w6 w.heap.size #[strB non,strB body]) (Nat.le_refl _))
   generalize w6.setRow _ _=w7 at *
   exact bodyPost_ret (v:=.agg #[strB non,strB body]) (results_cell_row (P:=Tryz.prog) (p:=2) (ty:=167) rfl _ _ w.heap.size 167 #[strB non,strB body] (0,0) _ rfl Ho7.out Tryz.underlying167 rfl (by kernel_rfl)) rfl ⟨rfl,HS7.out,HG7.out⟩
  ·have hni:¬ (n:Int) < 2:=by omega
   have hd:decide ((n:Int) < 2)=false:=decide_eq_false hni
   go_upto_region 5 with fail
   obtain ⟨hb1,hb2⟩:=Xo (v:=.bool false) Hrow.out
   have HSX:Hid (jS (w5.setCell ⟨p,2,none⟩ (.bool false)) p s (qm st).2):=⟨at_,false,hb1,hat,by rw [HR.out];rw [hst];simp [hlt]⟩
   have Ho6:=hid (qi hb2 Ho5.out (by omega))
   have HB6:=hid (qi hb2 HB5.out (by omega))
   have HG6:=hid (ja HG5.out hb2)
   clear hb1 hb2 c2 f2
   generalize w5.setCell _ _=w6 at *
   go_wp2_with (first|(refine wpList_load_row rfl 167 (.tmp 4) rfl B rfl 167 #[strB non,strB body] (0,0) _ HB6.out Tryz.underlying167 rfl (by kernel_rfl) ?_)|(refine wpList_store_row rfl 167 (.tmp 2) (.tmp 25) rfl w.heap.size #[strB non,strB body] rfl rfl 167 #[Value.string { data:=#[] },Value.string { data:=#[] }] Ho6.out (by kernel_rfl) rfl (by simp [Value.oneCell']) ?_))
   have HR1:Hid ((qm st).1=(non,body)):=by show _=_;rw [HR.out]
   rw [HR1.out]
   have Ho7:=hid (setRow_heap w6 w.heap.size _ #[strB non,strB body] 167 (0,0) Ho6.out)
   have HS7:=hid (xk HSX.out (Qy w6 w.heap.size #[strB non,strB body]) (by omega))
   have HG7:=hid (zh HG6.out (Qy w6 w.heap.size #[strB non,strB body]) (Nat.le_refl _))
   generalize w6.setRow _ _=w7 at *
   exact bodyPost_ret (v:=.agg #[strB non,strB body]) (results_cell_row (P:=Tryz.prog) (p:=2) (ty:=167) rfl _ _ w.heap.size 167 #[strB non,strB body] (0,0) _ rfl Ho7.out Tryz.underlying167 rfl (by kernel_rfl)) rfl ⟨rfl,HS7.out,HG7.out⟩
end
end Go.Proofs.YthhpbhpfagoapaaGreat
