import Derived.Test.YthhpbhpfagoapaaGreatLFound
import Derived.Test.YthhpbhpfagoapaaGreatJAN
import Derived.Test.YthhpbhpfagoapaaGreatJAI
import Derived.Test.YthhpbhpfagoapaaGreatJAV
import Derived.Test.YthhpbhpfagoapaaGreatJAH
import Derived.Test.YthhpbhpfagoapaaGreatYHeads
import Derived.Test.YthhpbhpfagoapaaGreatJAY
import Derived.Test.YthhpbhpfagoapaaGreatVSpots
import Derived.Test.YthhpbhpfagoapaaGreatVFoot
import Derived.Test.YthhpbhpfagoapaaGreatJAF
import Derived.Test.YthhpbhpfagoapaaGreatTk
namespace Go.Proofs.YthhpbhpfagoapaaGreat
set_option linter.unusedVariables false
set_option linter.unusedSimpArgs false
set_option maxRecDepth 100000
set_option maxHeartbeats 16000000
open Go.RowKit
section
theorem XH {F:Nat→FoundB} {Vs:Nat→Value} {n j:Nat} (hj:j < n) {i:Nat} (hi:i < 5):(JL F Vs n)[j*5+i]?=(Um (F j) (Vs j))[i]?:=by
 unfold JL
 rw [List.flatMap_def,ZQ (s:=5) _ hi]
 ·rw [List.getElem?_map,List.getElem?_range hj];rfl
 ·intro x hx
  simp only [List.mem_map] at hx
  obtain ⟨k,_,rfl⟩:=hx
  rfl
theorem FoundsAt.lies {base:Nat} {w:World} {v:Value} {F:Nat→FoundB} {n:Nat} {Vs:Nat→Value} (h:FoundsAt base w v F n Vs) (hlen:∀ j,j < n→(F j).cells.length≤1000):∃ a cap,v=.slice a n cap∧LiesF w a F n:=by
 rcases h.row.2 with ⟨hv,h0⟩|⟨g,cap,cur,hv,_⟩
 ·exact ⟨none,0,by rw [hv,h0],⟨fun hn=>by omega⟩⟩
 ·have hrow:=h.row
  subst hv
  refine ⟨some ⟨g,0,none⟩,cap,rfl,⟨fun _=>⟨g,rfl,(hrow.lt g rfl).2,fun j hj=>?_⟩⟩⟩
  obtain ⟨ca,cc,hvs,_,hl⟩:=JA (h.cells j hj) (fun x hx=>⟨(h.small j hj x hx).1,(h.small j hj x hx).2.1,Nat.le_trans (h.small j hj x hx).2.2 (by decide)⟩)
  refine ⟨ca,cc,?_,?_,?_,?_,?_,hl,hlen j hj⟩
  ·rw [hrow.cellAt _ (by omega)];exact XH (i:=0) hj (by omega)
  ·rw [hrow.cellAt _ (by omega)];exact XH (i:=1) hj (by omega)
  ·rw [hrow.cellAt _ (by omega)];exact XH (i:=2) hj (by omega)
  ·rw [hrow.cellAt _ (by omega)];exact XH (i:=3) hj (by omega)
  ·rw [hrow.cellAt _ (by omega),← hvs];exact XH (i:=4) hj (by omega)
end
section
def markK:KeyB:=⟨-77,[109,97,114,107]⟩
theorem Ru (w:World) :
  Calls Tryz.prog 40 #[] w fun e w'=>e=.returned (keyV markK)∧Below w.heap.size w w':=by
 go_enter Tryz.func40,Tryz.ntmps40
 go_wp2
 exact bodyPost_ret (v:=keyV markK) (by simp [results,Tryz.results40,go_sem,keyV,markK]) rfl ⟨rfl,(Below.refl _ _).alloc (Nat.le_refl _) _⟩
def xV (l:List KeyB):List Value:=l.flatMap fun c=>[.int .i64 c.number,strB c.secret]
theorem JM (l:List KeyB):(xV l).length=l.length*2:=XQ _ 2 (fun _=>rfl) l
theorem UJ (a b:List KeyB):xV (a++b)=xV a++xV b:=by simp [xV]
theorem UD (l:List KeyB) (j:Nat) (h:j < l.length):(xV l)[j*2]?=some (.int .i64 (l[j]).number)∧(xV l)[j*2+1]?=some (strB (l[j]).secret) :=
 ⟨Xp _ 2 (fun _=>rfl) l j 0 h (by decide),Xp _ 2 (fun _=>rfl) l j 1 h (by decide)⟩
theorem LiesK.cells {w:World} {b off:Nat} {l:List KeyB} (h:∀ j (h:j < l.length),
  w.cell? ⟨b,off+j*2,none⟩=some (.int .i64 (l[j]).number)∧w.cell? ⟨b,off+j*2+1,none⟩=some (strB (l[j]).secret)) :
  ∀ i v,(xV l)[i]?=some v→w.cell? ((⟨b,off,none⟩:Addr).add i)=some v:=by
 intro i v hi
 have hil:i < (xV l).length:=(List.getElem?_eq_some_iff.1 hi).1
 rw [JM] at hil
 have hj:i / 2 < l.length:=by omega
 obtain ⟨h1,h2⟩:=h (i / 2) hj
 obtain ⟨c1,c2⟩:=UD l (i / 2) hj
 have ha:(⟨b,off,none⟩:Addr).add i=⟨b,off+i,none⟩:=by unfold Addr.add;split<;>simp_all
 rw [ha]
 have hm:i % 2=0∨i % 2=1:=by omega
 rcases hm with hm|hm
 ·have e:i=i / 2*2:=by omega
  rw [e] at hi ⊢
  rw [c1] at hi
  rw [h1];exact hi
 ·have e:i=i / 2*2+1:=by omega
  rw [e] at hi ⊢
  rw [c2] at hi
  rw [← Nat.add_assoc,h2];exact hi
theorem MZ (l:List KeyB):∀ v ∈ xV l,v.oneCell'=true:=by
 intro v hv
 simp only [xV,List.mem_flatMap] at hv
 obtain ⟨c,_,hc⟩:=hv
 simp at hc
 rcases hc with rfl|rfl<;>rfl
theorem Ys:(Tryz.prog.info? 63).map (·.size)=some 2:=by kernel_rfl
theorem Tryz.infoKeyW:(Tryz.prog.info? 63).map (fun i=>(i.zero,i.size,i.bytes))=some (some (.agg #[.int .i64 0,.string ⟨#[]⟩]),2,24):=by kernel_rfl
theorem CF (w:World) (ty:TypeId) (g n:Nat) (sa:Option Addr) (scap base:Nat) (l:List KeyB) (xs:List Value) (hln:l.length≤n)
  (hown:w.ownsRow base 63 2 (.slice (some ⟨g,0,none⟩) n n) n xs) (hl:LiesK w sa l) :
  ∃ w',(Builtin.copy_ #[27,27] ty #[.slice (some ⟨g,0,none⟩) n n,.slice sa l.length scap]).run Tryz.prog w=.ok (goInt l.length) w' ∧
   w'.ownsRow base 63 2 (.slice (some ⟨g,0,none⟩) n n) n (xV l++xs.drop (l.length*2))∧w.grownBy w' (some g):=by
 obtain ⟨hlen,hrow⟩:=hown
 rcases hrow with ⟨h',_⟩|⟨g',cap',cur,h',hb,hg,hnc,hcm,hcs,htake⟩
 ·simp at h'
 simp only [Value.slice.injEq,Option.some.injEq,Addr.mk.injEq,and_true,true_and] at h'
 obtain ⟨rfl,rfl⟩:=h'
 have hcl:=JM l
 have hfull:cur.toList=xs:=by rw [← htake,List.take_of_length_le (by rw [Array.length_toList,hcs];exact Nat.le_refl _)]
 have hmin:Nat.min l.length n=l.length:=Nat.min_eq_left hln
 by_cases hne:l=[]
 ·subst hne
  have hown1:w.ownsRow base 63 2 (.slice (some ⟨g,0,none⟩) n n) n xs:=⟨hlen,.inr ⟨g,n,cur,rfl,hb,hg,hnc,hcm,hcs,htake⟩⟩
  have e1:xV []++xs.drop (([]:List KeyB).length*2)=xs:=by simp [xV]
  have hown0:w.ownsRow base 63 2 (.slice (some ⟨g,0,none⟩) n n) n (xV []++xs.drop (([]:List KeyB).length*2)):=by rw [e1];exact hown1
  cases sa with
  | none=>exact ⟨w,Rc w 27 27 ty 63 g n n 2 scap Tryz.underlying27 Ys,hown0,World.grownBy.refl _ _⟩
  | some ad =>
   have hrun:=KS w 27 27 ty 63 g n n 2 ad 0 scap cur 63 [] Tryz.underlying27 Ys hg (by simp) (by simp) (by simp) (by simp)
   have hself:w.setRow g (([]:List Value)++cur.toList.drop ([]:List Value).length).toArray=w:=by
    simpa using setRow_self w g cur 63 (0,0) hg
   rw [hself] at hrun
   have e0:Nat.min 0 n=0:=Nat.min_eq_left (Nat.zero_le _)
   rw [e0] at hrun
   exact ⟨w,hrun,hown0,World.grownBy.refl _ _⟩
 ·obtain ⟨b,off,rfl,hbw,hcell⟩:=hl.at_ hne
  have hrun:=KS w 27 27 ty 63 g n n 2 ⟨b,off,none⟩ l.length scap cur 63 (xV l) Tryz.underlying27 Ys hg (by rw [hmin,hcl]) (LiesK.cells hcell) (by rw [hcl,hcs];omega) (MZ l)
  rw [hmin,hfull] at hrun
  refine ⟨_,hrun,⟨?_,.inr ⟨g,n,_,rfl,hb,setRow_heap w g cur _ 63 _ hg,hnc,hcm,?_,?_⟩⟩,⟨rfl,rfl,rfl,by simp,fun k _ hk=>setRow_other w g k _ (fun e=>hk (by simp [e]))⟩⟩
  ·rw [List.length_append,List.length_drop,hcl,hlen];omega
  ·simp only [List.size_toArray,List.length_append,List.length_drop,hcl,hlen];omega
  ·rw [List.toList_toArray,hcl,List.take_of_length_le (by rw [List.length_append,List.length_drop,hcl,hlen];omega)]
def XF:KeyB:=⟨0,[]⟩
def Jo (l:List KeyB) (k:Nat):List KeyB:=l++List.replicate k markK++List.replicate (8 - k) XF
theorem Ac (n:Nat):xV (List.replicate n XF)=(madeCells (Value.agg #[.int .i64 0,.string ⟨#[]⟩]).cells (n*2)).toList:=by
 apply List.ext_getElem?
 intro i
 by_cases h:i < n*2
 ·have hj:i / 2 < (List.replicate n XF).length:=by simp;omega
  obtain ⟨c1,c2⟩:=UD (List.replicate n XF) (i / 2) hj
  simp only [List.getElem_replicate] at c1 c2
  have hm:i % 2=0∨i % 2=1:=by omega
  have hz:(Value.agg #[.int .i64 0,.string ⟨#[]⟩]).cells=#[.int .i64 0,.string ⟨#[]⟩]:=rfl
  rcases hm with hm|hm
  ·have e:i=i / 2*2:=by omega
   rw [e,c1,hz]
   simp [madeCells,show i / 2*2 < n*2 by omega,XF]
  ·have e:i=i / 2*2+1:=by omega
   rw [e,c2,hz]
   simp [madeCells,show i / 2*2+1 < n*2 by omega,XF,show (i / 2*2+1) % 2=1 by omega]
 ·rw [List.getElem?_eq_none (by rw [JM];simp;omega),List.getElem?_eq_none (by rw [Array.length_toList,size_madeCells];omega)]
theorem Sd (l:List KeyB):xV l++(xV (List.replicate (l.length+8) XF)).drop (l.length*2)=xV (Jo l 0):=by
 have e:List.replicate (l.length+8) XF=List.replicate l.length XF++List.replicate 8 XF:=by rw [List.replicate_append_replicate]
 rw [e,UJ,List.drop_left' (by rw [JM];simp)]
 simp [Jo,UJ]
theorem LY (A B:List KeyB) (z c:KeyB):((xV (A++z :: B)).set (A.length*2) (.int .i64 c.number)).set (A.length*2+1) (strB c.secret)=xV (A++c :: B):=by
 have hA:=JM A
 have e1:∀ d:KeyB,xV (A++d :: B)=xV A++(.int .i64 d.number :: strB d.secret :: xV B):=by intro d;simp [xV]
 rw [e1,e1,← hA]
 rw [List.set_append_right _ _ (Nat.le_refl _),List.set_append_right _ _ (by omega)]
 simp
theorem YQ (l:List KeyB) (k:Nat) (hk:k < 8):Jo l k=(l++List.replicate k markK)++XF :: List.replicate (7 - k) XF∧Jo l (k+1)=(l++List.replicate k markK)++markK :: List.replicate (7 - k) XF:=by
 unfold Jo
 constructor
 ·rw [show 8 - k=(7 - k)+1 by omega,List.replicate_succ]
 ·rw [show 8 - (k+1)=7 - k by omega,List.replicate_succ']
  simp
theorem Al {W:World} {base g:Nat} {l:List KeyB} {k:Nat} (hk:k < 8) (h:W.ownsRow base 63 2 (.slice (some ⟨g,0,none⟩) (l.length+8) (l.length+8)) (l.length+8) (xV (Jo l k))) :
  ((W.setCell ⟨g,(l.length+k)*2,none⟩ (.int .i64 markK.number)).setCell ⟨g,(l.length+k)*2+1,none⟩ (strB markK.secret)).ownsRow base 63 2 (.slice (some ⟨g,0,none⟩) (l.length+8) (l.length+8)) (l.length+8) (xV (Jo l (k+1))):=by
 have h1:=(h.stored ((l.length+k)*2) (.int .i64 markK.number)).1
 have h2:=(h1.stored ((l.length+k)*2+1) (strB markK.secret)).1
 obtain ⟨e1,e2⟩:=YQ l k hk
 rw [e1] at h2
 rw [e2,← LY (l++List.replicate k markK) (List.replicate (7 - k) XF) XF markK]
 have hl:(l++List.replicate k markK).length=l.length+k:=by simp
 rw [hl]
 exact h2
theorem Su {W:World} {base g n:Nat} {xs:List Value} (h:W.ownsRow base 63 2 (.slice (some ⟨g,0,none⟩) n n) n xs) (j:Nat) (hj:j < n) :
  (∃ v,W.cell? ⟨g,j*2,none⟩=some v)∧(∃ v,W.cell? ⟨g,j*2+1,none⟩=some v):=by
 have hl:=h.1
 refine ⟨?_,?_⟩
 ·rw [h.cellAt (j*2) (by omega),List.getElem?_eq_getElem (by omega)];exact ⟨_,rfl⟩
 ·rw [h.cellAt (j*2+1) (by omega),List.getElem?_eq_getElem (by omega)];exact ⟨_,rfl⟩
theorem AT (a:Option Addr) (cap:Nat) (l:List KeyB) (w:World) (hm:l.length*24≤140737488351232) (hl:LiesK w a l) :
  Calls Tryz.prog 11 #[.slice a l.length cap] w fun e w'=>∃ g,e=.returned (.slice (some ⟨g,0,none⟩) l.length (l.length+8)) ∧
   w'.ownsRow w.heap.size 63 2 (.slice (some ⟨g,0,none⟩) (l.length+8) (l.length+8)) (l.length+8) (xV (Jo l 8))∧Below w.heap.size w w':=by
 obtain ⟨i1,hi1,hy0,hy1,hy2⟩:=info_parts Tryz.infoKeyW
 have Hl:=hid hl
 clear hl
 go_enter Tryz.func11,Tryz.ntmps11
 go_wp2_with (at_make;refine wpList_make_full _ rfl (.tmp 9) (.tmp 9) 27 rfl w.heap.size 63 i1 (.agg #[.int .i64 0,.string ⟨#[]⟩]) 2 Tryz.underlying27 hi1 hy0 hy1 .i64 .i64 _ _ (l.length+8) rfl rfl (by omega) (by omega) (by rw [hy2];omega) (by unfold maxLen;omega) (Nat.le_refl _) ?_;intro w3 hown hgr;rw [← Ac] at hown;obtain ⟨w4,hrun,hown4,hgr4⟩:=CF w3 3 w.heap.size (l.length+8) a cap w.heap.size l _ (by omega) hown (Hl.out.later ((Below.refl _ _).grown hgr (Nat.le_refl _) (fun _ h=>by cases h))))
 rw [Sd] at hown4
 have hB3:Below w.heap.size w w3:=(Below.refl _ _).grown hgr (Nat.le_refl _) (fun _ h=>by cases h)
 have hB4:Below w.heap.size w w4:=hB3.grown hgr4 hB3.size (fun k h=>by cases h;exact Nat.le_refl _)
 have hG:w.heap.size < w4.heap.size:=(hown4.lt _ rfl).2
 clear hown hgr hgr4 hrun hB3
 generalize hgg:w.heap.size=g at *
 go_loopw [5] (fun i wr=>∃ k:Nat,k≤8∧i=.int .i64 (k:Int)∧wr.ownsRow g 63 2 (.slice (some ⟨g,0,none⟩) (l.length+8) (l.length+8)) (l.length+8) (xV (Jo l k))∧Below g w wr∧g < wr.heap.size) (fun i _=>8 - (intOf i).toNat)
 case atStart=>exact ⟨0,Nat.zero_le _,rfl,hown4,hB4,hG⟩
 case round =>
  clear hown4 hB4 hG
  obtain ⟨k,hk,rfl,hown,hB,hG⟩:=hrel
  by_cases hlt:k < 8
  ·go_wp2_with fail
   refine (Ru _).mono ?_
   rintro e w5 ⟨rfl,hb5⟩
   have hown5:=hown.kept (YM hb5) (.inr (by simp [Value.ownBlock]))
   have hzl:(xV (Jo l k)).length=(l.length+8)*2:=hown5.1
   obtain ⟨⟨e1,d1⟩,⟨e2,d2⟩⟩:=Su hown5 (l.length+k) (by omega)
   have f1:=hown5.frozenAt ((l.length+k)*2)
   have f2:=hown5.frozenAt ((l.length+k)*2+1)
   have HR:=hid (Al hlt hown5)
   have hz5:=hb5.size
   have HB5:=hid (((hB.trans (hb5.mono (Nat.le_of_lt hG))).setCell (p:=⟨g,(l.length+k)*2,none⟩) (Nat.le_refl _) (.int .i64 markK.number)).setCell (p:=⟨g,(l.length+k)*2+1,none⟩) (Nat.le_refl _) (strB markK.secret))
   clear hown hown5 hB hb5 hzl
   go_wp2
   go_roundw
   case rel=>exact ⟨k+1,by omega,by go_num,HR.out,HB5.out,by simp;omega⟩
   case measure=>simp [intOf];omega
  ·have hk8:k=8:=by omega
   subst hk8
   go_wp2
   go_ret
   exact ⟨g,rfl,by rw [hgg];exact hown,by rw [hgg];exact hB⟩
theorem TU (a a2:Option Addr) (cap cap2:Nat) (l:List KeyB) (w:World) (hm:l.length≤maxLen) (hl:LiesK w a l) (hl2:LiesK w a2 l) :
  Calls Tryz.prog 47 #[.slice a l.length cap,.slice a2 l.length cap2] w fun e w'=>e=.returned (.bool true)∧Below w.heap.size w w':=by
 have Hl:=hid hl
 have Hl2:=hid hl2
 clear hl hl2
 unfold maxLen at hm
 have hne:((l.length:Int) != (l.length:Int))=false:=by simp
 go_enter Tryz.func47,Tryz.ntmps47
 go_wp2
 go_loopw [5] (fun i wr=>∃ k:Nat,k≤l.length∧i=.int .i64 (k:Int)∧Below w.heap.size w wr) (fun i _=>l.length - (intOf i).toNat)
 case atStart=>exact ⟨0,Nat.zero_le _,rfl,Below.refl _ _⟩
 case round =>
  obtain ⟨k,hk,rfl,hB⟩:=hrel
  by_cases hlt:k < l.length
  ·obtain ⟨b,off,rfl,hbw,hcell⟩:=(Hl.out.later hB).at_ (List.ne_nil_of_length_pos (by omega))
   obtain ⟨g1,g2⟩:=hcell k hlt
   obtain ⟨b',off',rfl,hbw',hcell'⟩:=(Hl2.out.later hB).at_ (List.ne_nil_of_length_pos (by omega))
   obtain ⟨k1,k2⟩:=hcell' k hlt
   clear hcell hcell'
   generalize l[k]=c at *
   have hki:(k:Int) < (l.length:Int):=by omega
   go_wp2_with fail
   go_quiet (fail)
   go_wp2_with fail
   go_roundw
   case rel=>exact ⟨k+1,by omega,by go_num,below_drewN hB nq⟩
   case measure=>simp [intOf];omega
  ·go_wp2
   go_ret
   exact ⟨rfl,hB⟩
theorem VZ {W:World} {base g n:Nat} {l r:List KeyB} (h:W.ownsRow base 63 2 (.slice (some ⟨g,0,none⟩) n n) n (xV (l++r))) (hok:∀ c ∈ l,DD c):LiesK W (some ⟨g,0,none⟩) l:=by
 refine ⟨hok,fun hne=>⟨g,0,rfl,(h.lt g rfl).2,fun j hj=>?_⟩⟩
 have hn:=h.1
 rw [JM,List.length_append] at hn
 obtain ⟨h1,h2⟩:=UD (l++r) j (by rw [List.length_append];omega)
 rw [List.getElem_append_left hj] at h1 h2
 simp only [Nat.zero_add]
 exact ⟨by rw [h.cellAt (j*2) (by omega)];exact h1,by rw [h.cellAt (j*2+1) (by omega)];exact h2⟩
theorem ZS (l:List KeyB):Jo l 8=l++List.replicate 8 markK:=by simp [Jo]
theorem IG {W:World} {base g:Nat} {l:List KeyB} (h:W.ownsRow base 63 2 (.slice (some ⟨g,0,none⟩) (l.length+8) (l.length+8)) (l.length+8) (xV (Jo l 8))) (k:Nat) (hk:k < 8) :
  W.cell? ⟨g,(l.length+k)*2,none⟩=some (.int .i64 markK.number)∧W.cell? ⟨g,(l.length+k)*2+1,none⟩=some (strB markK.secret):=by
 rw [ZS] at h
 obtain ⟨h1,h2⟩:=UD (l++List.replicate 8 markK) (l.length+k) (by simp;omega)
 have e:(l++List.replicate 8 markK)[l.length+k]'(by simp;omega)=markK:=by rw [List.getElem_append_right (by omega)];simp only [List.getElem_replicate]
 rw [e] at h1 h2
 exact ⟨by rw [h.cellAt _ (by omega)];exact h1,by rw [h.cellAt _ (by omega)];exact h2⟩
theorem Ni (a:Option Addr) (cap g base:Nat) (l:List KeyB) (w:World) (hm:l.length*24≤140737488351232) (hl:LiesK w a l)
  (hown:w.ownsRow base 63 2 (.slice (some ⟨g,0,none⟩) (l.length+8) (l.length+8)) (l.length+8) (xV (Jo l 8))) :
  Calls Tryz.prog 14 #[.slice (some ⟨g,0,none⟩) l.length (l.length+8),.slice a l.length cap] w fun e w'=>e=.returned (.bool true)∧Below w.heap.size w w':=by
 have Hl:=hid hl
 have Hown:=hid hown
 have hG:g < w.heap.size:=(hown.lt g rfl).2
 clear hl hown
 go_enter Tryz.func14,Tryz.ntmps14
 go_wp2_with fail
 refine (TU _ a (l.length+8) cap l _ (by unfold maxLen;omega) (VZ (by have:=Hown.out;rw [ZS] at this;exact this) Hl.out.ok) Hl.out).mono ?_
 rintro e w1 ⟨rfl,hb1⟩
 go_wp2_with fail
 go_loopw [8] (fun i wr=>∃ k:Nat,k≤8∧i=.int .i64 (k:Int)∧Below w.heap.size w wr) (fun i _=>8 - (intOf i).toNat)
 case atStart=>exact ⟨0,Nat.zero_le _,rfl,hb1⟩
 case round =>
  clear hb1
  obtain ⟨k,hk,rfl,hB⟩:=hrel
  by_cases hlt:k < 8
  ·obtain ⟨g1,g2⟩:=IG Hown.out k hlt
   have d1:=(hB.cell (p:=⟨g,(l.length+k)*2,none⟩) hG).trans g1
   have d2:=(hB.cell (p:=⟨g,(l.length+k)*2+1,none⟩) hG).trans g2
   have hGr:g < wr.heap.size:=Nat.lt_of_lt_of_le hG hB.size
   have hki:(l.length:Int)+(k:Int) < (l.length:Int)+8:=by omega
   have hk0:(0:Int)≤(l.length:Int)+(k:Int):=by omega
   have hkw:IntKind.i64.wrap ((l.length:Int)+(k:Int))=(l.length:Int)+(k:Int):=IntWalk.i64_in _ ⟨by omega,by omega⟩
   have htn:((l.length:Int)+(k:Int)).toNat=l.length+k:=by omega
   have hmk:=hid Ru
   clear g1 g2 Hown
   generalize markK=mc at *
   go_wp2_with fail
   go_region_with (go_at_call 40;refine (hmk.out _).mono ?_;rintro e w5 ⟨rfl,hb5⟩;have x1:=(hb5.cell (p:=⟨g,(l.length+k)*2,none⟩) hGr).trans d1;have x2:=(hb5.cell (p:=⟨g,(l.length+k)*2+1,none⟩) hGr).trans d2)
   all_goals
    go_wp2_with fail
    go_roundw
    case rel=>exact ⟨k+1,by omega,by go_num,hB.trans ((ji hb5).mono hB.size)⟩
    case measure=>simp [intOf];omega
  ·have hk8:k=8:=by omega
   subst hk8
   go_wp2
   go_ret
   exact ⟨rfl,hB⟩
end
section
def LA (file pre:List UInt8) (r:List KeyB) (trust:Bool) (w:World) (e:Ending) (w':World):Prop :=
 Below w.heap.size w w'∧((∃ err,qN file pre r trust=(err,none)∧err≠0∧e=.returned (.tuple #[.pointer none,.int .i64 err])) ∨
  ∃ S B a cap,qN file pre r trust=(0,some S)∧e=.returned (.tuple #[.pointer (some ⟨B,0,none⟩),.int .i64 0])∧w'.cell? ⟨B,0,none⟩=some (.slice a S.cols.length cap)∧LiesF w' a (xt pre r S) S.cols.length)
def QV:Prop:=∀ (file pre:List UInt8) (ra:Option Addr) (rcap:Nat) (r:List KeyB) (trust:Bool) (w:World),file.length≤maxLen→pre.length≤maxLen→r.length≤maxLen→LiesK w ra r →
 Calls Tryz.prog 38 #[strB file,strB pre,.slice ra r.length rcap,.bool trust] w (LA file pre r trust w)
def NW:Prop:=∀ (file pre:List UInt8) (r:List KeyB) (trust:Bool) (S:SheetF),qN file pre r trust=(0,some S)→S.cols.length≤1000∧∀ j,j < S.cols.length→(xt pre r S j).cells.length≤1000
theorem VP:NW:=by
 intro file pre r trust S h
 obtain ⟨_,_,foot,parts,footer,hok⟩:=RH h
 have hp:=hok.plan
 simp only [qX,Bool.and_eq_true,decide_eq_true_eq] at hp
 have hh:=hok.heads
 simp only [jV,Bool.and_eq_true,decide_eq_true_eq] at hh
 refine ⟨by omega,fun j hj=>?_⟩
 have hml:=qQ hok.mods
 unfold xt
 split
 ·exact Nat.zero_le _
 ·split
  ·exact Nat.zero_le _
  ·rename_i cells hc
   have:=(VK pre r (jk S.cols j).kind (jk S.cols j).key (R:=S.rows) (C:=S.cols.length) (G:=S.plan.group.toNat) (P:=S.plan.page.toNat) (c:=j) hj (by omega) (by omega) (M:=S.mods) hml (i:=(qz S).length) (cells:=cells) (by
    show jD _ _ _ _ _ _ ((qz S).take _) (S.mods.take _)=_
    rw [List.take_length,← hml,List.take_length]
    exact hc)).1
   have:=hok.rows
   simp only
   omega
theorem Co (hdoc:QV) (hshort:NW) (file pre:List UInt8) (ra:Option Addr) (rcap:Nat) (r:List KeyB) (trust:Bool) (w:World) (hfl:file.length≤maxLen) (hpl:pre.length≤maxLen) (hrm:r.length*24≤140737488351232) (hrl:r.length≤maxLen) (hl:LiesK w ra r) :
  Calls Tryz.prog 10 #[strB file,strB pre,.slice ra r.length rcap,.bool trust] w fun e w'=>∃ v,e=.returned (.tuple #[v,.bool true])∧Below w.heap.size w w':=by
 have Hl:=hid hl
 have HD:=hid (fun w' (h:LiesK w' ra r)=>hdoc file pre ra rcap r trust w' hfl hpl hrl h)
 have HSH:=hid (hshort file pre r trust)
 clear hl hdoc hshort
 go_enter Tryz.func10,Tryz.ntmps10
 go_wp2_with fail
 refine (AT ra rcap r w hrm Hl.out).mono ?_
 rintro e w2 ⟨q,rfl,hK2,hb2⟩
 have HK2:=hid hK2
 have HR2:Hid (LiesK w2 (some ⟨q,0,none⟩) r):=VZ (by have:=HK2.out;rw [ZS] at this;exact this) Hl.out.ok
 have HB2:=hid hb2
 clear hK2 hb2
 go_wp2_with fail
 refine (Ck file pre (some ⟨q,0,none⟩) (r.length+8) r trust w2 hfl hpl hrl HR2.out).mono ?_
 rintro e w3 ⟨hb3,hcase⟩
 have HB3:=hid (HB2.out.trans (hb3.mono HB2.out.size))
 have HK3:=hid (jw HK2.out hb3)
 have HL3:=hid (Hl.out.later HB3.out)
 clear hb3 HK2 HR2 HB2
 rcases hcase with ⟨err,hsf,herr,rfl⟩|⟨S,v,Vs,hsf,rfl,hfa⟩
 ·have Hsf:=hid hsf
  have Herr:=hid herr
  have hne:(err != 0)=true:=by rw [bne_iff_ne];exact herr
  clear hsf herr
  go_wp2_with fail
  refine (Ni ra rcap q w.heap.size r w3 hrm HL3.out HK3.out).mono ?_
  rintro e w4 ⟨rfl,hb4⟩
  have HB4:=hid (HB3.out.trans (hb4.mono HB3.out.size))
  have HL4:=hid (HL3.out.later hb4)
  clear hb4
  go_wp2_with fail
  refine (HD.out w4 HL4.out).mono ?_
  rintro e w5 ⟨hb5,⟨err',hsf',_,rfl⟩|⟨S,B,a,cap,hsf',_⟩⟩
  ·rw [Hsf.out] at hsf'
   injection hsf' with he _
   subst he
   have HB5:=hid (HB4.out.trans (hb5.mono HB4.out.size))
   have hee:(err == err)=true:=by simp
   clear hb5
   go_wp2
   go_ret2
   exact ⟨_,rfl,HB5.out⟩
  ·rw [Hsf.out] at hsf'
   injection hsf' with _ h2
   cases h2
 ·have Hsf:=hid hsf
  obtain ⟨hn,hsh⟩:=HSH.out S hsf
  obtain ⟨a,cap,rfl,hlf⟩:=hfa.lies hsh
  have Hlf:=hid hlf
  clear hsf hsh hfa hlf
  go_wp2_with fail
  refine (Ni ra rcap q w.heap.size r w3 hrm HL3.out HK3.out).mono ?_
  rintro e w4 ⟨rfl,hb4⟩
  have HB4:=hid (HB3.out.trans (hb4.mono HB3.out.size))
  have HL4:=hid (HL3.out.later hb4)
  have HF4:=hid (Hlf.out.later hb4)
  clear hb4
  go_wp2_with fail
  refine (HD.out w4 HL4.out).mono ?_
  rintro e w5 ⟨hb5,⟨err',hsf',herr',_⟩|⟨S',B,a',cap',hsf',rfl,hc5,hlf'⟩⟩
  ·rw [Hsf.out] at hsf'
   injection hsf' with he _
   exact absurd he.symm herr'
  ·rw [Hsf.out] at hsf'
   injection hsf' with _ he
   injection he with he
   subst he
   have HB5:=hid (HB4.out.trans (hb5.mono HB4.out.size))
   have HF5:=hid (HF4.out.later hb5)
   have HF5':=hid hlf'
   clear hb5 hlf'
   generalize xt pre r S=F at *
   generalize S.cols.length=n at *
   go_wp2_with fail
   refine (Px a a' cap cap' F n w5 hn HF5.out HF5'.out).mono ?_
   rintro e w6 ⟨rfl,hb6⟩
   have HB6:=hid (HB5.out.trans (hb6.mono HB5.out.size))
   clear hb6
   go_wp2
   go_ret2
   exact ⟨_,rfl,HB6.out⟩
theorem As (hdoc:QV) (file pre:List UInt8) (ra:Option Addr) (rcap:Nat) (r:List KeyB) (trust:Bool) (w:World) (hfl:file.length≤maxLen) (hpl:pre.length≤maxLen) (hrm:r.length*24≤140737488351232) (hrl:r.length≤maxLen) (hl:LiesK w ra r) :
  Calls Tryz.prog 4 #[strB file,strB pre,.slice ra r.length rcap,.bool trust] w fun e w'=>e=.returned (.bool true)∧Below w.heap.size w w':=by
 have HR:=hid (Co hdoc VP file pre ra rcap r trust w hfl hpl hrm hrl hl)
 clear hdoc hl
 go_enter Tryz.func4,Tryz.ntmps4
 go_wp2_with fail
 refine HR.out.mono ?_
 rintro e w1 ⟨v,rfl,hb1⟩
 have HB1:=hid hb1
 clear hb1
 go_wp2
 go_ret
 exact ⟨rfl,HB1.out⟩
end
section
theorem TJ {kind:Int} {l:List CellB} (h:qD kind l=true) (hok:∀ c ∈ l,okC c):(∀ c ∈ l,qx c)∧l.length≤60:=by
 unfold qD at h
 simp only [Bool.and_eq_true,Bool.or_eq_true,decide_eq_true_eq,List.all_eq_true] at h
 obtain ⟨⟨hk,hl⟩,hf⟩:=h
 refine ⟨fun c hc=>?_,hl⟩
 obtain ⟨h0,h1,_⟩:=hok c hc
 refine ⟨h0,h1,?_⟩
 have:=hf c hc
 unfold xL at this
 split at this
 ·simp at this;rw [this.2];simp
 ·split at this
  ·simp at this;rw [this];simp
  ·simp at this;exact this.2
end
section
def JT (M:List ModF):List Value:=M.map fun m=>strB m.plain
def zR (M:List ModF):List Value:=M.flatMap fun m=>[strB m.nonce,strB m.body]
theorem UX (M:List ModF) (m:ModF):JT (M++[m])=JT M++[strB m.plain]:=by simp [JT]
theorem KX (M:List ModF) (m:ModF):zR (M++[m])=zR M++[strB m.nonce,strB m.body]:=by simp [zR]
theorem qM {w:World} {b s n T:Nat} {e t:TypeId} {v:Value} {xs:List Value} {cs:Array Value} {fr:Nat × Nat} (h:w.ownsRow b e s v n xs) (hT:w.heap[T]?=some (.cells cs t fr)) (hne:e≠t):v.ownBlock=none∨v.ownBlock≠some T:=by
 rcases h.2 with ⟨rfl,_⟩|⟨g,cap,cur,rfl,_,hg,_⟩
 ·exact .inl rfl
 ·right
  intro e'
  injection e' with e'
  subst e'
  rw [hT] at hg
  injection hg with hg
  injection hg with h1 h2 h3
  exact hne h2.symm
theorem UQ {w:World} {base n:Nat} {sa:Option Addr} {sc:Nat} {L:List SpotB} (h:w.ownsRow base 161 6 (.slice sa n sc) n (JD L)) (k:Nat) (hk:k < L.length) :
  ∃ g,sa=some ⟨g,0,none⟩∧g < w.heap.size∧w.cell? ⟨g,k*6,none⟩=some (strB [(L[k]).sort])∧w.cell? ⟨g,k*6+1,none⟩=some (.int .i64 ((L[k]).g:Int))∧w.cell? ⟨g,k*6+2,none⟩=some (.int .i64 ((L[k]).c:Int))∧w.cell? ⟨g,k*6+3,none⟩=some (.int .i64 ((L[k]).p:Int))∧w.cell? ⟨g,k*6+4,none⟩=some (.int .i64 ((L[k]).start:Int))∧w.cell? ⟨g,k*6+5,none⟩=some (.int .i64 ((L[k]).many:Int)):=by
 have hl:(JD L).length=L.length*6:=XQ Kl 6 (fun _=>rfl) L
 have hn:n=L.length:=by have:=h.1;omega
 have at_:∀ i,i < 6→(JD L)[k*6+i]?=(Kl L[k])[i]?:=fun i hi=>Xp Kl 6 (fun _=>rfl) L k i hk hi
 rcases h.2 with ⟨h0,h1⟩|⟨g,cap,cur,hv,_⟩
 ·omega
 ·simp only [Value.slice.injEq] at hv
  obtain ⟨rfl,_,rfl⟩:=hv
  refine ⟨g,rfl,(h.lt g rfl).2,?_,?_,?_,?_,?_,?_⟩
  ·rw [h.cellAt _ (by omega)];exact at_ 0 (by decide)
  ·rw [h.cellAt _ (by omega)];exact at_ 1 (by decide)
  ·rw [h.cellAt _ (by omega)];exact at_ 2 (by decide)
  ·rw [h.cellAt _ (by omega)];exact at_ 3 (by decide)
  ·rw [h.cellAt _ (by omega)];exact at_ 4 (by decide)
  ·rw [h.cellAt _ (by omega)];exact at_ 5 (by decide)
theorem Yf {w:World} {base n:Nat} {ca:Option Addr} {cc:Nat} {t:List ColB} (h:w.ownsRow base 61 4 (.slice ca n cc) n (zQ t)) (k:Nat) (hk:k < t.length) :
  ∃ g,ca=some ⟨g,0,none⟩∧g < w.heap.size∧w.cell? ⟨g,k*4,none⟩=some (strB (t[k]).name)∧w.cell? ⟨g,k*4+1,none⟩=some (.int .i64 (t[k]).kind)∧w.cell? ⟨g,k*4+2,none⟩=some (.int .i64 (t[k]).key)∧w.cell? ⟨g,k*4+3,none⟩=some nilV:=by
 have hl:(zQ t).length=t.length*4:=XQ Ir 4 (fun _=>rfl) t
 have hn:n=t.length:=by have:=h.1;omega
 have at_:∀ i,i < 4→(zQ t)[k*4+i]?=(Ir t[k])[i]?:=fun i hi=>Xp Ir 4 (fun _=>rfl) t k i hk hi
 rcases h.2 with ⟨h0,h1⟩|⟨g,cap,cur,hv,_⟩
 ·omega
 ·simp only [Value.slice.injEq] at hv
  obtain ⟨rfl,_,rfl⟩:=hv
  refine ⟨g,rfl,(h.lt g rfl).2,?_,?_,?_,?_⟩
  ·rw [h.cellAt _ (by omega)];exact at_ 0 (by decide)
  ·rw [h.cellAt _ (by omega)];exact at_ 1 (by decide)
  ·rw [h.cellAt _ (by omega)];exact at_ 2 (by decide)
  ·rw [h.cellAt _ (by omega)];exact at_ 3 (by decide)
structure LAt (x w:World) (T q:Nat) (H:Value→Value→Array Value) (t:List ColB) (L:List SpotB) (cv sv pv ev xv:Value) (np:Nat) (M:List Value) (ne:Nat) (E:List Value) (parts:List UInt8) (st:Option (List UInt8)) (pl:List Nat):Prop where
 told:x.heap[T]?=some (.cells (H pv ev) 179 (0,0))
 cols:x.ownsRow w.heap.size 61 4 cv t.length (zQ t)
 spots:x.ownsRow w.heap.size 161 6 sv L.length (JD L)
 plains:x.ownsRow w.heap.size 9 1 pv np M
 seals:x.ownsRow w.heap.size 167 2 ev ne E
 spot:jS x q parts st
 places:x.ownsRow w.heap.size 3 1 xv pl.length (zE pl)
 below:Below w.heap.size w x
 tlow:w.heap.size≤T
 qlow:w.heap.size≤q
 apart:T≠q
section
variable {x y w:World} {T q:Nat} {H:Value→Value→Array Value} {t:List ColB} {L:List SpotB} {cv sv pv ev xv:Value} {np:Nat} {M:List Value} {ne:Nat} {E:List Value} {parts:List UInt8} {st:Option (List UInt8)} {pl:List Nat}
theorem LAt.later (h:LAt x w T q H t L cv sv pv ev xv np M ne E parts st pl) (hb:Below x.heap.size x y):LAt y w T q H t L cv sv pv ev xv np M ne E parts st pl :=
 ⟨jb hb h.told,jw h.cols hb,jw h.spots hb,jw h.plains hb,jw h.seals hb,JH h.spot (JS h.spot) (Kw hb) (fun b hb=>by cases hb),jw h.places hb,h.below.trans (hb.mono h.below.size),h.tlow,h.qlow,h.apart⟩
theorem LAt.alloc (h:LAt x w T q H t L cv sv pv ev xv np M ne E parts st pl) (o:Obj):LAt (x.alloc o) w T q H t L cv sv pv ev xv np M ne E parts st pl :=
 h.later ((Below.refl x.heap.size x).alloc (Nat.le_refl _) o)
theorem LAt.drew (h:LAt x w T q H t L cv sv pv ev xv np M ne E parts st pl):LAt x.drew w T q H t L cv sv pv ev xv np M ne E parts st pl :=
 h.later (qb (Below.refl x.heap.size x))
theorem LAt.read (h:LAt x w T q H t L cv sv pv ev xv np M ne E parts st pl) {st':Option (List UInt8)} (hg:x.grownBy y (some q)) (hs:jS y q parts st'):LAt y w T q H t L cv sv pv ev xv np M ne E parts st' pl:=by
 obtain ⟨at_,bad,hrow,_⟩:=h.spot
 exact ⟨qi hg h.told h.apart,h.cols.kept hg (qM h.cols hrow (by decide)),h.spots.kept hg (qM h.spots hrow (by decide)),h.plains.kept hg (qM h.plains hrow (by decide)),h.seals.kept hg (qM h.seals hrow (by decide)),hs,h.places.kept hg (qM h.places hrow (by decide)),h.below.trans (jg hg h.qlow h.below.size),h.tlow,h.qlow,h.apart⟩
theorem Jb {x y w:World} {b:Option Nat} (h:Below w.heap.size w x) (hg:x.grownBy y b) (hb:∀ k,b=some k→w.heap.size≤k):Below w.heap.size w y :=
 h.trans ⟨hg.os,hg.tape,hg.output,hg.size,fun k hk=>hg.block k (Nat.lt_of_lt_of_le hk h.size) (fun e=>by have:=hb k e.symm;omega)⟩
theorem Ue {x y:World} {b e s n q:Nat} {v:Value} {xs:List Value} {parts:List UInt8} {st:Option (List UInt8)} (h:jS x q parts st) (hg:x.grownBy y v.ownBlock) (ho:x.ownsRow b e s v n xs) (he:243≠e):jS y q parts st:=by
 obtain ⟨at_,bad,hrow,hat,hst⟩:=h
 exact ⟨at_,bad,jq hg ho hrow he,hat,hst⟩
theorem LAt.put (h:LAt x w T q H t L cv sv pv ev xv np M ne E parts st pl) {v:Value} {pl':List Nat} (hg:x.grownBy y xv.ownBlock) (ho:y.ownsRow w.heap.size 3 1 v pl'.length (zE pl')):LAt y w T q H t L cv sv pv ev v np M ne E parts st pl' :=
 ⟨jq hg h.places h.told (by decide),h.cols.kept hg (qc h.cols h.places (by decide)),h.spots.kept hg (qc h.spots h.places (by decide)),h.plains.kept hg (qc h.plains h.places (by decide)),h.seals.kept hg (qc h.seals h.places (by decide)),Ue h.spot hg h.places (by decide),ho,Jb h.below hg (fun k hk=>(h.places.lt k hk).1),h.tlow,h.qlow,h.apart⟩
theorem LAt.plain (h:LAt x w T q H t L cv sv pv ev xv np M ne E parts st pl) {v:Value} {n':Nat} {M':List Value} (hg:x.grownBy y pv.ownBlock) (ho:y.ownsRow w.heap.size 9 1 v n' M') (hH:∀ a b v',(H a b).setIfInBounds 7 v'=H v' b):LAt (y.setCell ⟨T,7,none⟩ v) w T q H t L cv sv v ev xv n' M' ne E parts st pl:=by
 have hT:=jq hg h.plains h.told (by decide)
 have hc:=h.cols.kept hg (qc h.cols h.plains (by decide))
 have hs:=h.spots.kept hg (qc h.spots h.plains (by decide))
 have he:=h.seals.kept hg (qc h.seals h.plains (by decide))
 have hp:=h.places.kept hg (qc h.places h.plains (by decide))
 have hq:=Ue h.spot hg h.plains (by decide)
 have hB:=Jb h.below hg (fun k hk=>(h.plains.lt k hk).1)
 have hset:=zS y T 7 v
 refine ⟨?_,hc.kept hset (qM hc hT (by decide)),hs.kept hset (qM hs hT (by decide)),ho.kept hset (qM ho hT (by decide)),he.kept hset (qM he hT (by decide)),xl hq hset (fun e=>h.apart e.symm),hp.kept hset (qM hp hT (by decide)),hB.trans (jg hset h.tlow hB.size),h.tlow,h.qlow,h.apart⟩
 rw [heap_setCell_same y T 7 _ _ v hT,hH]
theorem LAt.module (h:LAt x w T q H t L cv sv pv ev xv np M ne E parts st pl) {v:Value} {n':Nat} {E':List Value} (hg:x.grownBy y ev.ownBlock) (ho:y.ownsRow w.heap.size 167 2 v n' E') (hH:∀ a b v',(H a b).setIfInBounds 8 v'=H a v'):LAt (y.setCell ⟨T,8,none⟩ v) w T q H t L cv sv pv v xv np M n' E' parts st pl:=by
 have hT:=jq hg h.seals h.told (by decide)
 have hc:=h.cols.kept hg (qc h.cols h.seals (by decide))
 have hs:=h.spots.kept hg (qc h.spots h.seals (by decide))
 have he:=h.plains.kept hg (qc h.plains h.seals (by decide))
 have hp:=h.places.kept hg (qc h.places h.seals (by decide))
 have hq:=Ue h.spot hg h.seals (by decide)
 have hB:=Jb h.below hg (fun k hk=>(h.seals.lt k hk).1)
 have hset:=zS y T 8 v
 refine ⟨?_,hc.kept hset (qM hc hT (by decide)),hs.kept hset (qM hs hT (by decide)),he.kept hset (qM he hT (by decide)),ho.kept hset (qM ho hT (by decide)),xl hq hset (fun e=>h.apart e.symm),hp.kept hset (qM hp hT (by decide)),hB.trans (jg hset h.tlow hB.size),h.tlow,h.qlow,h.apart⟩
 rw [heap_setCell_same y T 8 _ _ v hT,hH]
theorem zF {x:World} {b e s n B:Nat} {v:Value} {xs:List Value} (h:x.ownsRow b e s v n xs) (hB:x.heap.size≤B):v.ownBlock=none∨v.ownBlock≠some B:=by
 rcases hv:v.ownBlock with _|g
 ·exact .inl rfl
 ·refine .inr (fun e=>?_)
  have:=(h.lt g hv).2
  injection e with e
  omega
theorem LAt.later_row (h:LAt x w T q H t L cv sv pv ev xv np M ne E parts st pl) (B:Nat) (cs:Array Value) {old:Array Value} (hB:x.heap[B]?=some (.cells old 167 (0,0))) (hw:w.heap.size≤B) (hT:T≠B) (hq:q≠B) (he:ev.ownBlock=none∨ev.ownBlock≠some B):LAt (x.setRow B cs) w T q H t L cv sv pv ev xv np M ne E parts st pl:=by
 have hg:=Qy x B cs
 exact ⟨qi hg h.told hT,h.cols.kept hg (qM h.cols hB (by decide)),h.spots.kept hg (qM h.spots hB (by decide)),h.plains.kept hg (qM h.plains hB (by decide)),h.seals.kept hg he,xl h.spot hg hq,h.places.kept hg (qM h.places hB (by decide)),h.below.trans (jg hg hw h.below.size),h.tlow,h.qlow,h.apart⟩
theorem LAt.spotc {sg sc:Nat} (h:LAt x w T q H t L cv (.slice (some ⟨sg,0,none⟩) L.length sc) pv ev xv np M ne E parts st pl) (k:Nat) (hk:k < L.length):x.cell? ⟨sg,k*6,none⟩=some (strB [(L[k]).sort])∧x.cell? ⟨sg,k*6+2,none⟩=some (.int .i64 ((L[k]).c:Int)):=by
 obtain ⟨g,hg,_,h0,_,h2,_⟩:=UQ h.spots k hk
 simp only [Option.some.injEq,Addr.mk.injEq,and_true] at hg
 subst hg
 exact ⟨h0,h2⟩
theorem LAt.keyc {cg cc:Nat} (h:LAt x w T q H t L (.slice (some ⟨cg,0,none⟩) t.length cc) sv pv ev xv np M ne E parts st pl) (c:Nat) (hc:c < t.length):x.cell? ⟨cg,c*4+2,none⟩=some (.int .i64 (t[c]).key):=by
 obtain ⟨g,hg,_,_,_,h2,_⟩:=Yf h.cols c hc
 simp only [Option.some.injEq,Addr.mk.injEq,and_true] at hg
 subst hg
 exact h2
end
theorem Yv {t:List ColB} {parts:List UInt8} {L:List SpotB} {k at_:Nat} {bad:Bool} {s:SpotB} {pl:List Nat} {M:List ModF} {st st':Option (List UInt8)} {m:ModF} (hs:L[k]?=some s) (hM:qI t (some parts) (L.take k)=(M,st)) (hat:at_≤parts.length) (hst:st=if bad=true then none else some (parts.drop at_)) (hm:Kp (jk t s.c).key st=(m,st')) (h65:parts.length≤65000)
  (h1:pl.length=(jp t 4 true (L.take k) M).length) (h2:∀ x ∈ pl,x≤70000) (h3:∀ rest,st=some rest→pl=jp t 4 true (L.take k) M) :
  (pl++(if qE true (L.take k)=true then [4+at_] else [])).length=(jp t 4 true (L.take (k+1)) (M++[m])).length∧(∀ x ∈ pl++(if qE true (L.take k)=true then [4+at_] else []),x≤70000)∧∀ rest,st'=some rest→pl++(if qE true (L.take k)=true then [4+at_] else [])=jp t 4 true (L.take (k+1)) (M++[m]):=by
 have hk:k < L.length:=(List.getElem?_eq_some_iff.1 hs).1
 have hl:M.length=k:=by
  have:=RI t (some parts) (L.take k)
  rw [hM,List.length_take] at this
  simp only at this
  omega
 rw [Gv hs hl m]
 refine ⟨?_,?_,?_⟩
 ·rw [List.length_append,List.length_append,h1]
  split<;>rfl
 ·intro x hx
  rcases List.mem_append.1 hx with hx|hx
  ·exact h2 x hx
  ·split at hx
   ·simp at hx
    omega
   ·cases hx
 ·intro rest hr
  cases st with
  | none=>rw [RV] at hm;injection hm with _ hm;rw [hr] at hm;cases hm
  | some r =>
   rw [h3 r rfl]
   obtain ⟨_,hp,_⟩:=MC hM
   cases bad with
   | true=>cases hst
   | false =>
    simp at hst
    have hd:at_=(jl t (L.take k) M).length:=by
     have h4:=congrArg List.length hp
     rw [List.length_append,hst,List.length_drop] at h4
     omega
    rw [hd]
theorem Vv {t:List ColB}:∀ (L:List SpotB) (M:List ModF) (n:Nat) (b:Bool),(jp t n b L M).length≤L.length:=by
 intro L
 induction L with
 | nil=>intro M n b;simp [jp]
 | cons s L ih =>
  intro M n b
  cases M with
  | nil=>simp [jp]
  | cons m M =>
   have:=ih M (n+(qC (jk t s.c).key m).length) (decide (s.sort=77))
   simp only [jp,List.length_append,List.length_cons]
   split<;>simp<;>omega
theorem Yp {t:List ColB} {R C G P:Nat} {M:List ModF} (hM:M.length=(jC R C G P).length) (hG:1≤G) (hR:R≤60) (hC:C≤6):(jp t 4 true (jC R C G P) M).length≤360:=by
 rw [XE ⟨[],⟨0,0,0,false⟩,[],0⟩ [] _ _ _ _ ⟨[],[]⟩ hM]
 have h1:(zy ⟨[],⟨0,0,0,false⟩,[],0⟩ [] ⟨[],[]⟩ true (jC R C G P)).length=jW R G*C:=Zd _ _ _ _ _ _ _ _
 have h2:=Xg (n:=R) hG
 have h3:jW R G*C≤60*6:=Nat.mul_le_mul (by omega) hC
 omega
theorem Ry {R C G P:Nat} (hG:1≤G) (hP:1≤P) (hG6:G≤60) (hR:R≤60) (hC:C≤6):(jC R C G P).length≤21960:=by
 have h1:=RM R C G P (jW R G) hP hG6 hC
 have h2:=Xg (n:=R) hG
 unfold jC
 omega
def ToldAt (w:World) (T base:Nat) (S:SheetF):Prop :=
 ∃ cv sv pv ev,w.heap[T]?=some (.cells (toldC (S.rows:Int) S.plan.group S.plan.page S.plan.foot cv sv pv ev) 179 (0,0))∧w.ownsRow base 61 4 cv S.cols.length (zQ S.cols)∧w.ownsRow base 161 6 sv (qz S).length (JD (qz S))∧w.ownsRow base 9 1 pv S.mods.length (JT S.mods)∧w.ownsRow base 167 2 ev S.mods.length (zR S.mods)
def LJ (f:FormF) (footer:List UInt8) (w:World) (e:Ending) (w':World):Prop :=
 Below w.heap.size w w'∧((Gs f.foot f.parts footer=none∧∃ v,e=.returned (.tuple #[v,.bool false]))∨∃ S T,Gs f.foot f.parts footer=some S∧e=.returned (.tuple #[.pointer (some ⟨T,0,none⟩),.bool true])∧ToldAt w' T w.heap.size S)
theorem Tryz.infoModule:(Tryz.prog.info? 167).map (fun i=>(i.zero,i.size,i.bytes))=some (some (.agg #[.string ⟨#[]⟩,.string ⟨#[]⟩]),2,32):=by kernel_rfl
end
section
theorem Ad (f:FormF) (footer:List UInt8) (w:World) (hf:f.foot≤255) (hparts:f.parts.length≤65000) (hs:footer.length≤maxLen) :
  Calls Tryz.prog 90 #[.agg (fileC f),strB footer] w (LJ f footer w):=by
 obtain ⟨hb0,hl0,ho0,ho1⟩:=JP w (fileC f) 169 #[strB footer,.int .i64 0,.bool false] 243
 have HS0:Hid (jS ((w.alloc (.cells (fileC f) 169)).alloc (.cells #[strB footer,.int .i64 0,.bool false] 243)) (w.heap.size+1) footer (some footer)):=⟨0,false,ho1,Nat.zero_le _,rfl⟩
 have HB0:=hid hb0
 have Ho0:=hid ho0
 have hl0':=hl0
 have HLN:Hid (ZK f.foot footer=false→Gs f.foot f.parts footer=none):=fun h=>by
  unfold Gs
  rw [if_neg (by rw [h];decide)]
 clear hb0 ho0 ho1
 go_enter Tryz.func90,Tryz.ntmps90
 go_upto_region 2 with fail
 generalize hW0:(w.alloc _).alloc _=W0 at *
 clear hW0
 have c1:W0.cell? ⟨w.heap.size,1,none⟩=some (.int .i64 (f.foot:Int)):=by rw [jd Ho0.out];rfl
 go_wp2_with fail
 clear c1
 refine (Ym (w.heap.size+1) f.foot footer W0 hs HS0.out hf).mono ?_
 rintro e w1 ⟨hg1,T,cv,rfl,hT0,hT1,hown1⟩
 have Ho1:=hid (qi hg1 Ho0.out (by omega))
 have HB1:=hid (HB0.out.trans (jg hg1 (by omega) HB0.out.size))
 have HT1:=hid hT1
 have HO1:=hid hown1
 obtain ⟨ca,cc,rfl⟩:=jr hown1
 clear hg1 hT1 hown1 HS0 Ho0
 cases hh:ZK f.foot footer with
 | false =>
  have HN:=hid (HLN.out hh)
  clear hh
  go_wp2
  go_ret2
  exact ⟨HB1.out,.inl ⟨HN.out,_,rfl⟩⟩
 | true =>
  have HH:=hid hh
  clear hh HLN
  obtain ⟨G,P,F,hpl⟩:∃ G P F:Nat,zn footer=⟨(G:Int),(P:Int),(F:Int),false⟩:=⟨_,_,_,rfl⟩
  have hb:=HH.out
  unfold ZK at hb
  simp only [Bool.and_eq_true] at hb
  obtain ⟨_,hb1,hb2,_⟩:=hb
  rw [hpl] at hb1
  simp only [qX,Bool.and_eq_true,decide_eq_true_eq] at hb1
  simp only [jV,Bool.and_eq_true,decide_eq_true_eq] at hb2
  have hR60:qK footer≤60:=xI 60 _
  have hC6:(xO footer).1.length≤6:=by omega
  have hG1:1≤G:=by omega
  have hG6:G≤60:=by omega
  have hP1:1≤P:=by omega
  have hP6:P≤60:=by omega
  have hF9:F≤9:=by omega
  have HCS:Hid (∀ c ∈ (xO footer).1,c.name.length≤8∧(c.kind=0∨c.kind=1)∧0≤c.key∧c.key≤9):=VY _ _
  have HBA:Hid (∀ c ∈ (xO footer).1,c.cells=[]):=Ui _ _
  have HSB:Hid (Zz footer=jC (qK footer) (xO footer).1.length G P):=by
   show jC _ _ (zn footer).group.toNat (zn footer).page.toNat=_
   rw [hpl]
   rfl
  have HSP:=hid (fun w'=>Cs (qK footer) (xO footer).1.length G P F false w' hR60 hC6 hG1 hG6 hP1 hP6)
  have HLR:Hid (Gs f.foot f.parts footer=if (Ky f.parts footer).2=some []∧qH (qK footer) (zn footer) (xO footer).1 (jp (xO footer).1 4 true (Zz footer) (Ky f.parts footer).1)=footer then some ⟨qK footer,zn footer,(xO footer).1,(Ky f.parts footer).1⟩ else none):=by
   show _=_
   unfold Gs
   rw [if_pos HH.out]
  have HMR:Hid (Ky f.parts footer=qI (xO footer).1 (some f.parts) (Zz footer)):=rfl
  have HPL:=hid hpl
  rw [hpl] at HT1
  clear hb1 hb2 hpl HH
  go_upto_region 5 with fail
  obtain ⟨d0,d1,d2,d3,d4,d5,d6,_⟩:=xq HT1.out
  refine wp_region_held_drew (S:=fun w'=>w'.cell? ⟨T,0,none⟩=some (.int .i64 (qK footer:Int))∧w'.cell? ⟨T,1,none⟩=some (.int .i64 (G:Int))∧w'.cell? ⟨T,2,none⟩=some (.int .i64 (P:Int))∧w'.cell? ⟨T,3,none⟩=some (.int .i64 (F:Int))∧w'.cell? ⟨T,4,none⟩=some (.bool false)∧w'.cell? ⟨T,5,none⟩=some (.slice ca (xO footer).1.length cc)) (by kernel_rfl) ⟨d0,d1,d2,d3,d4,d5⟩ (fun hHeld=>?_)
  refine tk 0 (.pointer (some ⟨T,0,none⟩)) ?_
  refine tk 1 (.pointer (some ⟨T,0,none⟩)) ?_
  refine tk 2 (.pointer (some ⟨T,0,none⟩)) ?_
  refine tk 3 (.pointer (some ⟨T,0,none⟩)) ?_
  refine tk 4 (.int .i64 (qK footer:Int)) ?_
  refine tk 5 (.pointer (some ⟨T,0,none⟩)) ?_
  refine tk 6 (.pointer (some ⟨T,0,none⟩)) ?_
  refine tk 7 (.pointer (some ⟨T,5,none⟩)) ?_
  refine tk 8 (.slice ca (xO footer).1.length cc) ?_
  refine tk 9 (.int .i64 ((xO footer).1.length:Int)) ?_
  refine tk 10 (.pointer (some ⟨T,0,none⟩)) ?_
  refine tk 11 (.pointer (some ⟨T,0,none⟩)) ?_
  refine tk 12 (.pointer (some ⟨T,1,none⟩)) ?_
  refine tk 13 (.agg #[.int .i64 (G:Int),.int .i64 (P:Int),.int .i64 (F:Int),.bool false]) ?_
  simp only [ga,gb,gc,Act.put,gd,ge,gf]
  refine wpAnyH_ready (rs:=[14]) (by kernel_rfl) (by simp) ?_
  refine AllReadyH.cons (o:=_) rfl (fun K hK=>?_) AllReadyH.nil
  simp only [ga,gb,gc]
  go_simp
  go_at_call 82
  refine (HSP.out _).mono ?_
  rintro e w2 ⟨sv,rfl,hown2,hb2⟩
  have hb2':=ji hb2
  have HB2:=hid (HB1.out.trans (hb2'.mono HB1.out.size))
  have Ho2:=hid (jb hb2' Ho1.out)
  have HT2:=hid (jb hb2' HT1.out)
  have HO2:=hid (jw HO1.out hb2')
  have HV2:Hid (w2.ownsRow w1.heap.size 161 6 sv (jC (qK footer) (xO footer).1.length G P).length (JD (jC (qK footer) (xO footer).1.length G P))):=hown2
  obtain ⟨sa,sc,rfl⟩:=jr hown2
  have hTlt:T < w1.heap.size:=(Array.getElem?_eq_some_iff.1 HT1.out).1
  clear hb2 hb2' HSP d0 d1 d2 d3 d4 d5 d6 HT1 HO1 Ho1 HB1 hown2
  obtain ⟨d0,d1,d2,d3,d4,d5,d6,_⟩:=xq HT2.out
  try go_wp2_with fail
  refine hK.out _ _ ⟨d0,d1,d2,d3,d4,d5⟩ (fun hHeld=>?_)
  clear hK K
  try simp only [ga,gb,gc,Act.put,gd,ge,gf]
  refine tk 15 (.pointer (some ⟨T,0,none⟩)) ?_
  refine tk 16 (.pointer (some ⟨T,6,none⟩)) ?_
  simp only [ga,gb,gc,Act.put,gd,ge,gf]
  refine wpAnyH_ready (rs:=[17]) (by kernel_rfl) (by simp) ?_
  refine AllReadyH.cons (o:=_) rfl (fun K hK=>?_) AllReadyH.nil
  simp only [ga,gb,gc]
  have f6:=frozen_of_row w2 T 6 _ _ HT2.out
  go_simp
  try go_wp2_with fail
  have hgs:=zS w2 T 6 (.slice sa (jC (qK footer) (xO footer).1.length G P).length sc)
  have HT3:Hid ((w2.setCell ⟨T,6,none⟩ (.slice sa (jC (qK footer) (xO footer).1.length G P).length sc)).heap[T]?=some (.cells (toldC (qK footer:Int) (G:Int) (P:Int) (F:Int) (.slice ca (xO footer).1.length cc) (.slice sa (jC (qK footer) (xO footer).1.length G P).length sc) nilV nilV) 179 (0,0))):=heap_setCell_same w2 T 6 _ _ _ HT2.out
  have HO3:=hid (HO2.out.kept hgs (qM HO2.out HT2.out (by decide)))
  have HV3:=hid (HV2.out.kept hgs (qM HV2.out HT2.out (by decide)))
  have Ho3:=hid (qi hgs Ho2.out (by omega))
  have HB3:=hid (HB2.out.trans (jg hgs (by omega) HB2.out.size))
  have hz3:=HB2.out.size
  obtain ⟨e0,e1,e2,e3,e4,e5,_⟩:=xq HT3.out
  refine hK.out _ _ ⟨e0,e1,e2,e3,e4,e5⟩ (fun hHeld=>?_)
  clear hK K
  refine wpAnyH_done (by kernel_rfl) ?_ _
  clear hHeld hgs e0 e1 e2 e3 e4 e5 d0 d1 d2 d3 d4 d5 d6 f6 HT2 HO2 HV2 Ho2 HB2
  generalize hw3:w2.setCell _ _=w3 at *
  clear hw3
  go_upto_region 7 with fail
  have c2:w3.cell? ⟨w.heap.size,2,none⟩=some (strB f.parts):=by rw [jd Ho3.out];rfl
  go_upto_region 8 with fail
  clear c2
  have HS4:=hid (UM w3 f.parts)
  have HT4:=hid (jt (.cells #[strB f.parts,.int .i64 0,.bool false] 243) HT3.out)
  have HO4:=hid (HO3.out.alloc (.cells #[strB f.parts,.int .i64 0,.bool false] 243))
  have HV4:=hid (HV3.out.alloc (.cells #[strB f.parts,.int .i64 0,.bool false] 243))
  have HB4:=hid (HB3.out.alloc HB3.out.size (.cells #[strB f.parts,.int .i64 0,.bool false] 243))
  have hTq:T < w3.heap.size:=(Array.getElem?_eq_some_iff.1 HT3.out).1
  have hqw:w.heap.size≤w3.heap.size:=HB3.out.size
  clear HT3 HO3 HV3 Ho3 HB3
  generalize hw4:w3.alloc _=w4 at *
  clear hw4
  generalize hq:w3.heap.size=q at *
  clear hq
  generalize xO footer=CR at *
  obtain ⟨t,stc⟩:=CR
  simp only at *
  go_wp2
  go_loopw [9,11] (fun v i wr=>∃ (k:Nat) (pl:List Nat) (pv ev:Value),k≤(jC (qK footer) t.length G P).length∧i=.int .i64 (k:Int)∧LAt wr w T q (fun a b=>toldC (qK footer:Int) (G:Int) (P:Int) (F:Int) (.slice ca t.length cc) (.slice sa (jC (qK footer) t.length G P).length sc) a b) t (jC (qK footer) t.length G P) (.slice ca t.length cc) (.slice sa (jC (qK footer) t.length G P).length sc) pv ev v k (JT (qI t (some f.parts) ((jC (qK footer) t.length G P).take k)).1) k (zR (qI t (some f.parts) ((jC (qK footer) t.length G P).take k)).1) f.parts (qI t (some f.parts) ((jC (qK footer) t.length G P).take k)).2 pl∧pl.length=(jp t 4 true ((jC (qK footer) t.length G P).take k) (qI t (some f.parts) ((jC (qK footer) t.length G P).take k)).1).length∧(∀ x ∈ pl,x≤70000)∧(∀ rest,(qI t (some f.parts) ((jC (qK footer) t.length G P).take k)).2=some rest→pl=jp t 4 true ((jC (qK footer) t.length G P).take k) (qI t (some f.parts) ((jC (qK footer) t.length G P).take k)).1)) (fun _ i _=>(jC (qK footer) t.length G P).length - (intOf i).toNat)
  case atStart=>exact ⟨0,[],nilV,nilV,Nat.zero_le _,rfl,⟨HT4.out,jy HO4.out (by omega),jy HV4.out (by omega),World.ownsRow_nil _ _ _ _,World.ownsRow_nil _ _ _ _,HS4.out,World.ownsRow_nil _ _ _ _,HB4.out,(by omega),(by omega),(by omega)⟩,rfl,(by intro x hx;cases hx),(fun rest _=>rfl)⟩
  case round =>
   have hLn:=Ry (C:=t.length) hG1 hP1 hG6 hR60 hC6
   have HLC:Hid (∀ s ∈ (jC (qK footer) t.length G P),s.c < t.length):=fun s hs=>(TT s hs).1
   have HLS:Hid (∀ s ∈ (jC (qK footer) t.length G P),s.sort=80∨s.sort=77):=ZI
   have HCN:Hid (∀ M:List ModF,M.length=(jC (qK footer) t.length G P).length→(jp t 4 true (jC (qK footer) t.length G P) M).length≤360):=fun M hM=>Yp hM hG1 hR60 hC6
   generalize hL:(jC (qK footer) t.length G P)=L at *
   obtain ⟨k,pl,pv,ev,hkL,rfl,hA,hpk,hpx,hpq⟩:=hrel
   have HMM:Hid (qI t (some f.parts) (L.take k)=((qI t (some f.parts) (L.take k)).1,(qI t (some f.parts) (L.take k)).2)):=rfl
   have HML:=hid (RI t (some f.parts) (L.take k))
   obtain ⟨xa,xc,rfl⟩:=jr hA.places
   obtain ⟨pa,pc,rfl⟩:=jr hA.plains
   obtain ⟨ea,ec,rfl⟩:=jr hA.seals
   have HA:=hid hA
   have HPK:=hid hpk
   have HPX:=hid hpx
   have HPQ:=hid hpq
   have HL:=hid hL
   clear hA hpk hpx hpq hL HT4 HO4 HV4 HS4 HB4
   have hwz:=HA.out.below.size
   obtain ⟨d0,d1,d2,d3,d4,d5,d6,d7,d8⟩:=xq HA.out.told
   by_cases hlt:k < L.length
   ·have hki:(k:Int) < (L.length:Int):=by omega
    obtain ⟨sg,rfl,hsg,s0,s1,s2,s3,s4,s5⟩:=UQ HA.out.spots k hlt
    have hcl:=HLC.out L[k] (List.getElem_mem hlt)
    obtain ⟨cg,rfl,hcg,t0,t1,t2,t3⟩:=Yf HA.out.cols (L[k]).c hcl
    have hgk:L[k]?=some L[k]:=List.getElem?_eq_getElem hlt
    have HGK:=hid hgk
    have hca:=hid (Xb hcl)
    obtain ⟨at_,bad,hsrow,hat,hst⟩:=HA.out.spot
    have HST:=hid hst
    have HAT:=hid hat
    obtain ⟨m,st',hmr⟩:∃ m st',Kp (jk t (L[k]).c).key (qI t (some f.parts) (L.take k)).2=(m,st'):=⟨_,_,rfl⟩
    have HNX:=hid (Yv hgk HMM.out hat hst hmr hparts HPK.out HPX.out HPQ.out)
    have HMS:Hid (qI t (some f.parts) (L.take (k+1))=((qI t (some f.parts) (L.take k)).1++[m],st')):=by
     show _=_
     rw [Dw t (some f.parts) hgk,hmr]
    have HMR:=hid hmr
    have hpl6:pl.length≤21960:=by
     have h1:=Vv (t:=t) (L.take k) (qI t (some f.parts) (L.take k)).1 4 true
     have h2:=HPK.out
     rw [List.length_take] at h1
     omega
    clear hgk hmr hst HPK HPX HPQ HMM
    go_upto_region 11 with fail
    go_cut [71] (fun bv wd=>bv=.bool (qE true (L.take k))∧wr=wd)
    case first =>
     clear s0 s1 s2 s3 s4 s5 t0 t1 t2 t3 HNX HMS HMR
     by_cases hk0:k=0
     ·subst hk0
      go_wp2
      go_meet
      case rel=>exact ⟨rfl,rfl⟩
     ·obtain ⟨z,rfl⟩:∃ z,k=z+1:=⟨k - 1,by omega⟩
      obtain ⟨sg',hsg',_,z0,_⟩:=UQ HA.out.spots z (by omega)
      simp only [Option.some.injEq,Addr.mk.injEq,and_true] at hsg'
      subst hsg'
      have HMZ:=hid (EQ (L:=L) (k:=z) true (List.getElem?_eq_getElem (by omega)))
      have hk1:(((z:Int)+1) == 0)=false:=by simp;omega
      have hk2:IntKind.i64.wrap ((z:Int)+1 - 1)=(z:Int):=by rw [IntKind.wrap_i64];omega
      have hmi:(z:Int) < (L.length:Int):=by omega
      rcases HLS.out L[z] (List.getElem_mem (by omega)) with hso|hso
      ·rw [hso] at z0 HMZ
       go_wp2
       go_meet
       case rel=>exact ⟨by rw [HMZ.out];simp,rfl⟩
      ·rw [hso] at z0 HMZ
       go_wp2
       go_meet
       case rel=>exact ⟨by rw [HMZ.out];simp,rfl⟩
    case rest =>
     obtain ⟨rfl,rfl⟩:=hcut
     go_upto_if 71 with fail
     go_cut [9,71] (fun xv _ wd=>LAt wd w T q (fun a b=>toldC (qK footer:Int) (G:Int) (P:Int) (F:Int) (.slice (some ⟨cg,0,none⟩) t.length cc) (.slice (some ⟨sg,0,none⟩) L.length sc) a b) t L (.slice (some ⟨cg,0,none⟩) t.length cc) (.slice (some ⟨sg,0,none⟩) L.length sc) (.slice pa k pc) (.slice ea k ec) xv k (JT (qI t (some f.parts) (L.take k)).1) k (zR (qI t (some f.parts) (L.take k)).1) f.parts (qI t (some f.parts) (L.take k)).2 (pl++(if qE true (L.take k)=true then [4+at_] else [])))
     case first =>
      cases hml:qE true (L.take k) with
      | true =>
       have y1:wr.cell? ⟨q,1,none⟩=some (.int .i64 (at_:Int)):=by rw [jd hsrow];rfl
       have hw4:IntKind.i64.wrap (4+(at_:Int))=((4+at_:Nat):Int):=by rw [IntKind.wrap_i64];omega
       have hown:=HA.out.places
       obtain ⟨i0,hi,hz0,hz1,hz2⟩:=info_parts Tryz.infoIntW
       go_wp2_with (at_builtin;refine wpList_append_own _ rfl (.tmp 72) (.tmp 78) 82 rfl w.heap.size 3 i0 (.int .i64 0) 1 8 Tryz.underlying82 hi hz0 hz1 hz2 rfl (by decide) _ _ _ rfl (hown.alloc _) ⟨_,0,none⟩ 1 1 [.int .i64 ((4+at_:Nat):Int)] rfl rfl (qj wr #[.int .i64 ((4+at_:Nat):Int)] 3) (by intro u hu;simp at hu;subst hu;rfl) (by unfold maxLen;omega) (by omega) (by simp;omega) ?_;intro v3 w4 hown4 hgr4 _)
       have HA4:=hid ((HA.out.alloc (.cells #[.int .i64 ((4+at_:Nat):Int)] 3)).put (v:=v3) (pl':=pl++[4+at_]) hgr4 (by
        rw [YU,List.length_append]
        exact hown4))
       clear hown hown4 hgr4
       go_wp2
       go_meet
       case rel =>
        rw [if_pos hml]
        exact HA4.out
      | false =>
       go_wp2
       go_meet
       case rel =>
        rw [if_neg (by rw [hml];decide),List.append_nil]
        exact HA.out
     case rest =>
      have HA1:=hid hcut
      generalize hp2:(pl++(if qE true (L.take k)=true then [4+at_] else []))=pl2 at *
      clear hp2 hcut HA d0 d1 d2 d3 d4 d5 d6 d7 d8 s0 s1 s2 s3 s4 s5 t0 t1 t2 t3 hsrow
      obtain ⟨xb,xd,hxe⟩:=jr HA1.out.places
      subst hxe
      have Hbx:=hid (qg wc #[Value.string { data:=#[] },Value.string { data:=#[] }] 167).2.2.2
      have HA2:=hid (HA1.out.alloc (.cells #[Value.string { data:=#[] },Value.string { data:=#[] }] 167))
      have hBq:q < wc.heap.size:=JS HA1.out.spot
      have hBT:T < wc.heap.size:=(Array.getElem?_eq_some_iff.1 HA1.out.told).1
      have hBw:w.heap.size≤wc.heap.size:=HA1.out.below.size
      have HEB:=hid (zF HA1.out.seals (Nat.le_refl _))
      clear HA1
      go_upto_region 15 with fail
      generalize hw5:wc.alloc _=w5 at *
      clear hw5
      generalize hB:wc.heap.size=B at *
      clear hB
      have e2:=(HA2.out.spotc k hlt).2
      have e3:=HA2.out.keyc (L[k]).c hcl
      have hci:(((L[k]).c:Nat):Int) < (t.length:Int):=by omega
      rw [hca.out] at HMR
      generalize (t[(L[k]).c]).key=ky at *
      obtain ⟨d0,d1,d2,d3,d4,d5,d6,d7,d8⟩:=xq HA2.out.told
      go_quiet (fail)
      clear d0 d1 d2 d3 d4 d5 d6 d7 d8 e2 e3
      have hbn:=below_drewN (Below.refl w5.heap.size w5) nq
      have HA3:=hid (HA2.out.later hbn)
      have Hbx3:=hid (jb hbn Hbx.out)
      clear hbn HA2 Hbx
      generalize w5.drewN nq=w6 at *
      go_upto_if 96 with fail
      go_cut [12,96] (fun sv _ wd=>sv=strB m.plain∧LAt wd w T q (fun a b=>toldC (qK footer:Int) (G:Int) (P:Int) (F:Int) (.slice (some ⟨cg,0,none⟩) t.length cc) (.slice (some ⟨sg,0,none⟩) L.length sc) a b) t L (.slice (some ⟨cg,0,none⟩) t.length cc) (.slice (some ⟨sg,0,none⟩) L.length sc) (.slice pa k pc) (.slice ea k ec) (.slice xb pl2.length xd) k (JT (qI t (some f.parts) (L.take k)).1) k (zR (qI t (some f.parts) (L.take k)).1) f.parts st' pl2∧wd.heap[B]?=some (.cells #[strB m.nonce,strB m.body] 167 (0,0)))
      case first =>
       by_cases hk0:ky=0
       ·subst hk0
        have hmr:=HMR.out
        unfold Kp at hmr
        rw [if_pos rfl] at hmr
        injection hmr with h1 h2
        subst h1 h2
        have hn2:(xu (qI t (some f.parts) (L.take k)).2).1≤65535:=Gz _
        refine wp_cond_true rfl ?_
        go_wp2_with fail
        refine (NP q f.parts (qI t (some f.parts) (L.take k)).2 w6 (by unfold maxLen;omega) HA3.out.spot).mono ?_
        rintro e w7 ⟨rfl,hsp7,hg7⟩
        have HA7:=hid (HA3.out.read hg7 hsp7)
        have Hb7:=hid (qi hg7 Hbx3.out (by omega))
        clear hsp7 hg7 HA3 Hbx3
        go_wp2_with fail
        refine (Qn q f.parts (xu (qI t (some f.parts) (L.take k)).2).2 ((xu (qI t (some f.parts) (L.take k)).2).1:Int) w7 (by unfold maxLen;omega) (by omega) (by omega) HA7.out.spot).mono ?_
        rintro e w8 ⟨rfl,hsp8,hg8⟩
        have HA8:=hid (HA7.out.read hg8 hsp8)
        have Hb8:=hid (qi hg8 Hb7.out (by omega))
        clear hsp8 hg8 HA7 Hb7
        go_wp2
        go_meet
        case rel=>exact ⟨rfl,HA8.out,Hb8.out⟩
       ·have hk1:(ky == 0)=false:=by simp [hk0]
        have hmr:=HMR.out
        unfold Kp at hmr
        rw [if_neg hk0] at hmr
        injection hmr with h1 h2
        subst h1 h2
        refine wp_cond_false (congrArg Value.bool hk1) ?_
        go_wp2_with fail
        refine (KA q f.parts (qI t (some f.parts) (L.take k)).2 w6 (by unfold maxLen;omega) HA3.out.spot).mono ?_
        rintro e w7 ⟨rfl,hsp7,hg7⟩
        have HA7:=hid (HA3.out.read hg7 hsp7)
        have Hb7:=hid (qi hg7 Hbx3.out (by omega))
        clear hsp7 hg7 HA3 Hbx3
        go_wp2_with (refine wpList_store_row rfl 167 (.tmp 13) (.tmp 103) rfl B #[strB (qm (qI t (some f.parts) (L.take k)).2).1.1,strB (qm (qI t (some f.parts) (L.take k)).2).1.2] rfl rfl 167 #[Value.string { data:=#[] },Value.string { data:=#[] }] Hb7.out (by kernel_rfl) rfl (by simp [Value.oneCell']) ?_)
        have HA8:=hid (HA7.out.later_row B #[strB (qm (qI t (some f.parts) (L.take k)).2).1.1,strB (qm (qI t (some f.parts) (L.take k)).2).1.2] Hb7.out (by omega) (by omega) (by omega) HEB.out)
        have Hb8:=hid (setRow_heap w7 B #[Value.string { data:=#[] },Value.string { data:=#[] }] #[strB (qm (qI t (some f.parts) (L.take k)).2).1.1,strB (qm (qI t (some f.parts) (L.take k)).2).1.2] 167 (0,0) Hb7.out)
        clear HA7 Hb7
        go_wp2
        go_meet
        case rel=>exact ⟨rfl,HA8.out,Hb8.out⟩
      case rest =>
       obtain ⟨hpe,hA,hbx⟩:=hcut
       subst hpe
       have HA4:=hid hA
       have Hb4:=hid hbx
       clear hA hbx HA3 Hbx3
       obtain ⟨d0,d1,d2,d3,d4,d5,d6,d7,d8⟩:=xq HA4.out.told
       obtain ⟨i0,hi,hz0,hz1,hz2⟩:=info_parts Tryz.infoString
       have hwc:=HA4.out.below.size
       go_upto_region 19 with fail
       go_upto_region 20 with (at_builtin;refine wpList_append_own _ rfl (.tmp 108) (.tmp 110) 71 rfl w.heap.size 9 i0 _ 1 16 Tryz.underlying71 hi hz0 hz1 hz2 rfl (by decide) _ _ _ rfl (HA4.out.plains.alloc _) ⟨_,0,none⟩ 1 1 [strB m.plain] rfl rfl (qj wc #[strB m.plain] 9) (by intro u hu;simp at hu;subst hu;rfl) (by unfold maxLen;omega) (by omega) (by simp;omega) ?_;intro v3 w4 hown4 hgr4 _;obtain ⟨ua,uc,hv3⟩:=jr hown4;subst hv3;have hT4:=jq hgr4 (HA4.out.plains.alloc _) (HA4.out.alloc _).told (by decide);have c7:=(xq hT4).2.2.2.2.2.2.2.1;have f7:=frozen_of_row w4 T 7 _ _ hT4)
       have HA5:=hid ((HA4.out.alloc (.cells #[strB m.plain] 9)).plain hgr4 hown4 (fun _ _ _=>rfl))
       have Hb5:=hid (qi (zS w4 T 7 (.slice ua (k+1) uc)) (jq hgr4 (HA4.out.plains.alloc (.cells #[strB m.plain] 9)) (Jz (.cells #[strB m.plain] 9) Hb4.out) (by decide)) (by omega))
       clear hown4 hgr4 hT4 c7 f7 HA4 Hb4 d0 d1 d2 d3 d4 d5 d6 d7 d8 hi hz0 hz1 hz2
       generalize hw5:w4.setCell _ _=w5 at *
       clear hw5
       obtain ⟨i1,hi1,hy0,hy1,hy2⟩:=info_parts Tryz.infoModule
       have d8:=(xq HA5.out.told).2.2.2.2.2.2.2.2
       refine wp_region_held_drew (S:=fun w'=>w'.heap[B]?=some (.cells #[strB m.nonce,strB m.body] 167 (0,0))) (by kernel_rfl) Hb5.out (fun hHeld=>?_)
       refine tk 0 (.pointer (some ⟨T,0,none⟩)) ?_
       refine tk 1 (.pointer (some ⟨T,0,none⟩)) ?_
       refine tk 2 (.pointer (some ⟨T,0,none⟩)) ?_
       refine tk 3 (.pointer (some ⟨T,8,none⟩)) ?_
       simp only [ga,gb,gc,Act.put,gd,ge,gf]
       refine wpAnyH_take (i:=5) (oi:=_) (v:=.agg #[strB m.nonce,strB m.body]) rfl (by kernel_rfl) (by kernel_rfl) (by kernel_rfl) (fun _ _ _ h=>h) (Or.inl ⟨by rfl,fun w hSw=>?_⟩) (by assumption) ?_
       ·have hrl:=run_loadVar_row (P:=Tryz.prog) w B 167 167 #[strB m.nonce,strB m.body] (0,0) _ hSw Tryz.underlying167 rfl (by kernel_rfl)
        unfold execOp
        simp [List.getElem_toArray,List.getElem_cons_zero,Act.eval,Instr.loadAt,Instr.sureAddr,Sem.run_bind,Sem.run_pure,Result.andThen_ok,hrl]
       simp only [ga,gb,gc,Act.put,gd,ge,gf]
       refine wpAnyH_ready (rs:=[4,6]) (by kernel_rfl) (by simp) ?_
       refine AllReadyH.cons (o:=_) rfl (fun K hK=>?_) (AllReadyH.cons (o:=_) rfl (fun K hK=>?_) AllReadyH.nil)
       ·simp only [ga,gb,gc]
        go_simp
        try go_wp2_with fail
        refine hK.out _ _ Hb5.out (fun hHeld=>?_)
        clear hK K
        try simp only [ga,gb,gc,Act.put,gd,ge,gf]
        refine wpAnyH_ready (rs:=[6]) (by kernel_rfl) (by simp) ?_
        refine AllReadyH.cons (o:=_) rfl (fun K hK=>?_) AllReadyH.nil
        simp only [ga,gb,gc]
        go_simp
        try go_wp2_with fail
        have HbW:Hid ((w5.alloc (.cells #[strB m.nonce,strB m.body] 167)).drew.heap[B]?=some (.cells #[strB m.nonce,strB m.body] 167 (0,0))):=Jz _ Hb5.out
        have HAW:=hid (HA5.out.alloc (.cells #[strB m.nonce,strB m.body] 167)).drew
        have HNW:Hid (∀ j u,([strB m.nonce,strB m.body]:List Value)[j]?=some u→(w5.alloc (.cells #[strB m.nonce,strB m.body] 167)).drew.cell? ((⟨w5.heap.size,0,none⟩:Addr).add j)=some u):=xf w5 #[strB m.nonce,strB m.body] 167 (by simp)
        have d8W:=(xq HAW.out.told).2.2.2.2.2.2.2.2
        refine hK.out _ _ HbW.out (fun hHeld=>?_)
        clear hK K d8
        try simp only [ga,gb,gc,Act.put,gd,ge,gf]
        generalize hWX:(w5.alloc (.cells #[strB m.nonce,strB m.body] 167)).drew=WX at *
        clear hWX
        generalize hnb:w5.heap.size=nb at HNW ⊢
        clear hnb HA5 Hb5
        refine wpAnyH_ready (rs:=[7]) (by kernel_rfl) (by simp) ?_
        refine AllReadyH.cons (o:=_) rfl (fun K hK=>?_) AllReadyH.nil
        simp only [ga,gb,gc]
        rw [if_pos (by simp [Region.wanted])]
        refine wp_append_own _ (.tmp 118) (.tmp 120) 177 rfl w.heap.size 167 i1 _ 2 32 Tryz.underlying177 hi1 hy0 hy1 hy2 rfl (by decide) (.slice ea k ec) k (zR (qI t (some f.parts) (L.take k)).1) rfl HAW.out.seals ⟨nb,0,none⟩ 1 1 [strB m.nonce,strB m.body] rfl rfl HNW.out ?_ (by unfold maxLen;omega) (by omega) HAW.out.below.size ?_
        ·intro u hu
         simp at hu
         rcases hu with rfl|rfl<;>rfl
        intro v6 w6 hown6 hgr6 _
        have HBn:Hid (w6.heap[B]?=some (.cells #[strB m.nonce,strB m.body] 167 (0,0))):=by
         show _=_
         rw [hgr6.block B (Array.getElem?_eq_some_iff.1 HbW.out).1 (by
          intro e
          rcases HEB.out with h|h
          ·rw [h] at e;cases e
          ·exact h e.symm)]
         exact HbW.out
        obtain ⟨va,vc,hv6⟩:=jr hown6
        subst hv6
        have HT6:=hid (jq hgr6 HAW.out.seals HAW.out.told (by decide))
        have HA6:=hid (HAW.out.module hgr6 hown6 (fun _ _ _=>rfl))
        clear hown6 hgr6 HNW HAW HbW d8W
        refine hK.out _ _ HBn.out (fun hHeld=>?_)
        clear hK K
        try simp only [ga,gb,gc,Act.put,gd,ge,gf]
        refine tk 8 (.pointer (some ⟨T,0,none⟩)) ?_
        refine tk 9 (.pointer (some ⟨T,8,none⟩)) ?_
        simp only [ga,gb,gc,Act.put,gd,ge,gf]
        refine wpAnyH_ready (rs:=[10]) (by kernel_rfl) (by simp) ?_
        refine AllReadyH.cons (o:=_) rfl (fun K hK=>?_) AllReadyH.nil
        simp only [ga,gb,gc]
        have c8:=(xq HT6.out).2.2.2.2.2.2.2.2
        have f8:=frozen_of_row w6 T 8 _ _ HT6.out
        go_simp
        try go_wp2_with fail
        have HBs:=qi (zS w6 T 8 (.slice va (k+1) vc)) HBn.out (by omega)
        refine hK.out _ _ HBs (fun hHeld=>?_)
        clear hK K c8 f8
        refine wpAnyH_done (by kernel_rfl) ?_ _
        clear hHeld HBs HT6 HBn
        generalize hw7:w6.setCell _ _=w7 at *
        clear hw7
        go_wp2
        go_roundw
        case rel =>
         refine ⟨k+1,pl2,.slice ua (k+1) uc,.slice va (k+1) vc,by omega,by go_num,?_,?_,?_,?_⟩
         ·rw [HMS.out,UX,KX]
          exact HA6.out
         ·rw [HMS.out]
          exact HNX.out.1
         ·exact HNX.out.2.1
         ·rw [HMS.out]
          exact HNX.out.2.2
        case measure=>simp [intOf];omega
       ·simp only [ga,gb,gc]
        go_simp
        try go_wp2_with fail
        have HbW:Hid ((w5.alloc (.cells #[strB m.nonce,strB m.body] 167)).drew.heap[B]?=some (.cells #[strB m.nonce,strB m.body] 167 (0,0))):=Jz _ Hb5.out
        have HAW:=hid (HA5.out.alloc (.cells #[strB m.nonce,strB m.body] 167)).drew
        have HNW:Hid (∀ j u,([strB m.nonce,strB m.body]:List Value)[j]?=some u→(w5.alloc (.cells #[strB m.nonce,strB m.body] 167)).drew.cell? ((⟨w5.heap.size,0,none⟩:Addr).add j)=some u):=xf w5 #[strB m.nonce,strB m.body] 167 (by simp)
        have d8W:=(xq HAW.out.told).2.2.2.2.2.2.2.2
        refine hK.out _ _ HbW.out (fun hHeld=>?_)
        clear hK K d8
        try simp only [ga,gb,gc,Act.put,gd,ge,gf]
        generalize hWX:(w5.alloc (.cells #[strB m.nonce,strB m.body] 167)).drew=WX at *
        clear hWX
        generalize hnb:w5.heap.size=nb at HNW ⊢
        clear hnb HA5 Hb5
        refine wpAnyH_ready (rs:=[4]) (by kernel_rfl) (by simp) ?_
        refine AllReadyH.cons (o:=_) rfl (fun K hK=>?_) AllReadyH.nil
        simp only [ga,gb,gc]
        go_simp
        try go_wp2_with fail
        refine hK.out _ _ HbW.out (fun hHeld=>?_)
        clear hK K
        try simp only [ga,gb,gc,Act.put,gd,ge,gf]
        refine wpAnyH_ready (rs:=[7]) (by kernel_rfl) (by simp) ?_
        refine AllReadyH.cons (o:=_) rfl (fun K hK=>?_) AllReadyH.nil
        simp only [ga,gb,gc]
        rw [if_pos (by simp [Region.wanted])]
        refine wp_append_own _ (.tmp 118) (.tmp 120) 177 rfl w.heap.size 167 i1 _ 2 32 Tryz.underlying177 hi1 hy0 hy1 hy2 rfl (by decide) (.slice ea k ec) k (zR (qI t (some f.parts) (L.take k)).1) rfl HAW.out.seals ⟨nb,0,none⟩ 1 1 [strB m.nonce,strB m.body] rfl rfl HNW.out ?_ (by unfold maxLen;omega) (by omega) HAW.out.below.size ?_
        ·intro u hu
         simp at hu
         rcases hu with rfl|rfl<;>rfl
        intro v6 w6 hown6 hgr6 _
        have HBn:Hid (w6.heap[B]?=some (.cells #[strB m.nonce,strB m.body] 167 (0,0))):=by
         show _=_
         rw [hgr6.block B (Array.getElem?_eq_some_iff.1 HbW.out).1 (by
          intro e
          rcases HEB.out with h|h
          ·rw [h] at e;cases e
          ·exact h e.symm)]
         exact HbW.out
        obtain ⟨va,vc,hv6⟩:=jr hown6
        subst hv6
        have HT6:=hid (jq hgr6 HAW.out.seals HAW.out.told (by decide))
        have HA6:=hid (HAW.out.module hgr6 hown6 (fun _ _ _=>rfl))
        clear hown6 hgr6 HNW HAW HbW d8W
        refine hK.out _ _ HBn.out (fun hHeld=>?_)
        clear hK K
        try simp only [ga,gb,gc,Act.put,gd,ge,gf]
        refine tk 8 (.pointer (some ⟨T,0,none⟩)) ?_
        refine tk 9 (.pointer (some ⟨T,8,none⟩)) ?_
        simp only [ga,gb,gc,Act.put,gd,ge,gf]
        refine wpAnyH_ready (rs:=[10]) (by kernel_rfl) (by simp) ?_
        refine AllReadyH.cons (o:=_) rfl (fun K hK=>?_) AllReadyH.nil
        simp only [ga,gb,gc]
        have c8:=(xq HT6.out).2.2.2.2.2.2.2.2
        have f8:=frozen_of_row w6 T 8 _ _ HT6.out
        go_simp
        try go_wp2_with fail
        have HBs:=qi (zS w6 T 8 (.slice va (k+1) vc)) HBn.out (by omega)
        refine hK.out _ _ HBs (fun hHeld=>?_)
        clear hK K c8 f8
        refine wpAnyH_done (by kernel_rfl) ?_ _
        clear hHeld HBs HT6 HBn
        generalize hw7:w6.setCell _ _=w7 at *
        clear hw7
        go_wp2
        go_roundw
        case rel =>
         refine ⟨k+1,pl2,.slice ua (k+1) uc,.slice va (k+1) vc,by omega,by go_num,?_,?_,?_,?_⟩
         ·rw [HMS.out,UX,KX]
          exact HA6.out
         ·rw [HMS.out]
          exact HNX.out.1
         ·exact HNX.out.2.1
         ·rw [HMS.out]
          exact HNX.out.2.2
        case measure=>simp [intOf];omega
   ·have hke:k=L.length:=by omega
    subst hke
    rw [List.take_length] at HA HPK HPQ HML
    have hki:¬ (L.length:Int) < (L.length:Int):=by omega
    obtain ⟨at_,bad,hsrow,hat,hst⟩:=HA.out.spot
    have HST:=hid hst
    have HSR:=hid hsrow
    have hsm:∀ c ∈ t,SmallC c:=fun c hc=>by
     obtain ⟨h1,h2,h3,h4⟩:=HCS.out c hc
     exact ⟨h1,h2,⟨h3,h4⟩,HBA.out c hc⟩
    obtain ⟨_,_,hcv,_,hli⟩:=VF HA.out.cols rfl hsm
    injection hcv with hcv1 hcv2 hcv3
    subst hcv1 hcv3
    clear hcv2
    have HLI:=hid hli
    obtain ⟨_,_,hxv,hpc⟩:=Mf HA.out.places
    injection hxv with hxv1 hxv2 hxv3
    subst hxv1 hxv3
    clear hxv2
    have HPC:=hid hpc
    have hpl3:pl.length≤360:=by
     rw [HPK.out]
     exact HCN.out _ HML.out
    obtain ⟨FB,hFB⟩:∃ FB,FB=qH (qK footer) (zn footer) t pl:=⟨_,rfl⟩
    have HFT:Hid (∀ w',Below wr.heap.size wr w'→Calls Tryz.prog 87 #[.int .i64 (qK footer:Int),.agg #[.int .i64 (G:Int),.int .i64 (P:Int),.int .i64 (F:Int),.bool false],.slice ca t.length cc,.slice xa pl.length xc] w'
      fun e w2=>e=.returned (strB FB)∧Below w'.heap.size w' w2):=by
     intro w' hw'
     have h:=Ia (qK footer) G P F false ca cc t xa xc pl w' hR60 hG6 hP6 hF9 hC6 hpl3 (fun x hx=>by have:=HPX.out x hx;omega) (fun c hc=>by
      obtain ⟨h1,h2,h3,h4⟩:=HCS.out c hc
      exact ⟨h1,by omega,h3,h4⟩) (HLI.out.later hw') (by
      intro i hi2
      obtain ⟨g,h1,h2,h3⟩:=HPC.out i hi2
      exact ⟨g,h1,Nat.lt_of_lt_of_le h2 hw'.size,(hw'.cell (p:=⟨g,i,none⟩) h2).trans h3⟩)
     rw [hFB,HPL.out]
     exact h
    have HLN:Hid (¬ ((qI t (some f.parts) L).2=some []∧FB=footer)→Gs f.foot f.parts footer=none):=by
     intro hn
     rw [HLR.out,HMR.out,HSB.out,if_neg]
     rintro ⟨h1,h2⟩
     refine hn ⟨h1,?_⟩
     rw [hFB,HPQ.out _ h1]
     exact h2
    have HLY:Hid ((qI t (some f.parts) L).2=some []→FB=footer→Gs f.foot f.parts footer=some ⟨qK footer,zn footer,t,(qI t (some f.parts) L).1⟩):=by
     intro h1 h2
     rw [HLR.out,HMR.out,HSB.out,if_pos]
     refine ⟨h1,?_⟩
     rw [← HPQ.out _ h1,← hFB]
     exact h2
    clear hsm hli hpc hst hsrow hFB HPK HPX HPC HLI HCN HCS HBA
    go_upto_region 21 with fail
    refine wp_region_held_drew (S:=fun w'=>w'.cell? ⟨T,0,none⟩=some (.int .i64 (qK footer:Int))∧w'.cell? ⟨T,1,none⟩=some (.int .i64 (G:Int))∧w'.cell? ⟨T,2,none⟩=some (.int .i64 (P:Int))∧w'.cell? ⟨T,3,none⟩=some (.int .i64 (F:Int))∧w'.cell? ⟨T,4,none⟩=some (.bool false)∧w'.cell? ⟨T,5,none⟩=some (.slice ca t.length cc)) (by kernel_rfl) ⟨d0,d1,d2,d3,d4,d5⟩ (fun hHeld=>?_)
    refine tk 0 (.pointer (some ⟨T,0,none⟩)) ?_
    refine tk 1 (.pointer (some ⟨T,0,none⟩)) ?_
    refine tk 2 (.pointer (some ⟨T,0,none⟩)) ?_
    refine tk 3 (.int .i64 (qK footer:Int)) ?_
    refine tk 4 (.pointer (some ⟨T,0,none⟩)) ?_
    refine tk 5 (.pointer (some ⟨T,0,none⟩)) ?_
    refine tk 6 (.pointer (some ⟨T,1,none⟩)) ?_
    refine tk 7 (.agg #[.int .i64 (G:Int),.int .i64 (P:Int),.int .i64 (F:Int),.bool false]) ?_
    refine tk 8 (.pointer (some ⟨T,0,none⟩)) ?_
    refine tk 9 (.pointer (some ⟨T,0,none⟩)) ?_
    refine tk 10 (.pointer (some ⟨T,5,none⟩)) ?_
    refine tk 11 (.slice ca t.length cc) ?_
    refine tk 12 (.slice xa pl.length xc) ?_
    simp only [ga,gb,gc,Act.put,gd,ge,gf]
    refine wpAnyH_ready (rs:=[13]) (by kernel_rfl) (by simp) ?_
    refine AllReadyH.cons (o:=_) rfl (fun K hK=>?_) AllReadyH.nil
    simp only [ga,gb,gc]
    go_simp
    go_at_call 87
    refine (HFT.out _ (qb (Below.refl _ _))).mono ?_
    rintro e w2 ⟨rfl,hb2⟩
    have hb2':=ji hb2
    have HA2:=hid (HA.out.later hb2')
    have HSR2:=hid (jb hb2' HSR.out)
    clear hb2 hb2' HFT d0 d1 d2 d3 d4 d5 d6 d7 d8 HA HSR
    obtain ⟨d0,d1,d2,d3,d4,d5,_⟩:=xq HA2.out.told
    try go_wp2_with fail
    refine hK.out _ _ ⟨d0,d1,d2,d3,d4,d5⟩ (fun hHeld=>?_)
    clear hK K
    try simp only [ga,gb,gc,Act.put,gd,ge,gf]
    refine tk 14 (strB FB) ?_
    simp only [ga,gb,gc,Act.put,gd,ge,gf]
    refine wpAnyH_done (by kernel_rfl) ?_ _
    clear hHeld d0 d1 d2 d3 d4 d5
    obtain ⟨⟨k0,k1,k2⟩,_⟩:=xi HSR2.out
    go_upto_region 22 with fail
    cases bad with
    | true =>
     have HLZ:=hid (HLN.out (by rw [HST.out];simp))
     clear HLN HLY
     refine wp_region_held_drew (S:=fun w'=>w'.cell? ⟨q,0,none⟩=some (strB f.parts)∧w'.cell? ⟨q,1,none⟩=some (.int .i64 (at_:Int))∧w'.cell? ⟨q,2,none⟩=some (.bool true)) (by kernel_rfl) ⟨k0,k1,k2⟩ (fun hHeld=>?_)
     refine tk 0 (.pointer (some ⟨T,0,none⟩)) ?_
     refine tk 1 (.pointer (some ⟨q,0,none⟩)) ?_
     refine tk 2 (.pointer (some ⟨q,0,none⟩)) ?_
     refine tk 3 (.pointer (some ⟨q,2,none⟩)) ?_
     refine tk 4 (.bool true) ?_
     refine tk 5 (.bool false) ?_
     refine tk 6 (.bool false) ?_
     refine tu 7 ?_
     refine tu 8 ?_
     refine tu 9 ?_
     refine tu 10 ?_
     refine tu 11 ?_
     refine tu 12 ?_
     refine tu 13 ?_
     refine tu 14 ?_
     refine tu 15 ?_
     refine tu 16 ?_
     refine tk 17 (.bool false) ?_
     refine tk 18 (.bool false) ?_
     refine tu 19 ?_
     refine tu 20 ?_
     refine tu 21 ?_
     refine tk 22 (.bool false) ?_
     refine tk 23 (.pointer (some ⟨T,0,none⟩)) ?_
     refine tk 24 (.bool false) ?_
     simp only [ga,gb,gc,Act.put,gd,ge,gf]
     refine wpAnyH_done (by kernel_rfl) ?_ _
     clear hHeld
     go_wp2
     go_ret2
     exact ⟨qb HA2.out.below,.inl ⟨HLZ.out,_,rfl⟩⟩
    | false =>
     by_cases hae:at_=f.parts.length
     ·have hbq:((at_:Int) == (f.parts.length:Int))=true:=by rw [beq_iff_eq];omega
      by_cases hfe:FB=footer
      ·have HLZ:=hid (HLY.out (by rw [HST.out];simp [hae]) hfe)
       have hfq:(FB == footer)=true:=by rw [hfe];simp
       have HTE:Hid (w2.drew.heap[T]?=some (.cells (toldC (qK footer:Int) (zn footer).group (zn footer).page (zn footer).foot (.slice ca t.length cc) (.slice sa L.length sc) (.slice pa L.length pc) (.slice ea L.length ec)) 179 (0,0))):=by
        show _=_
        rw [HPL.out]
        exact HA2.out.told
       have HSE:Hid (qz ⟨qK footer,zn footer,t,(qI t (some f.parts) L).1⟩=L):=by
        show jC (qK footer) t.length (zn footer).group.toNat (zn footer).page.toNat=L
        rw [HPL.out]
        exact HL.out
       have HCE:Hid (w2.drew.ownsRow w.heap.size 161 6 (.slice sa L.length sc) (qz ⟨qK footer,zn footer,t,(qI t (some f.parts) L).1⟩).length (JD (qz ⟨qK footer,zn footer,t,(qI t (some f.parts) L).1⟩))):=by
        show World.ownsRow _ _ _ _ _ _ _
        rw [HSE.out]
        exact HA2.out.drew.spots
       have HPE:Hid (w2.drew.ownsRow w.heap.size 9 1 (.slice pa L.length pc) (qI t (some f.parts) L).1.length (JT (qI t (some f.parts) L).1)):=by
        show World.ownsRow _ _ _ _ _ _ _
        rw [HML.out]
        exact HA2.out.drew.plains
       have HEE:Hid (w2.drew.ownsRow w.heap.size 167 2 (.slice ea L.length ec) (qI t (some f.parts) L).1.length (zR (qI t (some f.parts) L).1)):=by
        show World.ownsRow _ _ _ _ _ _ _
        rw [HML.out]
        exact HA2.out.drew.seals
       clear HLN HLY hae hfe
       refine wp_region_held_drew (S:=fun w'=>w'.cell? ⟨q,0,none⟩=some (strB f.parts)∧w'.cell? ⟨q,1,none⟩=some (.int .i64 (at_:Int))∧w'.cell? ⟨q,2,none⟩=some (.bool false)) (by kernel_rfl) ⟨k0,k1,k2⟩ (fun hHeld=>?_)
       refine tk 0 (.pointer (some ⟨T,0,none⟩)) ?_
       refine tk 1 (.pointer (some ⟨q,0,none⟩)) ?_
       refine tk 2 (.pointer (some ⟨q,0,none⟩)) ?_
       refine tk 3 (.pointer (some ⟨q,2,none⟩)) ?_
       refine tk 4 (.bool false) ?_
       refine tk 5 (.bool true) ?_
       refine tk 6 (.bool true) ?_
       refine tk 7 (.pointer (some ⟨q,0,none⟩)) ?_
       refine tk 8 (.pointer (some ⟨q,0,none⟩)) ?_
       refine tk 9 (.pointer (some ⟨q,1,none⟩)) ?_
       refine tk 10 (.int .i64 (at_:Int)) ?_
       refine tk 11 (.pointer (some ⟨q,0,none⟩)) ?_
       refine tk 12 (.pointer (some ⟨q,0,none⟩)) ?_
       refine tk 13 (.pointer (some ⟨q,0,none⟩)) ?_
       refine tk 14 (strB f.parts) ?_
       refine tk 15 (.int .i64 (f.parts.length:Int)) ?_
       refine tk 16 (.bool true) ?_
       refine tk 17 (.bool true) ?_
       refine tk 18 (.bool true) ?_
       refine tk 19 (strB FB) ?_
       refine tk 20 (strB footer) ?_
       refine tk 21 (.bool true) ?_
       refine tk 22 (.bool true) ?_
       refine tk 23 (.pointer (some ⟨T,0,none⟩)) ?_
       refine tk 24 (.bool true) ?_
       simp only [ga,gb,gc,Act.put,gd,ge,gf]
       refine wpAnyH_done (by kernel_rfl) ?_ _
       clear hHeld
       go_wp2
       go_ret2
       refine ⟨qb HA2.out.below,.inr ⟨_,T,HLZ.out,rfl,_,_,_,_,HTE.out,HA2.out.drew.cols,HCE.out,HPE.out,HEE.out⟩⟩
      ·have HLZ:=hid (HLN.out (fun h=>hfe h.2))
       have hfq:(FB == footer)=false:=by simp [hfe]
       clear HLN HLY hae
       refine wp_region_held_drew (S:=fun w'=>w'.cell? ⟨q,0,none⟩=some (strB f.parts)∧w'.cell? ⟨q,1,none⟩=some (.int .i64 (at_:Int))∧w'.cell? ⟨q,2,none⟩=some (.bool false)) (by kernel_rfl) ⟨k0,k1,k2⟩ (fun hHeld=>?_)
       refine tk 0 (.pointer (some ⟨T,0,none⟩)) ?_
       refine tk 1 (.pointer (some ⟨q,0,none⟩)) ?_
       refine tk 2 (.pointer (some ⟨q,0,none⟩)) ?_
       refine tk 3 (.pointer (some ⟨q,2,none⟩)) ?_
       refine tk 4 (.bool false) ?_
       refine tk 5 (.bool true) ?_
       refine tk 6 (.bool true) ?_
       refine tk 7 (.pointer (some ⟨q,0,none⟩)) ?_
       refine tk 8 (.pointer (some ⟨q,0,none⟩)) ?_
       refine tk 9 (.pointer (some ⟨q,1,none⟩)) ?_
       refine tk 10 (.int .i64 (at_:Int)) ?_
       refine tk 11 (.pointer (some ⟨q,0,none⟩)) ?_
       refine tk 12 (.pointer (some ⟨q,0,none⟩)) ?_
       refine tk 13 (.pointer (some ⟨q,0,none⟩)) ?_
       refine tk 14 (strB f.parts) ?_
       refine tk 15 (.int .i64 (f.parts.length:Int)) ?_
       refine tk 16 (.bool true) ?_
       refine tk 17 (.bool true) ?_
       refine tk 18 (.bool true) ?_
       refine tk 19 (strB FB) ?_
       refine tk 20 (strB footer) ?_
       refine tk 21 (.bool false) ?_
       refine tk 22 (.bool false) ?_
       refine tk 23 (.pointer (some ⟨T,0,none⟩)) ?_
       refine tk 24 (.bool false) ?_
       simp only [ga,gb,gc,Act.put,gd,ge,gf]
       refine wpAnyH_done (by kernel_rfl) ?_ _
       clear hHeld
       go_wp2
       go_ret2
       exact ⟨qb HA2.out.below,.inl ⟨HLZ.out,_,rfl⟩⟩
     ·have hbq:((at_:Int) == (f.parts.length:Int))=false:=by rw [beq_eq_false_iff_ne];omega
      have HLZ:=hid (HLN.out (fun h=>by
       rw [HST.out] at h
       have h1:=h.1
       simp at h1
       omega))
      clear HLN HLY hae
      refine wp_region_held_drew (S:=fun w'=>w'.cell? ⟨q,0,none⟩=some (strB f.parts)∧w'.cell? ⟨q,1,none⟩=some (.int .i64 (at_:Int))∧w'.cell? ⟨q,2,none⟩=some (.bool false)) (by kernel_rfl) ⟨k0,k1,k2⟩ (fun hHeld=>?_)
      refine tk 0 (.pointer (some ⟨T,0,none⟩)) ?_
      refine tk 1 (.pointer (some ⟨q,0,none⟩)) ?_
      refine tk 2 (.pointer (some ⟨q,0,none⟩)) ?_
      refine tk 3 (.pointer (some ⟨q,2,none⟩)) ?_
      refine tk 4 (.bool false) ?_
      refine tk 5 (.bool true) ?_
      refine tk 6 (.bool true) ?_
      refine tk 7 (.pointer (some ⟨q,0,none⟩)) ?_
      refine tk 8 (.pointer (some ⟨q,0,none⟩)) ?_
      refine tk 9 (.pointer (some ⟨q,1,none⟩)) ?_
      refine tk 10 (.int .i64 (at_:Int)) ?_
      refine tk 11 (.pointer (some ⟨q,0,none⟩)) ?_
      refine tk 12 (.pointer (some ⟨q,0,none⟩)) ?_
      refine tk 13 (.pointer (some ⟨q,0,none⟩)) ?_
      refine tk 14 (strB f.parts) ?_
      refine tk 15 (.int .i64 (f.parts.length:Int)) ?_
      refine tk 16 (.bool false) ?_
      refine tk 17 (.bool false) ?_
      refine tk 18 (.bool false) ?_
      refine tu 19 ?_
      refine tu 20 ?_
      refine tu 21 ?_
      refine tk 22 (.bool false) ?_
      refine tk 23 (.pointer (some ⟨T,0,none⟩)) ?_
      refine tk 24 (.bool false) ?_
      simp only [ga,gb,gc,Act.put,gd,ge,gf]
      refine wpAnyH_done (by kernel_rfl) ?_ _
      clear hHeld
      go_wp2
      go_ret2
      exact ⟨qb HA2.out.below,.inl ⟨HLZ.out,_,rfl⟩⟩
end
end Go.Proofs.YthhpbhpfagoapaaGreat
