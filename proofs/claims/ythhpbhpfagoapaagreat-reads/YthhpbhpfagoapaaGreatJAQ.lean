import Derived.Test.YthhpbhpfagoapaaGreatJAH
import Derived.Test.YthhpbhpfagoapaaGreatJBC
namespace Go.Proofs.YthhpbhpfagoapaaGreat
set_option linter.unusedVariables false
set_option linter.unusedSimpArgs false
set_option maxRecDepth 100000
set_option maxHeartbeats 16000000
open Go.RowKit
section
def markK:KeyB:=⟨-77,[109,97,114,107]⟩
theorem RW (w:World) :
  Calls Tryz.prog 40 #[] w fun e w'=>e=.returned (keyV markK)∧Below w.heap.size w w':=by
 go_enter Tryz.func40,Tryz.ntmps40
 go_wp2
 exact bodyPost_ret (v:=keyV markK) (by simp [results,Tryz.results40,go_sem,keyV,markK]) rfl ⟨rfl,(Below.refl _ _).alloc (Nat.le_refl _) _⟩
def xV (l:List KeyB):List Value:=l.flatMap fun c=>[.int .i64 c.number,strB c.secret]
theorem JI (l:List KeyB):(xV l).length=l.length*2:=XW _ 2 (fun _=>rfl) l
theorem UH (a b:List KeyB):xV (a++b)=xV a++xV b:=by simp [xV]
theorem Vd (l:List KeyB) (j:Nat) (h:j < l.length):(xV l)[j*2]?=some (.int .i64 (l[j]).number)∧(xV l)[j*2+1]?=some (strB (l[j]).secret) :=
 ⟨Xm _ 2 (fun _=>rfl) l j 0 h (by decide),Xm _ 2 (fun _=>rfl) l j 1 h (by decide)⟩
theorem LiesK.cells {w:World} {b off:Nat} {l:List KeyB} (h:∀ j (h:j < l.length),
  w.cell? ⟨b,off+j*2,none⟩=some (.int .i64 (l[j]).number)∧w.cell? ⟨b,off+j*2+1,none⟩=some (strB (l[j]).secret)) :
  ∀ i v,(xV l)[i]?=some v→w.cell? ((⟨b,off,none⟩:Addr).add i)=some v:=by
 intro i v hi
 have hil:i < (xV l).length:=(List.getElem?_eq_some_iff.1 hi).1
 rw [JI] at hil
 have hj:i / 2 < l.length:=by omega
 obtain ⟨h1,h2⟩:=h (i / 2) hj
 obtain ⟨c1,c2⟩:=Vd l (i / 2) hj
 have ha:(⟨b,off,none⟩:Addr).add i=⟨b,off+i,none⟩:=by unfold Addr.add;split<;>simp_all
 rw [ha]
 have hm:i % 2=0∨i % 2=1:=by omega
 rcases hm with hm|hm
 ·have e:i=i / 2*2:=by omega
  rw [e] at hi ⊢
  rw [c1] at hi
  rw [h1];exact hi
 ·have e:i=i / 2*2+1:=by omega
  rw [e] at hi ⊢
  rw [c2] at hi
  rw [← Nat.add_assoc,h2];exact hi
theorem MA (l:List KeyB):∀ v ∈ xV l,v.oneCell'=true:=by
 intro v hv
 simp only [xV,List.mem_flatMap] at hv
 obtain ⟨c,_,hc⟩:=hv
 simp at hc
 rcases hc with rfl|rfl<;>rfl
theorem Yv:(Tryz.prog.info? 63).map (·.size)=some 2:=by kernel_rfl
theorem Tryz.infoKeyW:(Tryz.prog.info? 63).map (fun i=>(i.zero,i.size,i.bytes))=some (some (.agg #[.int .i64 0,.string ⟨#[]⟩]),2,24):=by kernel_rfl
theorem CG (w:World) (ty:TypeId) (g n:Nat) (sa:Option Addr) (scap base:Nat) (l:List KeyB) (xs:List Value) (hln:l.length≤n)
  (hown:w.ownsRow base 63 2 (.slice (some ⟨g,0,none⟩) n n) n xs) (hl:LiesK w sa l) :
  ∃ w',(Builtin.copy_ #[27,27] ty #[.slice (some ⟨g,0,none⟩) n n,.slice sa l.length scap]).run Tryz.prog w=.ok (goInt l.length) w' ∧
   w'.ownsRow base 63 2 (.slice (some ⟨g,0,none⟩) n n) n (xV l++xs.drop (l.length*2))∧w.grownBy w' (some g):=by
 obtain ⟨hlen,hrow⟩:=hown
 rcases hrow with ⟨h',_⟩|⟨g',cap',cur,h',hb,hg,hnc,hcm,hcs,htake⟩
 ·simp at h'
 simp only [Value.slice.injEq,Option.some.injEq,Addr.mk.injEq,and_true,true_and] at h'
 obtain ⟨rfl,rfl⟩:=h'
 have hcl:=JI l
 have hfull:cur.toList=xs:=by rw [← htake,List.take_of_length_le (by rw [Array.length_toList,hcs];exact Nat.le_refl _)]
 have hmin:Nat.min l.length n=l.length:=Nat.min_eq_left hln
 by_cases hne:l=[]
 ·subst hne
  have hown1:w.ownsRow base 63 2 (.slice (some ⟨g,0,none⟩) n n) n xs:=⟨hlen,.inr ⟨g,n,cur,rfl,hb,hg,hnc,hcm,hcs,htake⟩⟩
  have e1:xV []++xs.drop (([]:List KeyB).length*2)=xs:=by simp [xV]
  have hown0:w.ownsRow base 63 2 (.slice (some ⟨g,0,none⟩) n n) n (xV []++xs.drop (([]:List KeyB).length*2)):=by rw [e1];exact hown1
  cases sa with
  | none=>exact ⟨w,Ri w 27 27 ty 63 g n n 2 scap Tryz.underlying27 Yv,hown0,World.grownBy.refl _ _⟩
  | some ad =>
   have hrun:=KT w 27 27 ty 63 g n n 2 ad 0 scap cur 63 [] Tryz.underlying27 Yv hg (by simp) (by simp) (by simp) (by simp)
   have hself:w.setRow g (([]:List Value)++cur.toList.drop ([]:List Value).length).toArray=w:=by
    simpa using setRow_self w g cur 63 (0,0) hg
   rw [hself] at hrun
   have e0:Nat.min 0 n=0:=Nat.min_eq_left (Nat.zero_le _)
   rw [e0] at hrun
   exact ⟨w,hrun,hown0,World.grownBy.refl _ _⟩
 ·obtain ⟨b,off,rfl,hbw,hcell⟩:=hl.at_ hne
  have hrun:=KT w 27 27 ty 63 g n n 2 ⟨b,off,none⟩ l.length scap cur 63 (xV l) Tryz.underlying27 Yv hg (by rw [hmin,hcl]) (LiesK.cells hcell) (by rw [hcl,hcs];omega) (MA l)
  rw [hmin,hfull] at hrun
  refine ⟨_,hrun,⟨?_,.inr ⟨g,n,_,rfl,hb,setRow_heap w g cur _ 63 _ hg,hnc,hcm,?_,?_⟩⟩,⟨rfl,rfl,rfl,by simp,fun k _ hk=>setRow_other w g k _ (fun e=>hk (by simp [e]))⟩⟩
  ·rw [List.length_append,List.length_drop,hcl,hlen];omega
  ·simp only [List.size_toArray,List.length_append,List.length_drop,hcl,hlen];omega
  ·rw [List.toList_toArray,hcl,List.take_of_length_le (by rw [List.length_append,List.length_drop,hcl,hlen];omega)]
def XH:KeyB:=⟨0,[]⟩
def Jp (l:List KeyB) (k:Nat):List KeyB:=l++List.replicate k markK++List.replicate (8 - k) XH
theorem AS (n:Nat):xV (List.replicate n XH)=(madeCells (Value.agg #[.int .i64 0,.string ⟨#[]⟩]).cells (n*2)).toList:=by
 apply List.ext_getElem?
 intro i
 by_cases h:i < n*2
 ·have hj:i / 2 < (List.replicate n XH).length:=by simp;omega
  obtain ⟨c1,c2⟩:=Vd (List.replicate n XH) (i / 2) hj
  simp only [List.getElem_replicate] at c1 c2
  have hm:i % 2=0∨i % 2=1:=by omega
  have hz:(Value.agg #[.int .i64 0,.string ⟨#[]⟩]).cells=#[.int .i64 0,.string ⟨#[]⟩]:=rfl
  rcases hm with hm|hm
  ·have e:i=i / 2*2:=by omega
   rw [e,c1,hz]
   simp [madeCells,show i / 2*2 < n*2 by omega,XH]
  ·have e:i=i / 2*2+1:=by omega
   rw [e,c2,hz]
   simp [madeCells,show i / 2*2+1 < n*2 by omega,XH,show (i / 2*2+1) % 2=1 by omega]
 ·rw [List.getElem?_eq_none (by rw [JI];simp;omega),List.getElem?_eq_none (by rw [Array.length_toList,size_madeCells];omega)]
theorem PU (l:List KeyB):xV l++(xV (List.replicate (l.length+8) XH)).drop (l.length*2)=xV (Jp l 0):=by
 have e:List.replicate (l.length+8) XH=List.replicate l.length XH++List.replicate 8 XH:=by rw [List.replicate_append_replicate]
 rw [e,UH,List.drop_left' (by rw [JI];simp)]
 simp [Jp,UH]
theorem LZ (A B:List KeyB) (z c:KeyB):((xV (A++z :: B)).set (A.length*2) (.int .i64 c.number)).set (A.length*2+1) (strB c.secret)=xV (A++c :: B):=by
 have hA:=JI A
 have e1:∀ d:KeyB,xV (A++d :: B)=xV A++(.int .i64 d.number :: strB d.secret :: xV B):=by intro d;simp [xV]
 rw [e1,e1,← hA]
 rw [List.set_append_right _ _ (Nat.le_refl _),List.set_append_right _ _ (by omega)]
 simp
theorem YB (l:List KeyB) (k:Nat) (hk:k < 8):Jp l k=(l++List.replicate k markK)++XH :: List.replicate (7 - k) XH∧Jp l (k+1)=(l++List.replicate k markK)++markK :: List.replicate (7 - k) XH:=by
 unfold Jp
 constructor
 ·rw [show 8 - k=(7 - k)+1 by omega,List.replicate_succ]
 ·rw [show 8 - (k+1)=7 - k by omega,List.replicate_succ']
  simp
theorem Dw {W:World} {base g:Nat} {l:List KeyB} {k:Nat} (hk:k < 8) (h:W.ownsRow base 63 2 (.slice (some ⟨g,0,none⟩) (l.length+8) (l.length+8)) (l.length+8) (xV (Jp l k))) :
  ((W.setCell ⟨g,(l.length+k)*2,none⟩ (.int .i64 markK.number)).setCell ⟨g,(l.length+k)*2+1,none⟩ (strB markK.secret)).ownsRow base 63 2 (.slice (some ⟨g,0,none⟩) (l.length+8) (l.length+8)) (l.length+8) (xV (Jp l (k+1))):=by
 have h1:=(h.stored ((l.length+k)*2) (.int .i64 markK.number)).1
 have h2:=(h1.stored ((l.length+k)*2+1) (strB markK.secret)).1
 obtain ⟨e1,e2⟩:=YB l k hk
 rw [e1] at h2
 rw [e2,← LZ (l++List.replicate k markK) (List.replicate (7 - k) XH) XH markK]
 have hl:(l++List.replicate k markK).length=l.length+k:=by simp
 rw [hl]
 exact h2
theorem PW {W:World} {base g n:Nat} {xs:List Value} (h:W.ownsRow base 63 2 (.slice (some ⟨g,0,none⟩) n n) n xs) (j:Nat) (hj:j < n) :
  (∃ v,W.cell? ⟨g,j*2,none⟩=some v)∧(∃ v,W.cell? ⟨g,j*2+1,none⟩=some v):=by
 have hl:=h.1
 refine ⟨?_,?_⟩
 ·rw [h.cellAt (j*2) (by omega),List.getElem?_eq_getElem (by omega)];exact ⟨_,rfl⟩
 ·rw [h.cellAt (j*2+1) (by omega),List.getElem?_eq_getElem (by omega)];exact ⟨_,rfl⟩
theorem Ao (a:Option Addr) (cap:Nat) (l:List KeyB) (w:World) (hm:l.length*24≤140737488351232) (hl:LiesK w a l) :
  Calls Tryz.prog 11 #[.slice a l.length cap] w fun e w'=>∃ g,e=.returned (.slice (some ⟨g,0,none⟩) l.length (l.length+8)) ∧
   w'.ownsRow w.heap.size 63 2 (.slice (some ⟨g,0,none⟩) (l.length+8) (l.length+8)) (l.length+8) (xV (Jp l 8))∧Below w.heap.size w w':=by
 obtain ⟨i1,hi1,hy0,hy1,hy2⟩:=info_parts Tryz.infoKeyW
 have Hl:=hid hl
 clear hl
 go_enter Tryz.func11,Tryz.ntmps11
 go_wp2_with (at_make;refine wpList_make_full _ rfl (.tmp 9) (.tmp 9) 27 rfl w.heap.size 63 i1 (.agg #[.int .i64 0,.string ⟨#[]⟩]) 2 Tryz.underlying27 hi1 hy0 hy1 .i64 .i64 _ _ (l.length+8) rfl rfl (by omega) (by omega) (by rw [hy2];omega) (by unfold maxLen;omega) (Nat.le_refl _) ?_;intro w3 hown hgr;rw [← AS] at hown;obtain ⟨w4,hrun,hown4,hgr4⟩:=CG w3 3 w.heap.size (l.length+8) a cap w.heap.size l _ (by omega) hown (Hl.out.later ((Below.refl _ _).grown hgr (Nat.le_refl _) (fun _ h=>by cases h))))
 rw [PU] at hown4
 have hB3:Below w.heap.size w w3:=(Below.refl _ _).grown hgr (Nat.le_refl _) (fun _ h=>by cases h)
 have hB4:Below w.heap.size w w4:=hB3.grown hgr4 hB3.size (fun k h=>by cases h;exact Nat.le_refl _)
 have hG:w.heap.size < w4.heap.size:=(hown4.lt _ rfl).2
 clear hown hgr hgr4 hrun hB3
 generalize hgg:w.heap.size=g at *
 go_loopw [5] (fun i wr=>∃ k:Nat,k≤8∧i=.int .i64 (k:Int)∧wr.ownsRow g 63 2 (.slice (some ⟨g,0,none⟩) (l.length+8) (l.length+8)) (l.length+8) (xV (Jp l k))∧Below g w wr∧g < wr.heap.size) (fun i _=>8 - (intOf i).toNat)
 case atStart=>exact ⟨0,Nat.zero_le _,rfl,hown4,hB4,hG⟩
 case round =>
  clear hown4 hB4 hG
  obtain ⟨k,hk,rfl,hown,hB,hG⟩:=hrel
  by_cases hlt:k < 8
  ·go_wp2_with fail
   refine (RW _).mono ?_
   rintro e w5 ⟨rfl,hb5⟩
   have hown5:=hown.kept (YQ hb5) (.inr (by simp [Value.ownBlock]))
   have hzl:(xV (Jp l k)).length=(l.length+8)*2:=hown5.1
   obtain ⟨⟨e1,d1⟩,⟨e2,d2⟩⟩:=PW hown5 (l.length+k) (by omega)
   have f1:=hown5.frozenAt ((l.length+k)*2)
   have f2:=hown5.frozenAt ((l.length+k)*2+1)
   have HR:=hid (Dw hlt hown5)
   have hz5:=hb5.size
   have HB5:=hid (((hB.trans (hb5.mono (Nat.le_of_lt hG))).setCell (p:=⟨g,(l.length+k)*2,none⟩) (Nat.le_refl _) (.int .i64 markK.number)).setCell (p:=⟨g,(l.length+k)*2+1,none⟩) (Nat.le_refl _) (strB markK.secret))
   clear hown hown5 hB hb5 hzl
   go_wp2
   go_roundw
   case rel=>exact ⟨k+1,by omega,by go_num,HR.out,HB5.out,by simp;omega⟩
   case measure=>simp [intOf];omega
  ·have hk8:k=8:=by omega
   subst hk8
   go_wp2
   go_ret
   exact ⟨g,rfl,by rw [hgg];exact hown,by rw [hgg];exact hB⟩
theorem Pf (a a2:Option Addr) (cap cap2:Nat) (l:List KeyB) (w:World) (hm:l.length≤maxLen) (hl:LiesK w a l) (hl2:LiesK w a2 l) :
  Calls Tryz.prog 47 #[.slice a l.length cap,.slice a2 l.length cap2] w fun e w'=>e=.returned (.bool true)∧Below w.heap.size w w':=by
 have Hl:=hid hl
 have Hl2:=hid hl2
 clear hl hl2
 unfold maxLen at hm
 have hne:((l.length:Int) != (l.length:Int))=false:=by simp
 go_enter Tryz.func47,Tryz.ntmps47
 go_wp2
 go_loopw [5] (fun i wr=>∃ k:Nat,k≤l.length∧i=.int .i64 (k:Int)∧Below w.heap.size w wr) (fun i _=>l.length - (intOf i).toNat)
 case atStart=>exact ⟨0,Nat.zero_le _,rfl,Below.refl _ _⟩
 case round =>
  obtain ⟨k,hk,rfl,hB⟩:=hrel
  by_cases hlt:k < l.length
  ·obtain ⟨b,off,rfl,hbw,hcell⟩:=(Hl.out.later hB).at_ (List.ne_nil_of_length_pos (by omega))
   obtain ⟨g1,g2⟩:=hcell k hlt
   obtain ⟨b',off',rfl,hbw',hcell'⟩:=(Hl2.out.later hB).at_ (List.ne_nil_of_length_pos (by omega))
   obtain ⟨k1,k2⟩:=hcell' k hlt
   clear hcell hcell'
   generalize l[k]=c at *
   have hki:(k:Int) < (l.length:Int):=by omega
   go_wp2_with fail
   go_quiet (fail)
   go_wp2_with fail
   go_roundw
   case rel=>exact ⟨k+1,by omega,by go_num,below_drewN hB nq⟩
   case measure=>simp [intOf];omega
  ·go_wp2
   go_ret
   exact ⟨rfl,hB⟩
theorem VQ {W:World} {base g n:Nat} {l r:List KeyB} (h:W.ownsRow base 63 2 (.slice (some ⟨g,0,none⟩) n n) n (xV (l++r))) (hok:∀ c ∈ l,DK c):LiesK W (some ⟨g,0,none⟩) l:=by
 refine ⟨hok,fun hne=>⟨g,0,rfl,(h.lt g rfl).2,fun j hj=>?_⟩⟩
 have hn:=h.1
 rw [JI,List.length_append] at hn
 obtain ⟨h1,h2⟩:=Vd (l++r) j (by rw [List.length_append];omega)
 rw [List.getElem_append_left hj] at h1 h2
 simp only [Nat.zero_add]
 exact ⟨by rw [h.cellAt (j*2) (by omega)];exact h1,by rw [h.cellAt (j*2+1) (by omega)];exact h2⟩
theorem ZC (l:List KeyB):Jp l 8=l++List.replicate 8 markK:=by simp [Jp]
theorem Io {W:World} {base g:Nat} {l:List KeyB} (h:W.ownsRow base 63 2 (.slice (some ⟨g,0,none⟩) (l.length+8) (l.length+8)) (l.length+8) (xV (Jp l 8))) (k:Nat) (hk:k < 8) :
  W.cell? ⟨g,(l.length+k)*2,none⟩=some (.int .i64 markK.number)∧W.cell? ⟨g,(l.length+k)*2+1,none⟩=some (strB markK.secret):=by
 rw [ZC] at h
 obtain ⟨h1,h2⟩:=Vd (l++List.replicate 8 markK) (l.length+k) (by simp;omega)
 have e:(l++List.replicate 8 markK)[l.length+k]'(by simp;omega)=markK:=by rw [List.getElem_append_right (by omega)];simp only [List.getElem_replicate]
 rw [e] at h1 h2
 exact ⟨by rw [h.cellAt _ (by omega)];exact h1,by rw [h.cellAt _ (by omega)];exact h2⟩
theorem GW (a:Option Addr) (cap g base:Nat) (l:List KeyB) (w:World) (hm:l.length*24≤140737488351232) (hl:LiesK w a l)
  (hown:w.ownsRow base 63 2 (.slice (some ⟨g,0,none⟩) (l.length+8) (l.length+8)) (l.length+8) (xV (Jp l 8))) :
  Calls Tryz.prog 14 #[.slice (some ⟨g,0,none⟩) l.length (l.length+8),.slice a l.length cap] w fun e w'=>e=.returned (.bool true)∧Below w.heap.size w w':=by
 have Hl:=hid hl
 have Hown:=hid hown
 have hG:g < w.heap.size:=(hown.lt g rfl).2
 clear hl hown
 go_enter Tryz.func14,Tryz.ntmps14
 go_wp2_with fail
 refine (Pf _ a (l.length+8) cap l _ (by unfold maxLen;omega) (VQ (by have:=Hown.out;rw [ZC] at this;exact this) Hl.out.ok) Hl.out).mono ?_
 rintro e w1 ⟨rfl,hb1⟩
 go_wp2_with fail
 go_loopw [8] (fun i wr=>∃ k:Nat,k≤8∧i=.int .i64 (k:Int)∧Below w.heap.size w wr) (fun i _=>8 - (intOf i).toNat)
 case atStart=>exact ⟨0,Nat.zero_le _,rfl,hb1⟩
 case round =>
  clear hb1
  obtain ⟨k,hk,rfl,hB⟩:=hrel
  by_cases hlt:k < 8
  ·obtain ⟨g1,g2⟩:=Io Hown.out k hlt
   have d1:=(hB.cell (p:=⟨g,(l.length+k)*2,none⟩) hG).trans g1
   have d2:=(hB.cell (p:=⟨g,(l.length+k)*2+1,none⟩) hG).trans g2
   have hGr:g < wr.heap.size:=Nat.lt_of_lt_of_le hG hB.size
   have hki:(l.length:Int)+(k:Int) < (l.length:Int)+8:=by omega
   have hk0:(0:Int)≤(l.length:Int)+(k:Int):=by omega
   have hkw:IntKind.i64.wrap ((l.length:Int)+(k:Int))=(l.length:Int)+(k:Int):=IntWalk.i64_in _ ⟨by omega,by omega⟩
   have htn:((l.length:Int)+(k:Int)).toNat=l.length+k:=by omega
   have hmk:=hid RW
   clear g1 g2 Hown
   generalize markK=mc at *
   go_wp2_with fail
   go_region_with (go_at_call 40;refine (hmk.out _).mono ?_;rintro e w5 ⟨rfl,hb5⟩;have x1:=(hb5.cell (p:=⟨g,(l.length+k)*2,none⟩) hGr).trans d1;have x2:=(hb5.cell (p:=⟨g,(l.length+k)*2+1,none⟩) hGr).trans d2)
   all_goals
    go_wp2_with fail
    go_roundw
    case rel=>exact ⟨k+1,by omega,by go_num,hB.trans ((ji hb5).mono hB.size)⟩
    case measure=>simp [intOf];omega
  ·have hk8:k=8:=by omega
   subst hk8
   go_wp2
   go_ret
   exact ⟨rfl,hB⟩
end
section
theorem MQ (s:List UInt8) (G:Nat) (w:World) (hs:s.length≤100000) (h:w.heap[G]?=some (.cells #[strB s] 9 (0,0))):Joins w (.slice (some ⟨G,0,none⟩) 1 1) s:=by
 intro w' hw
 have h':=jb hw h
 have:=KO [s] G 1 w' (by simp) (by simp;omega) (Array.getElem?_eq_some_iff.1 h').1 (by
  intro i hi
  have h0:i=0:=by simpa using hi
  subst h0
  rw [jd h']
  rfl)
 simpa using this
end
end Go.Proofs.YthhpbhpfagoapaaGreat
