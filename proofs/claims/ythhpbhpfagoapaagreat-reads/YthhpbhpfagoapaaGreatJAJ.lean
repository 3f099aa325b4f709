import Derived.Test.YthhpbhpfagoapaaGreatJAA
import Derived.Test.YthhpbhpfagoapaaGreatJBF
import Derived.Test.YthhpbhpfagoapaaGreatJAQ
import Derived.Test.YthhpbhpfagoapaaGreatJBG
import Derived.Test.YthhpbhpfagoapaaGreatJAW
import Derived.Test.YthhpbhpfagoapaaGreatJAD
namespace Go.Proofs.YthhpbhpfagoapaaGreat
set_option linter.unusedVariables false
set_option linter.unusedSimpArgs false
set_option maxRecDepth 100000
set_option maxHeartbeats 16000000
open Go.RowKit
section
structure LiesF (w:World) (a:Option Addr) (F:Nat→FoundB) (n:Nat):Prop where
 at_:0 < n→∃ b,a=some ⟨b,0,none⟩∧b < w.heap.size∧∀ j,j < n→∃ ca cc,
  w.cell? ⟨b,j*5,none⟩=some (strB (F j).name)∧w.cell? ⟨b,j*5+1,none⟩=some (.int .i64 (F j).kind)∧w.cell? ⟨b,j*5+2,none⟩=some (.int .i64 (F j).key)∧w.cell? ⟨b,j*5+3,none⟩=some (.int .i64 (F j).state) ∧
  w.cell? ⟨b,j*5+4,none⟩=some (.slice ca (F j).cells.length cc)∧Lies w ca (F j).cells∧(F j).cells.length≤1000
theorem LiesF.later {w w':World} {a:Option Addr} {F:Nat→FoundB} {n:Nat} (h:LiesF w a F n) (hb:Below w.heap.size w w'):LiesF w' a F n:=by
 refine ⟨fun hne=>?_⟩
 obtain ⟨b,ha,hlt,hc⟩:=h.at_ hne
 refine ⟨b,ha,aa hlt hb.size,fun j hj=>?_⟩
 obtain ⟨ca,cc,h1,h2,h3,h4,h5,h6,h7⟩:=hc j hj
 exact ⟨ca,cc,(hb.cell (p:=⟨b,_,none⟩) hlt).trans h1,(hb.cell (p:=⟨b,_,none⟩) hlt).trans h2,(hb.cell (p:=⟨b,_,none⟩) hlt).trans h3,(hb.cell (p:=⟨b,_,none⟩) hlt).trans h4,(hb.cell (p:=⟨b,_,none⟩) hlt).trans h5,h6.later hb,h7⟩
theorem XQ {F:Nat→FoundB} {Vs:Nat→Value} {n j:Nat} (hj:j < n) {i:Nat} (hi:i < 5):(JX F Vs n)[j*5+i]?=(Uu (F j) (Vs j))[i]?:=by
 unfold JX
 rw [List.flatMap_def,ZQ (s:=5) _ hi]
 ·rw [cX,List.getElem?_range hj];rfl
 ·intro x hx
  simp only [bN] at hx
  obtain ⟨k,_,rfl⟩:=hx
  rfl
theorem FoundsAt.lies {base:Nat} {w:World} {v:Value} {F:Nat→FoundB} {n:Nat} {Vs:Nat→Value} (h:FoundsAt base w v F n Vs) (hlen:∀ j,j < n→(F j).cells.length≤1000):∃ a cap,v=.slice a n cap∧LiesF w a F n:=by
 rcases h.row.2 with ⟨hv,h0⟩|⟨g,cap,cur,hv,_⟩
 ·exact ⟨none,0,by rw [hv,h0],⟨fun hn=>by omega⟩⟩
 ·have hrow:=h.row
  subst hv
  refine ⟨some ⟨g,0,none⟩,cap,rfl,⟨fun _=>⟨g,rfl,(hrow.lt g rfl).2,fun j hj=>?_⟩⟩⟩
  obtain ⟨ca,cc,hvs,_,hl⟩:=JF (h.cells j hj) (fun x hx=>⟨(h.small j hj x hx).1,(h.small j hj x hx).2.1,ar (h.small j hj x hx).2.2 (by decide)⟩)
  refine ⟨ca,cc,?_,?_,?_,?_,?_,hl,hlen j hj⟩
  ·rw [hrow.cellAt _ (by omega)];exact XQ (i:=0) hj (by omega)
  ·rw [hrow.cellAt _ (by omega)];exact XQ (i:=1) hj (by omega)
  ·rw [hrow.cellAt _ (by omega)];exact XQ (i:=2) hj (by omega)
  ·rw [hrow.cellAt _ (by omega)];exact XQ (i:=3) hj (by omega)
  ·rw [hrow.cellAt _ (by omega),← hvs];exact XQ (i:=4) hj (by omega)
def Rq:Prop:=∀ (file pre:List UInt8) (r:List KeyB) (trust:Bool) (S:SheetF),qO file pre r trust=(0,some S)→S.cols.length≤1000∧∀ j,j < S.cols.length→(xh pre r S j).cells.length≤1000
theorem GG:Rq:=by
 intro file pre r trust S h
 obtain ⟨_,_,foot,parts,footer,hok⟩:=Yh h
 have hp:=hok.plan
 simp only [qS,au,az] at hp
 have hh:=hok.heads
 simp only [jZ,au,az] at hh
 refine ⟨by omega,fun j hj=>?_⟩
 have hml:=qY hok.mods
 unfold xh
 split
 ·exact ah _
 ·split
  ·exact ah _
  ·rename_i cells hc
   have:=(GU pre r (jk S.cols j).kind (jk S.cols j).key (R:=S.rows) (C:=S.cols.length) (G:=S.plan.group.toNat) (P:=S.plan.page.toNat) (c:=j) hj (by omega) (by omega) (M:=S.mods) hml (i:=(qB S).length) (cells:=cells) (by
    show jK _ _ _ _ _ _ ((qB S).take _) (S.mods.take _)=_
    rw [aF,← hml,aF]
    exact hc)).1
   have:=hok.rows
   simp only
   omega
end
section
def markK:KeyB:=⟨-77,[109,97,114,107]⟩
theorem Yw (w:World) :
  Calls Tryz.prog 40 #[] w fun e w'=>e=.returned (keyV markK)∧Below w.heap.size w w':=by
 go_enter Tryz.func40,Tryz.ntmps40
 go_wp2
 exact bodyPost_ret (v:=keyV markK) (by simp [results,Tryz.results40,go_sem,keyV,markK]) rfl ⟨rfl,(Below.refl _ _).alloc (ae _) _⟩
def zl (l:List KeyB):List Value:=l.flatMap fun c=>[.int .i64 c.number,strB c.secret]
theorem JQ (l:List KeyB):(zl l).length=l.length*2:=Zr _ 2 (fun _=>rfl) l
theorem Vi (a b:List KeyB):zl (a++b)=zl a++zl b:=by simp [zl]
theorem Vd (l:List KeyB) (j:Nat) (h:j < l.length):(zl l)[j*2]?=some (.int .i64 (l[j]).number)∧(zl l)[j*2+1]?=some (strB (l[j]).secret) :=
 ⟨Xz _ 2 (fun _=>rfl) l j 0 h (by decide),Xz _ 2 (fun _=>rfl) l j 1 h (by decide)⟩
theorem LiesK.cells {w:World} {b off:Nat} {l:List KeyB} (h:∀ j (h:j < l.length),
  w.cell? ⟨b,off+j*2,none⟩=some (.int .i64 (l[j]).number)∧w.cell? ⟨b,off+j*2+1,none⟩=some (strB (l[j]).secret)) :
  ∀ i v,(zl l)[i]?=some v→w.cell? ((⟨b,off,none⟩:Addr).add i)=some v:=by
 intro i v hi
 have hil:i < (zl l).length:=(aA.1 hi).1
 rw [JQ] at hil
 have hj:i / 2 < l.length:=by omega
 obtain ⟨h1,h2⟩:=h (i / 2) hj
 obtain ⟨c1,c2⟩:=Vd l (i / 2) hj
 have ha:(⟨b,off,none⟩:Addr).add i=⟨b,off+i,none⟩:=by unfold Addr.add;split<;>simp_all
 rw [ha]
 have hm:i % 2=0∨i % 2=1:=by omega
 rcases hm with hm|hm
 ·have e:i=i / 2*2:=by omega
  rw [e] at hi ⊢
  rw [c1] at hi
  rw [h1];exact hi
 ·have e:i=i / 2*2+1:=by omega
  rw [e] at hi ⊢
  rw [c2] at hi
  rw [← bI,h2];exact hi
theorem Tb (l:List KeyB):∀ v ∈ zl l,v.oneCell'=true:=by
 intro v hv
 simp only [zl,bT] at hv
 obtain ⟨c,_,hc⟩:=hv
 simp at hc
 rcases hc with rfl|rfl<;>rfl
theorem Eg:(Tryz.prog.info? 63).map (·.size)=some 2:=by kernel_rfl
theorem Tryz.infoKeyW:(Tryz.prog.info? 63).map (fun i=>(i.zero,i.size,i.bytes))=some (some (.agg #[.int .i64 0,.string ⟨#[]⟩]),2,24):=by kernel_rfl
theorem Tp (w:World) (ty:TypeId) (g n:Nat) (sa:Option Addr) (scap base:Nat) (l:List KeyB) (xs:List Value) (hln:l.length≤n)
  (hown:w.ownsRow base 63 2 (.slice (some ⟨g,0,none⟩) n n) n xs) (hl:LiesK w sa l) :
  ∃ w',(Builtin.copy_ #[27,27] ty #[.slice (some ⟨g,0,none⟩) n n,.slice sa l.length scap]).run Tryz.prog w=.ok (goInt l.length) w' ∧
   w'.ownsRow base 63 2 (.slice (some ⟨g,0,none⟩) n n) n (zl l++xs.drop (l.length*2))∧w.grownBy w' (some g):=by
 obtain ⟨hlen,hrow⟩:=hown
 rcases hrow with ⟨h',_⟩|⟨g',cap',cur,h',hb,hg,hnc,hcm,hcs,htake⟩
 ·simp at h'
 simp only [bF,aP,cy,cG,true_and] at h'
 obtain ⟨rfl,rfl⟩:=h'
 have hcl:=JQ l
 have hfull:cur.toList=xs:=by rw [← htake,aC (by rw [Array.length_toList,hcs];exact ae _)]
 have hmin:Nat.min l.length n=l.length:=cS hln
 by_cases hne:l=[]
 ·subst hne
  have hown1:w.ownsRow base 63 2 (.slice (some ⟨g,0,none⟩) n n) n xs:=⟨hlen,.inr ⟨g,n,cur,rfl,hb,hg,hnc,hcm,hcs,htake⟩⟩
  have e1:zl []++xs.drop (([]:List KeyB).length*2)=xs:=by simp [zl]
  have hown0:w.ownsRow base 63 2 (.slice (some ⟨g,0,none⟩) n n) n (zl []++xs.drop (([]:List KeyB).length*2)):=by rw [e1];exact hown1
  cases sa with
  | none=>exact ⟨w,RN w 27 27 ty 63 g n n 2 scap Tryz.underlying27 Eg,hown0,World.grownBy.refl _ _⟩
  | some ad =>
   have hrun:=Us w 27 27 ty 63 g n n 2 ad 0 scap cur 63 [] Tryz.underlying27 Eg hg (by simp) (by simp) (by simp) (by simp)
   have hself:w.setRow g (([]:List Value)++cur.toList.drop ([]:List Value).length).toArray=w:=by
    simpa using setRow_self w g cur 63 (0,0) hg
   rw [hself] at hrun
   have e0:Nat.min 0 n=0:=cS (ah _)
   rw [e0] at hrun
   exact ⟨w,hrun,hown0,World.grownBy.refl _ _⟩
 ·obtain ⟨b,off,rfl,hbw,hcell⟩:=hl.at_ hne
  have hrun:=Us w 27 27 ty 63 g n n 2 ⟨b,off,none⟩ l.length scap cur 63 (zl l) Tryz.underlying27 Eg hg (by rw [hmin,hcl]) (LiesK.cells hcell) (by rw [hcl,hcs];omega) (Tb l)
  rw [hmin,hfull] at hrun
  refine ⟨_,hrun,⟨?_,.inr ⟨g,n,_,rfl,hb,setRow_heap w g cur _ 63 _ hg,hnc,hcm,?_,?_⟩⟩,⟨rfl,rfl,rfl,by simp,fun k _ hk=>setRow_other w g k _ (fun e=>hk (by simp [e]))⟩⟩
  ·rw [ab,an,hcl,hlen];omega
  ·simp only [List.size_toArray,ab,an,hcl,hlen];omega
  ·rw [List.toList_toArray,hcl,aC (by rw [ab,an,hcl,hlen];omega)]
def XY:KeyB:=⟨0,[]⟩
def Jv (l:List KeyB) (k:Nat):List KeyB:=l++List.replicate k markK++List.replicate (8 - k) XY
theorem Ma (n:Nat):zl (List.replicate n XY)=(madeCells (Value.agg #[.int .i64 0,.string ⟨#[]⟩]).cells (n*2)).toList:=by
 apply List.ext_getElem?
 intro i
 by_cases h:i < n*2
 ·have hj:i / 2 < (List.replicate n XY).length:=by simp;omega
  obtain ⟨c1,c2⟩:=Vd (List.replicate n XY) (i / 2) hj
  simp only [bY] at c1 c2
  have hm:i % 2=0∨i % 2=1:=by omega
  have hz:(Value.agg #[.int .i64 0,.string ⟨#[]⟩]).cells=#[.int .i64 0,.string ⟨#[]⟩]:=rfl
  rcases hm with hm|hm
  ·have e:i=i / 2*2:=by omega
   rw [e,c1,hz]
   simp [madeCells,show i / 2*2 < n*2 by omega,XY]
  ·have e:i=i / 2*2+1:=by omega
   rw [e,c2,hz]
   simp [madeCells,show i / 2*2+1 < n*2 by omega,XY,show (i / 2*2+1) % 2=1 by omega]
 ·rw [cq (by rw [JQ];simp;omega),cq (by rw [Array.length_toList,size_madeCells];omega)]
theorem SQ (l:List KeyB):zl l++(zl (List.replicate (l.length+8) XY)).drop (l.length*2)=zl (Jv l 0):=by
 have e:List.replicate (l.length+8) XY=List.replicate l.length XY++List.replicate 8 XY:=by rw [List.replicate_append_replicate]
 rw [e,Vi,bO (by rw [JQ];simp)]
 simp [Jv,Vi]
theorem BH (A B:List KeyB) (z c:KeyB):((zl (A++z :: B)).set (A.length*2) (.int .i64 c.number)).set (A.length*2+1) (strB c.secret)=zl (A++c :: B):=by
 have hA:=JQ A
 have e1:∀ d:KeyB,zl (A++d :: B)=zl A++(.int .i64 d.number :: strB d.secret :: zl B):=by intro d;simp [zl]
 rw [e1,e1,← hA]
 rw [cV _ _ (ae _),cV _ _ (by omega)]
 simp
theorem YU (l:List KeyB) (k:Nat) (hk:k < 8):Jv l k=(l++List.replicate k markK)++XY :: List.replicate (7 - k) XY∧Jv l (k+1)=(l++List.replicate k markK)++markK :: List.replicate (7 - k) XY:=by
 unfold Jv
 constructor
 ·rw [show 8 - k=(7 - k)+1 by omega,cL]
 ·rw [show 8 - (k+1)=7 - k by omega,List.replicate_succ']
  simp
theorem DS {W:World} {base g:Nat} {l:List KeyB} {k:Nat} (hk:k < 8) (h:W.ownsRow base 63 2 (.slice (some ⟨g,0,none⟩) (l.length+8) (l.length+8)) (l.length+8) (zl (Jv l k))) :
  ((W.setCell ⟨g,(l.length+k)*2,none⟩ (.int .i64 markK.number)).setCell ⟨g,(l.length+k)*2+1,none⟩ (strB markK.secret)).ownsRow base 63 2 (.slice (some ⟨g,0,none⟩) (l.length+8) (l.length+8)) (l.length+8) (zl (Jv l (k+1))):=by
 have h1:=(h.stored ((l.length+k)*2) (.int .i64 markK.number)).1
 have h2:=(h1.stored ((l.length+k)*2+1) (strB markK.secret)).1
 obtain ⟨e1,e2⟩:=YU l k hk
 rw [e1] at h2
 rw [e2,← BH (l++List.replicate k markK) (List.replicate (7 - k) XY) XY markK]
 have hl:(l++List.replicate k markK).length=l.length+k:=by simp
 rw [hl]
 exact h2
theorem SV {W:World} {base g n:Nat} {xs:List Value} (h:W.ownsRow base 63 2 (.slice (some ⟨g,0,none⟩) n n) n xs) (j:Nat) (hj:j < n) :
  (∃ v,W.cell? ⟨g,j*2,none⟩=some v)∧(∃ v,W.cell? ⟨g,j*2+1,none⟩=some v):=by
 have hl:=h.1
 refine ⟨?_,?_⟩
 ·rw [h.cellAt (j*2) (by omega),ay (by omega)];exact ⟨_,rfl⟩
 ·rw [h.cellAt (j*2+1) (by omega),ay (by omega)];exact ⟨_,rfl⟩
theorem DE (a:Option Addr) (cap:Nat) (l:List KeyB) (w:World) (hm:l.length*24≤140737488351232) (hl:LiesK w a l) :
  Calls Tryz.prog 11 #[.slice a l.length cap] w fun e w'=>∃ g,e=.returned (.slice (some ⟨g,0,none⟩) l.length (l.length+8)) ∧
   w'.ownsRow w.heap.size 63 2 (.slice (some ⟨g,0,none⟩) (l.length+8) (l.length+8)) (l.length+8) (zl (Jv l 8))∧Below w.heap.size w w':=by
 obtain ⟨i1,hi1,hy0,hy1,hy2⟩:=info_parts Tryz.infoKeyW
 have Hl:=hid hl
 clear hl
 go_enter Tryz.func11,Tryz.ntmps11
 go_wp2_with (at_make;refine wpList_make_full _ rfl (.tmp 9) (.tmp 9) 27 rfl w.heap.size 63 i1 (.agg #[.int .i64 0,.string ⟨#[]⟩]) 2 Tryz.underlying27 hi1 hy0 hy1 .i64 .i64 _ _ (l.length+8) rfl rfl (by omega) (by omega) (by rw [hy2];omega) (by unfold maxLen;omega) (ae _) ?_;intro w3 hown hgr;rw [← Ma] at hown;obtain ⟨w4,hrun,hown4,hgr4⟩:=Tp w3 3 w.heap.size (l.length+8) a cap w.heap.size l _ (by omega) hown (Hl.out.later ((Below.refl _ _).grown hgr (ae _) (fun _ h=>by cases h))))
 rw [SQ] at hown4
 have hB3:Below w.heap.size w w3:=(Below.refl _ _).grown hgr (ae _) (fun _ h=>by cases h)
 have hB4:Below w.heap.size w w4:=hB3.grown hgr4 hB3.size (fun k h=>by cases h;exact ae _)
 have hG:w.heap.size < w4.heap.size:=(hown4.lt _ rfl).2
 clear hown hgr hgr4 hrun hB3
 generalize hgg:w.heap.size=g at *
 go_loopw [5] (fun i wr=>∃ k:Nat,k≤8∧i=.int .i64 (k:Int)∧wr.ownsRow g 63 2 (.slice (some ⟨g,0,none⟩) (l.length+8) (l.length+8)) (l.length+8) (zl (Jv l k))∧Below g w wr∧g < wr.heap.size) (fun i _=>8 - (intOf i).toNat)
 case atStart=>exact ⟨0,ah _,rfl,hown4,hB4,hG⟩
 case round =>
  clear hown4 hB4 hG
  obtain ⟨k,hk,rfl,hown,hB,hG⟩:=hrel
  by_cases hlt:k < 8
  ·go_wp2_with fail
   refine (Yw _).mono ?_
   rintro e w5 ⟨rfl,hb5⟩
   have hown5:=hown.kept (EI hb5) (.inr (by simp [Value.ownBlock]))
   have hzl:(zl (Jv l k)).length=(l.length+8)*2:=hown5.1
   obtain ⟨⟨e1,d1⟩,⟨e2,d2⟩⟩:=SV hown5 (l.length+k) (by omega)
   have f1:=hown5.frozenAt ((l.length+k)*2)
   have f2:=hown5.frozenAt ((l.length+k)*2+1)
   have HR:=hid (DS hlt hown5)
   have hz5:=hb5.size
   have HB5:=hid (((hB.trans (hb5.mono (Nat.le_of_lt hG))).setCell (p:=⟨g,(l.length+k)*2,none⟩) (ae _) (.int .i64 markK.number)).setCell (p:=⟨g,(l.length+k)*2+1,none⟩) (ae _) (strB markK.secret))
   clear hown hown5 hB hb5 hzl
   go_wp2
   go_roundw
   case rel=>exact ⟨k+1,by omega,by go_num,HR.out,HB5.out,by simp;omega⟩
   case measure=>simp [intOf];omega
  ·have hk8:k=8:=by omega
   subst hk8
   go_wp2
   go_ret
   exact ⟨g,rfl,by rw [hgg];exact hown,by rw [hgg];exact hB⟩
theorem Pr (a a2:Option Addr) (cap cap2:Nat) (l:List KeyB) (w:World) (hm:l.length≤maxLen) (hl:LiesK w a l) (hl2:LiesK w a2 l) :
  Calls Tryz.prog 47 #[.slice a l.length cap,.slice a2 l.length cap2] w fun e w'=>e=.returned (.bool true)∧Below w.heap.size w w':=by
 have Hl:=hid hl
 have Hl2:=hid hl2
 clear hl hl2
 unfold maxLen at hm
 have hne:((l.length:Int) != (l.length:Int))=false:=by simp
 go_enter Tryz.func47,Tryz.ntmps47
 go_wp2
 go_loopw [5] (fun i wr=>∃ k:Nat,k≤l.length∧i=.int .i64 (k:Int)∧Below w.heap.size w wr) (fun i _=>l.length - (intOf i).toNat)
 case atStart=>exact ⟨0,ah _,rfl,Below.refl _ _⟩
 case round =>
  obtain ⟨k,hk,rfl,hB⟩:=hrel
  by_cases hlt:k < l.length
  ·obtain ⟨b,off,rfl,hbw,hcell⟩:=(Hl.out.later hB).at_ (ai (by omega))
   obtain ⟨g1,g2⟩:=hcell k hlt
   obtain ⟨b',off',rfl,hbw',hcell'⟩:=(Hl2.out.later hB).at_ (ai (by omega))
   obtain ⟨k1,k2⟩:=hcell' k hlt
   clear hcell hcell'
   generalize l[k]=c at *
   have hki:(k:Int) < (l.length:Int):=by omega
   go_wp2_with fail
   go_quiet (fail)
   go_wp2_with fail
   go_roundw
   case rel=>exact ⟨k+1,by omega,by go_num,below_drewN hB nq⟩
   case measure=>simp [intOf];omega
  ·go_wp2
   go_ret
   exact ⟨rfl,hB⟩
theorem GA {W:World} {base g n:Nat} {l r:List KeyB} (h:W.ownsRow base 63 2 (.slice (some ⟨g,0,none⟩) n n) n (zl (l++r))) (hok:∀ c ∈ l,ML c):LiesK W (some ⟨g,0,none⟩) l:=by
 refine ⟨hok,fun hne=>⟨g,0,rfl,(h.lt g rfl).2,fun j hj=>?_⟩⟩
 have hn:=h.1
 rw [JQ,ab] at hn
 obtain ⟨h1,h2⟩:=Vd (l++r) j (by rw [ab];omega)
 rw [List.getElem_append_left hj] at h1 h2
 simp only [bK]
 exact ⟨by rw [h.cellAt (j*2) (by omega)];exact h1,by rw [h.cellAt (j*2+1) (by omega)];exact h2⟩
theorem Ko (l:List KeyB):Jv l 8=l++List.replicate 8 markK:=by simp [Jv]
theorem Ah {W:World} {base g:Nat} {l:List KeyB} (h:W.ownsRow base 63 2 (.slice (some ⟨g,0,none⟩) (l.length+8) (l.length+8)) (l.length+8) (zl (Jv l 8))) (k:Nat) (hk:k < 8) :
  W.cell? ⟨g,(l.length+k)*2,none⟩=some (.int .i64 markK.number)∧W.cell? ⟨g,(l.length+k)*2+1,none⟩=some (strB markK.secret):=by
 rw [Ko] at h
 obtain ⟨h1,h2⟩:=Vd (l++List.replicate 8 markK) (l.length+k) (by simp;omega)
 have e:(l++List.replicate 8 markK)[l.length+k]'(by simp;omega)=markK:=by rw [List.getElem_append_right (by omega)];simp only [bY]
 rw [e] at h1 h2
 exact ⟨by rw [h.cellAt _ (by omega)];exact h1,by rw [h.cellAt _ (by omega)];exact h2⟩
theorem NC (a:Option Addr) (cap g base:Nat) (l:List KeyB) (w:World) (hm:l.length*24≤140737488351232) (hl:LiesK w a l)
  (hown:w.ownsRow base 63 2 (.slice (some ⟨g,0,none⟩) (l.length+8) (l.length+8)) (l.length+8) (zl (Jv l 8))) :
  Calls Tryz.prog 14 #[.slice (some ⟨g,0,none⟩) l.length (l.length+8),.slice a l.length cap] w fun e w'=>e=.returned (.bool true)∧Below w.heap.size w w':=by
 have Hl:=hid hl
 have Hown:=hid hown
 have hG:g < w.heap.size:=(hown.lt g rfl).2
 clear hl hown
 go_enter Tryz.func14,Tryz.ntmps14
 go_wp2_with fail
 refine (Pr _ a (l.length+8) cap l _ (by unfold maxLen;omega) (GA (by have:=Hown.out;rw [Ko] at this;exact this) Hl.out.ok) Hl.out).mono ?_
 rintro e w1 ⟨rfl,hb1⟩
 go_wp2_with fail
 go_loopw [8] (fun i wr=>∃ k:Nat,k≤8∧i=.int .i64 (k:Int)∧Below w.heap.size w wr) (fun i _=>8 - (intOf i).toNat)
 case atStart=>exact ⟨0,ah _,rfl,hb1⟩
 case round =>
  clear hb1
  obtain ⟨k,hk,rfl,hB⟩:=hrel
  by_cases hlt:k < 8
  ·obtain ⟨g1,g2⟩:=Ah Hown.out k hlt
   have d1:=(hB.cell (p:=⟨g,(l.length+k)*2,none⟩) hG).trans g1
   have d2:=(hB.cell (p:=⟨g,(l.length+k)*2+1,none⟩) hG).trans g2
   have hGr:g < wr.heap.size:=aa hG hB.size
   have hki:(l.length:Int)+(k:Int) < (l.length:Int)+8:=by omega
   have hk0:(0:Int)≤(l.length:Int)+(k:Int):=by omega
   have hkw:IntKind.i64.wrap ((l.length:Int)+(k:Int))=(l.length:Int)+(k:Int):=IntWalk.i64_in _ ⟨by omega,by omega⟩
   have htn:((l.length:Int)+(k:Int)).toNat=l.length+k:=by omega
   have hmk:=hid Yw
   clear g1 g2 Hown
   generalize markK=mc at *
   go_wp2_with fail
   go_region_with (go_at_call 40;refine (hmk.out _).mono ?_;rintro e w5 ⟨rfl,hb5⟩;have x1:=(hb5.cell (p:=⟨g,(l.length+k)*2,none⟩) hGr).trans d1;have x2:=(hb5.cell (p:=⟨g,(l.length+k)*2+1,none⟩) hGr).trans d2)
   all_goals
    go_wp2_with fail
    go_roundw
    case rel=>exact ⟨k+1,by omega,by go_num,hB.trans ((ji hb5).mono hB.size)⟩
    case measure=>simp [intOf];omega
  ·have hk8:k=8:=by omega
   subst hk8
   go_wp2
   go_ret
   exact ⟨rfl,hB⟩
end
end Go.Proofs.YthhpbhpfagoapaaGreat
