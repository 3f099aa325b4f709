import Derived.Test.YthhpbhpfagoapaaGreatKHead
import Derived.Test.YthhpbhpfagoapaaGreatKPack
import Derived.Test.YthhpbhpfagoapaaGreatJAM
import Derived.Test.YthhpbhpfagoapaaGreatJBP
import Derived.Test.YthhpbhpfagoapaaGreatJAA
import Derived.Deep.RegionHeld3
import Derived.Deep.RegionWith
namespace Go.Proofs.YthhpbhpfagoapaaGreat
set_option linter.unusedVariables false
set_option linter.unusedSimpArgs false
set_option maxRecDepth 100000
set_option maxHeartbeats 16000000
open Go.RowKit
section
def JS (w:World):List (Array Value × TypeId)→World
 | []=>w
 | o :: l=>JS (w.alloc (.cells o.1 o.2)) l
theorem Xj {B:Nat} {a:World}:∀ (l:List (Array Value × TypeId)) (w:World),B≤w.heap.size→Below B a w→Below B a (JS w l)
 | [],_,_,h=>h
 | o :: l,w,hB,h=>Xj l (w.alloc (.cells o.1 o.2)) (by simp;omega) (h.alloc hB _)
theorem Vd:∀ (l:List (Array Value × TypeId)) (w:World) (i:Nat) (h:i < l.length),(JS w l).heap[w.heap.size+i]?=some (.cells (l[i]).1 (l[i]).2 (0,0))
 | [],_,i,h=>by simp at h
 | o :: l,w,0,_=>by
  obtain ⟨_,hlt,_,hh⟩:=qa w o.1 o.2
  exact ((Xj l (w.alloc (.cells o.1 o.2)) (Nat.le_refl _) (Below.refl _ _)).block w.heap.size hlt).trans hh
 | o :: l,w,i+1,h=>by
  have:=Vd l (w.alloc (.cells o.1 o.2)) i (by simpa using h)
  rw [show (w.alloc (.cells o.1 o.2)).heap.size+i=w.heap.size+(i+1) by simp;omega] at this
  exact this
theorem Kn:∀ (l:List (Array Value × TypeId)) (w:World),(JS w l).heap.size=w.heap.size+l.length
 | [],_=>rfl
 | o :: l,w=>by
  show (JS (w.alloc (.cells o.1 o.2)) l).heap.size=_
  rw [Kn l]
  simp
  omega
theorem Jq {w:World} {g:Nat} {t:TypeId} {l:List CellB} (h:w.heap[g]?=some (.cells (jX l).toArray t (0,0))) (hok:∀ c ∈ l,okC c):Lies w (some ⟨g,0,none⟩) l:=by
 refine ⟨hok,fun _=>⟨g,0,rfl,(Array.getElem?_eq_some_iff.1 h).1,fun j hj=>?_⟩⟩
 obtain ⟨c1,c2,c3⟩:=Zr l j hj
 simp only [Nat.zero_add]
 refine ⟨?_,?_,?_⟩<;>(rw [ja h,List.getElem?_toArray];assumption)
def Kl:CellB:=⟨true,0,[]⟩
def XJ (n:Int):CellB:=⟨false,n,[]⟩
def Qg (t:List UInt8):CellB:=⟨false,0,t⟩
structure GoldB where
 kind:Int
 cells:List CellB
 page:List UInt8
def goldsB:List GoldB :=
 [⟨0,[],[0]⟩,⟨0,[XJ 5,Kl,Kl,XJ 7],[4,1,2,1,1,10,4]⟩,⟨0,[XJ 7,XJ 7,XJ 7],[3,3,2,3,14]⟩,⟨1,[Qg [97,98],Qg [97,98,99]],[2,2,0,2,97,98,3,97,98,99]⟩,⟨0,[Kl,Kl],[2,0,2]⟩,
 ⟨0,[Kl,XJ (-1)],[2,0,1,1,1,1]⟩,⟨1,[Qg []],[1,1,0,0]⟩,⟨1,[Qg [97,98,99,100,101,102],Qg [98],Qg [97,98,99,100,101,102],Qg [97,98,99,100,101,102]],[4,4,3,2,6,97,98,99,100,101,102,1,98,0,1,0,0]⟩,
 ⟨1,[Qg [97,98,99,100,101,102],Qg [97,98,99,100,101,103]],[2,2,4,0,6,97,98,99,100,101,102,5,1,103]⟩]
structure GoldAt (w:World) (b k:Nat) (g:GoldB):Prop where
 kind:w.cell? ⟨b,k*3,none⟩=some (.int .i64 g.kind)
 cells:∃ a cap,w.cell? ⟨b,k*3+1,none⟩=some (.slice a g.cells.length cap)∧g.cells.length≤cap∧Lies w a g.cells
 page:w.cell? ⟨b,k*3+2,none⟩=some (strB g.page)
theorem GoldAt.later {w w':World} {b k:Nat} {g:GoldB} (h:GoldAt w b k g) (hlt:b < w.heap.size) (hb:Below w.heap.size w w'):GoldAt w' b k g:=by
 obtain ⟨a,cap,h1,h2,h3⟩:=h.cells
 exact ⟨(hb.cell (p:=⟨b,_,none⟩) hlt).trans h.kind,⟨a,cap,(hb.cell (p:=⟨b,_,none⟩) hlt).trans h1,h2,h3.later hb⟩,(hb.cell (p:=⟨b,_,none⟩) hlt).trans h.page⟩
def sl (b n:Nat):Value:=.slice (some ⟨b,0,none⟩) n n
def DY (n:Nat):List Value :=
 [.int .i64 0,.slice none 0 0,strB [0],.int .i64 0,sl (n+1) 4,strB [4,1,2,1,1,10,4],.int .i64 0,sl (n+1+1) 3,strB [3,3,2,3,14],.int .i64 1,sl (n+1+1+1) 2,strB [2,2,0,2,97,98,3,97,98,99],.int .i64 0,sl (n+1+1+1+1) 2,strB [2,0,2],
 .int .i64 0,sl (n+1+1+1+1+1) 2,strB [2,0,1,1,1,1],.int .i64 1,sl (n+1+1+1+1+1+1) 1,strB [1,1,0,0],.int .i64 1,sl (n+1+1+1+1+1+1+1) 4,strB [4,4,3,2,6,97,98,99,100,101,102,1,98,0,1,0,0],
 .int .i64 1,sl (n+1+1+1+1+1+1+1+1) 2,strB [2,2,4,0,6,97,98,99,100,101,102,5,1,103]]
def Zx (n:Nat):List (Array Value × TypeId) :=
 [((jX [Kl]).toArray,58),((jX [XJ 5,Kl,Kl,XJ 7]).toArray,58),((jX [XJ 7,XJ 7,XJ 7]).toArray,58),((jX [Qg [97,98],Qg [97,98,99]]).toArray,58),((jX [Kl,Kl]).toArray,58),
 ((jX [Kl,XJ (-1)]).toArray,58),((jX [Qg []]).toArray,58),((jX [Qg [97,98,99,100,101,102],Qg [98],Qg [97,98,99,100,101,102],Qg [97,98,99,100,101,102]]).toArray,58),
 ((jX [Qg [97,98,99,100,101,102],Qg [97,98,99,100,101,103]]).toArray,58),((DY n).toArray,77)]
theorem TV:∀ g ∈ goldsB,∀ c ∈ g.cells,okC c:=by
 have h:∀ g ∈ goldsB,∀ c ∈ g.cells,-9223372036854775808≤c.int∧c.int≤9223372036854775807∧c.text.length≤12:=by decide +kernel
 intro g hg c hc
 obtain ⟨h1,h2,h3⟩:=h g hg c hc
 exact ⟨h1,h2,by unfold maxLen;omega⟩
theorem AN (w:World):(∀ k (h:k < goldsB.length),GoldAt (JS w (Zx w.heap.size)) (w.heap.size+1+1+1+1+1+1+1+1+1) k goldsB[k])∧Below w.heap.size w (JS w (Zx w.heap.size))∧w.heap.size+1+1+1+1+1+1+1+1+1 < (JS w (Zx w.heap.size)).heap.size:=by
 refine ⟨fun k h=>?_,Xj _ _ (Nat.le_refl _) (Below.refl _ _),by rw [Kn];simp [Zx]⟩
 have hat:=fun i (hi:i < 10)=>Vd (Zx w.heap.size) w i hi
 have hok:=fun i (hi:i < goldsB.length)=>TV _ (List.getElem_mem hi)
 have h9:(JS w (Zx w.heap.size)).heap[w.heap.size+1+1+1+1+1+1+1+1+1]?=some (.cells (DY w.heap.size).toArray 77 (0,0)):=hat 9 (by decide)
 have c:=fun j=>ja (j:=j) h9
 have hk:k=0∨k=1∨k=2∨k=3∨k=4∨k=5∨k=6∨k=7∨k=8:=by
  have:goldsB.length=9:=rfl
  omega
 rcases hk with rfl|rfl|rfl|rfl|rfl|rfl|rfl|rfl|rfl
 ·exact ⟨c _,⟨none,0,c _,Nat.le_refl _,⟨(fun x hx=>by cases hx),fun hne=>absurd rfl hne⟩⟩,c _⟩
 ·exact ⟨c _,⟨_,_,c _,Nat.le_refl _,Jq (hat 1 (by decide)) (hok 1 h)⟩,c _⟩
 ·exact ⟨c _,⟨_,_,c _,Nat.le_refl _,Jq (hat 2 (by decide)) (hok 2 h)⟩,c _⟩
 ·exact ⟨c _,⟨_,_,c _,Nat.le_refl _,Jq (hat 3 (by decide)) (hok 3 h)⟩,c _⟩
 ·exact ⟨c _,⟨_,_,c _,Nat.le_refl _,Jq (hat 4 (by decide)) (hok 4 h)⟩,c _⟩
 ·exact ⟨c _,⟨_,_,c _,Nat.le_refl _,Jq (hat 5 (by decide)) (hok 5 h)⟩,c _⟩
 ·exact ⟨c _,⟨_,_,c _,Nat.le_refl _,Jq (hat 6 (by decide)) (hok 6 h)⟩,c _⟩
 ·exact ⟨c _,⟨_,_,c _,Nat.le_refl _,Jq (hat 7 (by decide)) (hok 7 h)⟩,c _⟩
 ·exact ⟨c _,⟨_,_,c _,Nat.le_refl _,Jq (hat 8 (by decide)) (hok 8 h)⟩,c _⟩
theorem CF (w:World):Calls Tryz.prog 20 #[] w fun e w'=>∃ b,e=.returned (.slice (some ⟨b,0,none⟩) 9 9)∧(∀ k (h:k < goldsB.length),GoldAt w' b k goldsB[k])∧Below w.heap.size w w'∧b < w'.heap.size:=by
 have HM:=hid (AN w)
 go_enter Tryz.func20,Tryz.ntmps20
 go_wp2
 go_ret
 exact ⟨_,rfl,HM.out.1,HM.out.2.1,HM.out.2.2⟩
def badsB:List (List UInt8):=[[],[1,1,1,128,0],[1,1,2,1,14],[2,1,0,1,1,2,2],[1,1,3,2],[61,0,61],[0,0]]
theorem CK:∀ s ∈ badsB,(xf 0 s).isNone=true:=by decide +kernel
theorem AV:∀ g ∈ goldsB,jR g.kind g.cells=true∧xg g.kind g.cells=g.page∧(xf g.kind g.page).isSome=true:=by decide +kernel
theorem PO (w:World):Calls Tryz.prog 21 #[] w fun e w'=>∃ b,e=.returned (.slice (some ⟨b,0,none⟩) 7 7)∧(∀ k (h:k < badsB.length),w'.cell? ⟨b,k,none⟩=some (strB badsB[k]))∧Below w.heap.size w w'∧b < w'.heap.size:=by
 have HM:Hid ((∀ k (h:k < badsB.length),(w.alloc (.cells (badsB.map strB).toArray 9)).cell? ⟨w.heap.size,k,none⟩=some (strB badsB[k]))∧Below w.heap.size w (w.alloc (.cells (badsB.map strB).toArray 9))∧w.heap.size < (w.alloc (.cells (badsB.map strB).toArray 9)).heap.size):=by
  obtain ⟨h1,h2,h3,h4⟩:=qa w (badsB.map strB).toArray 9
  refine ⟨fun k h=>?_,h1,h2⟩
  rw [h3,List.getElem?_toArray,List.getElem?_map,List.getElem?_eq_getElem h]
  rfl
 go_enter Tryz.func21,Tryz.ntmps21
 go_wp2
 go_ret
 exact ⟨_,rfl,HM.out.1,HM.out.2.1,HM.out.2.2⟩
end
section
def XK:JobB:=⟨[⟨[110],0,0,[XJ 1,XJ 2]⟩],⟨60,1,3,true⟩,[],0⟩
def zJ:List KeyB:=[⟨3,[100,114,101,105,51,51,51,51]⟩]
theorem Vn:GoodJ XK zJ:=Gd (by decide +kernel) (by decide +kernel)
theorem TE:(Va XK zJ).length=1:=by decide +kernel
theorem LO:(xC XK zJ).length=46∧((⟨(xC XK zJ).toArray⟩:ByteArray).extract 0 34).toList=[67,70,79,3,4,0,1,1,1,2,4,0,1,1,1,4,4,0,0,1,2,4,10,0,2,60,1,3,1,1,110,0,0,4]∧((⟨(xC XK zJ).toArray⟩:ByteArray).extract 34 40).toList=[2,0,0,0,0,0]:=by
 refine ⟨?_,?_,?_⟩<;>decide +kernel
def QL (n:Nat):List (Array Value × TypeId) :=
 [((jX [XJ 1,XJ 2]).toArray,58),(#[strB [110],.int .i64 0,.int .i64 0,sl n 2],61),(#[sl (n+1) 1,.int .i64 60,.int .i64 1,.int .i64 3,.bool true,strB [],.int .i64 0],26),(#[.int .i64 3,strB [100,114,101,105,51,51,51,51]],63)]
theorem LD (w:World):LiesJ (JS w (QL w.heap.size)) (some ⟨w.heap.size+1,0,none⟩) 1 XK∧Box7 (w.heap.size+1+1) (sl (w.heap.size+1) 1) XK (JS w (QL w.heap.size))∧LiesK (JS w (QL w.heap.size)) (some ⟨w.heap.size+1+1+1,0,none⟩) zJ ∧
  Below w.heap.size w (JS w (QL w.heap.size))∧w.heap.size+1+1 < (JS w (QL w.heap.size)).heap.size:=by
 have hat:=fun i (hi:i < 4)=>Vd (QL w.heap.size) w i hi
 have hsz:=Kn (QL w.heap.size) w
 have h4:(QL w.heap.size).length=4:=rfl
 have hc:∀ c ∈ [XJ 1,XJ 2],okC c:=by
  intro c hc
  simp only [List.mem_cons,List.not_mem_nil,or_false] at hc
  rcases hc with rfl|rfl<;>exact ⟨by decide,by decide,by decide⟩
 have e0:=Jq (l:=[XJ 1,XJ 2]) (hat 0 (by decide)) hc
 have e1:=fun j=>ja (j:=j) (hat 1 (by decide))
 have e2:=fun j=>ja (j:=j) (hat 2 (by decide))
 have e3:=fun j=>ja (j:=j) (hat 3 (by decide))
 refine ⟨⟨⟨?_,fun _=>⟨_,0,rfl,by omega,fun j hj=>?_⟩⟩,by decide,by decide,by decide,⟨by decide,by decide⟩,⟨by decide,by decide⟩,⟨by decide,by decide⟩,⟨by decide,by decide⟩⟩,⟨e2 0,e2 1,e2 2,e2 3,e2 4,e2 5,e2 6⟩,⟨?_,fun _=>⟨_,0,rfl,by omega,fun j hj=>?_⟩⟩,Xj _ _ (Nat.le_refl _) (Below.refl _ _),by omega⟩
 ·intro c hc
  simp only [XK,List.mem_cons,List.not_mem_nil,or_false] at hc
  subst hc
  exact ⟨by decide,⟨by decide,by decide⟩,⟨by decide,by decide⟩⟩
 ·have h0:j=0:=by simp only [XK,List.length_cons,List.length_nil] at hj;omega
  subst h0
  exact ⟨e1 0,e1 1,e1 2,_,e1 3,_,_,rfl,Nat.le_refl _,e0,(by decide:2*32≤140737488351232)⟩
 ·intro c hc
  simp only [zJ,List.mem_cons,List.not_mem_nil,or_false] at hc
  subst hc
  exact ⟨by decide,by decide,by decide⟩
 ·have h0:j=0:=by simp only [zJ,List.length_cons,List.length_nil] at hj;omega
  subst h0
  exact ⟨e3 0,e3 1⟩
theorem Lc:xr [] zJ (zm XK zJ) 0=⟨[110],0,0,0,[XJ 1,XJ 2]⟩ :=
 Nl (r2:=zJ) Vn (i:=0) (by decide) (.inl rfl)
theorem TL:zn (xC XK zJ) [] zJ false=(0,some (zm XK zJ)):=by
 have hl:(xC XK zJ).length≤65000:=by decide +kernel
 have h:=GB (r2:=zJ) (trust:=false) Vn hl (by decide) (fun _=>rfl)
 rw [if_neg] at h
 ·exact h
 ·intro hc
  exact absurd hc.1 (by decide)
theorem LM (ra:Option Addr) (rcap:Nat) (w:World) (hl:LiesK w ra zJ) :
  Calls Tryz.prog 30 #[strB (xC XK zJ),strB [],.slice ra 1 rcap,.bool false] w fun e w'=>Below w.heap.size w w' ∧
   ∃ b lc ca co cc,e=.returned (.tuple #[.slice (some ⟨b,0,none⟩) 1 lc,.int .i64 0])∧w'.cell? ⟨b,3,none⟩=some (.int .i64 0)∧w'.cell? ⟨b,4,none⟩=some (.slice (some ⟨ca,co,none⟩) 2 cc)∧w'.cell? ⟨ca,co+3+1,none⟩=some (.int .i64 2):=by
 have hf:(xC XK zJ).length≤maxLen:=by
  have:(xC XK zJ).length≤65000:=by decide +kernel
  unfold maxLen;omega
 refine (Rn (xC XK zJ) [] ra rcap zJ false w hf (by decide) (by decide) hl).mono ?_
 rintro e w' ⟨hb,⟨err,hs,hne,he⟩|⟨S,v,Vs,hs,he,hfa⟩⟩
 ·rw [TL] at hs
  simp at hs
 ·have hsh:=VE _ _ _ _ _ hs
  rw [TL] at hs
  simp only [Prod.mk.injEq,Option.some.injEq,true_and] at hs
  subst hs
  obtain ⟨la,lc,rfl,hlf⟩:=hfa.lies hsh.2
  obtain ⟨b,rfl,_,hc⟩:=hlf.at_ (by decide)
  obtain ⟨ca,cc,h0,h1,h2,h3,h4,h5,_⟩:=hc 0 (by decide)
  rw [Lc] at h3 h4 h5
  obtain ⟨b2,o2,rfl,_,hc2⟩:=h5.at_ (by simp)
  obtain ⟨_,h7,_⟩:=hc2 1 (by decide)
  exact ⟨hb,b,lc,b2,o2,cc,he,h3,h4,h7⟩
theorem MY (w:World):Calls Tryz.prog 26 #[] w fun e w'=>e=.returned (.bool true)∧Below w.heap.size w w':=by
 have HO:Hid (LiesJ ((((w.alloc (.cells #[.bool false,.int .i64 1,.string ⟨#[]⟩,.bool false,.int .i64 2,.string ⟨#[]⟩] 58)).alloc (.cells #[.string ⟨#[110]⟩,.int .i64 0,.int .i64 0,.slice (some ⟨w.heap.size,0,none⟩) 2 2] 61)).alloc (.cells #[.slice (some ⟨w.heap.size+1,0,none⟩) 1 1,.int .i64 60,.int .i64 1,.int .i64 3,.bool true,.string ⟨#[]⟩,.int .i64 0] 26)).alloc (.cells #[.int .i64 3,.string ⟨#[100,114,101,105,51,51,51,51]⟩] 63)) (some ⟨w.heap.size+1,0,none⟩) 1 XK∧Box7 (w.heap.size+1+1) (.slice (some ⟨w.heap.size+1,0,none⟩) 1 1) XK ((((w.alloc (.cells #[.bool false,.int .i64 1,.string ⟨#[]⟩,.bool false,.int .i64 2,.string ⟨#[]⟩] 58)).alloc (.cells #[.string ⟨#[110]⟩,.int .i64 0,.int .i64 0,.slice (some ⟨w.heap.size,0,none⟩) 2 2] 61)).alloc (.cells #[.slice (some ⟨w.heap.size+1,0,none⟩) 1 1,.int .i64 60,.int .i64 1,.int .i64 3,.bool true,.string ⟨#[]⟩,.int .i64 0] 26)).alloc (.cells #[.int .i64 3,.string ⟨#[100,114,101,105,51,51,51,51]⟩] 63))∧LiesK ((((w.alloc (.cells #[.bool false,.int .i64 1,.string ⟨#[]⟩,.bool false,.int .i64 2,.string ⟨#[]⟩] 58)).alloc (.cells #[.string ⟨#[110]⟩,.int .i64 0,.int .i64 0,.slice (some ⟨w.heap.size,0,none⟩) 2 2] 61)).alloc (.cells #[.slice (some ⟨w.heap.size+1,0,none⟩) 1 1,.int .i64 60,.int .i64 1,.int .i64 3,.bool true,.string ⟨#[]⟩,.int .i64 0] 26)).alloc (.cells #[.int .i64 3,.string ⟨#[100,114,101,105,51,51,51,51]⟩] 63)) (some ⟨w.heap.size+1+1+1,0,none⟩) zJ ∧
  Below w.heap.size w ((((w.alloc (.cells #[.bool false,.int .i64 1,.string ⟨#[]⟩,.bool false,.int .i64 2,.string ⟨#[]⟩] 58)).alloc (.cells #[.string ⟨#[110]⟩,.int .i64 0,.int .i64 0,.slice (some ⟨w.heap.size,0,none⟩) 2 2] 61)).alloc (.cells #[.slice (some ⟨w.heap.size+1,0,none⟩) 1 1,.int .i64 60,.int .i64 1,.int .i64 3,.bool true,.string ⟨#[]⟩,.int .i64 0] 26)).alloc (.cells #[.int .i64 3,.string ⟨#[100,114,101,105,51,51,51,51]⟩] 63))∧w.heap.size+1+1 < ((((w.alloc (.cells #[.bool false,.int .i64 1,.string ⟨#[]⟩,.bool false,.int .i64 2,.string ⟨#[]⟩] 58)).alloc (.cells #[.string ⟨#[110]⟩,.int .i64 0,.int .i64 0,.slice (some ⟨w.heap.size,0,none⟩) 2 2] 61)).alloc (.cells #[.slice (some ⟨w.heap.size+1,0,none⟩) 1 1,.int .i64 60,.int .i64 1,.int .i64 3,.bool true,.string ⟨#[]⟩,.int .i64 0] 26)).alloc (.cells #[.int .i64 3,.string ⟨#[100,114,101,105,51,51,51,51]⟩] 63)).heap.size):=LD w
 go_enter Tryz.func26,Tryz.ntmps26
 go_upto_region 3 with fail
 generalize ((((w.alloc (.cells #[.bool false,.int .i64 1,.string ⟨#[]⟩,.bool false,.int .i64 2,.string ⟨#[]⟩] 58)).alloc (.cells #[.string ⟨#[110]⟩,.int .i64 0,.int .i64 0,.slice (some ⟨w.heap.size,0,none⟩) 2 2] 61)).alloc (.cells #[.slice (some ⟨w.heap.size+1,0,none⟩) 1 1,.int .i64 60,.int .i64 1,.int .i64 3,.bool true,.string ⟨#[]⟩,.int .i64 0] 26)).alloc (.cells #[.int .i64 3,.string ⟨#[100,114,101,105,51,51,51,51]⟩] 63))=w0 at *
 obtain ⟨hj,hx,hk,hb0,hlt⟩:=HO.out
 obtain ⟨x0,x1,x2,x3,x4,x5,x6⟩:=hx
 simp only [XK] at x1 x2 x3 x4 x5 x6
 have HW:=hid (NK _ 1 _ 1 zJ XK w0 hj hk (by decide))
 have HK:=hid hk
 have HB0:=hid hb0
 clear hj hk hb0 HO
 go_wp2_with fail
 refine HW.out.mono ?_
 rintro e w1 ⟨hb1,⟨h,_⟩|⟨_,lv,rfl,hlog⟩⟩
 ·exact absurd (VH Vn) h
 have HR:=hid (LM (some ⟨w.heap.size+1+1+1,0,none⟩) 1 w1 (HK.out.later hb1))
 obtain ⟨la,lc,rfl⟩:=jO hlog
 rw [TE]
 have HB1:=hid (HB0.out.trans (hb1.mono HB0.out.size))
 clear HW hlog hb1 x0 x1 x2 x3 x4 x5 x6
 obtain ⟨hl,f1,f2⟩:=LO
 generalize xC XK zJ=F at *
 go_wp2_with fail
 refine HR.out.mono ?_
 rintro e w2 ⟨hb2,b,lc2,ca,co,cc,rfl,h3,h4,h7⟩
 have HB2:=hid (HB1.out.trans (hb2.mono HB1.out.size))
 clear HR hb2 f1 f2 hl
 go_wp2
 go_ret
 exact ⟨rfl,HB2.out⟩
end
section
theorem VX:∀ g ∈ goldsB,(g.kind=0∨g.kind=1)∧g.cells.length≤60∧g.page.length≤100∧∀ c ∈ g.cells,-9223372036854775808≤c.int∧c.int≤9223372036854775807:=by decide +kernel
theorem Af:∀ s ∈ badsB,s.length≤100:=by decide +kernel
theorem AF (g:GoldB) (hg:g ∈ goldsB):RW g.kind g.cells=g.page∧Rr g.kind g.cells=0∧xf g.kind g.page=some g.cells:=by
 obtain ⟨h1,h2,_⟩:=AV g hg
 refine ⟨by unfold RW;rw [if_pos h1,h2],by unfold Rr;rw [if_pos h1],?_⟩
 rw [← h2]
 exact Zd _ _ h1 (VX g hg).2.2.2
theorem Dt (c:Int) (w:World) (h0:-9223372036854775808≤c) (h1:c≤9223372036854775807) :
  Calls Tryz.prog 7 #[.int .i64 c] w fun e w'=>e=.returned (.bool true)∧Below w.heap.size w w':=by
 obtain ⟨hp0,hp1⟩:=qG c 17 (by decide)
 go_enter Tryz.func7,Tryz.ntmps7
 go_wp2_with fail
 refine (CF w).mono ?_
 rintro e w1 ⟨b,rfl,hG,hb1,hlt⟩
 have HG:=hid hG
 clear hG
 go_wp2_with fail
 refine (PO w1).mono ?_
 rintro e w2 ⟨b2,rfl,hT,hb2,hlt2⟩
 have HG2:Hid (∀ k (h:k < goldsB.length),GoldAt w2 b k goldsB[k]):=fun k h=>(HG.out k h).later hlt hb2
 have HT:=hid hT
 have HB2:=hid (hb1.trans (hb2.mono hb1.size))
 have hltb:b < w2.heap.size:=Nat.lt_of_lt_of_le hlt hb2.size
 clear hT hb1 hb2 HG
 go_wp2_with fail
 refine (QU c 17 _ h0 h1 (by decide) (by decide)).mono ?_
 rintro e w3 ⟨rfl,rfl⟩
 generalize qe c 17=K at *
 by_cases hK:K < 9
 ·obtain ⟨k,rfl⟩:∃ k:Nat,K=(k:Int):=⟨K.toNat,by omega⟩
  have hk:k < goldsB.length:=by show k < 9;omega
  obtain ⟨c0,⟨ca,cap,c1,hcap,hlie⟩,c2⟩:=HG2.out k hk
  obtain ⟨hs1,hs2,hs3,_⟩:=VX _ (List.getElem_mem hk)
  obtain ⟨hq1,hq2,hq3⟩:=AF _ (List.getElem_mem hk)
  generalize goldsB[k]=g at *
  have HP:Hid (∀ w',Below w3.heap.size w3 w'→Calls Tryz.prog 23 #[.int .i64 g.kind,.slice ca g.cells.length cap] w' fun e w4=>e=.returned (.tuple #[strB g.page,.int .i64 0])∧Below w'.heap.size w' w4):=fun w' hb=>by
   have:=Ce g.kind ca cap g.cells w' (by omega) (by omega) (by omega) hcap (hlie.later hb)
   rw [hq1,hq2] at this
   exact this
  have HU:Hid (∀ w',Calls Tryz.prog 24 #[.int .i64 g.kind,strB g.page] w' fun e w4=>(∃ ua uc,e=.returned (.tuple #[.slice ua g.cells.length uc,.int .i64 0])∧Lies w4 ua g.cells)∧Below w'.heap.size w' w4):=fun w'=>by
   have:=VJ g.kind ⟨g.page.toArray⟩ w' (by omega) (by omega) (by simp [ByteArray.size];unfold maxLen;omega)
   refine Calls.mono this ?_
   rintro e w4 ⟨v,he,hpa,hb⟩
   have e1:xf g.kind (⟨g.page.toArray⟩:ByteArray).data.toList=some g.cells:=hq3
   rw [e1] at he hpa
   obtain ⟨ua,uc,rfl,hul⟩:=hpa
   exact ⟨⟨ua,uc,he,hul⟩,hb⟩
  have HL:=hid hlie
  have hkl:k < 9:=hk
  clear hlie hq1 hq2 hq3 HG2 HT hk
  generalize g.kind=kd at *
  generalize g.page=pg at *
  have hki:(k:Int) < 9:=by omega
  generalize hcl:g.cells=cl at *
  generalize hn:cl.length=n at *
  have Hn:=hid hn
  clear hcl hn
  go_upto_region 5 with fail
  have hd0:w3.drew.cell? ⟨b,k*3,none⟩=some (.int .i64 kd)∧w3.drew.cell? ⟨b,k*3+1,none⟩=some (.slice ca n cap):=⟨c0,c1⟩
  go_region_held3 (fun w'=>w'.cell? ⟨b,k*3,none⟩=some (.int .i64 kd)∧w'.cell? ⟨b,k*3+1,none⟩=some (.slice ca n cap))
   (first|with_reducible exact Y4|with_reducible exact hd0)
   (first|(go_at_call 23;refine (HP.out _ (JH (Below.refl _ _))).mono ?_;rintro e w4 ⟨rfl,hb4⟩;have Y4:w4.cell? ⟨b,k*3,none⟩=some (.int .i64 kd)∧w4.cell? ⟨b,k*3+1,none⟩=some (.slice ca n cap):=⟨(hb4.cell (p:=⟨b,_,none⟩) hltb).trans c0,(hb4.cell (p:=⟨b,_,none⟩) hltb).trans c1⟩))
  rename_i hSS
  clear hSS hd0
  obtain ⟨d0,d1⟩:=Y4
  have hb4':=ji hb4
  have d2:=(hb4'.cell (p:=⟨b,k*3+2,none⟩) hltb).trans c2
  have HB4:=hid (HB2.out.trans (hb4'.mono HB2.out.size))
  have HL4:=hid (HL.out.later hb4')
  have hltb4:b < w4.heap.size:=Nat.lt_of_lt_of_le hltb hb4'.size
  clear c0 c1 c2 hb4 hb4' HP HL HB2
  go_upto_region 6 with fail
  have hd0:w4.drew.cell? ⟨b,k*3,none⟩=some (.int .i64 kd)∧w4.drew.cell? ⟨b,k*3+2,none⟩=some (strB pg):=⟨d0,d2⟩
  go_region_held3 (fun w'=>w'.cell? ⟨b,k*3,none⟩=some (.int .i64 kd)∧w'.cell? ⟨b,k*3+2,none⟩=some (strB pg))
   (first|with_reducible exact Y5|with_reducible exact hd0)
   (first|(go_at_call 24;refine (HU.out _).mono ?_;rintro e w5 ⟨⟨ua,uc,rfl,hul⟩,hb5⟩;have Y5:w5.cell? ⟨b,k*3,none⟩=some (.int .i64 kd)∧w5.cell? ⟨b,k*3+2,none⟩=some (strB pg):=⟨(hb5.cell (p:=⟨b,_,none⟩) hltb4).trans d0,(hb5.cell (p:=⟨b,_,none⟩) hltb4).trans d2⟩))
  rename_i hSS
  clear hSS hd0
  obtain ⟨e0,e2⟩:=Y5
  have hb5':=ji hb5
  have e1:=(hb5'.cell (p:=⟨b,k*3+1,none⟩) hltb4).trans d1
  have HB5:=hid (HB4.out.trans (hb5'.mono HB4.out.size))
  have HL5:=hid (HL4.out.later hb5')
  have hltb5:b < w5.heap.size:=Nat.lt_of_lt_of_le hltb4 hb5'.size
  have HUL:=hid hul
  clear d0 d1 d2 hb5 hb5' HU HL4 HB4 hul e0
  have HS:=hid (LT ua ca uc cap cl w5 (by have:=Hn.out;unfold maxLen;omega) HUL.out HL5.out)
  rw [Hn.out] at HS
  go_wp2_with fail
  refine HS.out.mono ?_
  rintro e w6 ⟨rfl,hb6⟩
  have f2:=(hb6.cell (p:=⟨b,k*3+2,none⟩) hltb5).trans e2
  have HB6:=hid (HB5.out.trans (hb6.mono HB5.out.size))
  clear e1 e2 hb6 HS
  go_wp2
  go_ret
  exact ⟨rfl,HB6.out⟩
 ·by_cases hK2:K < 16
  ·obtain ⟨k,rfl⟩:∃ k:Nat,K=(k:Int)+9:=⟨(K - 9).toNat,by omega⟩
   have hk:k < badsB.length:=by show k < 7;omega
   have c0:=HT.out k hk
   have hs:=Af _ (List.getElem_mem hk)
   have hn:=CK _ (List.getElem_mem hk)
   generalize badsB[k]=s at *
   have HU:Hid (∀ w',Calls Tryz.prog 24 #[.int .i64 0,strB s] w' fun e w4=>(∃ ua uc,e=.returned (.tuple #[.slice ua 0 uc,.int .i64 6]))∧Below w'.heap.size w' w4):=fun w'=>by
    have:=VJ 0 ⟨s.toArray⟩ w' (by omega) (by omega) (by simp [ByteArray.size];unfold maxLen;omega)
    refine Calls.mono this ?_
    rintro e w4 ⟨v,he,hpa,hb⟩
    have e1:xf 0 (⟨s.toArray⟩:ByteArray).data.toList=none:=Option.isNone_iff_eq_none.1 hn
    rw [e1] at he hpa
    obtain ⟨ua,uc,rfl⟩:=hpa
    exact ⟨⟨ua,uc,he⟩,hb⟩
   have hkl:(k:Int) < 7:=by omega
   have hsub:IntKind.i64.wrap ((k:Int)+9 - 9)=(k:Int):=by rw [IntKind.wrap_i64];omega
   clear hs hn HG2 HT hk
   go_wp2_with fail
   refine (HU.out _).mono ?_
   rintro e w4 ⟨⟨ua,uc,rfl⟩,hb4⟩
   have HB4:=hid (HB2.out.trans (hb4.mono HB2.out.size))
   clear hb4 c0 HU
   go_wp2
   go_ret
   exact ⟨rfl,HB4.out⟩
  ·clear HG2 HT
   go_wp2_with fail
   refine (MY _).mono ?_
   rintro e w4 ⟨rfl,hb4⟩
   have HB4:=hid (HB2.out.trans (hb4.mono HB2.out.size))
   clear hb4
   go_wp2
   go_ret
   exact ⟨rfl,HB4.out⟩
end
end Go.Proofs.YthhpbhpfagoapaaGreat
