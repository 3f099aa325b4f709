import Derived.Test.YthhpbhpfagoapaaGreatJAC
import Derived.Test.YthhpbhpfagoapaaGreatJAU
import Derived.Test.YthhpbhpfagoapaaGreatJAK
import Derived.Test.YthhpbhpfagoapaaGreatJAV
namespace Go.Proofs.YthhpbhpfagoapaaGreat
set_option linter.unusedVariables false
set_option linter.unusedSimpArgs false
set_option maxRecDepth 100000
set_option maxHeartbeats 16000000
open Go.RowKit
section
theorem MU (s:List UInt8) (G:Nat) (w:World) (hs:s.length≤100000) (h:w.heap[G]?=some (.cells #[strB s] 9 (0,0))):Joins w (.slice (some ⟨G,0,none⟩) 1 1) s:=by
 intro w' hw
 have h':=jb hw h
 have:=KC [s] G 1 w' (by simp) (by simp;omega) (Array.getElem?_eq_some_iff.1 h').1 (by
  intro i hi
  have h0:i=0:=by simpa using hi
  subst h0
  rw [jd h']
  rfl)
 simpa using this
end
section
def qJ (pre:List UInt8) (f:FormF):List UInt8:=qu pre (if f.told=true then 83 else 70) 0 0 0++f.footer
theorem Rh (f:FormF) (pre:List UInt8) (w:World) (hpre:pre.length≤20) (hf:f.footer.length≤5000) :
  Calls Tryz.prog 169 #[formV f,strB pre] w fun e w'=>e=.returned (strB (qJ pre f))∧Below w.heap.size w w':=by
 have HE:Hid (qJ pre f=qu pre (if f.told=true then 83 else 70) 0 0 0++f.footer):=rfl
 have HFV:Hid (formV f=.agg #[.int .i64 (f.foot:Int),.bool f.told,strB f.footer,strB [if f.told=true then 83 else 70],.int .i64 0,.int .i64 0,.int .i64 0,strB f.nonce,strB f.body,strB (qe f)]):=rfl
 generalize (if f.told=true then (83:UInt8) else 70)=sb at *
 have hfv:=HFV.out
 rw [hfv]
 clear hfv HFV
 obtain ⟨hb1,hl1,_,ho1⟩:=JP w #[.int .i64 (f.foot:Int),.bool f.told,strB f.footer,strB [sb],.int .i64 0,.int .i64 0,.int .i64 0,strB f.nonce,strB f.body,strB (qe f)] 115 #[strB f.footer] 9
 go_enter Tryz.func169,Tryz.ntmps169
 go_wp2_with fail
 generalize (w.alloc _).alloc _=W1 at *
 have HB1:=hid hb1
 refine (Rx sb 0 0 0 pre (.slice (some ⟨w.heap.size+1,0,none⟩) 1 1) f.footer W1 (by decide) (by decide) (by decide) hpre hf (MU f.footer (w.heap.size+1) W1 (by omega) ho1)).mono ?_
 rintro e w2 ⟨rfl,hb2⟩
 have HB2:=hid (HB1.out.trans (hb2.mono HB1.out.size))
 clear hb1 hb2 ho1
 go_wp2
 go_ret
 exact ⟨qt HE.out.symm,HB2.out⟩
def GE (f:FormF) (o:Option (List UInt8)):Value:=if f.told=true then .tuple #[strB f.footer,.bool (decide (o=some []))] else Gc o
theorem Il (f:FormF) (sec pre:List UInt8) (w:World) (hpre:pre.length≤20) (hf:f.footer.length≤5000) (hx:(qJ pre f).length≤5000) (hsec:sec.length≤1000) (hnon:f.nonce.length≤1000) (hbody:f.body.length≤maxLen) :
  Calls Tryz.prog 231 #[formV f,strB sec,strB pre] w fun e w'=>e=.returned (GE f (qo sec f.nonce (qJ pre f) f.body))∧Below w.heap.size w w':=by
 have HFX:Hid (∀ w':World,Calls Tryz.prog 169 #[.agg #[.int .i64 (f.foot:Int),.bool f.told,strB f.footer,strB [if f.told=true then 83 else 70],.int .i64 0,.int .i64 0,.int .i64 0,strB f.nonce,strB f.body,strB (qe f)],strB pre] w' fun e w2=>e=.returned (strB (qJ pre f))∧Below w'.heap.size w' w2):=fun w'=>Rh f pre w' hpre hf
 have HPL:=hid (fun w'=>Nu sec f.nonce (qJ pre f) f.body w' hsec hnon hx hbody)
 show Calls _ _ #[.agg #[.int .i64 (f.foot:Int),.bool f.told,strB f.footer,strB [if f.told=true then 83 else 70],.int .i64 0,.int .i64 0,.int .i64 0,strB f.nonce,strB f.body,strB (qe f)],strB sec,strB pre] _ _
 generalize (if f.told=true then (83:UInt8) else 70)=sb at *
 generalize qJ pre f=ext at *
 generalize qo sec f.nonce ext f.body=O at *
 have HU:Hid (GE f O=if f.told=true then .tuple #[strB f.footer,.bool (decide (O=some []))] else Gc O):=rfl
 generalize f.told=T at *
 rcases O with _|P
 all_goals
  simp only [Gc] at HPL
  obtain ⟨hb0,hl0,_,ho0⟩:=qg w #[.int .i64 (f.foot:Int),.bool T,strB f.footer,strB [sb],.int .i64 0,.int .i64 0,.int .i64 0,strB f.nonce,strB f.body,strB (qe f)] 115
  go_enter Tryz.func231,Tryz.ntmps231
  go_wp2_with fail
  generalize w.alloc _=W0 at *
  have HB0:=hid hb0
  have Ho0:=hid ho0
  have HC0:=hid (xg ho0).1
  clear hb0 ho0 hpre hf hx hsec hnon hbody
  go_region_held3 (fun w'=>w'.cell? ⟨w.heap.size,0,none⟩=some (.int .i64 (f.foot:Int))∧w'.cell? ⟨w.heap.size,1,none⟩=some (.bool T)∧w'.cell? ⟨w.heap.size,2,none⟩=some (strB f.footer)∧w'.cell? ⟨w.heap.size,3,none⟩=some (strB [sb])∧w'.cell? ⟨w.heap.size,4,none⟩=some (.int .i64 0)∧w'.cell? ⟨w.heap.size,5,none⟩=some (.int .i64 0)∧w'.cell? ⟨w.heap.size,6,none⟩=some (.int .i64 0)∧w'.cell? ⟨w.heap.size,7,none⟩=some (strB f.nonce)∧w'.cell? ⟨w.heap.size,8,none⟩=some (strB f.body)∧w'.cell? ⟨w.heap.size,9,none⟩=some (strB (qe f)))
   (first|with_reducible exact HC2.out|with_reducible exact HC1.out|exact HC0.out)
   (first
    | (go_at_call 169;refine (HFX.out _).mono ?_;rintro e w1 ⟨rfl,hb1⟩;have hb1':=ji hb1;have HC1:=hid (xg (jb hb1' Ho0.out)).1)
    | (go_at_call 180;refine (HPL.out _).mono ?_;rintro e w2 ⟨rfl,hb2⟩;have HC2:=hid (xg (jb (hb1'.trans (hb2.mono hb1'.size)) Ho0.out)).1))
  have HB2:=hid (HB0.out.trans ((hb1'.trans (hb2.mono hb1'.size)).mono HB0.out.size))
  obtain ⟨y0,y1,y2,y3,y4,y5,y6,y7,y8,y9⟩:=HC2.out
  clear hb1 hb1' hb2
  cases T
  all_goals
   go_wp2
   go_ret2
   refine ⟨?_,HB2.out⟩
   rw [HU.out]
   first
   | rfl
   | (cases P<;>rfl)
end
end Go.Proofs.YthhpbhpfagoapaaGreat
