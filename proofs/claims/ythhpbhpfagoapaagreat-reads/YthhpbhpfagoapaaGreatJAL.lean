import Derived.Test.YthhpbhpfagoapaaGreatJAA
import Derived.Test.YthhpbhpfagoapaaGreatJAP
import Derived.ProofKit
import Derived.OpenShut
import Derived.Deep.Slices
import Derived.Deep.Strs
import Derived.SizedLaws
import Derived.Test.YthhpbhpfagoapaaGreatJAZ
import Derived.Lib.SmallJoins
import Derived.Test.YthhpbhpfagoapaaGreatJAR
import Derived.Test.YthhpbhpfagoapaaGreatJAI
import Derived.Test.YthhpbhpfagoapaaGreatJAS
import Derived.Test.YthhpbhpfagoapaaGreatJAC
import Derived.Test.YthhpbhpfagoapaaGreatJAD
import Derived.Deep.CutBlock
namespace Go.Proofs.YthhpbhpfagoapaaGreat
set_option linter.unusedVariables false
set_option linter.unusedSimpArgs false
set_option maxRecDepth 100000
set_option maxHeartbeats 16000000
section
open Go.ChangeShapes Go.WideShapes Go.ChangeAt Go.RowKit Go.Deep
theorem Dv {w:World} {b o:Nat} {v:Value} (h:w.cell? ⟨b,o,none⟩=some v):b < w.heap.size:=by
 rcases cR b w.heap.size with h1|h1
 ·exact h1
 ·simp [World.cell?,Array.getElem?_eq_none h1] at h
theorem Sk {x:Int} (h:(Lit.int .i64 x).wf=true):-9223372036854775808≤x∧x≤9223372036854775807:=by
 simp [Lit.wf,IntKind.min,IntKind.max,IntKind.signed,IntKind.bits] at h
 exact ⟨by omega,by omega⟩
theorem Tryz.cellsInt:Tryz.prog.cellsOf 3=1:=by kernel_rfl
theorem Tryz.cellsString:Tryz.prog.cellsOf 9=1:=by kernel_rfl
end
section
open Go.ChangeShapes Go.WideShapes Go.ChangeAt Go.RowKit Go.Deep Go.Joins
theorem Tryz.cellsKey:Tryz.prog.cellsOf 63=2:=by kernel_rfl
theorem Tryz.bytesKeyW:Tryz.prog.bytesOf 63=24:=by kernel_rfl
theorem PF {H:Type} {enc:TypeId × Value→H} {W:World} {base:Nat} {spare:Nat→Bool} {held:Bool} {fuel:Nat} {cs:List Value} {x:DataW H × List MemPlace}
  (h:DataW.trod enc Tryz.prog W base spare held fuel 63 cs=some x):∃ c:KeyB,ML c∧cs=[.int .i64 c.number,strB c.secret]:=by
 obtain ⟨y0,y1,n,hx,hlen,h0,h1⟩:=trod_struct2 Tryz.underlying63 h
 rw [Tryz.cellsKey] at hlen
 match cs,hlen with
 | [c0,c1],_ =>
  simp only [Tryz.cellsInt,Tryz.cellsString] at h0 h1
  obtain ⟨i,e1,_,wi⟩:=DataW.trod_int Tryz.underlying3 h0
  obtain ⟨s,e2,_,ws⟩:=DataW.trod_string Tryz.underlying9 h1
  simp at e1 e2
  subst e1 e2
  refine ⟨⟨i,s.data.toList⟩,⟨by simpa using ws,Sk wi⟩,?_⟩
  obtain ⟨⟨t⟩⟩:=s
  rfl
theorem MV {H:Type} {enc:TypeId × Value→H} {W:World} {fuel len cap:Nat} {a:Option Addr} {x:DataW H × List MemPlace}
  (h:DataW.trod enc Tryz.prog W 0 (fun _=>true) true fuel 27 [.slice a len cap]=some x) (hw:∀ n ∈ x.1.weights Tryz.prog 27,n≤reachBytes) :
  ∃ l:List KeyB,l.length=len∧len≤cap∧cap≤maxLen∧LiesK W a l∧l.length*24≤140737488351232:=by
 rcases open_slice Tryz.underlying27 h with ⟨hcs,_⟩|⟨a',len',cap',m,n,D,Pl,hcs,_,hl,hm,hmm,rfl,hx⟩
 ·simp at hcs
  obtain ⟨rfl,rfl,rfl⟩:=hcs
  exact ⟨[],rfl,ae _,by decide,⟨by simp,fun h=>absurd rfl h⟩,by simp⟩
 ·simp at hcs
  obtain ⟨rfl,rfl,rfl⟩:=hcs
  simp only [bG] at hmm
  subst hmm
  rw [Tryz.cellsKey] at hx
  have hsz:(len+(m - len))*24≤reachBytes:=by
   have:=hw ((len+(m - len))*Tryz.prog.bytesOf 63) (by simp only [DataW.weights,Tryz.underlying27,ch,List.length_range];exact bo ..)
   rw [Tryz.bytesKeyW] at this
   exact this
  simp only [reachBytes] at hsz
  have each:∀ i,i < len→∃ c:KeyB,ML c∧W.cell? (a'.add (i*2))=some (.int .i64 c.number)∧W.cell? (a'.add (i*2+1))=some (strB c.secret):=by
   intro i hi
   obtain ⟨cs',h1,h2⟩:=hx i (by omega)
   obtain ⟨c,hok,rfl⟩:=PF h2
   obtain ⟨_,_,hcell⟩:=World.cells?_some h1
   have e0:=hcell 0 (by omega)
   have e1:=hcell 1 (by omega)
   rw [add_add] at e0 e1
   exact ⟨c,hok,by simpa using e0,by simpa using e1⟩
  have inh:Inhabited KeyB:=⟨⟨0,[]⟩⟩
  obtain ⟨f,hf⟩:=choose_lt each
  refine ⟨(List.range len).map f,by simp,hl,hm,⟨?_,?_⟩,by simp;omega⟩
  ·intro c hc
   simp only [bN,bW] at hc
   obtain ⟨i,hi,rfl⟩:=hc
   exact (hf i hi).1
  ·intro hne
   have hp:0 < len:=by
    rcases cQ len with h0|h0
    ·subst h0;simp at hne
    ·exact h0
   obtain ⟨b,off,spot⟩:=a'
   have hspot:spot=none:=by simpa [Addr.add] using World.cell?_spot (hf 0 hp).2.1
   subst hspot
   have hb:b < W.heap.size:=by
    have:=(hf 0 hp).2.1
    rw [add_plain] at this
    exact Dv this
   refine ⟨b,off,rfl,hb,fun j hj=>?_⟩
   have hj':j < len:=by simpa using hj
   obtain ⟨_,g1,g2⟩:=hf j hj'
   rw [add_plain] at g1 g2
   simp only [List.getElem_map,List.getElem_range]
   exact ⟨g1,g2⟩
end
section
open Go.RowKit
def XL (b:Bool):CellB:=⟨b,0,[]⟩
structure Runs (w1 wr:World) (p:Nat) (s:List UInt8) (st:Option (List UInt8)) (lv:Value) (fl:List Bool):Prop where
 row:wr.ownsRow w1.heap.size 58 3 lv fl.length (jO (fl.map XL))
 spot:jY wr p s st
 grown:w1.grownBy wr (some p)
theorem YV (fl:List Bool):∀ c ∈ fl.map XL,okC c:=by
 intro c hc
 obtain ⟨b,_,rfl⟩:=bN.1 hc
 exact ⟨by simp [XL],by simp [XL],by simp [XL]⟩
theorem Cx {w1 w3 w4:World} {p k:Nat} {s:List UInt8} {st:Option (List UInt8)} {lv lv':Value} {fl:List Bool} {b:Bool} {o:Obj} (hp:p < w1.heap.size) (h:Runs w1 w3 p s st lv (fl++List.replicate k b))
  (hl:w4.ownsRow w1.heap.size 58 3 lv' ((fl++List.replicate k b).length+1) (jO ((fl++List.replicate k b).map XL)++[.bool b,.int .i64 0,strB []])) (hg:(w3.alloc o).grownBy w4 lv.ownBlock) :
  Runs w1 w4 p s st lv' (fl++List.replicate (k+1) b):=by
 have hz:=h.grown.size
 have hb:∀ j,lv.ownBlock=some j→w1.heap.size≤j:=fun j hj=>(h.row.lt j hj).1
 rw [KD]
 generalize fl++List.replicate k b=f' at *
 refine ⟨?_,?_,?_⟩
 ·rw [cT,List.map_singleton,Gu,ab];exact hl
 ·exact JT (zz h.spot (by omega) o) (by simp;omega) hg (fun j hj=>by have:=hb j hj;omega)
 ·exact zy (zj h.grown o) hg hb
theorem Dn (n f:Nat) (l:List Bool) (b:Bool) (st:Option (List UInt8)) (h:¬ (l.length < n∧st.isSome=true)):Jg n f l b st=(l,st):=by
 cases f with
 | zero=>rfl
 | succ f=>rw [Jg,aj h]
theorem Kg (fl:List Bool) (k:Nat):jU (fl++List.replicate k false)=jU fl+k∧jU (fl++List.replicate k true)=jU fl:=by
 unfold jU
 rw [cu,cu,ab,ab,List.filter_replicate,List.filter_replicate]
 simp
theorem Ak (fl:List Bool):jU fl≤fl.length:=bE _ _
theorem Ed {w w1 w2:World} {p:Nat} (h1:Below w.heap.size w w1) (hg:w1.grownBy w2 (some p)) (hp:w.heap.size≤p):Below w.heap.size w w2 :=
 h1.grown hg h1.size (fun k hk=>by simp at hk;omega)
theorem Vo (a b:List Bool):∀ (v:List CellB),qn (a++b) v=qn a v++qn b (v.drop (jU a)):=by
 induction a with
 | nil=>intro v;simp [qn,jU]
 | cons x a ih =>
  intro v
  cases x with
  | true =>
   have hc:jU (true :: a)=jU a:=by simp [jU]
   simp only [aK,qn,hc]
   rw [ih]
  | false =>
   have hc:jU (false :: a)=jU a+1:=by simp [jU]
   cases v with
   | nil =>
    simp only [aK,qn,hc]
    rw [ih]
    simp
   | cons c v =>
    simp only [aK,qn,hc]
    rw [ih]
    simp
theorem JP (a:List Bool):∀ (v:List CellB),(qn a v).length=a.length:=by
 induction a with
 | nil=>intro v;rfl
 | cons x a ih =>
  intro v
  cases x with
  | true=>simp [qn,ih]
  | false=>cases v<;>simp [qn,ih]
theorem Dr (a:List Bool) (h:jU a=0) (v:List CellB):qn a v=a.map XL:=by
 induction a with
 | nil=>rfl
 | cons x a ih =>
  cases x with
  | true =>
   have hc:jU (true :: a)=jU a:=by simp [jU]
   rw [hc] at h
   simp only [qn,cK,ih h]
   rfl
  | false =>
   have hc:jU (false :: a)=jU a+1:=by simp [jU]
   omega
theorem RM (fl:List Bool) (k:Nat) (hk:k < fl.length) (hf:fl[k]=false):jU (fl.take k) < jU fl∧jU (fl.take (k+1))=jU (fl.take k)+1:=by
 have h1:fl.take (k+1)=fl.take k++[fl[k]]:=ax hk
 have h2:jU (fl.take (k+1))=jU (fl.take k)+1:=by
  rw [h1,hf]
  exact (Kg (fl.take k) 1).1
 have h3:jU (fl.take (k+1))+jU (fl.drop (k+1))=jU fl:=by
  unfold jU
  rw [← ab,← cu,aD]
 exact ⟨by omega,h2⟩
theorem GZ (fl:List Bool) (k:Nat) (hk:k < fl.length) (hf:fl[k]=true):jU (fl.take (k+1))=jU (fl.take k):=by
 rw [ax hk,hf]
 exact (Kg (fl.take k) 1).2
def Zy (fl:List Bool) (v:List CellB) (k:Nat):List CellB:=qn (fl.take k) v++(fl.drop k).map XL
theorem Km (fl:List Bool) (v:List CellB) (k:Nat):(Zy fl v k).length=fl.length:=by
 unfold Zy
 rw [ab,JP,ch,aq,an];omega
theorem Pm (fl:List Bool) (v:List CellB):Zy fl v 0=fl.map XL:=by simp [Zy,qn]
theorem SM (fl:List Bool) (v:List CellB):Zy fl v fl.length=qn fl v:=by simp [Zy]
theorem BC (fl:List Bool) (v:List CellB) (k:Nat) (hk:k < fl.length):(Zy fl v k)[k]?=some (XL fl[k]):=by
 unfold Zy
 rw [aU (by rw [JP,aq];omega),JP,aq,cS (by omega),Nat.sub_self,cX,List.getElem?_drop]
 simp [hk]
theorem PQ (fl:List Bool) (v:List CellB) (k:Nat) (hk:k < fl.length) (hf:fl[k]=true):Zy fl v (k+1)=Zy fl v k:=by
 unfold Zy
 rw [ax hk,Vo,aN hk,hf]
 simp [qn,XL]
theorem Tr (fl:List Bool) (v:List CellB) (k:Nat) (hk:k < fl.length) (hf:fl[k]=false) (hv:jU (fl.take k) < v.length):Zy fl v (k+1)=(Zy fl v k).set k v[jU (fl.take k)]:=by
 unfold Zy
 rw [ax hk,Vo,aN hk,hf]
 rw [cV _ _ (by rw [JP,aq];omega)]
 rw [aN hv]
 simp [qn,JP,cS (Nat.le_of_lt hk)]
theorem DT (l:List CellB):∀ (k:Nat) (c:CellB),k < l.length→(((jO l).set (k*3) (.bool c.null)).set (k*3+1) (.int .i64 c.int)).set (k*3+2) (strB c.text)=jO (l.set k c):=by
 induction l with
 | nil=>intro k c h;simp at h
 | cons x l ih =>
  intro k c h
  have e:∀ y:CellB,∀ m:List CellB,jO (y :: m)=.bool y.null :: .int .i64 y.int :: strB y.text :: jO m:=by intro y m;simp [jO]
  cases k with
  | zero=>simp [e]
  | succ k =>
   rw [e,List.set_cons_succ,e,← ih k c (by simpa using h)]
   rw [show (k+1)*3=k*3+3 by omega]
   simp [List.set_cons_succ]
theorem SU {w:World} {B g cap:Nat} {l:List CellB} {c:CellB} {k:Nat} (h:w.ownsRow B 58 3 (.slice (some ⟨g,0,none⟩) l.length cap) l.length (jO l)) (hk:k < l.length) :
  (((w.setCell ⟨g,k*3,none⟩ (.bool c.null)).setCell ⟨g,k*3+1,none⟩ (.int .i64 c.int)).setCell ⟨g,k*3+2,none⟩ (strB c.text)).ownsRow B 58 3 (.slice (some ⟨g,0,none⟩) l.length cap) l.length (jO (l.set k c)):=by
 rw [← DT l k c hk]
 exact (((h.stored _ _).1.stored _ _).1.stored _ _).1
theorem PJ (a:List Bool):∀ (v:List CellB),(∀ c ∈ v,okC c)→∀ c ∈ qn a v,okC c:=by
 induction a with
 | nil=>intro v _ c hc;simp [qn] at hc
 | cons x a ih =>
  intro v hv c hc
  have hz:∀ b:Bool,okC ⟨b,0,[]⟩:=fun b=>⟨by simp,by simp,by simp⟩
  cases x with
  | true =>
   simp only [qn,ba] at hc
   rcases hc with rfl|hc
   ·exact hz true
   ·exact ih v hv c hc
  | false =>
   cases v with
   | nil =>
    simp only [qn,ba] at hc
    rcases hc with rfl|hc
    ·exact hz _
    ·exact ih _ hv c hc
   | cons y v =>
    simp only [qn,ba] at hc
    rcases hc with rfl|hc
    ·exact hv _ (by simp)
    ·exact ih v (fun z hz=>hv z (by simp [hz])) c hc
theorem PW {w:World} {B g cap n:Nat} {l:List CellB} (h:w.ownsRow B 58 3 (.slice (some ⟨g,0,none⟩) n cap) n (jO l)) (hn:l.length=n) (k:Nat) (hk:k < n) (c:CellB) (hc:l[k]?=some c) :
  w.cell? ⟨g,k*3,none⟩=some (.bool c.null)∧w.cell? ⟨g,k*3+1,none⟩=some (.int .i64 c.int)∧w.cell? ⟨g,k*3+2,none⟩=some (strB c.text)∧w.frozen? ⟨g,k*3,none⟩=false∧w.frozen? ⟨g,k*3+1,none⟩=false∧w.frozen? ⟨g,k*3+2,none⟩=false:=by
 have hk2:k < l.length:=by omega
 obtain ⟨h1,h2,h3⟩:=KW l k hk2
 have hcl:l[k]=c:=by rw [ay hk2] at hc;exact Option.some.inj hc
 rw [hcl] at h1 h2 h3
 exact ⟨by rw [h.cellAt (k*3) (by omega)];exact h1,by rw [h.cellAt (k*3+1) (by omega)];exact h2,by rw [h.cellAt (k*3+2) (by omega)];exact h3,h.frozenAt _,h.frozenAt _,h.frozenAt _⟩
theorem Vz (w:World) (s:List UInt8):jY (w.alloc (Obj.cells #[strB s,Value.int IntKind.i64 0,Value.bool false] 243)) w.heap.size s (some s):=by
 refine ⟨0,false,?_,ah _,by simp⟩
 rw [World.alloc]
 simp
theorem RE (w:World) (g i j k:Nat) (a b c:Value):w.grownBy (((w.setCell ⟨g,i,none⟩ a).setCell ⟨g,j,none⟩ b).setCell ⟨g,k,none⟩ c) (some g):=by
 refine ⟨rfl,rfl,rfl,by simp,fun m _ hm=>?_⟩
 have hne:m≠g:=fun e=>hm (by rw [e])
 rw [heap_setCell_other _ ⟨g,k,none⟩ m c hne,heap_setCell_other _ ⟨g,j,none⟩ m b hne,heap_setCell_other _ ⟨g,i,none⟩ m a hne]
end
section
open Go.RowKit
set_option maxRecDepth 100000 in
theorem CQ (kind:Int) (s:List UInt8) (w:World) (hk:kind=0∨kind=1) (hs:s.length≤maxLen) :
  Calls Tryz.prog 112 #[.int .i64 kind,strB s] w fun e w'=>∃ v,e=.returned (.tuple #[v,.bool (xg kind s).isSome])∧Ep w' v (xg kind s)∧Below w.heap.size w w':=by
 obtain ⟨i1,hi1,hy0,hy1,hy2⟩:=info_parts Tryz.infoCell
 go_enter Tryz.func112,Tryz.ntmps112
 go_upto_region 1 with fail
 go_cut [23] (fun t wc=>t=.bool false∧w=wc)
 case first =>
  have hkk:(kind != 0)=false∨(kind != 0)=true∧(kind != 1)=false:=by rcases hk with rfl|rfl<;>simp
  rcases hkk with hk0|⟨hk0,hk1⟩
  ·go_wp2_with fail
   go_meet
   case rel=>exact ⟨rfl,rfl⟩
  ·go_wp2_with fail
   go_meet
   case rel=>exact ⟨rfl,rfl⟩
 case rest =>
  obtain ⟨rfl,rfl⟩:=hcut
  go_wp2_with fail
  have hsp1:=Vz w s
  have HB1:=hid ((Below.refl w.heap.size w).alloc (ae _) (Obj.cells #[strB s,Value.int IntKind.i64 0,Value.bool false] 243))
  have hz1:w.heap.size < (w.alloc (Obj.cells #[strB s,Value.int IntKind.i64 0,Value.bool false] 243)).heap.size:=by simp
  generalize w.alloc (Obj.cells #[strB s,Value.int IntKind.i64 0,Value.bool false] 243)=w1 at *
  obtain ⟨p,hpe⟩:∃ p,p=w.heap.size:=⟨_,rfl⟩
  rw [← hpe] at hsp1 hz1 ⊢
  have Hpe:=hid hpe
  clear hpe
  refine (Jz p s (some s) 60 _ hs (by decide) (by decide) hsp1).mono ?_
  rintro e w2 ⟨rfl,hsp2,hg2⟩
  have e60:(60:Int).toNat=60:=rfl
  rw [e60] at hsp2 ⊢
  have hn:=xO 60 (some s)
  have HU:Hid (∃ n st2,jQ 60 (some s)=(n,st2)):=⟨_,_,rfl⟩
  have HR0:Hid (Runs w1 w2 p s (jQ 60 (some s)).2 (.slice none 0 0) []):=⟨World.ownsRow_nil _ _ _ _,hsp2,hg2⟩
  obtain ⟨n,st2,hfe⟩:=HU.out
  rw [hfe] at hn HR0 ⊢
  have Hfe:=hid hfe
  simp only at hn HR0 ⊢
  clear e60 hsp1 hsp2 hg2 HU hfe
  go_upto_block 0 with fail
  go_cut [8,9,10,11,12,13] (fun lv cv _ _ _ _ wc=>∃ (fl:List Bool) (st3:Option (List UInt8)),cv=.int .i64 (jU fl:Int)∧Runs w1 wc p s st3 lv fl∧fl.length≤n∧Jg n 200 [] false st2=(fl,st3))
  case first =>
   go_wp2_with fail
   go_loopw [8,9,10,11,12,13] (fun lv cv bv rv _ _ wr=>∃ (R:Nat) (fl:List Bool) (b:Bool) (str:Option (List UInt8)),R≤200∧rv=.int .i64 (R:Int)∧cv=.int .i64 (jU fl:Int)∧bv=.bool b∧Runs w1 wr p s str lv fl∧fl.length≤n∧Jg n (200 - R) fl b str=Jg n 200 [] false st2)
    (fun _ _ _ rv _ _ _=>200 - (intOf rv).toNat)
   case atStart=>exact ⟨0,[],false,st2,by omega,rfl,rfl,rfl,HR0.out,ah _,rfl⟩
   case round =>
    obtain ⟨R,fl,b,str,hR,rfl,rfl,rfl,hr,hfn,hrun⟩:=hrel
    obtain ⟨a,cap,rfl,_,_⟩:=JF hr.row (YV fl)
    rw [ch] at *
    obtain ⟨hbad,hbf⟩:=JC hr.spot
    have Hr:=hid hr
    have Hrun:=hid hrun
    clear hr hrun hbf
    have hcl:=Ak fl
    by_cases hgo:fl.length < n∧R < 200∧str.isSome=true
    ·obtain ⟨hlt,hR2,hso⟩:=hgo
     obtain ⟨r0,rfl⟩:=Option.isSome_iff_exists.1 hso
     simp only [Qa] at hbad
     clear hso
     go_wp2_with fail
     refine (Jz p s (some r0) _ _ hs (by omega) (by omega) Hr.out.spot).mono ?_
     rintro e w3 ⟨rfl,hsp3,hg3⟩
     have e12:((n:Int) - (fl.length:Int)).toNat=n - fl.length:=by omega
     rw [e12] at hsp3 ⊢
     have hfl:=xO (n - fl.length) (some r0)
     have Hrun2:Hid (Jg n (200 - (R+1)) (fl++List.replicate (jQ (n - fl.length) (some r0)).1 b) (!b) (jQ (n - fl.length) (some r0)).2=Jg n 200 [] false st2):=by
      have h1:=Hrun.out
      rw [show 200 - R=(200 - (R+1))+1 by omega,Jg,aw ⟨hlt,rfl⟩] at h1
      exact h1
     have HR3:Hid (Runs w1 w3 p s (jQ (n - fl.length) (some r0)).2 (.slice a fl.length cap) (fl++List.replicate 0 b)):=by
      rw [List.replicate_zero,aB]
      exact ⟨qZ Hr.out.row hz1 hg3,hsp3,ja Hr.out.grown hg3⟩
     clear hsp3 hg3 Hr Hrun e12 hbad
     generalize jQ (n - fl.length) (some r0)=fr at *
     obtain ⟨k,st3⟩:=fr
     simp only at hfl Hrun2 HR3 ⊢
     go_wp2_with fail
     go_loopw [8,13] (fun lv i w3=>∃ j:Nat,j≤k∧i=.int .i64 (j:Int)∧Runs w1 w3 p s st3 lv (fl++List.replicate j b)) (fun _ i _=>k - (intOf i).toNat)
     case atStart=>exact ⟨0,ah _,rfl,HR3.out⟩
     case round =>
      obtain ⟨j,hjk,rfl,hm⟩:=hrel
      have Hm:=hid hm
      have hrow:=hm.row
      have hzw:=hm.grown.size
      clear hm HR3
      have hlr:(fl++List.replicate j b).length≤60:=by rw [ab,aE];omega
      by_cases hjl:j < k
      ·go_wp2_with (at_builtin;refine wpList_append_own _ rfl (.tmp 57) (.tmp 60) 59 rfl w1.heap.size 58 i1 (.agg #[.bool false,.int .i64 0,.string ⟨#[]⟩]) 3 32 Tryz.underlying59 hi1 hy0 hy1 hy2 rfl (by decide) _ _ _ rfl (hrow.alloc _) ⟨_,0,none⟩ 1 1 [.bool b,.int .i64 0,.string ⟨#[]⟩] rfl rfl ?c1 ?c2 ?c3 ?c4 ?c5 ?_)
       case c1=>exact qq _ #[.bool b,.int .i64 0,.string ⟨#[]⟩] 58
       case c2=>intro u hu;simp at hu;rcases hu with rfl|rfl|rfl<;>rfl
       case c3=>unfold maxLen;omega
       case c4=>omega
       case c5=>simp;omega
       intro v4 w4 hl4 hg4 _
       have HR:=hid (Cx hz1 Hm.out (by rw [ab,aE,cT,List.map_replicate];exact hl4) hg4)
       clear hl4 hg4 hrow Hm
       go_wp2
       go_roundw
       case rel=>exact ⟨j+1,by omega,by go_num,HR.out⟩
       case measure=>simp [intOf];omega
      ·have hje:j=k:=by omega
       subst hje
       clear hjl hrow
       cases b with
       | true =>
        have HC:Hid (jU (fl++List.replicate j true)=jU fl):=(Kg fl j).2
        go_wp2_with fail
        go_roundw
        case rel=>exact ⟨R+1,_,false,_,by omega,by go_num,by rw [HC.out],rfl,Hm.out,by rw [ab,aE];omega,Hrun2.out⟩
        case measure=>simp [intOf];omega
       | false =>
        have HC:Hid (jU (fl++List.replicate j false)=jU fl+j):=(Kg fl j).1
        go_wp2_with fail
        go_roundw
        case rel=>exact ⟨R+1,_,true,_,by omega,by go_num,by rw [HC.out];go_num,rfl,Hm.out,by rw [ab,aE];omega,Hrun2.out⟩
        case measure=>simp [intOf];omega
    ·have HE:Hid (Jg n 200 [] false st2=(fl,str)):=by
      rw [Hid,← Hrun.out]
      by_cases hR3:R < 200
      ·exact Dn _ _ _ _ _ (fun h=>hgo ⟨h.1,hR3,h.2⟩)
      ·rw [show 200 - R=0 by omega];rfl
     by_cases hlt:fl.length < n
     ·by_cases hR3:R < 200
      ·have hb2:Qa str=true:=by
        cases str with
        | none=>rfl
        | some x=>exact absurd ⟨hlt,hR3,rfl⟩ hgo
       rw [hb2] at hbad
       clear hgo hb2
       go_wp2_with fail
       go_meet
       case rel=>exact ⟨fl,str,rfl,Hr.out,hfn,HE.out⟩
      ·have hR4:R=200:=by omega
       subst hR4
       clear hgo hR3 hbad
       go_wp2_with fail
       go_meet
       case rel=>exact ⟨fl,str,rfl,Hr.out,hfn,HE.out⟩
     ·have hle:n≤fl.length:=by omega
      clear hgo hlt hbad
      go_wp2_with fail
      go_meet
      case rel=>exact ⟨fl,str,rfl,Hr.out,hfn,HE.out⟩
  case rest =>
   obtain ⟨fl,st3,rfl,hr,hfn,hrun⟩:=hcut
   obtain ⟨a,cap,hlv,-,-⟩:=JF hr.row (YV fl)
   rw [ch] at hlv
   subst hlv
   obtain ⟨hbad,hbf⟩:=JC hr.spot
   have Hr:=hid hr
   have Hrun:=hid hrun
   have HB3:=hid (Ed HB1.out hr.grown (Nat.le_of_eq Hpe.out.symm))
   clear hr hrun hbf HR0
   have hcl:=Ak fl
   by_cases hno:st3=none∨fl.length≠n
   ·have HN:Hid (xg kind s=none):=by
     simp only [Hid,xg,Xq,Hfe.out,Hrun.out]
     rw [aw hno]
    by_cases hb3:st3=none
    ·subst hb3
     simp only [Qa] at hbad
     clear hno
     go_wp2_with fail
     go_ret2
     rw [HN.out]
     exact ⟨_,rfl,⟨none,0,rfl⟩,HB3.out⟩
    ·have hb4:Qa st3=false:=by
      cases st3 with
      | none=>exact absurd rfl hb3
      | some x=>rfl
     have hne:((fl.length:Int) != (n:Int))=true:=by
      have:fl.length≠n:=hno.resolve_left hb3
      simp;omega
     rw [hb4] at hbad
     clear hno hb3 hb4
     go_wp2
     go_ret2
     rw [HN.out]
     exact ⟨_,rfl,⟨none,0,rfl⟩,HB3.out⟩
   ·have hno1:st3≠none:=fun h=>hno (.inl h)
    have hno2:fl.length=n:=cl fun h=>hno (.inr h)
    have hb4:Qa st3=false:=by
     cases st3 with
     | none=>exact absurd rfl hno1
     | some x=>rfl
    subst hno2
    have hne:((fl.length:Int) != (fl.length:Int))=false:=by simp
    rw [hb4] at hbad
    clear hno1 hb4
    go_upto_if 80 with fail
    go_cut [14,15,16] (fun _ _ _ wx=>∃ L:List CellB,L.length=fl.length∧(∀ c ∈ L,okC c)∧wx.ownsRow w1.heap.size 58 3 (.slice a fl.length cap) fl.length (jO L)∧Below w.heap.size w wx∧Xq kind s=some L)
    case first =>
     have HC:Hid (Xq kind s=if jU fl=0 then some (qn fl []) else if (zk kind (jU fl) st3).2=none∨(zk kind (jU fl) st3).1.length≠jU fl then none else some (qn fl (zk kind (jU fl) st3).1)):=by
      simp only [Hid,Xq,Hfe.out,Hrun.out]
      rw [aj hno]
     clear hno
     by_cases hc0:jU fl=0
     ·have hcz:(jU fl:Int)=0:=by omega
      have HE:Hid (Xq kind s=some (fl.map XL)):=by
       rw [Hid,HC.out,aw hc0,Dr fl hc0]
      clear hc0
      go_wp2_with fail
      go_meet
      case rel=>exact ⟨_,by simp,YV fl,Hr.out.row,HB3.out,HE.out⟩
     ·have hcp:(0:Int) < (jU fl:Int):=by omega
      have hpc:p < wc.heap.size:=aa hz1 Hr.out.grown.size
      have hcn:jU fl≤60:=by omega
      go_wp2_with fail
      refine (Em p s st3 kind (jU fl) _ hs hpc hcn hk Hr.out.spot).mono ?_
      rintro e w5 ⟨v5,rfl,hrow5,hok5,hsp5,hg5⟩
      have HC2:=HC.out
      rw [aj hc0] at HC2
      generalize zk kind (jU fl) st3=gr at *
      obtain ⟨V,st5⟩:=gr
      simp only at hrow5 hok5 hsp5 HC2
      have HC3:=hid HC2
      clear HC HC2 hc0
      obtain ⟨a5,cap5,rfl,-,-⟩:=JF hrow5 hok5
      obtain ⟨hbad5,-⟩:=JC hsp5
      have HW5:=hid hrow5
      have HO5:=hid hok5
      have HB5:=hid (HB3.out.grown hg5 HB3.out.size (fun k hk=>by simp at hk;have:=Hpe.out;omega))
      have HR5:=hid (qZ Hr.out.row hz1 hg5)
      have hz5:=hg5.size
      clear hrow5 hok5 hsp5 hg5 hbad
      by_cases hno5:st5=none∨V.length≠jU fl
      ·have HN:Hid (xg kind s=none):=by
        have h1:=HC3.out
        rw [aw hno5] at h1
        simp only [Hid,xg,h1]
       by_cases hb3:st5=none
       ·subst hb3
        simp only [Qa] at hbad5
        clear hno5
        go_wp2_with fail
        go_ret2
        rw [HN.out]
        exact ⟨_,rfl,⟨none,0,rfl⟩,HB5.out⟩
       ·have hb4:Qa st5=false:=by
         cases st5 with
         | none=>exact absurd rfl hb3
         | some x=>rfl
        have hne5:((V.length:Int) != (jU fl:Int))=true:=by
         have:V.length≠jU fl:=hno5.resolve_left hb3
         simp;omega
        rw [hb4] at hbad5
        clear hno5 hb3 hb4
        go_wp2_with fail
        go_ret2
        rw [HN.out]
        exact ⟨_,rfl,⟨none,0,rfl⟩,HB5.out⟩
      ·have hV1:st5≠none:=fun h=>hno5 (.inl h)
       have hV2:V.length=jU fl:=cl fun h=>hno5 (.inr h)
       have HE:Hid (Xq kind s=some (qn fl V)):=by
        have h1:=HC3.out
        rw [aj hno5] at h1
        exact h1
       have hb4:Qa st5=false:=by
        cases st5 with
        | none=>exact absurd rfl hV1
        | some x=>rfl
       have hne5:((V.length:Int) != (jU fl:Int))=false:=by simp;omega
       rw [hb4] at hbad5
       have HV2:=hid hV2
       clear hno5 hV1 hb4 HC3 hV2
       go_upto_block 4 with fail
       obtain ⟨g,rfl,hgB⟩:∃ g,a=some ⟨g,0,none⟩∧w1.heap.size≤g:=by
        rcases HR5.out.2 with ⟨h1,h2⟩|⟨g,c,cur,h1,h2,h3⟩
        ·omega
        ·simp only [bF] at h1
         exact ⟨g,h1.1,h2⟩
       have hgc:g < wc.heap.size:=(Hr.out.row.lt g rfl).2
       clear hbad5 hne5
       go_wp2_with fail
       go_loopw [15,16] (fun av i wr=>∃ k:Nat,k≤fl.length∧i=.int .i64 (k:Int)∧av=.int .i64 (jU (fl.take k):Int)∧wr.ownsRow w1.heap.size 58 3 (.slice (some ⟨g,0,none⟩) fl.length cap) fl.length (jO (Zy fl V k))∧wr.ownsRow wc.heap.size 58 3 (.slice a5 V.length cap5) V.length (jO V)∧Below w.heap.size w wr)
        (fun _ i _=>fl.length - (intOf i).toNat)
       case atStart=>exact ⟨0,ah _,rfl,rfl,by rw [Pm];exact HR5.out,HW5.out,HB5.out⟩
       case round =>
        obtain ⟨k,hkn,rfl,rfl,hrw,hvw,hB⟩:=hrel
        have Hrw:=hid hrw
        have Hvw:=hid hvw
        have HB:=hid hB
        clear hrw hvw hB
        by_cases hlt:k < fl.length
        ·have hrow:=Hrw.out
         obtain ⟨c1,c2,c3,f1,f2,f3⟩:=PW hrow (by rw [Km]) k hlt (XL fl[k]) (BC fl V k hlt)
         cases hfk:fl[k] with
         | true =>
          rw [hfk] at c1 c2 c3
          simp only [XL] at c1 c2 c3
          have HM:Hid (Zy fl V (k+1)=Zy fl V k):=PQ fl V k hlt hfk
          have HA:Hid (jU (fl.take (k+1))=jU (fl.take k)):=GZ fl k hlt hfk
          clear hrow hfk c2 c3 f1 f2 f3
          go_wp2_with fail
          go_roundw
          case rel=>exact ⟨k+1,by omega,by go_num,by rw [HA.out],by rw [HM.out];exact Hrw.out,Hvw.out,HB.out⟩
          case measure=>simp [intOf];omega
         | false =>
          rw [hfk] at c1 c2 c3
          simp only [XL] at c1 c2 c3
          obtain ⟨ht1,ht2⟩:=RM fl k hlt hfk
          have HA:=hid ht2
          have hat:jU (fl.take k) < V.length:=by rw [HV2.out];exact ht1
          have HM:Hid (Zy fl V (k+1)=(Zy fl V k).set k (V[jU (fl.take k)]'hat)):=Tr fl V k hlt hfk hat
          obtain ⟨g5,rfl,hg5⟩:∃ g5,a5=some ⟨g5,0,none⟩∧wc.heap.size≤g5:=by
           rcases Hvw.out.2 with ⟨h1,h2⟩|⟨g,c,cur,h1,h2,h3⟩
           ·omega
           ·simp only [bF] at h1
            exact ⟨g,h1.1,h2⟩
          obtain ⟨d1,d2,d3,-,-,-⟩:=PW Hvw.out rfl (jU (fl.take k)) hat _ (ay hat)
          have hat6:jU (fl.take k)≤60:=by have:=HV2.out;omega
          generalize hatd:jU (fl.take k)=at_ at *
          have hati:(at_:Int) < (V.length:Int):=by omega
          clear hrow hfk ht1 ht2
          have HS:Hid ((((wr.setCell ⟨g,k*3,none⟩ (.bool (V[at_]).null)).setCell ⟨g,k*3+1,none⟩ (.int .i64 (V[at_]).int)).setCell ⟨g,k*3+2,none⟩ (strB (V[at_]).text)).ownsRow w1.heap.size 58 3 (.slice (some ⟨g,0,none⟩) fl.length cap) fl.length (jO (Zy fl V (k+1)))):=by
           have h:=SU (l:=Zy fl V k) (c:=V[at_]) (k:=k) (by rw [Km];exact Hrw.out) (by rw [Km];exact hlt)
           rw [Km] at h
           rw [Hid,HM.out]
           exact h
          have HG:=hid (RE wr g (k*3) (k*3+1) (k*3+2) (.bool (V[at_]).null) (.int .i64 (V[at_]).int) (strB (V[at_]).text))
          have HV:Hid ((((wr.setCell ⟨g,k*3,none⟩ (.bool (V[at_]).null)).setCell ⟨g,k*3+1,none⟩ (.int .i64 (V[at_]).int)).setCell ⟨g,k*3+2,none⟩ (strB (V[at_]).text)).ownsRow wc.heap.size 58 3 (.slice (some ⟨g5,0,none⟩) V.length cap5) V.length (jO V)) :=
           Hvw.out.kept HG.out (.inr (by simp only [Value.ownBlock,ne_eq,aP];omega))
          have HB8:=hid (HB.out.grown HG.out HB.out.size (fun j hj=>by simp at hj;have:=HB1.out.size;omega))
          go_wp2_with fail
          go_roundw
          case rel=>exact ⟨k+1,by omega,by go_num,by rw [HA.out];go_num,HS.out,HV.out,HB8.out⟩
          case measure=>simp [intOf];omega
        ·have hke:k=fl.length:=by omega
         subst hke
         go_wp2_with fail
         go_meet
         case rel=>exact ⟨qn fl V,JP _ _,PJ fl V HO5.out,by rw [← SM];exact Hrw.out,HB.out,HE.out⟩
    case rest =>
     obtain ⟨L,hLn,hokL,hrowL,hBL,hcl2⟩:=hcut
     obtain ⟨a2,cap2,hav,-,hlies⟩:=JF hrowL hokL
     have HL:=hid hlies
     have HB9:=hid hBL
     have HU:Hid (xg kind s=if qD kind L=true∧xq kind L=s then some L else none):=by simp only [Hid,xg,hcl2]
     have hL60:L.length≤60:=by omega
     obtain ⟨rfl,hcc,rfl⟩:a=a2∧fl.length=L.length∧cap=cap2:=by simpa using hav
     have HOK:=hid hokL
     rw [hcc]
     clear hav hrowL hokL hlies hBL hcl2 hno hne hcc hLn hfn hcl
     go_wp2_with fail
     refine (Tm kind a cap L _ (by unfold maxLen;omega) HL.out).mono ?_
     rintro e w6 ⟨rfl,hb6⟩
     have HL6:=hid (HL.out.later hb6)
     have HB6:=hid (HB9.out.trans (hb6.mono HB9.out.size))
     clear hb6
     cases hok:qD kind L with
     | false =>
      have HN:Hid (xg kind s=none):=by
       rw [Hid,HU.out,aj (by simp [hok])]
      clear hok
      go_wp2_with fail
      go_ret2
      rw [HN.out]
      exact ⟨_,rfl,⟨none,0,rfl⟩,HB6.out⟩
     | true =>
      have hsm:=(Sv hok HOK.out).1
      have HV:Hid (Vals w6 a L):=⟨HL6.out,hsm,hL60⟩
      have HU2:Hid (xg kind s=if xq kind L=s then some L else none):=by
       rw [Hid,HU.out,hok];simp
      clear hok hsm
      go_wp2_with fail
      refine (Si kind a cap L _ HV.out).mono ?_
      rintro e w7 ⟨rfl,hb7⟩
      have HL7:=hid (HL6.out.later hb7)
      have HB7:=hid (HB6.out.trans (hb7.mono HB6.out.size))
      clear hb7
      by_cases heq:xq kind L=s
      ·have HS9:Hid (xg kind s=some L):=by rw [Hid,HU2.out,aw heq]
       rw [heq]
       clear HU2 HU heq
       go_wp2_with fail
       go_ret2
       rw [HS9.out]
       exact ⟨_,rfl,⟨a,cap,rfl,HL7.out⟩,HB7.out⟩
      ·have HN:Hid (xg kind s=none):=by rw [Hid,HU2.out,aj heq]
       have hbn:(xq kind L == s)=false:=by simp [heq]
       clear HU2 HU heq
       generalize xq kind L=pg at *
       go_wp2_with fail
       go_ret2
       rw [HN.out]
       exact ⟨_,rfl,⟨none,0,rfl⟩,HB7.out⟩
end
end Go.Proofs.YthhpbhpfagoapaaGreat
