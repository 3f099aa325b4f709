import Derived.Test.YthhpbhpfagoapaaGreatJAA
import Derived.Test.YthhpbhpfagoapaaGreatJBK
import Derived.Test.YthhpbhpfagoapaaGreatJAE
namespace Go.Proofs.YthhpbhpfagoapaaGreat
set_option linter.unusedVariables false
set_option linter.unusedSimpArgs false
set_option maxRecDepth 100000
set_option maxHeartbeats 16000000
open Go.RowKit
section
def ql (f:FormF):List UInt8:=QC f.told f.foot++f.parts
abbrev formV (f:FormF):Value:=.agg #[.int .i64 (f.foot:Int),.bool f.told,strB f.footer,strB [if f.told=true then 83 else 70],.int .i64 0,.int .i64 0,.int .i64 0,strB f.nonce,strB f.body,strB (ql f)]
def LM (file:List UInt8) (w:World) (e:Ending) (w':World):Prop :=
 Below w.heap.size w w'∧((e=gaveUp∧zt file=none)∨∃ f,zt file=some f∧e=.returned (formV f))
structure FileFacts (file:List UInt8) (f:FormF):Prop where
 len:file.length=4+(f.parts.length+((qA f).length+4))
 short:file.length≤65000
 last:file.drop (file.length - 4)=qE ((qA f).length:Int)++[67,70]
 first:file.take 4=QC f.told f.foot
 mid:(file.drop (4+f.parts.length)).take (qA f).length=xf f.told f.footer (f.nonce,f.body)
theorem JJ {f:FormF} {file:List UInt8} (hok:FormOk f) (e:xu f=file):FileFacts file f:=by
 have hlen:file.length=4+(f.parts.length+((qA f).length+4)):=by
  rw [← e]
  simp only [xu,ab,aH,aR,jG]
 refine ⟨hlen,by rw [← e];exact hok.short,?_,?_,?_⟩
 ·rw [hlen,show 4+(f.parts.length+((qA f).length+4)) - 4=4+(f.parts.length+(qA f).length) by omega,← e]
  unfold xu
  rw [← bz,bO (by simp),← af,bO (by simp)]
 ·rw [← e]
  unfold xu QC
  rw [List.take_left' (by simp)]
 ·rw [← e]
  unfold xu
  rw [← bz,bO (by simp),bO rfl,List.take_left' rfl]
  rfl
theorem CM {file:List UInt8} {N ft:Nat} {told:Bool} {footer:List UInt8} {x:NB} (hl:file.length≤65000) (hN:N+8≤file.length) (hft:1≤ft∧ft≤9) (hno:told=false→footer=[]) (hx:JE x)
  (h1:file.take 4=QC told ft) (h2:(file.drop (file.length - 4 - N)).take N=xf told footer x) (h3:file.drop (file.length - 4)=qE (N:Int)++[67,70]) :
  zt file=some ⟨told,ft,(file.drop 4).take (file.length - 4 - N - 4),footer,x.1,x.2⟩:=by
 have e4:file.drop (file.length - 4 - N)=(file.drop (file.length - 4 - N)).take N++file.drop (file.length - 4):=by
  conv=>lhs;rw [← aD N (file.drop (file.length - 4 - N))]
  rw [bz]
  congr 2
  omega
 have e5:file.drop 4=(file.drop 4).take (file.length - 4 - N - 4)++file.drop (file.length - 4 - N):=by
  conv=>lhs;rw [← aD (file.length - 4 - N - 4) (file.drop 4)]
  rw [bz]
  congr 2
  omega
 have hfp:(xf told footer x).length=N:=by rw [← h2,aq,an];omega
 have hfile:xu ⟨told,ft,(file.drop 4).take (file.length - 4 - N - 4),footer,x.1,x.2⟩=file:=by
  have hf:qA ⟨told,ft,(file.drop 4).take (file.length - 4 - N - 4),footer,x.1,x.2⟩=xf told footer x:=rfl
  unfold xu
  rw [hf,hfp]
  simp only
  rw [← h3,← h2,← e4,← e5]
  have:[67,70]++[if told=true then 79 else 69]++[byB (ft:Int)]=file.take 4:=h1.symm
  rw [this,aD]
 conv=>lhs;rw [← hfile]
 exact GW ⟨hx.1,hx.2.1,hft,by rw [hfile];exact hl,hno⟩
theorem EQ (s:List UInt8) (b:Nat):(⟨s.toArray⟩:ByteArray).extract 0 b=⟨(s.take b).toArray⟩:=by
 rw [Vc];simp
theorem Lx (s:List UInt8) (a:Nat):(⟨s.toArray⟩:ByteArray).extract a s.length=⟨(s.drop a).toArray⟩:=by
 rw [Vc]
 congr 2
 rw [aC (by rw [an];omega)]
theorem Ex (file:List UInt8) (w:World) (hs:file.length≤maxLen):Calls Tryz.prog 98 #[strB file] w (LM file w):=by
 have hz:=jR file
 have Hs:=hid hs
 unfold maxLen at hs
 go_enter Tryz.func98,Tryz.ntmps98
 by_cases h8:¬ 8≤file.length
 ·have HN:Hid (zt file=none):=JG (fun f hok e=>by have:=(JJ hok e).len;omega)
  have i1:¬ (8:Int)≤(file.length:Int):=by omega
  go_wp2_with fail
  refine (qU _).mono ?_
  rintro e w1 ⟨rfl,rfl⟩
  go_wp2
  exact ⟨rfl,(Below.refl _ _).alloc (ae _) _,.inl ⟨rfl,HN.out⟩⟩
 by_cases h65:¬ file.length≤65000
 ·have HN:Hid (zt file=none):=JG (fun f hok e=>by have:=(JJ hok e).short;omega)
  have i1:(8:Int)≤(file.length:Int):=by omega
  have i2:¬ (file.length:Int)≤65000:=by omega
  go_wp2_with fail
  refine (qU _).mono ?_
  rintro e w1 ⟨rfl,rfl⟩
  go_wp2
  exact ⟨rfl,(Below.refl _ _).alloc (ae _) _,.inl ⟨rfl,HN.out⟩⟩
 have i1:(8:Int)≤(file.length:Int):=by omega
 have i2:(file.length:Int)≤65000:=by omega
 have hw0:IntKind.i64.wrap ((file.length:Int) - 4)=((file.length - 4:Nat):Int):=by rw [IntKind.wrap_i64];omega
 have hE:file.length - 4≤file.length:=by omega
 have hE4:4≤file.length - 4:=by omega
 have HLE:Hid (file.length - 4+4=file.length):=by show _=_;omega
 have hse:=Lx file (file.length - 4)
 clear h8 h65
 go_wp2_with fail
 refine (qd _).mono ?_
 rintro e w1 ⟨rfl,rfl⟩
 go_wp2_with fail
 obtain ⟨hb0,hl0,_,ho0⟩:=qm w #[.int .i64 0,.bool false,Value.string { data:=#[] },Value.string { data:=#[] },.int .i64 0,.int .i64 0,.int .i64 0,Value.string { data:=#[] },Value.string { data:=#[] },Value.string { data:=#[] }] 115
 generalize w.alloc _=W0 at *
 have HB0:=hid hb0
 have Ho0:=hid ho0
 clear hb0 ho0
 refine (XI (file.drop (file.length - 4)) W0).mono ?_
 rintro e w2 ⟨rfl,hrd,hb2⟩
 have Hrd:=hid hrd
 have HB2:=hid (HB0.out.trans (hb2.mono HB0.out.size))
 have Ho2:=hid ((hb2.block w.heap.size hl0).trans Ho0.out)
 have hl2:=hb2.size
 clear hrd hb2
 go_wp2_with fail
 refine (Au W0.heap.size _ _ w2 (by rw [an];unfold maxLen;omega) Hrd.out).mono ?_
 rintro e w3 ⟨hg3,⟨rfl,hno⟩|⟨N,r,hN,rfl,hp3,hr⟩⟩
 ·have HN:Hid (zt file=none):=JG (fun f hok e=>by
   have:=hok.lens
   exact hno (qA f).length [] (by omega) (by rw [aB];exact (JJ hok e).last))
  have HB3:=hid (HB2.out.trans (jg hg3 (by omega) (by omega)))
  clear hno hg3
  go_wp2
  exact ⟨rfl,HB3.out,.inl ⟨rfl,HN.out⟩⟩
 have HB3:=hid (HB2.out.trans (jg hg3 (by omega) (by omega)))
 have Ho3:=hid (jf hg3 Ho2.out (by omega))
 have hl3:=hg3.size
 have HL:Hid (file.drop (file.length - 4)=qE (N:Int)++[67,70]):=by
  have h1:=aT List.length hr
  simp only [ab,an,jG,aH,aR] at h1
  have h2:r=[]:=ao (by omega)
  show _=_
  rw [hr,h2,aB]
 clear hg3 hp3 hr
 have HNL:Hid (∀ f,FormOk f→xu f=file→(qA f).length=N):=by
  intro f hok e
  have h1:=(JJ hok e).last
  rw [HL.out] at h1
  have:=hok.lens
  exact (QL hN (by omega) (aV h1 (by rw [jG,jG])).1).symm
 by_cases hst:¬ N+8≤file.length
 ·have HN:Hid (zt file=none):=JG (fun f hok e=>by
   have h1:=HNL.out f hok e
   have h2:=(JJ hok e).len
   omega)
  have hw1:IntKind.i64.wrap (((file.length - 4:Nat):Int) - (N:Int))=((file.length - 4:Nat):Int) - (N:Int):=by rw [IntKind.wrap_i64];omega
  have i3:decide ((4:Int)≤((file.length - 4:Nat):Int) - (N:Int))=false:=by simp;omega
  go_wp2_with fail
  refine (qU _).mono ?_
  rintro e w4 ⟨rfl,rfl⟩
  clear hse hw1 hw0
  go_wp2
  exact ⟨rfl,HB3.out,.inl ⟨rfl,HN.out⟩⟩
 have hst':=cJ.1 hst
 have hw1:IntKind.i64.wrap (((file.length - 4:Nat):Int) - (N:Int))=((file.length - 4 - N:Nat):Int):=by rw [IntKind.wrap_i64];omega
 have i3:(4:Int)≤((file.length - 4 - N:Nat):Int):=by omega
 have hpr:=EQ file (file.length - 4 - N)
 have hpr4:=EQ file 4
 have i4:file.length - 4 - N≤file.length:=by omega
 have i5:4≤file.length:=by omega
 clear hst
 go_wp2_with fail
 refine (qd _).mono ?_
 rintro e w4 ⟨rfl,rfl⟩
 go_wp2_with fail
 have hmid:=Vc file (file.length - 4 - N) (file.length - 4)
 rw [show file.length - 4 - (file.length - 4 - N)=N by omega] at hmid
 have i6:file.length - 4 - N≤file.length - 4:=by omega
 have i7:((file.length - 4 - N:Nat):Int)≤((file.length - 4:Nat):Int):=by omega
 have i8:((file.length - 4:Nat):Int)≤(file.length:Int):=by omega
 have i9:(0:Int)≤((file.length - 4 - N:Nat):Int):=by omega
 obtain ⟨hb5,hl5,_,hq5⟩:=qm w4 #[.int .i64 0,.bool false,strB [],strB [],.int .i64 0,.int .i64 0,.int .i64 0,strB [],strB [],strB (file.take (file.length - 4 - N))] 115
 show Calls _ _ _ (w4.alloc (.cells #[.int .i64 0,.bool false,strB [],strB [],.int .i64 0,.int .i64 0,.int .i64 0,strB [],strB [],strB (file.take (file.length - 4 - N))] 115)) _
 generalize w4.alloc _=W5 at *
 have HB5:=hid (HB3.out.trans (hb5.mono HB3.out.size))
 have Hq5:=hid hq5
 have Ho5:=hid ((hb5.block w.heap.size (by omega)).trans Ho3.out)
 clear hb5 hq5
 refine (XI (file.take 4) W5).mono ?_
 rintro e w6 ⟨rfl,hrd,hb6⟩
 have Hrd6:=hid hrd
 have HB6:=hid (HB5.out.trans (hb6.mono HB5.out.size))
 have Hq6:=hid ((hb6.block w4.heap.size hl5).trans Hq5.out)
 have Ho6:=hid ((hb6.block w.heap.size (by omega)).trans Ho5.out)
 have hl6:=hb6.size
 clear hrd hb6
 go_wp2_with fail
 refine (EB W5.heap.size w4.heap.size w4.heap.size (file.take 4) (file.take 4) _ _ _ _ _ _ _ _ _ _ w6 (by rw [aq];unfold maxLen;omega) Hrd6.out Hq6.out (by omega) (by omega) (ae _)).mono ?_
 rintro e w7 ⟨hb7,⟨rfl,hno⟩|⟨told,ft,r7,hf1,hf2,rfl,hr7,hq7⟩⟩
 ·have HN:Hid (zt file=none):=JG (fun f hok e=>by
   have:=hok.foot
   exact hno f.told f.foot [] this.1 this.2 (by rw [aB];exact (JJ hok e).first))
  have HB7:=hid (HB6.out.trans (hb7.mono HB3.out.size))
  clear hno hb7 hpr hpr4 hse hw0 hw1 hmid
  go_wp2
  exact ⟨rfl,HB7.out,.inl ⟨rfl,HN.out⟩⟩
 have HB7:=hid (HB6.out.trans (hb7.mono HB3.out.size))
 have Hq7:=hid hq7
 have Ho7:=hid ((hb7.block w.heap.size (by omega)).trans Ho6.out)
 have hl7:=hb7.size
 have HH:Hid (file.take 4=QC told ft):=by
  have h1:=aT List.length hr7
  rw [ab,aq,show (QC told ft).length=4 from rfl] at h1
  have h2:r7=[]:=ao (by omega)
  show _=_
  rw [hr7,h2,aB]
 clear hb7 hq7 hr7
 go_wp2_with fail
 refine (XI ((file.drop (file.length - 4 - N)).take N) w7).mono ?_
 rintro e w8 ⟨rfl,hrd,hb8⟩
 have Hrd8:=hid hrd
 have HB8:=hid (HB7.out.trans (hb8.mono HB7.out.size))
 have Hq8:=hid ((hb8.block w4.heap.size (by omega)).trans Hq7.out)
 have Ho8:=hid ((hb8.block w.heap.size (by omega)).trans Ho7.out)
 have hl8:=hb8.size
 clear hrd hb8
 go_wp2_with fail
 refine (Eu w7.heap.size w4.heap.size w4.heap.size ft told _ _ _ _ _ _ _ _ _ w8 (by rw [aq];unfold maxLen;omega) Hrd8.out Hq8.out (by omega) (by omega) (ae _)).mono ?_
 rintro e w9 ⟨hb9,⟨rfl,hno⟩|⟨footer,x,hfn,hx,rfl,hr9,hq9⟩⟩
 ·have HN:Hid (zt file=none):=JG (fun f hok e=>by
   have hF:=JJ hok e
   have h1:=HNL.out f hok e
   have h2:=hok.lens
   have h3:f.told=told:=by
    have h4:=hF.first
    rw [HH.out] at h4
    unfold QC at h4
    cases h5:f.told<;>cases h6:told<;>simp_all
   have h7:file.length - 4 - N=4+f.parts.length:=by have:=hF.len;omega
   refine hno f.footer (f.nonce,f.body) (fun h=>hok.none_ (by rw [h3];exact h)) (by omega) ⟨hok.nonce,hok.body,by simp only;omega⟩ ?_
   rw [h7,← h1,← h3]
   exact hF.mid)
  have HB9:=hid (HB8.out.trans (hb9.mono HB3.out.size))
  clear hno hb9 hpr hpr4 hse hw0 hw1 hmid
  go_wp2
  exact ⟨rfl,HB9.out,.inl ⟨rfl,HN.out⟩⟩
 have HF:=hid (CM (N:=N) (by omega) hst' ⟨hf1,hf2⟩ hfn hx HH.out hr9 HL.out)
 have HB9:=hid (HB8.out.trans (hb9.mono HB3.out.size))
 have Ho9:=hid ((hb9.block w.heap.size (by omega)).trans Ho8.out)
 have HA:Hid (file.take (file.length - 4 - N)=QC told ft++(file.drop 4).take (file.length - 4 - N - 4)):=by
  show _=_
  rw [← HH.out,← List.take_add]
  congr 1
  omega
 obtain ⟨⟨q0,q1,q2,q3,q4,q5,q6,q7,q8,q9⟩,_⟩:=xn hq9
 clear hq9 hb9 hr9 hpr hpr4 hse hw0 hw1 hmid
 obtain ⟨⟨o0,o1,o2,o3,o4,o5,o6,o7,o8,o9⟩,of⟩:=xn Ho9.out
 have of0:=of 0
 have of1:=of 1
 have of2:=of 2
 have of3:=of 3
 have of4:=of 4
 have of5:=of 5
 have of6:=of 6
 have of7:=of 7
 have of8:=of 8
 have of9:=of 9
 clear of
 have HSB:Hid ((if told=true then (83:UInt8) else 70)=if told=true then (83:UInt8) else 70):=rfl
 generalize hsb:(if told=true then (83:UInt8) else 70)=sb at q3
 have Hsb:=hid hsb
 clear hsb hfn HSB
 have HoE:=hid (JS [.int .i64 (ft:Int),.bool told,strB footer,strB [sb],.int .i64 0,.int .i64 0,.int .i64 0,strB x.1,strB x.2,strB (file.take (file.length - 4 - N))] (by rfl) Ho9.out)
 have HgE:=hid (xF w.heap.size [.int .i64 (ft:Int),.bool told,strB footer,strB [sb],.int .i64 0,.int .i64 0,.int .i64 0,strB x.1,strB x.2,strB (file.take (file.length - 4 - N))] w9 0)
 go_wp2
 show bodyPost _ _ _ _ _ (w9.setCells w.heap.size 0 [.int .i64 (ft:Int),.bool told,strB footer,strB [sb],.int .i64 0,.int .i64 0,.int .i64 0,strB x.1,strB x.2,strB (file.take (file.length - 4 - N))])
 clear q0 q1 q2 q3 q4 q5 q6 q7 q8 q9 o0 o1 o2 o3 o4 o5 o6 o7 o8 o9 of0 of1 of2 of3 of4 of5 of6 of7 of8 of9
 generalize w9.setCells _ _ _=WE at *
 have HBE:=hid (HB9.out.trans (jg HgE.out (ae _) HB9.out.size))
 obtain ⟨⟨q0,q1,q2,q3,q4,q5,q6,q7,q8,q9⟩,_⟩:=xn HoE.out
 refine bodyPost_ret (v:=.agg #[.int .i64 (ft:Int),.bool told,strB footer,strB [sb],.int .i64 0,.int .i64 0,.int .i64 0,strB x.1,strB x.2,strB (file.take (file.length - 4 - N))]) (by simp [results,Tryz.results98,go_sem,q0,q1,q2,q3,q4,q5,q6,q7,q8,q9]) rfl ⟨HBE.out,.inr ⟨_,HF.out,?_⟩⟩
 simp only [formV,ql]
 rw [HA.out,Hsb.out]
end
section
structure SmallC (c:ColB):Prop where
 name:c.name.length≤8
 kind:c.kind=0∨c.kind=1
 key:0≤c.key∧c.key≤9
 cells:c.cells=[]
def Al (c:ColB):List Value:=[strB c.name,.int .i64 c.kind,.int .i64 c.key,.slice none 0 0]
def zW (t:List ColB):List Value:=t.flatMap Al
theorem UG (t:List ColB) (c:ColB):zW (t++[c])=zW t++[strB c.name,.int .i64 c.kind,.int .i64 c.key,.slice none 0 0]:=by simp [zW,Al]
theorem Tryz.infoColumnX:(Tryz.prog.info? 61).map (fun i=>(i.zero,i.size,i.bytes))=some (some (.agg #[.string ⟨#[]⟩,.int .i64 0,.int .i64 0,.slice none 0 0]),4,56):=by kernel_rfl
theorem Pu {a b:ColB} (ha:SmallC a) (hb:SmallC b) (h:Xj a=Xj b):a=b:=by
 simp only [Xj,bV] at h
 obtain ⟨h1,h2,h3⟩:=h
 have:=ha.kind
 have:=hb.kind
 have:=ha.key
 have:=hb.key
 have h4:a.kind=b.kind:=by omega
 have h5:a.key=b.key:=by omega
 have h6:=ha.cells
 have h7:=hb.cells
 cases a;cases b;simp_all
theorem Yz:∀ {a b:List ColB},(∀ c ∈ a,SmallC c)→(∀ c ∈ b,SmallC c)→a.map Xj=b.map Xj→a=b:=by
 intro a
 induction a with
 | nil=>intro b _ _ h;cases b with
  | nil=>rfl
  | cons x l=>simp at h
 | cons x l ih =>
  intro b ha hb h
  cases b with
  | nil=>simp at h
  | cons y m =>
   simp only [cK,aW] at h
   rw [Pu (ha x (by simp)) (hb y (by simp)) h.1,ih (fun c hc=>ha c (aJ _ hc)) (fun c hc=>hb c (aJ _ hc)) h.2]
theorem Zd {t:List ColB} (h:jZ t=true) (hb:∀ c ∈ t,c.cells=[]):∀ c ∈ t,SmallC c:=by
 intro c hc
 obtain ⟨k,hk,rfl⟩:=cz.1 hc
 simp only [jZ,au] at h
 obtain ⟨a,b,c,d⟩:=Qj (Qs h.1 (ae _) k hk).1
 exact ⟨(Vq a).2,b,⟨c,d⟩,hb _ (al hk)⟩
theorem MR {a t:List ColB} {r q:List UInt8} (hl:a.length < t.length) (ha:∀ c ∈ a,SmallC c) (ht:∀ c ∈ t,SmallC c) (h:a.flatMap qa++r=t.flatMap qa++q):∃ c t2,SmallC c∧r=qa c++t2:=by
 have e:t.flatMap qa++q=(t.take a.length).flatMap qa++((t.drop a.length).flatMap qa++q):=by
  rw [← af,← bf,aD]
 rw [e] at h
 obtain ⟨_,h2⟩:=KN a (t.take a.length) _ _ (by rw [aq];omega) h
 rw [aN hl,a9,af] at h2
 exact ⟨t[a.length],_,ht _ (al hl),h2⟩
theorem Iv {a t:List ColB} {r q:List UInt8} (hl:a.length=t.length) (ha:∀ c ∈ a,SmallC c) (ht:∀ c ∈ t,SmallC c) (h:a.flatMap qa++r=t.flatMap qa++q):a=t∧r=q:=by
 obtain ⟨h1,h2⟩:=KN a t _ _ hl h
 exact ⟨Yz ha ht h1,h2⟩
theorem Ga {w:World} {base n:Nat} {v:Value} {t:List ColB} (h:w.ownsRow base 61 4 v n (zW t)) (hn:t.length=n) (ht:∀ c ∈ t,SmallC c):∃ a cap,v=.slice a n cap∧n≤cap∧LiesT w a t:=by
 subst hn
 have hok:∀ c ∈ t,Sh c:=fun c hc=>by
  have:=ht c hc
  have h1:=this.name
  have h2:=this.kind
  have h3:=this.key
  exact ⟨by unfold maxLen;omega,⟨by omega,by omega⟩,by omega,by omega⟩
 rcases h.2 with ⟨rfl,h0⟩|⟨g,cap,cur,rfl,_,_,hcap,_⟩
 ·exact ⟨none,0,by rw [h0],by omega,hok,fun hne=>absurd (ao (by omega)) hne⟩
 ·refine ⟨_,cap,rfl,hcap,hok,fun _=>⟨g,0,rfl,(h.lt g rfl).2,fun j hj=>?_⟩⟩
  have hf:=Xz Al 4 (fun _=>rfl) t j
  simp only [bK]
  refine ⟨?_,?_,?_,.slice none 0 0,?_,?_⟩
  ·rw [h.cellAt (j*4) (by omega)];exact hf 0 hj (by omega)
  ·rw [h.cellAt (j*4+1) (by omega)];exact hf 1 hj (by omega)
  ·rw [h.cellAt (j*4+2) (by omega)];exact hf 2 hj (by omega)
  ·rw [h.cellAt (j*4+3) (by omega)];exact hf 3 hj (by omega)
  ·rw [(ht _ (al hj)).cells]
   exact ⟨none,0,rfl,ah _,⟨fun c hc=>by simp at hc,fun hne=>absurd rfl hne⟩,by simp⟩
theorem jx {w w':World} {base:Nat} {e:TypeId} {size:Nat} {v:Value} {n:Nat} {xs:List Value} (h:w.ownsRow base e size v n xs) (hb:Below w.heap.size w w'):w'.ownsRow base e size v n xs:=by
 refine ⟨h.1,?_⟩
 rcases h.2 with hn|⟨g,cap,cur,rfl,hb',hg,rest⟩
 ·exact .inl hn
 ·exact .inr ⟨g,cap,cur,rfl,hb',(hb.block g (ag.1 hg).1).trans hg,rest⟩
theorem xl (w:World) (C:Array Value) (t:TypeId) {G:Nat} (hG:G=w.heap.size):∀ (j:Nat) (u:Value),C.toList[j]?=some u→(w.alloc (.cells C t)).cell? ((⟨G,0,none⟩:Addr).add j)=some u:=by
 subst hG
 exact qq w C t
theorem Df (a:Option Addr) (cap n:Nat) (t:List ColB) (w:World) (hn:t.length=n) (hm:n≤maxLen) (hcap:n≤cap) (hl:LiesT w a t) :
  Calls Tryz.prog 212 #[.slice a n cap] w fun e w'=>e=.returned (.bool (jZ t))∧Below w.heap.size w w':=by
 subst hn
 exact AF a cap t w hm hcap hl
def BF (p:Nat) (s rest:List UInt8) (w:World) (e:Ending) (w':World):Prop :=
 w.grownBy w' (some p)∧((e=gaveUp∧∀ (t:List ColB) (q:List UInt8),jZ t=true→(∀ c ∈ t,c.cells=[])→rest≠uB t.length++(t.flatMap qa++q)) ∨
  ∃ (t:List ColB) (v:Value) (r:List UInt8),jZ t=true∧(∀ c ∈ t,SmallC c)∧e=.returned v∧w'.ownsRow w.heap.size 61 4 v t.length (zW t)∧qz w' p s r∧rest=uB t.length++(t.flatMap qa++r))
theorem GY (p:Nat) (s rest:List UInt8) (w:World) (hs:s.length≤maxLen) (hp:qz w p s rest) :
  Calls Tryz.prog 269 #[.pointer (some ⟨p,0,none⟩)] w (BF p s rest w):=by
 obtain ⟨i0,hi,hz0,hz1,hz2⟩:=info_parts Tryz.infoColumnX
 have Hs:=hid hs
 have Hp:=hid hp
 have hplt:=xp hp
 clear hs hp
 go_enter Tryz.func269,Tryz.ntmps269
 go_wp2_with fail
 refine (zS p s rest 6 w Hs.out (by omega) Hp.out).mono ?_
 rintro e w1 ⟨hg1,⟨rfl,hno⟩|⟨n,r0,hn,rfl,hrd1,hr0⟩⟩
 ·have Hno:=hid hno
  clear hno
  go_wp2
  refine ⟨rfl,hg1,.inl ⟨rfl,fun t q ht hb h=>Hno.out t.length _ ?_ h⟩⟩
  simp only [jZ,au,az] at ht
  exact ht.2.2
 have hn6:n≤6:=hn
 have HR0:=hid hr0
 have HG1:=hid hg1
 have Hrd1:=hid hrd1
 have HLEN:Hid (∀ (t:List ColB) (q:List UInt8),jZ t=true→rest=uB t.length++(t.flatMap qa++q)→t.length=n∧r0=t.flatMap qa++q):=by
  intro t q ht h
  rw [hr0] at h
  obtain ⟨h1,h2⟩:=xH _ _ _ _ h
  exact ⟨h1.symm,h2⟩
 clear hr0 hg1 hrd1 hn
 go_wp2
 go_loopw [3,7] (fun v i wr=>∃ (k:Nat) (tks:List ColB) (rk:List UInt8),k≤n∧i=.int .i64 (k:Int)∧tks.length=k∧(∀ c ∈ tks,SmallC c)∧wr.ownsRow w.heap.size 61 4 v k (zW tks)∧qz wr p s rk∧w.grownBy wr (some p)∧r0=tks.flatMap qa++rk) (fun _ i _=>n - (intOf i).toNat)
 case atStart=>exact ⟨0,[],r0,ah _,rfl,rfl,(fun c h=>by cases h),World.ownsRow_nil _ _ _ _,Hrd1.out,HG1.out,rfl⟩
 case round =>
  obtain ⟨k,tks,rk,hkn,rfl,hal,hok,hown,hrd,hg,hrk⟩:=hrel
  have Hal:=hid hal
  have Hok:=hid hok
  have Hrk:=hid hrk
  clear hal hok hrk
  by_cases hlt:k < n
  ·have HNX:Hid ((∀ (c:ColB) q,SmallC c→rk≠qa c++q)→∀ (t:List ColB) (q:List UInt8),jZ t=true→(∀ c ∈ t,c.cells=[])→rest≠uB t.length++(t.flatMap qa++q)):=by
    intro hno t q ht hb h
    obtain ⟨h1,h2⟩:=HLEN.out t q ht h
    rw [Hrk.out] at h2
    obtain ⟨c,t2,hc,h3⟩:=MR (by have:=Hal.out;omega) Hok.out (Zd ht hb) h2
    exact hno c t2 hc h3
   go_wp2_with fail
   refine (CZ p s rk 8 _ Hs.out (by omega) hrd).mono ?_
   rintro e w2 ⟨hg2,⟨rfl,hno⟩|⟨nm,r2,hnm,rfl,hrd2,hr2⟩⟩
   ·have HN:=hid (HNX.out (fun c q hc h=>hno c.name (uB c.kind.toNat++(uB c.key.toNat++q)) hc.name (by rw [h];simp only [qa,af])))
    have HG:=hid (ja hg hg2)
    clear hno hg2 hg hown hrd
    go_wp2
    exact ⟨rfl,HG.out,.inl ⟨rfl,HN.out⟩⟩
   have hown2:=qZ hown hplt hg2
   have hG2:=ja hg hg2
   have Hr2:=hid hr2
   have hnm8:nm.length≤8:=hnm
   clear hown hg hg2 hrd hr2 hnm
   go_wp2_with fail
   refine (zS p s r2 1 _ Hs.out (by omega) hrd2).mono ?_
   rintro e w3 ⟨hg3,⟨rfl,hno⟩|⟨kd,r3,hkd,rfl,hrd3,hr3⟩⟩
   ·have HN:=hid (HNX.out (fun c q hc h=>by
     rw [Hr2.out] at h
     simp only [qa,af] at h
     obtain ⟨_,h5⟩:=NX h
     exact hno c.kind.toNat _ (by have:=hc.kind;show _≤1;omega) h5))
    have HG:=hid (ja hG2 hg3)
    clear hno hg3 hG2 hown2 hrd2
    go_wp2
    exact ⟨rfl,HG.out,.inl ⟨rfl,HN.out⟩⟩
   have hown3:=qZ hown2 hplt hg3
   have hG3:=ja hG2 hg3
   have Hr3:=hid hr3
   have hkd1:kd≤1:=hkd
   clear hown2 hG2 hg3 hrd2 hr3 hkd
   go_wp2_with fail
   refine (zS p s r3 9 _ Hs.out (by omega) hrd3).mono ?_
   rintro e w4 ⟨hg4,⟨rfl,hno⟩|⟨ky,r4,hky,rfl,hrd4,hr4⟩⟩
   ·have HN:=hid (HNX.out (fun c q hc h=>by
     rw [Hr2.out] at h
     simp only [qa,af] at h
     obtain ⟨_,h5⟩:=NX h
     rw [Hr3.out] at h5
     obtain ⟨_,h6⟩:=xH _ _ _ _ h5
     exact hno c.key.toNat _ (by have:=hc.key;show _≤9;omega) h6))
    have HG:=hid (ja hG3 hg4)
    clear hno hg4 hG3 hown3 hrd3
    go_wp2
    exact ⟨rfl,HG.out,.inl ⟨rfl,HN.out⟩⟩
   have hown4:=qZ hown3 hplt hg4
   have hG4:=ja hG3 hg4
   have Hr4:=hid hr4
   have hky9:ky≤9:=hky
   have hsz4:=hG4.size
   clear hown3 hG3 hg4 hrd3 hr4 hky
   have hownA:=hown4.alloc (.cells #[strB nm,.int .i64 (kd:Int),.int .i64 (ky:Int),.slice none 0 0] 61)
   have hrdA:=qK hrd4 ((Below.refl _ _).alloc (ae _) (.cells #[strB nm,.int .i64 (kd:Int),.int .i64 (ky:Int),.slice none 0 0] 61)) (xp hrd4)
   have hGA:=zj hG4 (.cells #[strB nm,.int .i64 (kd:Int),.int .i64 (ky:Int),.slice none 0 0] 61)
   go_wp2_with (at_builtin;refine wpList_append_own _ rfl (.tmp 16) (.tmp 18) 22 rfl w.heap.size 61 i0 (.agg #[.string ⟨#[]⟩,.int .i64 0,.int .i64 0,.slice none 0 0]) 4 56 Tryz.underlying22 hi hz0 hz1 hz2 rfl (by decide) _ _ _ rfl (hownA.alloc _) ⟨_,0,none⟩ 1 1 [strB nm,.int .i64 (kd:Int),.int .i64 (ky:Int),.slice none 0 0] rfl rfl ?c1 ?c2 ?c3 ?c4 ?c5 ?_)
   case c1=>exact xl (w4.alloc _) #[strB nm,.int .i64 (kd:Int),.int .i64 (ky:Int),.slice none 0 0] 61 (by simp)
   case c2=>intro u hu;simp at hu;rcases hu with rfl|rfl|rfl|rfl<;>rfl
   case c3=>unfold maxLen;omega
   case c4=>omega
   case c5=>simp;omega
   intro v5 w5 hown5 hgr5 _
   have HR:=hid (XG hrdA hplt hGA hownA hgr5)
   have HO5:=hid hown5
   clear hown4 hownA hown5 hgr5 hG4 hGA hrdA hrd4
   go_wp2
   go_roundw
   case rel =>
    refine ⟨k+1,tks++[⟨nm,kd,ky,[]⟩],r4,by omega,by go_num,by simp [Hal.out],?_,by rw [UG];exact HO5.out,HR.out.1,HR.out.2,?_⟩
    ·intro c hc
     rcases aM.1 hc with h|h
     ·exact Hok.out c h
     ·simp only [ba,bs,cM] at h
      subst h
      exact ⟨hnm8,by simp only;omega,⟨by simp only;omega,by simp only;omega⟩,rfl⟩
    ·rw [Hrk.out,Hr2.out,Hr3.out,Hr4.out,bf]
     simp [qa]
   case measure=>simp [intOf];omega
  ·have hke:k=n:=by omega
   subst hke
   have HG:=hid hg
   have Hrd:=hid hrd
   have HOW:=hid hown
   obtain ⟨a,cap,rfl,hcap,hlies⟩:=Ga hown Hal.out Hok.out
   have Hlies:=hid hlies
   clear hown hlies hrd hg
   go_wp2_with fail
   refine (Df a cap k tks _ Hal.out (by unfold maxLen;omega) hcap Hlies.out).mono ?_
   rintro e w6 ⟨rfl,hb6⟩
   have HB6:=hid hb6
   clear hb6
   cases hh:jZ tks with
   | true =>
    have Hh:=hid hh
    clear hh
    go_wp2_with fail
    refine (qd _).mono ?_
    rintro e w7 ⟨rfl,rfl⟩
    go_wp2
    go_ret
    refine ⟨jH HG.out HB6.out,.inr ⟨tks,_,rk,Hh.out,Hok.out,rfl,?_,qK Hrd.out HB6.out (xp Hrd.out),?_⟩⟩
    ·rw [Hal.out]
     exact jx HOW.out HB6.out
    ·rw [HR0.out,Hrk.out,Hal.out]
   | false =>
    have HN:Hid (∀ (t:List ColB) (q:List UInt8),jZ t=true→(∀ c ∈ t,c.cells=[])→rest≠uB t.length++(t.flatMap qa++q)):=by
     intro t q ht hb h
     obtain ⟨h1,h2⟩:=HLEN.out t q ht h
     rw [Hrk.out] at h2
     obtain ⟨h3,_⟩:=Iv (by rw [Hal.out,h1]) Hok.out (Zd ht hb) h2
     rw [h3,ht] at hh
     cases hh
    clear hh
    go_wp2_with fail
    refine (qU _).mono ?_
    rintro e w7 ⟨rfl,rfl⟩
    go_wp2
    exact ⟨rfl,jH HG.out HB6.out,.inl ⟨rfl,HN.out⟩⟩
end
end Go.Proofs.YthhpbhpfagoapaaGreat
