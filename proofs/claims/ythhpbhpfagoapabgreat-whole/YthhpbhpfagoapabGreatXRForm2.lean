import Derived.Test.YthhpbhpfagoapabGreatJBL
namespace Go.Proofs.YthhpbhpfagoapabGreat
set_option linter.unusedVariables false
set_option linter.unusedSimpArgs false
set_option maxRecDepth 100000
set_option maxHeartbeats 16000000
open Go.RowKit
def qg (f:FormF):List UInt8:=QG f.told f.foot++f.parts
abbrev formV (f:FormF):Value:=.agg #[.int .i64 (f.foot:Int),.bool f.told,strB f.footer,strB [if f.told=true then 83 else 70],.int .i64 0,.int .i64 0,.int .i64 0,strB f.nonce,strB f.body,strB (qg f)]
def BY (file:List UInt8) (w:World) (e:Ending) (w':World):Prop :=
 Below w.heap.size w w'∧((e=gaveUp∧zq file=none)∨∃ f,zq file=some f∧e=.returned (formV f))
structure FileFacts (file:List UInt8) (f:FormF):Prop where
 len:file.length=4+(f.parts.length+((qp f).length+4))
 short:file.length≤65000
 last:file.drop (file.length - 4)=qz ((qp f).length:Int)++[67,70]
 first:file.take 4=QG f.told f.foot
 mid:(file.drop (4+f.parts.length)).take (qp f).length=xp f.told f.footer (f.nonce,f.body)
theorem zO {f:FormF} {file:List UInt8} (hok:FormOk f) (e:xk f=file):FileFacts file f:=by
 have hlen:file.length=4+(f.parts.length+((qp f).length+4)):=by
  rw [← e]
  simp only [xk,List.length_append,List.length_cons,List.length_nil,jx]
 refine ⟨hlen,by rw [← e];exact hok.short,?_,?_,?_⟩
 ·rw [hlen,show 4+(f.parts.length+((qp f).length+4)) - 4=4+(f.parts.length+(qp f).length) by omega,← e]
  unfold xk
  rw [← List.drop_drop,List.drop_left' (by simp),← List.append_assoc,List.drop_left' (by simp)]
 ·rw [← e]
  unfold xk QG
  rw [List.take_left' (by simp)]
 ·rw [← e]
  unfold xk
  rw [← List.drop_drop,List.drop_left' (by simp),List.drop_left' rfl,List.take_left' rfl]
  rfl
theorem TG {file:List UInt8} {N ft:Nat} {told:Bool} {footer:List UInt8} {x:NB} (hl:file.length≤65000) (hN:N+8≤file.length) (hft:1≤ft∧ft≤9) (hno:told=false→footer=[]) (hx:JG x)
  (h1:file.take 4=QG told ft) (h2:(file.drop (file.length - 4 - N)).take N=xp told footer x) (h3:file.drop (file.length - 4)=qz (N:Int)++[67,70]) :
  zq file=some ⟨told,ft,(file.drop 4).take (file.length - 4 - N - 4),footer,x.1,x.2⟩:=by
 have e4:file.drop (file.length - 4 - N)=(file.drop (file.length - 4 - N)).take N++file.drop (file.length - 4):=by
  conv=>lhs;rw [← List.take_append_drop N (file.drop (file.length - 4 - N))]
  rw [List.drop_drop]
  congr 2
  omega
 have e5:file.drop 4=(file.drop 4).take (file.length - 4 - N - 4)++file.drop (file.length - 4 - N):=by
  conv=>lhs;rw [← List.take_append_drop (file.length - 4 - N - 4) (file.drop 4)]
  rw [List.drop_drop]
  congr 2
  omega
 have hfp:(xp told footer x).length=N:=by rw [← h2,List.length_take,List.length_drop];omega
 have hfile:xk ⟨told,ft,(file.drop 4).take (file.length - 4 - N - 4),footer,x.1,x.2⟩=file:=by
  have hf:qp ⟨told,ft,(file.drop 4).take (file.length - 4 - N - 4),footer,x.1,x.2⟩=xp told footer x:=rfl
  unfold xk
  rw [hf,hfp]
  simp only
  rw [← h3,← h2,← e4,← e5]
  have:[67,70]++[if told=true then 79 else 69]++[byB (ft:Int)]=file.take 4:=h1.symm
  rw [this,List.take_append_drop]
 conv=>lhs;rw [← hfile]
 exact Uq ⟨hx.1,hx.2.1,hft,by rw [hfile];exact hl,hno⟩
theorem Ap (s:List UInt8) (b:Nat):(⟨s.toArray⟩:ByteArray).extract 0 b=⟨(s.take b).toArray⟩:=by
 rw [KO];simp
theorem BL (s:List UInt8) (a:Nat):(⟨s.toArray⟩:ByteArray).extract a s.length=⟨(s.drop a).toArray⟩:=by
 rw [KO]
 congr 2
 rw [List.take_of_length_le (by rw [List.length_drop];omega)]
theorem II (file:List UInt8) (w:World) (hs:file.length≤maxLen):Calls Tryz.prog 42 #[strB file] w (BY file w):=by
 have hz:=jM file
 have Hs:=hid hs
 unfold maxLen at hs
 go_enter Tryz.func42,Tryz.ntmps42
 by_cases h8:¬ 8≤file.length
 ·have HN:Hid (zq file=none):=JH (fun f hok e=>by have:=(zO hok e).len;omega)
  have i1:¬ (8:Int)≤(file.length:Int):=by omega
  go_wp2_with fail
  refine (qU _).mono ?_
  rintro e w1 ⟨rfl,rfl⟩
  go_wp2
  exact ⟨rfl,(Below.refl _ _).alloc (Nat.le_refl _) _,.inl ⟨rfl,HN.out⟩⟩
 by_cases h65:¬ file.length≤65000
 ·have HN:Hid (zq file=none):=JH (fun f hok e=>by have:=(zO hok e).short;omega)
  have i1:(8:Int)≤(file.length:Int):=by omega
  have i2:¬ (file.length:Int)≤65000:=by omega
  go_wp2_with fail
  refine (qU _).mono ?_
  rintro e w1 ⟨rfl,rfl⟩
  go_wp2
  exact ⟨rfl,(Below.refl _ _).alloc (Nat.le_refl _) _,.inl ⟨rfl,HN.out⟩⟩
 have i1:(8:Int)≤(file.length:Int):=by omega
 have i2:(file.length:Int)≤65000:=by omega
 have hw0:IntKind.i64.wrap ((file.length:Int) - 4)=((file.length - 4:Nat):Int):=by rw [IntKind.wrap_i64];omega
 have hE:file.length - 4≤file.length:=by omega
 have hE4:4≤file.length - 4:=by omega
 have HLE:Hid (file.length - 4+4=file.length):=by show _=_;omega
 have hse:=BL file (file.length - 4)
 clear h8 h65
 go_wp2_with fail
 refine (qh _).mono ?_
 rintro e w1 ⟨rfl,rfl⟩
 go_wp2_with fail
 obtain ⟨hb0,hl0,_,ho0⟩:=jK w #[.int .i64 0,.bool false,Value.string { data:=#[] },Value.string { data:=#[] },.int .i64 0,.int .i64 0,.int .i64 0,Value.string { data:=#[] },Value.string { data:=#[] },Value.string { data:=#[] }] 77
 generalize w.alloc _=W0 at *
 have HB0:=hid hb0
 have Ho0:=hid ho0
 clear hb0 ho0
 refine (Zl (file.drop (file.length - 4)) W0).mono ?_
 rintro e w2 ⟨rfl,hrd,hb2⟩
 have Hrd:=hid hrd
 have HB2:=hid (HB0.out.trans (hb2.mono HB0.out.size))
 have Ho2:=hid ((hb2.block w.heap.size hl0).trans Ho0.out)
 have hl2:=hb2.size
 clear hrd hb2
 go_wp2_with fail
 refine (AC W0.heap.size _ _ w2 (by rw [List.length_drop];unfold maxLen;omega) Hrd.out).mono ?_
 rintro e w3 ⟨hg3,⟨rfl,hno⟩|⟨N,r,hN,rfl,hp3,hr⟩⟩
 ·have HN:Hid (zq file=none):=JH (fun f hok e=>by
   have:=hok.lens
   exact hno (qp f).length [] (by omega) (by rw [List.append_nil];exact (zO hok e).last))
  have HB3:=hid (HB2.out.trans (jq hg3 (by omega) (by omega)))
  clear hno hg3
  go_wp2
  exact ⟨rfl,HB3.out,.inl ⟨rfl,HN.out⟩⟩
 have HB3:=hid (HB2.out.trans (jq hg3 (by omega) (by omega)))
 have Ho3:=hid (jk hg3 Ho2.out (by omega))
 have hl3:=hg3.size
 have HL:Hid (file.drop (file.length - 4)=qz (N:Int)++[67,70]):=by
  have h1:=congrArg List.length hr
  simp only [List.length_append,List.length_drop,jx,List.length_cons,List.length_nil] at h1
  have h2:r=[]:=List.eq_nil_of_length_eq_zero (by omega)
  show _=_
  rw [hr,h2,List.append_nil]
 clear hg3 hp3 hr
 have HNL:Hid (∀ f,FormOk f→xk f=file→(qp f).length=N):=by
  intro f hok e
  have h1:=(zO hok e).last
  rw [HL.out] at h1
  have:=hok.lens
  exact (Jm hN (by omega) (List.append_inj h1 (by rw [jx,jx])).1).symm
 by_cases hst:¬ N+8≤file.length
 ·have HN:Hid (zq file=none):=JH (fun f hok e=>by
   have h1:=HNL.out f hok e
   have h2:=(zO hok e).len
   omega)
  have hw1:IntKind.i64.wrap (((file.length - 4:Nat):Int) - (N:Int))=((file.length - 4:Nat):Int) - (N:Int):=by rw [IntKind.wrap_i64];omega
  have i3:decide ((4:Int)≤((file.length - 4:Nat):Int) - (N:Int))=false:=by simp;omega
  go_wp2_with fail
  refine (qU _).mono ?_
  rintro e w4 ⟨rfl,rfl⟩
  clear hse hw1 hw0
  go_wp2
  exact ⟨rfl,HB3.out,.inl ⟨rfl,HN.out⟩⟩
 have hst':=Decidable.not_not.1 hst
 have hw1:IntKind.i64.wrap (((file.length - 4:Nat):Int) - (N:Int))=((file.length - 4 - N:Nat):Int):=by rw [IntKind.wrap_i64];omega
 have i3:(4:Int)≤((file.length - 4 - N:Nat):Int):=by omega
 have hpr:=Ap file (file.length - 4 - N)
 have hpr4:=Ap file 4
 have i4:file.length - 4 - N≤file.length:=by omega
 have i5:4≤file.length:=by omega
 clear hst
 go_wp2_with fail
 refine (qh _).mono ?_
 rintro e w4 ⟨rfl,rfl⟩
 go_wp2_with fail
 have hmid:=KO file (file.length - 4 - N) (file.length - 4)
 rw [show file.length - 4 - (file.length - 4 - N)=N by omega] at hmid
 have i6:file.length - 4 - N≤file.length - 4:=by omega
 have i7:((file.length - 4 - N:Nat):Int)≤((file.length - 4:Nat):Int):=by omega
 have i8:((file.length - 4:Nat):Int)≤(file.length:Int):=by omega
 have i9:(0:Int)≤((file.length - 4 - N:Nat):Int):=by omega
 obtain ⟨hb5,hl5,_,hq5⟩:=jK w4 #[.int .i64 0,.bool false,strB [],strB [],.int .i64 0,.int .i64 0,.int .i64 0,strB [],strB [],strB (file.take (file.length - 4 - N))] 77
 show Calls _ _ _ (w4.alloc (.cells #[.int .i64 0,.bool false,strB [],strB [],.int .i64 0,.int .i64 0,.int .i64 0,strB [],strB [],strB (file.take (file.length - 4 - N))] 77)) _
 generalize w4.alloc _=W5 at *
 have HB5:=hid (HB3.out.trans (hb5.mono HB3.out.size))
 have Hq5:=hid hq5
 have Ho5:=hid ((hb5.block w.heap.size (by omega)).trans Ho3.out)
 clear hb5 hq5
 refine (Zl (file.take 4) W5).mono ?_
 rintro e w6 ⟨rfl,hrd,hb6⟩
 have Hrd6:=hid hrd
 have HB6:=hid (HB5.out.trans (hb6.mono HB5.out.size))
 have Hq6:=hid ((hb6.block w4.heap.size hl5).trans Hq5.out)
 have Ho6:=hid ((hb6.block w.heap.size (by omega)).trans Ho5.out)
 have hl6:=hb6.size
 clear hrd hb6
 go_wp2_with fail
 refine (ED W5.heap.size w4.heap.size w4.heap.size (file.take 4) (file.take 4) _ _ _ _ _ _ _ _ _ _ w6 (by rw [List.length_take];unfold maxLen;omega) Hrd6.out Hq6.out (by omega) (by omega) (Nat.le_refl _)).mono ?_
 rintro e w7 ⟨hb7,⟨rfl,hno⟩|⟨told,ft,r7,hf1,hf2,rfl,hr7,hq7⟩⟩
 ·have HN:Hid (zq file=none):=JH (fun f hok e=>by
   have:=hok.foot
   exact hno f.told f.foot [] this.1 this.2 (by rw [List.append_nil];exact (zO hok e).first))
  have HB7:=hid (HB6.out.trans (hb7.mono HB3.out.size))
  clear hno hb7 hpr hpr4 hse hw0 hw1 hmid
  go_wp2
  exact ⟨rfl,HB7.out,.inl ⟨rfl,HN.out⟩⟩
 have HB7:=hid (HB6.out.trans (hb7.mono HB3.out.size))
 have Hq7:=hid hq7
 have Ho7:=hid ((hb7.block w.heap.size (by omega)).trans Ho6.out)
 have hl7:=hb7.size
 have HH:Hid (file.take 4=QG told ft):=by
  have h1:=congrArg List.length hr7
  rw [List.length_append,List.length_take,show (QG told ft).length=4 from rfl] at h1
  have h2:r7=[]:=List.eq_nil_of_length_eq_zero (by omega)
  show _=_
  rw [hr7,h2,List.append_nil]
 clear hb7 hq7 hr7
 go_wp2_with fail
 refine (Zl ((file.drop (file.length - 4 - N)).take N) w7).mono ?_
 rintro e w8 ⟨rfl,hrd,hb8⟩
 have Hrd8:=hid hrd
 have HB8:=hid (HB7.out.trans (hb8.mono HB7.out.size))
 have Hq8:=hid ((hb8.block w4.heap.size (by omega)).trans Hq7.out)
 have Ho8:=hid ((hb8.block w.heap.size (by omega)).trans Ho7.out)
 have hl8:=hb8.size
 clear hrd hb8
 go_wp2_with fail
 refine (EE w7.heap.size w4.heap.size w4.heap.size ft told _ _ _ _ _ _ _ _ _ w8 (by rw [List.length_take];unfold maxLen;omega) Hrd8.out Hq8.out (by omega) (by omega) (Nat.le_refl _)).mono ?_
 rintro e w9 ⟨hb9,⟨rfl,hno⟩|⟨footer,x,hfn,hx,rfl,hr9,hq9⟩⟩
 ·have HN:Hid (zq file=none):=JH (fun f hok e=>by
   have hF:=zO hok e
   have h1:=HNL.out f hok e
   have h2:=hok.lens
   have h3:f.told=told:=by
    have h4:=hF.first
    rw [HH.out] at h4
    unfold QG at h4
    cases h5:f.told<;>cases h6:told<;>simp_all
   have h7:file.length - 4 - N=4+f.parts.length:=by have:=hF.len;omega
   refine hno f.footer (f.nonce,f.body) (fun h=>hok.none_ (by rw [h3];exact h)) (by omega) ⟨hok.nonce,hok.body,by simp only;omega⟩ ?_
   rw [h7,← h1,← h3]
   exact hF.mid)
  have HB9:=hid (HB8.out.trans (hb9.mono HB3.out.size))
  clear hno hb9 hpr hpr4 hse hw0 hw1 hmid
  go_wp2
  exact ⟨rfl,HB9.out,.inl ⟨rfl,HN.out⟩⟩
 have HF:=hid (TG (N:=N) (by omega) hst' ⟨hf1,hf2⟩ hfn hx HH.out hr9 HL.out)
 have HB9:=hid (HB8.out.trans (hb9.mono HB3.out.size))
 have Ho9:=hid ((hb9.block w.heap.size (by omega)).trans Ho8.out)
 have HA:Hid (file.take (file.length - 4 - N)=QG told ft++(file.drop 4).take (file.length - 4 - N - 4)):=by
  show _=_
  rw [← HH.out,← List.take_add]
  congr 1
  omega
 obtain ⟨⟨q0,q1,q2,q3,q4,q5,q6,q7,q8,q9⟩,_⟩:=xE hq9
 clear hq9 hb9 hr9 hpr hpr4 hse hw0 hw1 hmid
 obtain ⟨⟨o0,o1,o2,o3,o4,o5,o6,o7,o8,o9⟩,of⟩:=xE Ho9.out
 have of0:=of 0
 have of1:=of 1
 have of2:=of 2
 have of3:=of 3
 have of4:=of 4
 have of5:=of 5
 have of6:=of 6
 have of7:=of 7
 have of8:=of 8
 have of9:=of 9
 clear of
 have HSB:Hid ((if told=true then (83:UInt8) else 70)=if told=true then (83:UInt8) else 70):=rfl
 generalize hsb:(if told=true then (83:UInt8) else 70)=sb at q3
 have Hsb:=hid hsb
 clear hsb hfn HSB
 have HoE:=hid (JP [.int .i64 (ft:Int),.bool told,strB footer,strB [sb],.int .i64 0,.int .i64 0,.int .i64 0,strB x.1,strB x.2,strB (file.take (file.length - 4 - N))] (by rfl) Ho9.out)
 have HgE:=hid (xP w.heap.size [.int .i64 (ft:Int),.bool told,strB footer,strB [sb],.int .i64 0,.int .i64 0,.int .i64 0,strB x.1,strB x.2,strB (file.take (file.length - 4 - N))] w9 0)
 go_wp2
 show bodyPost _ _ _ _ _ (w9.setCells w.heap.size 0 [.int .i64 (ft:Int),.bool told,strB footer,strB [sb],.int .i64 0,.int .i64 0,.int .i64 0,strB x.1,strB x.2,strB (file.take (file.length - 4 - N))])
 clear q0 q1 q2 q3 q4 q5 q6 q7 q8 q9 o0 o1 o2 o3 o4 o5 o6 o7 o8 o9 of0 of1 of2 of3 of4 of5 of6 of7 of8 of9
 generalize w9.setCells _ _ _=WE at *
 have HBE:=hid (HB9.out.trans (jq HgE.out (Nat.le_refl _) HB9.out.size))
 obtain ⟨⟨q0,q1,q2,q3,q4,q5,q6,q7,q8,q9⟩,_⟩:=xE HoE.out
 refine bodyPost_ret (v:=.agg #[.int .i64 (ft:Int),.bool told,strB footer,strB [sb],.int .i64 0,.int .i64 0,.int .i64 0,strB x.1,strB x.2,strB (file.take (file.length - 4 - N))]) (by simp [results,Tryz.results42,go_sem,q0,q1,q2,q3,q4,q5,q6,q7,q8,q9]) rfl ⟨HBE.out,.inr ⟨_,HF.out,?_⟩⟩
 simp only [formV,qg]
 rw [HA.out,Hsb.out]
end Go.Proofs.YthhpbhpfagoapabGreat
