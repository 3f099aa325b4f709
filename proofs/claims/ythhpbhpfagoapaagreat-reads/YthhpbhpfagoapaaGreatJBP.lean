import Derived.Test.YthhpbhpfagoapaaGreatJAA
import Derived.Test.YthhpbhpfagoapaaGreatJBT
import Derived.Deep.RegionHeld3
namespace Go.Proofs.YthhpbhpfagoapaaGreat
set_option linter.unusedVariables false
set_option linter.unusedSimpArgs false
set_option maxRecDepth 100000
set_option maxHeartbeats 16000000
open Go.RowKit
section
abbrev fileC (f:FormF):Array Value:=#[.bool f.told,.int .i64 (f.foot:Int),strB f.parts,strB f.footer,strB f.nonce,strB f.body]
abbrev file0:Array Value:=#[.bool false,.int .i64 0,Value.string { data:=#[] },Value.string { data:=#[] },Value.string { data:=#[] },Value.string { data:=#[] }]
def Af (file:List UInt8) (w:World) (e:Ending) (w':World):Prop :=
 Below w.heap.size w w'∧((zQ file=none∧∃ C:Array Value,(C.size=6∧C.all (·.oneCell')=true)∧e=.returned (.tuple #[.agg C,.bool false]))∨∃ f,zQ file=some f∧e=.returned (.tuple #[.agg (fileC f),.bool true]))
theorem qt {P:Program} {fn:Func} {p q:Tmp} {ty:TypeId} (h:fn.results=#[.cell p ty,.tmp q]) (tmps:Array Value) (w:World) (g:Nat) (cs:Array Value) (x:Value)
  (hp:tmps.getD p undef=.pointer (some ⟨g,0,none⟩)) (hq:tmps.getD q undef=x) (hl:(loadVar ty ⟨g,0,none⟩).run P w=.ok (.agg cs) w) :
  (results fn tmps).run P w=.ok (.tuple #[.agg cs,x]) w:=by
 have hp':tmps[p]?.getD undef=.pointer (some ⟨g,0,none⟩):=by simpa using hp
 have hq':tmps[q]?.getD undef=x:=by simpa using hq
 simp [results,h,hp',hq',asAddr,hl]
theorem Ii (file:List UInt8) (w:World) (hs:file.length≤maxLen) (hbad:65000 < file.length∨file.length < 8∨file.take 2≠[67,70]∨file.drop (file.length - 2)≠[67,70]∨(file.getD 2 0≠69∧file.getD 2 0≠79)∨(file.getD 3 0).toNat < 1∨9 < (file.getD 3 0).toNat) :
  Calls Tryz.prog 88 #[strB file] w (Af file w):=by
 have Hbad:=hid hbad
 clear hbad
 obtain ⟨hb0,hl0,_,ho0⟩:=qm w file0 169
 have HB0:=hid hb0
 have Ho0:=hid ho0
 clear hb0 ho0
 have HF:Hid ((65000 < file.length∨file.length < 8∨file.take 2≠[67,70]∨file.drop (file.length - 2)≠[67,70]∨(file.getD 2 0≠69∧file.getD 2 0≠79)∨(file.getD 3 0).toNat < 1∨9 < (file.getD 3 0).toNat)→zQ file=none):=fun h=>by
  unfold zQ
  rw [aw h]
 by_cases h1:65000 < file.length
 ·have HN:Hid (zQ file=none):=HF.out (.inl h1)
  have h1i:(65000:Int) < (file.length:Int):=by omega
  clear h1
  go_enter Tryz.func88,Tryz.ntmps88
  go_wp2
  exact bodyPost_ret (v:=.tuple #[.agg file0,.bool false]) (qt (p:=2) (q:=3) rfl _ _ _ _ _ rfl rfl (run_loadVar_row (P:=Tryz.prog) _ w.heap.size 169 169 file0 (0,0) _ Ho0.out Tryz.underlying169 rfl (by kernel_rfl))) rfl ⟨HB0.out,.inl ⟨HN.out,_,⟨by rfl,by simp [Value.oneCell']⟩,rfl⟩⟩
 have h1d:decide ((65000:Int) < (file.length:Int))=false:=aS (by omega)
 have h1i:(file.length:Int)≤65000:=by omega
 by_cases h2:file.length < 8
 ·have HN:Hid (zQ file=none):=HF.out (.inr (.inl h2))
  have h2i:(file.length:Int) < 8:=by omega
  clear h1 h2
  go_enter Tryz.func88,Tryz.ntmps88
  go_wp2
  exact bodyPost_ret (v:=.tuple #[.agg file0,.bool false]) (qt (p:=2) (q:=3) rfl _ _ _ _ _ rfl rfl (run_loadVar_row (P:=Tryz.prog) _ w.heap.size 169 169 file0 (0,0) _ Ho0.out Tryz.underlying169 rfl (by kernel_rfl))) rfl ⟨HB0.out,.inl ⟨HN.out,_,⟨by rfl,by simp [Value.oneCell']⟩,rfl⟩⟩
 have h2d:decide ((file.length:Int) < 8)=false:=aS (by omega)
 have h2i:(8:Int)≤(file.length:Int):=by omega
 have e3:((⟨file.toArray⟩:ByteArray).extract 0 2).toList=file.take 2:=by rw [ByteArray.toList_eq];simp
 have e4:((⟨file.toArray⟩:ByteArray).extract (file.length - 2) file.length).toList=file.drop (file.length - 2):=by rw [ByteArray.toList_eq];simp;rw [aC (by simp)]
 by_cases h3:file.take 2=[67,70]
 case neg =>
  have HN:Hid (zQ file=none):=HF.out (.inr (.inr (.inl h3)))
  have h3d:(((⟨file.toArray⟩:ByteArray).extract 0 2).toList == [67,70])=false:=by rw [e3];simpa using h3
  clear h1 h2 h3 e3 e4
  go_enter Tryz.func88,Tryz.ntmps88
  go_wp2
  exact bodyPost_ret (v:=.tuple #[.agg file0,.bool false]) (qt (p:=2) (q:=3) rfl _ _ _ _ _ rfl rfl (run_loadVar_row (P:=Tryz.prog) _ w.heap.size 169 169 file0 (0,0) _ Ho0.out Tryz.underlying169 rfl (by kernel_rfl))) rfl ⟨HB0.out,.inl ⟨HN.out,_,⟨by rfl,by simp [Value.oneCell']⟩,rfl⟩⟩
 have h3d:(((⟨file.toArray⟩:ByteArray).extract 0 2).toList == [67,70])=true:=by rw [e3];simpa using h3
 by_cases h4:file.drop (file.length - 2)=[67,70]
 case neg =>
  have HN:Hid (zQ file=none):=HF.out (.inr (.inr (.inr (.inl h4))))
  have h4d:(((⟨file.toArray⟩:ByteArray).extract (file.length - 2) file.length).toList == [67,70])=false:=by rw [e4];simpa using h4
  clear h1 h2 h3 h4 e3 e4
  go_enter Tryz.func88,Tryz.ntmps88
  go_wp2
  exact bodyPost_ret (v:=.tuple #[.agg file0,.bool false]) (qt (p:=2) (q:=3) rfl _ _ _ _ _ rfl rfl (run_loadVar_row (P:=Tryz.prog) _ w.heap.size 169 169 file0 (0,0) _ Ho0.out Tryz.underlying169 rfl (by kernel_rfl))) rfl ⟨HB0.out,.inl ⟨HN.out,_,⟨by rfl,by simp [Value.oneCell']⟩,rfl⟩⟩
 have h4d:(((⟨file.toArray⟩:ByteArray).extract (file.length - 2) file.length).toList == [67,70])=true:=by rw [e4];simpa using h4
 have hl2:2 < (⟨file.toArray⟩:ByteArray).size:=by simp [ByteArray.size];omega
 have hl3:3 < (⟨file.toArray⟩:ByteArray).size:=by simp [ByteArray.size];omega
 obtain ⟨b2,hb2⟩:∃ b,file[2]?=some b:=⟨file[2],ay (by omega)⟩
 obtain ⟨b3,hb3⟩:∃ b,file[3]?=some b:=⟨file[3],ay (by omega)⟩
 have g2:file.getD 2 0=b2:=by simp [List.getD,hb2]
 have g3:file.getD 3 0=b3:=by simp [List.getD,hb3]
 have i2:((⟨file.toArray⟩:ByteArray)[2]'hl2).toNat=b2.toNat:=by
  have:=(aA.1 hb2).2
  rw [← this];rfl
 have i3:((⟨file.toArray⟩:ByteArray)[3]'hl3).toNat=b3.toNat:=by
  have:=(aA.1 hb3).2
  rw [← this];rfl
 have Hg2:=hid g2
 have Hg3:=hid g3
 have H1:=hid h1
 have H2:=hid h2
 have H3:=hid h3
 have H4:=hid h4
 clear hb2 hb3 e3 e4 h1 h2 h3 h4 g2 g3
 by_cases h5:b2=69∨b2=79
 case neg =>
  have HN:Hid (zQ file=none):=HF.out (.inr (.inr (.inr (.inr (.inl (by rw [Hg2.out];exact ⟨fun h=>h5 (.inl h),fun h=>h5 (.inr h)⟩))))))
  have h5a:((b2.toNat:Int) != 69)=true:=by
   rw [bne_iff_ne];intro h;exact h5 (.inl (UInt8.toNat.inj (by show b2.toNat=69;omega)))
  have h5b:((b2.toNat:Int) != 79)=true:=by
   rw [bne_iff_ne];intro h;exact h5 (.inr (UInt8.toNat.inj (by show b2.toNat=79;omega)))
  clear h5
  go_enter Tryz.func88,Tryz.ntmps88
  go_wp2
  exact bodyPost_ret (v:=.tuple #[.agg file0,.bool false]) (qt (p:=2) (q:=3) rfl _ _ _ _ _ rfl rfl (run_loadVar_row (P:=Tryz.prog) _ w.heap.size 169 169 file0 (0,0) _ Ho0.out Tryz.underlying169 rfl (by kernel_rfl))) rfl ⟨HB0.out,.inl ⟨HN.out,_,⟨by rfl,by simp [Value.oneCell']⟩,rfl⟩⟩
 have h5a:(b2=69∧((b2.toNat:Int) != 69)=false∧((b2.toNat:Int) == 79)=false)∨(b2=79∧((b2.toNat:Int) != 69)=true∧((b2.toNat:Int) != 79)=false∧((b2.toNat:Int) == 79)=true):=by
  rcases h5 with rfl|rfl
  ·exact .inl ⟨rfl,rfl,rfl⟩
  ·exact .inr ⟨rfl,rfl,rfl,rfl⟩
 clear h5
 by_cases h6:b3.toNat < 1
 ·have HN:Hid (zQ file=none):=HF.out (.inr (.inr (.inr (.inr (.inr (.inl (by rw [Hg3.out];exact h6)))))))
  have h6d:decide ((b3.toNat:Int) < 1)=true:=cH (by omega)
  clear h6
  rcases h5a with ⟨_,h5b,_⟩|⟨_,h5b,h5c,_⟩
  ·go_enter Tryz.func88,Tryz.ntmps88
   go_wp2
   exact bodyPost_ret (v:=.tuple #[.agg file0,.bool false]) (qt (p:=2) (q:=3) rfl _ _ _ _ _ rfl rfl (run_loadVar_row (P:=Tryz.prog) _ w.heap.size 169 169 file0 (0,0) _ Ho0.out Tryz.underlying169 rfl (by kernel_rfl))) rfl ⟨HB0.out,.inl ⟨HN.out,_,⟨by rfl,by simp [Value.oneCell']⟩,rfl⟩⟩
  ·go_enter Tryz.func88,Tryz.ntmps88
   go_wp2
   exact bodyPost_ret (v:=.tuple #[.agg file0,.bool false]) (qt (p:=2) (q:=3) rfl _ _ _ _ _ rfl rfl (run_loadVar_row (P:=Tryz.prog) _ w.heap.size 169 169 file0 (0,0) _ Ho0.out Tryz.underlying169 rfl (by kernel_rfl))) rfl ⟨HB0.out,.inl ⟨HN.out,_,⟨by rfl,by simp [Value.oneCell']⟩,rfl⟩⟩
 have h6d:decide ((b3.toNat:Int) < 1)=false:=aS (by omega)
 by_cases h7:9 < b3.toNat
 ·have HN:Hid (zQ file=none):=HF.out (.inr (.inr (.inr (.inr (.inr (.inr (by rw [Hg3.out];exact h7)))))))
  have h7d:decide ((9:Int) < (b3.toNat:Int))=true:=cH (by omega)
  clear h6 h7
  rcases h5a with ⟨_,h5b,_⟩|⟨_,h5b,h5c,_⟩
  ·go_enter Tryz.func88,Tryz.ntmps88
   go_wp2
   exact bodyPost_ret (v:=.tuple #[.agg file0,.bool false]) (qt (p:=2) (q:=3) rfl _ _ _ _ _ rfl rfl (run_loadVar_row (P:=Tryz.prog) _ w.heap.size 169 169 file0 (0,0) _ Ho0.out Tryz.underlying169 rfl (by kernel_rfl))) rfl ⟨HB0.out,.inl ⟨HN.out,_,⟨by rfl,by simp [Value.oneCell']⟩,rfl⟩⟩
  ·go_enter Tryz.func88,Tryz.ntmps88
   go_wp2
   exact bodyPost_ret (v:=.tuple #[.agg file0,.bool false]) (qt (p:=2) (q:=3) rfl _ _ _ _ _ rfl rfl (run_loadVar_row (P:=Tryz.prog) _ w.heap.size 169 169 file0 (0,0) _ Ho0.out Tryz.underlying169 rfl (by kernel_rfl))) rfl ⟨HB0.out,.inl ⟨HN.out,_,⟨by rfl,by simp [Value.oneCell']⟩,rfl⟩⟩
 have h7d:decide ((9:Int) < (b3.toNat:Int))=false:=aS (by omega)
 exfalso
 rcases Hbad.out with h|h|h|h|⟨h,h'⟩|h|h
 ·exact H1.out h
 ·exact H2.out h
 ·exact h H3.out
 ·exact h H4.out
 ·rw [Hg2.out] at h h'
  rcases h5a with ⟨h5,_⟩|⟨h5,_⟩
  ·exact h h5
  ·exact h' h5
 ·rw [Hg3.out] at h
  omega
 ·rw [Hg3.out] at h
  omega
end
section
theorem ND (file:List UInt8):((⟨file.toArray⟩:ByteArray).extract 0 2).toList=file.take 2:=by rw [ByteArray.toList_eq];simp
theorem NH (file:List UInt8):((⟨file.toArray⟩:ByteArray).extract (file.length - 2) file.length).toList=file.drop (file.length - 2):=by rw [ByteArray.toList_eq];simp;rw [aC (by simp)]
theorem Va (file:List UInt8) (a b:Nat):(⟨file.toArray⟩:ByteArray).extract a b=⟨((file.drop a).take (b - a)).toArray⟩:=by
 apply ByteArray.ext
 rw [ByteArray.data_extract]
 simp
theorem xI {w w':World} {B p:Nat} (h:w.grownBy w' (some p)) (hp:B≤p) (hB:B≤w.heap.size):Below B w w' :=
 ⟨h.os,h.tape,h.output,h.size,fun i hi=>h.block i (aa hi hB) (by intro e;injection e with e;omega)⟩
theorem qe {B:Nat} {w w':World} (h:Below B w w'):Below B w w'.drew:=⟨h.os,h.tape,h.output,h.size,h.block⟩
def PU (file:List UInt8):Prop:=¬ 65000 < file.length∧¬ file.length < 8∧file.take 2=[67,70]∧file.drop (file.length - 2)=[67,70]∧(file.getD 2 0=69∨file.getD 2 0=79)∧¬ (file.getD 3 0).toNat < 1∧¬ 9 < (file.getD 3 0).toNat
theorem RQ (file:List UInt8) (w:World) (hgood:PU file) (hfr:file.length < 8+Qv (file.drop (file.length - 4))) :
  Calls Tryz.prog 88 #[strB file] w (Af file w):=by
 have HN:Hid (zQ file=none):=by
  show _=_
  unfold zQ
  rw [aw hfr]
  split<;>rfl
 have Hgood:=hid hgood
 obtain ⟨h1,h2,h3,h4,h5,h6,h7⟩:=hgood
 obtain ⟨hb0,hl0,_,ho0⟩:=qm w file0 169
 have HB0:=hid hb0
 have Ho0:=hid ho0
 clear hb0 ho0
 have h1i:(file.length:Int)≤65000:=by omega
 have h2i:(8:Int)≤(file.length:Int):=by omega
 have h1d:decide ((65000:Int) < (file.length:Int))=false:=aS (by omega)
 have h2d:decide ((file.length:Int) < 8)=false:=aS (by omega)
 have h3d:(((⟨file.toArray⟩:ByteArray).extract 0 2).toList == [67,70])=true:=by rw [ND];simpa using h3
 have h4d:(((⟨file.toArray⟩:ByteArray).extract (file.length - 2) file.length).toList == [67,70])=true:=by rw [NH];simpa using h4
 have hl2:2 < (⟨file.toArray⟩:ByteArray).size:=by simp [ByteArray.size];omega
 have hl3:3 < (⟨file.toArray⟩:ByteArray).size:=by simp [ByteArray.size];omega
 obtain ⟨b2,hb2⟩:∃ b,file[2]?=some b:=⟨file[2],ay (by omega)⟩
 obtain ⟨b3,hb3⟩:∃ b,file[3]?=some b:=⟨file[3],ay (by omega)⟩
 have g2:file.getD 2 0=b2:=by simp [List.getD,hb2]
 have g3:file.getD 3 0=b3:=by simp [List.getD,hb3]
 have i2:((⟨file.toArray⟩:ByteArray)[2]'hl2).toNat=b2.toNat:=by
  have:=(aA.1 hb2).2
  rw [← this];rfl
 have i3:((⟨file.toArray⟩:ByteArray)[3]'hl3).toNat=b3.toNat:=by
  have:=(aA.1 hb3).2
  rw [← this];rfl
 rw [g3] at h6 h7
 rw [g2] at h5
 have Hg3:=hid g3
 have Hg2:=hid g2
 have h6d:decide ((b3.toNat:Int) < 1)=false:=aS (by omega)
 have h7d:decide ((9:Int) < (b3.toNat:Int))=false:=aS (by omega)
 obtain ⟨y0,hy0⟩:∃ b,file[file.length - 4]?=some b:=⟨file[file.length - 4]'(by omega),ay (by omega)⟩
 obtain ⟨y1,hy1⟩:∃ b,file[file.length - 3]?=some b:=⟨file[file.length - 3]'(by omega),ay (by omega)⟩
 have e0:∀ h,(⟨file.toArray⟩:ByteArray)[file.length - 4]'h=y0:=fun h=>(aA.1 hy0).2
 have e1:∀ h,(⟨file.toArray⟩:ByteArray)[file.length - 3]'h=y1:=fun h=>(aA.1 hy1).2
 have HTN:Hid (Qv (file.drop (file.length - 4))=y0.toNat+256*y1.toNat):=by
  show _=_
  obtain ⟨h0,h0'⟩:=aA.1 hy0
  obtain ⟨h1,h1'⟩:=aA.1 hy1
  rw [aN h0,h0',show file.length - 4+1=file.length - 3 by omega,aN h1,h1']
  rfl
 have l0:y0.toNat < 256:=y0.toNat_lt
 have l1:y1.toNat < 256:=y1.toNat_lt
 have l3:b3.toNat < 256:=b3.toNat_lt
 clear hy0 hy1 hb2 hb3 g2 g3 h1 h2 h3 h4 h6 h7
 have q0:(0:Int)≤(file.length:Int) - 4:=by omega
 have q1:(file.length:Int) - 4 < (file.length:Int):=by omega
 have q2:((file.length:Int) - 4).toNat=file.length - 4:=by omega
 have q3:(0:Int)≤(file.length:Int) - 3:=by omega
 have q4:(file.length:Int) - 3 < (file.length:Int):=by omega
 have q5:((file.length:Int) - 3).toNat=file.length - 3:=by omega
 have w0:IntKind.i64.wrap ((file.length:Int) - 4)=(file.length:Int) - 4:=IntWalk.i64_in _ ⟨by omega,by omega⟩
 have w1:IntKind.i64.wrap ((file.length:Int) - 3)=(file.length:Int) - 3:=IntWalk.i64_in _ ⟨by omega,by omega⟩
 have w2:IntKind.i64.wrap (y0.toNat:Int)=(y0.toNat:Int):=IntWalk.i64_in _ ⟨by omega,by omega⟩
 have w3:IntKind.i64.wrap (y1.toNat:Int)=(y1.toNat:Int):=IntWalk.i64_in _ ⟨by omega,by omega⟩
 have w4:IntKind.i64.wrap (256*(y1.toNat:Int))=256*(y1.toNat:Int):=IntWalk.i64_in _ ⟨by omega,by omega⟩
 have w5:IntKind.i64.wrap ((file.length:Int) - 4 - (y0.toNat:Int))=(file.length:Int) - 4 - (y0.toNat:Int):=IntWalk.i64_in _ ⟨by omega,by omega⟩
 have w6:IntKind.i64.wrap ((file.length:Int) - 4 - (y0.toNat:Int) - 256*(y1.toNat:Int))=(file.length:Int) - 4 - (y0.toNat:Int) - 256*(y1.toNat:Int):=IntWalk.i64_in _ ⟨by omega,by omega⟩
 have w7:IntKind.i64.wrap (b3.toNat:Int)=(b3.toNat:Int):=IntWalk.i64_in _ ⟨by omega,by omega⟩
 rw [HTN.out] at hfr
 have hfd:(file.length:Int) - 4 - (y0.toNat:Int) - 256*(y1.toNat:Int) < 4:=by omega
 clear hfr
 have h5a:(b2=69∧((b2.toNat:Int) != 69)=false)∨(b2=79∧((b2.toNat:Int) != 69)=true∧((b2.toNat:Int) != 79)=false):=by
  rcases h5 with rfl|rfl
  ·exact .inl ⟨rfl,rfl⟩
  ·exact .inr ⟨rfl,rfl,rfl⟩
 clear h5
 rcases h5a with ⟨_,h5b⟩|⟨_,h5b,h5c⟩
 all_goals
  go_enter Tryz.func88,Tryz.ntmps88
  go_wp2_with fail
  go_quiet (fail)
  have HoN:Hid (((w.alloc (.cells file0 169)).drewN nq).heap[w.heap.size]?=some (.cells file0 169 (0,0))):=Ho0.out
  have HBN:=hid (below_drewN HB0.out nq)
  generalize hWN:(w.alloc _).drewN nq=WN at *
  clear hWN
  go_wp2_with (refine wpList_store_row rfl 169 (.tmp 2) (.tmp 67) rfl w.heap.size file0 rfl rfl 169 file0 HoN.out (by kernel_rfl) rfl (by simp [Value.oneCell']) ?_)
  have HoX:=hid (setRow_heap WN w.heap.size _ file0 169 (0,0) HoN.out)
  have HBX:=hid (HBN.out.trans (xI (QN WN w.heap.size file0) (ae _) HBN.out.size))
  generalize WN.setRow _ _=WX at *
  exact bodyPost_ret (v:=.tuple #[.agg file0,.bool false]) (qt (p:=2) (q:=3) rfl _ _ _ _ _ rfl rfl (run_loadVar_row (P:=Tryz.prog) WX w.heap.size 169 169 file0 (0,0) _ HoX.out Tryz.underlying169 rfl (by kernel_rfl))) rfl ⟨HBX.out,.inl ⟨HN.out,_,⟨by rfl,by simp [Value.oneCell']⟩,rfl⟩⟩
end
end Go.Proofs.YthhpbhpfagoapaaGreat
