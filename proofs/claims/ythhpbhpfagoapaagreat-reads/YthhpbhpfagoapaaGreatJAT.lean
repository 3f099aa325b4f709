import Derived.Test.YthhpbhpfagoapaaGreatJAM
import Derived.ProofKit
import Derived.OpenShut
import Derived.Deep.Slices
import Derived.Deep.Strs
import Derived.SizedLaws
import Derived.Test.YthhpbhpfagoapaaGreatJAR
import Derived.Lib.SmallJoins
import Derived.Test.YthhpbhpfagoapaaGreatWFoot
import Derived.Test.YthhpbhpfagoapaaGreatJAY
namespace Go.Proofs.YthhpbhpfagoapaaGreat
set_option linter.unusedVariables false
set_option linter.unusedSimpArgs false
set_option maxRecDepth 100000
set_option maxHeartbeats 16000000
section
open Go.ChangeShapes Go.WideShapes Go.ChangeAt Go.RowKit Go.Deep
theorem Dg {w:World} {b o:Nat} {v:Value} (h:w.cell? ⟨b,o,none⟩=some v):b < w.heap.size:=by
 rcases Nat.lt_or_ge b w.heap.size with h1|h1
 ·exact h1
 ·simp [World.cell?,Array.getElem?_eq_none h1] at h
theorem Ta {x:Int} (h:(Lit.int .i64 x).wf=true):-9223372036854775808≤x∧x≤9223372036854775807:=by
 simp [Lit.wf,IntKind.min,IntKind.max,IntKind.signed,IntKind.bits] at h
 exact ⟨by omega,by omega⟩
theorem Tryz.cellsInt:Tryz.prog.cellsOf 3=1:=by kernel_rfl
theorem Tryz.cellsString:Tryz.prog.cellsOf 9=1:=by kernel_rfl
end
section
open Go.ChangeShapes Go.WideShapes Go.ChangeAt Go.RowKit Go.Deep Go.Joins
theorem Tryz.cellsKey:Tryz.prog.cellsOf 63=2:=by kernel_rfl
theorem Tryz.bytesKeyW:Tryz.prog.bytesOf 63=24:=by kernel_rfl
theorem CS {H:Type} {enc:TypeId × Value→H} {W:World} {base:Nat} {spare:Nat→Bool} {held:Bool} {fuel:Nat} {cs:List Value} {x:DataW H × List MemPlace}
  (h:DataW.trod enc Tryz.prog W base spare held fuel 63 cs=some x):∃ c:KeyB,DK c∧cs=[.int .i64 c.number,strB c.secret]:=by
 obtain ⟨y0,y1,n,hx,hlen,h0,h1⟩:=trod_struct2 Tryz.underlying63 h
 rw [Tryz.cellsKey] at hlen
 match cs,hlen with
 | [c0,c1],_ =>
  simp only [Tryz.cellsInt,Tryz.cellsString] at h0 h1
  obtain ⟨i,e1,_,wi⟩:=DataW.trod_int Tryz.underlying3 h0
  obtain ⟨s,e2,_,ws⟩:=DataW.trod_string Tryz.underlying9 h1
  simp at e1 e2
  subst e1 e2
  refine ⟨⟨i,s.data.toList⟩,⟨by simpa using ws,Ta wi⟩,?_⟩
  obtain ⟨⟨t⟩⟩:=s
  rfl
theorem Mx {H:Type} {enc:TypeId × Value→H} {W:World} {fuel len cap:Nat} {a:Option Addr} {x:DataW H × List MemPlace}
  (h:DataW.trod enc Tryz.prog W 0 (fun _=>true) true fuel 27 [.slice a len cap]=some x) (hw:∀ n ∈ x.1.weights Tryz.prog 27,n≤reachBytes) :
  ∃ l:List KeyB,l.length=len∧len≤cap∧cap≤maxLen∧LiesK W a l∧l.length*24≤140737488351232:=by
 rcases open_slice Tryz.underlying27 h with ⟨hcs,_⟩|⟨a',len',cap',m,n,D,Pl,hcs,_,hl,hm,hmm,rfl,hx⟩
 ·simp at hcs
  obtain ⟨rfl,rfl,rfl⟩:=hcs
  exact ⟨[],rfl,Nat.le_refl _,by decide,⟨by simp,fun h=>absurd rfl h⟩,by simp⟩
 ·simp at hcs
  obtain ⟨rfl,rfl,rfl⟩:=hcs
  simp only [if_true] at hmm
  subst hmm
  rw [Tryz.cellsKey] at hx
  have hsz:(len+(m - len))*24≤reachBytes:=by
   have:=hw ((len+(m - len))*Tryz.prog.bytesOf 63) (by simp only [DataW.weights,Tryz.underlying27,List.length_map,List.length_range];exact List.mem_cons_self ..)
   rw [Tryz.bytesKeyW] at this
   exact this
  simp only [reachBytes] at hsz
  have each:∀ i,i < len→∃ c:KeyB,DK c∧W.cell? (a'.add (i*2))=some (.int .i64 c.number)∧W.cell? (a'.add (i*2+1))=some (strB c.secret):=by
   intro i hi
   obtain ⟨cs',h1,h2⟩:=hx i (by omega)
   obtain ⟨c,hok,rfl⟩:=CS h2
   obtain ⟨_,_,hcell⟩:=World.cells?_some h1
   have e0:=hcell 0 (by omega)
   have e1:=hcell 1 (by omega)
   rw [add_add] at e0 e1
   exact ⟨c,hok,by simpa using e0,by simpa using e1⟩
  have inh:Inhabited KeyB:=⟨⟨0,[]⟩⟩
  obtain ⟨f,hf⟩:=choose_lt each
  refine ⟨(List.range len).map f,by simp,hl,hm,⟨?_,?_⟩,by simp;omega⟩
  ·intro c hc
   simp only [List.mem_map,List.mem_range] at hc
   obtain ⟨i,hi,rfl⟩:=hc
   exact (hf i hi).1
  ·intro hne
   have hp:0 < len:=by
    rcases Nat.eq_zero_or_pos len with h0|h0
    ·subst h0;simp at hne
    ·exact h0
   obtain ⟨b,off,spot⟩:=a'
   have hspot:spot=none:=by simpa [Addr.add] using World.cell?_spot (hf 0 hp).2.1
   subst hspot
   have hb:b < W.heap.size:=by
    have:=(hf 0 hp).2.1
    rw [add_plain] at this
    exact Dg this
   refine ⟨b,off,rfl,hb,fun j hj=>?_⟩
   have hj':j < len:=by simpa using hj
   obtain ⟨_,g1,g2⟩:=hf j hj'
   rw [add_plain] at g1 g2
   simp only [List.getElem_map,List.getElem_range]
   exact ⟨g1,g2⟩
end
section
open Go.RowKit
theorem Tryz.infoSealed:(Tryz.prog.info? 40).map (fun i=>(i.zero,i.size,i.bytes))=some (some (.agg #[.string ⟨#[]⟩,.string ⟨#[]⟩,.string ⟨#[]⟩,.string ⟨#[]⟩]),4,64):=by kernel_rfl
theorem qc {w:World} {b1 b2 e1 e2 s1 s2 n1 n2:Nat} {u v:Value} {xs ys:List Value} (h1:w.ownsRow b1 e1 s1 u n1 xs) (h2:w.ownsRow b2 e2 s2 v n2 ys) (he:e1≠e2):u.ownBlock=none∨u.ownBlock≠v.ownBlock:=by
 rcases h1.2 with ⟨rfl,_⟩|⟨g,cap,cur,rfl,_,hg,_⟩
 ·exact .inl rfl
 ·right
  rcases h2.2 with ⟨rfl,_⟩|⟨g2,cap2,cur2,rfl,_,hg2,_⟩
  ·simp [Value.ownBlock]
  ·simp only [Value.ownBlock,ne_eq,Option.some.injEq]
   rintro rfl
   rw [hg] at hg2
   cases hg2
   exact he rfl
theorem jr {w:World} {b e s n:Nat} {u:Value} {xs:List Value} (h:w.ownsRow b e s u n xs):∃ a c,u=.slice a n c:=by
 rcases h.2 with ⟨rfl,rfl⟩|⟨g,cap,cur,rfl,_⟩
 ·exact ⟨none,0,rfl⟩
 ·exact ⟨_,cap,rfl⟩
end
section
def Qe:List UInt8→Nat
 | a :: b :: _=>a.toNat+256*b.toNat
 | _=>0
def xu (st:Option (List UInt8)):Nat × Option (List UInt8):=(Qe (qd 2 st).1,(qd 2 st).2)
def qm (st:Option (List UInt8)):(List UInt8 × List UInt8) × Option (List UInt8) :=
 (((qd 4 (xu st).2).1,(qd ((xu st).1:Int) (qd 4 (xu st).2).2).1),if (xu st).1 < 2 then none else (qd ((xu st).1:Int) (qd 4 (xu st).2).2).2)
theorem Zp (n:Int):qd n none=([],none):=rfl
theorem Gy (l:List UInt8):Qe l≤65535:=by
 match l with
 | []=>simp [Qe]
 | [a]=>simp [Qe]
 | a :: b :: _=>have:=a.toNat_lt;have:=b.toNat_lt;simp only [Qe];omega
theorem Rw (a b:UInt8):qw ((a.toNat+256*b.toNat:Nat):Int)=[a,b]:=by
 have ha:=a.toNat_lt
 have hb:=b.toNat_lt
 unfold qw
 simp only [List.cons.injEq,and_true]
 constructor
 ·apply UInt8.toNat_inj.1;simp only [UInt8.toNat_ofNat'];omega
 ·apply UInt8.toNat_inj.1;simp only [UInt8.toNat_ofNat'];omega
theorem RV (n:Nat) (h:n≤65535) (r:List UInt8):Qe (qw (n:Int)++r)=n:=by
 unfold qw
 simp only [List.cons_append,List.nil_append,Qe,UInt8.toNat_ofNat']
 omega
theorem Xz {n:Nat} {l:List UInt8} {t r:List UInt8} (h:qd (n:Int) (some l)=(t,some r)):l=t++r∧t.length=n:=by
 by_cases hn:n≤l.length
 ·rw [zP (by omega) (by omega)] at h
  simp only [Prod.mk.injEq,Option.some.injEq,Int.toNat_natCast] at h
  obtain ⟨rfl,rfl⟩:=h
  exact ⟨(List.take_append_drop ..).symm,by rw [List.length_take];omega⟩
 ·rw [Qk (.inr (by omega))] at h
  simp at h
theorem Vy {l r:List UInt8} {n:Nat} (h:xu (some l)=(n,some r)):l=qw (n:Int)++r∧n≤65535:=by
 unfold xu at h
 simp only [Prod.mk.injEq] at h
 obtain ⟨h1,h2⟩:=h
 have h3:qd ((2:Nat):Int) (some l)=((qd 2 (some l)).1,some r):=by
  show qd 2 (some l)=_
  rw [← h2]
 obtain ⟨h4,h5⟩:=Xz h3
 generalize (qd 2 (some l)).1=t at *
 match t,h5 with
 | [a,b],_ =>
  simp only [Qe] at h1
  subst h1
  rw [Rw]
  exact ⟨h4,by have:=a.toNat_lt;have:=b.toNat_lt;omega⟩
theorem Vp (n:Nat) (h:n≤65535) (r:List UInt8):xu (some (qw (n:Int)++r))=(n,some r):=by
 unfold xu
 have:=QJ (qw (n:Int)) r
 rw [jB] at this
 rw [show qd 2 (some (qw (n:Int)++r))=(qw (n:Int),some r) from this]
 have h2:=RV n h []
 rw [List.append_nil] at h2
 simp [h2]
theorem UT:qm none=(([],[]),none):=rfl
theorem ZG {l r:List UInt8} {x:List UInt8 × List UInt8} (h:qm (some l)=(x,some r)):l=qw (x.2.length:Int)++(x.1++x.2)++r∧x.1.length=4∧2≤x.2.length∧x.2.length≤65535:=by
 unfold qm at h
 simp only [Prod.mk.injEq] at h
 obtain ⟨h1,h2⟩:=h
 split at h2
 ·cases h2
 ·rename_i hn
  cases hq:(xu (some l)).2 with
  | none=>rw [hq] at h2;simp [Zp] at h2
  | some l1 =>
   obtain ⟨h3,h4⟩:=Vy (l:=l) (r:=l1) (n:=(xu (some l)).1) (by rw [← hq])
   rw [hq] at h1 h2
   cases hq2:(qd 4 (some l1)).2 with
   | none=>rw [hq2] at h2;simp [Zp] at h2
   | some l2 =>
    obtain ⟨h5,h6⟩:=Xz (n:=4) (l:=l1) (t:=(qd 4 (some l1)).1) (r:=l2) (by show qd 4 (some l1)=_;rw [← hq2])
    rw [hq2] at h1 h2
    obtain ⟨h7,h8⟩:=Xz (n:=(xu (some l)).1) (l:=l2) (t:=(qd ((xu (some l)).1:Int) (some l2)).1) (r:=r) (by rw [← h2])
    subst h1
    simp only
    rw [h8]
    refine ⟨?_,h6,by omega,h4⟩
    rw [List.append_assoc,List.append_assoc,← h7,← h5]
    exact h3
theorem ZA {x:List UInt8 × List UInt8} (h1:x.1.length=4) (h2:2≤x.2.length) (h3:x.2.length≤65535) (r:List UInt8):qm (some (qw (x.2.length:Int)++(x.1++x.2)++r))=(x,some r):=by
 unfold qm
 rw [List.append_assoc,List.append_assoc,Vp _ h3]
 have e1:qd 4 (some (x.1++(x.2++r)))=(x.1,some (x.2++r)):=by
  have:=QJ x.1 (x.2++r)
  rw [h1] at this
  exact this
 simp only [e1,QJ]
 rw [if_neg (by omega)]
def zR (file:List UInt8):Option FormF :=
 if 65000 < file.length∨file.length < 8∨file.take 2≠[67,70]∨file.drop (file.length - 2)≠[67,70]∨(file.getD 2 0≠69∧file.getD 2 0≠79)∨(file.getD 3 0).toNat < 1∨9 < (file.getD 3 0).toNat then none
 else if file.length < 8+Qe (file.drop (file.length - 4)) then none
 else
  let from_:=file.length - 4 - Qe (file.drop (file.length - 4))
  let part:=(file.drop from_).take (file.length - 4 - from_)
  let told:=decide (file.getD 2 0=79)
  let a:=if told=true then qd ((xu (some part)).1:Int) (xu (some part)).2 else ([],some part)
  let b:=qm a.2
  if b.2=some [] then some ⟨told,(file.getD 3 0).toNat,(file.drop 4).take (from_ - 4),a.1,b.1.1,b.1.2⟩ else none
theorem Tf {file:List UInt8} {a b:Nat} (ha:4≤a) (hab:a≤b) (hb:b+4=file.length) (h1:file.take 2=[67,70]) (h2:file.drop (file.length - 2)=[67,70]) :
  file=([67,70]++[file.getD 2 0]++[file.getD 3 0])++((file.drop 4).take (a - 4)++((file.drop a).take (b - a)++((file.drop b).take 2++[67,70]))):=by
 have e2:(file.drop b).drop 2=[67,70]:=by rw [List.drop_drop,← h2];congr 1;omega
 have e3:file.drop b=(file.drop b).take 2++[67,70]:=by rw [← e2,List.take_append_drop]
 have e4:file.drop a=(file.drop a).take (b - a)++file.drop b:=by
  conv=>lhs;rw [← List.take_append_drop (b - a) (file.drop a)]
  rw [List.drop_drop]
  congr 2
  omega
 have e5:file.drop 4=(file.drop 4).take (a - 4)++file.drop a:=by
  conv=>lhs;rw [← List.take_append_drop (a - 4) (file.drop 4)]
  rw [List.drop_drop]
  congr 2
  omega
 rw [← e3,← e4,← e5]
 match file,h1 with
 | x :: y :: z :: u :: l,h1 =>
  simp only [List.take_succ_cons,List.take_zero,List.cons.injEq,and_true] at h1
  obtain ⟨rfl,rfl⟩:=h1
  simp
 | [],h1=>simp at h1
 | [x],h1=>simp at h1
 | [x,y],_=>exfalso;have:([x,y]:List UInt8).length=2:=rfl;omega
 | [x,y,z],_=>exfalso;have:([x,y,z]:List UInt8).length=3:=rfl;omega
theorem IR (file:List UInt8):zR file=zh file:=by
 cases hf:zR file with
 | some f =>
  unfold zR at hf
  split at hf
  ·cases hf
  rename_i hc
  split at hf
  ·cases hf
  rename_i hl
  simp only [not_or,Decidable.not_and_iff_or_not,Decidable.not_not,ne_eq] at hc
  obtain ⟨c1,c2,c3,c4,c5,c6,c7⟩:=hc
  have hn:=Gy (file.drop (file.length - 4))
  have hcut:=Tf (file:=file) (a:=file.length - 4 - Qe (file.drop (file.length - 4))) (b:=file.length - 4) (by omega) (by omega) (by omega) c3 c4
  simp only at hf
  have hend:(file.drop (file.length - 4)).take 2=qw ((Qe (file.drop (file.length - 4)):Nat):Int):=by
   have hlen:(file.drop (file.length - 4)).length=4:=by rw [List.length_drop];omega
   match hd:file.drop (file.length - 4),hlen with
   | [x,y,z,u],_=>simp only [List.take_succ_cons,List.take_zero,Qe];rw [Rw]
  rw [hend] at hcut
  generalize hN:Qe (file.drop (file.length - 4))=N at *
  generalize hF:file.length - 4 - N=F at *
  have hFN:file.length - 4 - F=N:=by omega
  rw [hFN] at hf hcut
  have hpl:((file.drop F).take N).length=N:=by rw [List.length_take,List.length_drop];omega
  generalize hP:(file.drop F).take N=part at *
  by_cases hb:(qm (if decide (file.getD 2 0=79)=true then qd ((xu (some part)).1:Int) (xu (some part)).2 else ([],some part)).2).2=some []
  ·rw [if_pos hb] at hf
   simp only [Option.some.injEq] at hf
   subst hf
   symm
   have key:∀ (told:Bool) (footer:List UInt8) (x:List UInt8 × List UInt8),told=decide (file.getD 2 0=79)→(told=false→footer=[])→part=(if told=true then qw (footer.length:Int)++footer else [])++(qw (x.2.length:Int)++(x.1++x.2))→x.1.length=4→2≤x.2.length →
     FormOk ⟨told,(file.getD 3 0).toNat,(file.drop 4).take (F - 4),footer,x.1,x.2⟩∧xj ⟨told,(file.getD 3 0).toNat,(file.drop 4).take (F - 4),footer,x.1,x.2⟩=file:=by
    intro told footer x ht hno hpart hx1 hx2
    have hfile:xj ⟨told,(file.getD 3 0).toNat,(file.drop 4).take (F - 4),footer,x.1,x.2⟩=file:=by
     refine Eq.trans ?_ hcut.symm
     unfold xj qr
     simp only
     rw [← hpart]
     have e1:(if told=true then (79:UInt8) else 69)=file.getD 2 0:=by
      rw [ht]
      by_cases h79:file.getD 2 0=79
      ·rw [h79];rfl
      ·rw [decide_eq_false h79]
       have:file.getD 2 0=69:=by
        rcases c5 with h|h
        ·exact h
        ·exact absurd h h79
       rw [this];rfl
     have e2:byB (((file.getD 3 0).toNat:Nat):Int)=file.getD 3 0:=by
      apply UInt8.toNat_inj.1
      rw [JF _ (by omega)]
     rw [e1,e2,hpl]
    exact ⟨⟨hx1,hx2,⟨by simp only;omega,by simp only;omega⟩,by rw [hfile];omega,hno⟩,hfile⟩
   by_cases h79:file.getD 2 0=79
   ·have ht:decide (file.getD 2 0=79)=true:=decide_eq_true h79
    rw [ht] at hb ⊢
    simp only [if_true] at hb ⊢
    cases hq:(xu (some part)).2 with
    | none=>rw [hq,Zp,UT] at hb;simp at hb
    | some l1 =>
     obtain ⟨h3,h4⟩:=Vy (l:=part) (r:=l1) (n:=(xu (some part)).1) (by rw [← hq])
     rw [hq] at hb
     generalize hn0:(xu (some part)).1=n0 at *
     cases hq2:(qd (n0:Int) (some l1)).2 with
     | none=>rw [hq2,UT] at hb;simp at hb
     | some l2 =>
      obtain ⟨h5,h6⟩:=Xz (n:=n0) (l:=l1) (t:=(qd (n0:Int) (some l1)).1) (r:=l2) (by rw [← hq2])
      rw [hq2] at hb
      try rw [hq2]
      generalize (qd (n0:Int) (some l1)).1=T at *
      obtain ⟨h7,h8,h9,h10⟩:=ZG (l:=l2) (r:=[]) (x:=(qm (some l2)).1) (by rw [← hb])
      obtain ⟨k1,k2⟩:=key true T (qm (some l2)).1 ht.symm (fun h=>by cases h) (by
       rw [if_pos rfl,h6,h3,h5]
       rw [List.append_nil] at h7
       rw [← h7,List.append_assoc]
       ) h8 h9
      rw [← Kg k1]
      rw [k2]
   ·have ht:decide (file.getD 2 0=79)=false:=decide_eq_false h79
    rw [ht] at hb ⊢
    simp only [Bool.false_eq_true,if_false] at hb ⊢
    obtain ⟨h7,h8,h9,h10⟩:=ZG (l:=part) (r:=[]) (x:=(qm (some part)).1) (by rw [← hb])
    obtain ⟨k1,k2⟩:=key false [] (qm (some part)).1 ht.symm (fun _=>rfl) (by
     rw [if_neg (by decide),List.nil_append]
     rw [List.append_nil] at h7
     exact h7) h8 h9
    rw [← Kg k1]
    rw [k2]
  ·rw [if_neg hb] at hf
   cases hf
 | none =>
  symm
  apply Jw
  intro f hok e
  obtain ⟨l1,l2,l3⟩:=hok.lens
  have hlen:file.length=4+(f.parts.length+((qr f).length+4)):=by
   rw [← e]
   simp only [xj,List.length_append,List.length_cons,List.length_nil,jB]
  have hsh:=hok.short
  rw [e] at hsh
  have hd:file.drop (file.length - 4)=qw ((qr f).length:Int)++[67,70]:=by
   rw [hlen,show 4+(f.parts.length+((qr f).length+4)) - 4=4+(f.parts.length+(qr f).length) by omega,← e]
   unfold xj
   rw [← List.drop_drop,List.drop_left' (by simp),← List.append_assoc,List.drop_left' (by simp)]
  have hN:Qe (file.drop (file.length - 4))=(qr f).length:=by rw [hd];exact RV _ (by omega) _
  have hF:file.length - 4 - (qr f).length=4+f.parts.length:=by omega
  have hpart:(file.drop (4+f.parts.length)).take (file.length - 4 - (4+f.parts.length))=qr f:=by
   rw [show file.length - 4 - (4+f.parts.length)=(qr f).length by omega,← e]
   unfold xj
   rw [← List.drop_drop,List.drop_left' (by simp),List.drop_left' rfl,List.take_left' rfl]
  have hparts:(file.drop 4).take (4+f.parts.length - 4)=f.parts:=by
   rw [← e]
   unfold xj
   rw [List.drop_left' (by simp),List.take_left' (by omega)]
  have h2:file.getD 2 0=if f.told=true then 79 else 69:=by rw [← e];simp [xj]
  have h3:(file.getD 3 0).toNat=f.foot:=by
   have:file.getD 3 0=byB (f.foot:Int):=by rw [← e];simp [xj]
   rw [this]
   exact JF _ (by have:=hok.foot;omega)
  have ht2:file.take 2=[67,70]:=by rw [← e];simp [xj]
  have hd2:file.drop (file.length - 2)=[67,70]:=by
   rw [show file.length - 2=(file.length - 4)+2 by omega,← List.drop_drop,hd]
   rfl
  have hft:=hok.foot
  unfold zR at hf
  rw [if_neg,if_neg] at hf
  ·simp only [hN,hF,hpart,hparts] at hf
   cases htold:f.told with
   | true =>
    rw [htold,if_pos rfl] at h2
    simp only [h2,decide_true,if_true] at hf
    have hfp:qr f=qw (f.footer.length:Int)++(f.footer++(qw (f.body.length:Int)++(f.nonce++f.body))):=by
     unfold qr
     rw [htold,if_pos rfl,List.append_assoc]
    have hs:=ZA (x:=(f.nonce,f.body)) hok.nonce hok.body (by simp only;omega) []
    simp only [List.append_nil] at hs
    rw [hfp,Vp _ (by omega),QJ,hs] at hf
    simp at hf
   | false =>
    rw [htold,if_neg (by decide)] at h2
    simp only [h2,show decide ((69:UInt8)=79)=false from by decide,Bool.false_eq_true,if_false] at hf
    have hfp:qr f=qw (f.body.length:Int)++(f.nonce++f.body):=by
     unfold qr
     rw [htold,if_neg (by decide),List.nil_append]
    have hs:=ZA (x:=(f.nonce,f.body)) hok.nonce hok.body (by simp only;omega) []
    simp only [List.append_nil] at hs
    rw [hfp,hs] at hf
    simp at hf
  ·rw [hN];omega
  ·rw [h3,ht2,hd2,h2]
   rintro (h|h|h|h|h|h|h)
   ·omega
   ·omega
   ·exact h rfl
   ·exact h rfl
   ·revert h;cases f.told<;>decide
   ·omega
   ·omega
end
section
def xJ (st:Option (List UInt8)):Nat→List ColB × Option (List UInt8)
 | 0=>([],st)
 | i+1=>((xJ st i).1++[⟨(xR 8 (xJ st i).2).1,((jJ 1 (xR 8 (xJ st i).2).2).1:Nat),((jJ 9 (jJ 1 (xR 8 (xJ st i).2).2).2).1:Nat),[]⟩],(jJ 9 (jJ 1 (xR 8 (xJ st i).2).2).2).2)
theorem CH (st:Option (List UInt8)) (i:Nat):(xJ st i).1.length=i:=by
 induction i with
 | zero=>rfl
 | succ i ih=>simp [xJ,ih]
theorem Ug (st:Option (List UInt8)) (i:Nat):∀ c ∈ (xJ st i).1,c.cells=[]:=by
 induction i with
 | zero=>intro c hc;simp [xJ] at hc
 | succ i ih =>
  intro c hc
  simp only [xJ,List.mem_append,List.mem_singleton] at hc
  rcases hc with hc|rfl
  ·exact ih c hc
  ·rfl
theorem CU (n:Nat) (st:Option (List UInt8)):(qd (n:Int) st).1.length≤n:=by
 cases st with
 | none=>simp [Zp]
 | some l =>
  by_cases hn:n≤l.length
  ·rw [zP (by omega) (by omega)]
   simp only [Int.toNat_natCast,List.length_take]
   omega
  ·rw [Qk (.inr (by omega))]
   simp
theorem LU (max:Nat) (st:Option (List UInt8)):(xR max st).1.length≤max:=by
 unfold xR
 exact Nat.le_trans (CU ..) (xI ..)
theorem VZ (st:Option (List UInt8)) (i:Nat):∀ c ∈ (xJ st i).1,c.name.length≤8∧(c.kind=0∨c.kind=1)∧0≤c.key∧c.key≤9:=by
 induction i with
 | zero=>intro c hc;simp [xJ] at hc
 | succ i ih =>
  intro c hc
  simp only [xJ,List.mem_append,List.mem_singleton] at hc
  rcases hc with hc|rfl
  ·exact ih c hc
  ·have h1:=xI 1 (xR 8 (xJ st i).2).2
   have h2:=xI 9 (jJ 1 (xR 8 (xJ st i).2).2).2
   exact ⟨LU ..,by simp only;omega,by simp only;omega,by simp only;omega⟩
theorem Dt {t:List ColB} (r:List UInt8) (h:∀ c ∈ t,c.name.length≤8∧(c.kind=0∨c.kind=1)∧0≤c.key∧c.key≤9∧c.cells=[]):∀ i,i≤t.length→xJ (some (t.flatMap jT++r)) i=(t.take i,some ((t.drop i).flatMap jT++r)):=by
 intro i
 induction i with
 | zero=>intro _;simp [xJ]
 | succ i ih =>
  intro hi
  have hlt:i < t.length:=by omega
  obtain ⟨h1,h2,h3,h4,h5⟩:=h t[i] (List.getElem_mem hlt)
  simp only [xJ,ih (by omega)]
  rw [List.drop_eq_getElem_cons hlt,List.flatMap_cons]
  simp only [jT,List.append_assoc]
  rw [DZ 8 _ _ h1 (by decide)]
  simp only
  rw [Jn 1 _ _ (by omega) (by decide)]
  simp only
  rw [Jn 9 _ _ (by omega) (by decide)]
  simp only
  rw [List.take_succ_eq_append_getElem hlt]
  congr 3
  generalize t[i]=c at *
  cases c
  simp only [ColB.mk.injEq,true_and] at *
  refine ⟨by omega,by omega,h5.symm⟩
def Kt (key:Int) (st:Option (List UInt8)):ModF × Option (List UInt8) :=
 if key=0 then (⟨(qd ((xu st).1:Int) (xu st).2).1,[],[]⟩,(qd ((xu st).1:Int) (xu st).2).2)
 else (⟨[],(qm st).1.1,(qm st).1.2⟩,(qm st).2)
theorem RK (key:Int):Kt key none=(⟨[],[],[]⟩,none):=by
 unfold Kt
 split<;>rfl
theorem Cs {key:Int} {l r:List UInt8} {m:ModF} (h:Kt key (some l)=(m,some r)):xW key m∧l=qC key m++r:=by
 unfold Kt at h
 unfold xW qC
 by_cases hk:key=0
 ·rw [if_pos hk] at h
  rw [if_pos hk]
  simp only [Prod.mk.injEq] at h
  obtain ⟨h1,h2⟩:=h
  cases hq:(xu (some l)).2 with
  | none=>rw [hq] at h2;simp [Zp] at h2
  | some l1 =>
   obtain ⟨h3,h4⟩:=Vy (l:=l) (r:=l1) (n:=(xu (some l)).1) (by rw [← hq])
   rw [hq] at h1 h2
   obtain ⟨h5,h6⟩:=Xz (n:=(xu (some l)).1) (l:=l1) (t:=(qd ((xu (some l)).1:Int) (some l1)).1) (r:=r) (by rw [← h2])
   subst h1
   refine ⟨.inl ⟨hk,rfl,rfl,by simp only [h6];exact h4⟩,?_⟩
   simp only [h6]
   rw [List.append_assoc,← h5]
   exact h3
 ·rw [if_neg hk] at h
  rw [if_neg hk]
  simp only [Prod.mk.injEq] at h
  obtain ⟨h1,h2⟩:=h
  obtain ⟨h7,h8,h9,h10⟩:=ZG (l:=l) (r:=r) (x:=(qm (some l)).1) (by rw [← h2])
  subst h1
  exact ⟨.inr ⟨hk,rfl,h8,h9,h10⟩,h7⟩
theorem MM {key:Int} {m:ModF} (h:xW key m) (r:List UInt8):Kt key (some (qC key m++r))=(m,some r):=by
 unfold Kt qC
 rcases h with ⟨hk,h1,h2,h3⟩|⟨hk,h1,h2,h3,h4⟩
 ·rw [if_pos hk,if_pos hk,List.append_assoc,Vp _ h3,QJ]
  cases m;simp_all
 ·rw [if_neg hk,if_neg hk,ZA (x:=(m.nonce,m.body)) h2 h3 h4]
  cases m;simp_all
def KX (t:List ColB) (q:List ModF × Option (List UInt8)) (s:SpotB):List ModF × Option (List UInt8):=(q.1++[(Kt (jk t s.c).key q.2).1],(Kt (jk t s.c).key q.2).2)
def qI (t:List ColB) (st:Option (List UInt8)) (L:List SpotB):List ModF × Option (List UInt8):=L.foldl (KX t) ([],st)
theorem Dc (t:List ColB) (st:Option (List UInt8)) (L:List SpotB) (s:SpotB):qI t st (L++[s])=KX t (qI t st L) s:=by simp [qI]
theorem Df (t:List ColB):∀ (L:List SpotB) (M:List ModF),(L.foldl (KX t) (M,none)).2=none:=by
 intro L
 induction L with
 | nil=>intro M;rfl
 | cons s L ih=>intro M;simp only [List.foldl_cons,KX,RK];exact ih _
theorem Ce (t:List ColB):∀ (L:List SpotB) (q:List ModF × Option (List UInt8)),(L.foldl (KX t) q).1.length=q.1.length+L.length:=by
 intro L
 induction L with
 | nil=>intro q;rfl
 | cons s L ih=>intro q;simp only [List.foldl_cons,ih,KX,List.length_append,List.length_cons,List.length_nil];omega
theorem Ya (t:List ColB) (st:Option (List UInt8)) (L:List SpotB):(qI t st L).1.length=L.length:=by
 unfold qI;rw [Ce];simp
theorem NL (t:List ColB):∀ (L:List SpotB) (M0:List ModF) (l r:List UInt8) (M:List ModF),L.foldl (KX t) (M0,some l)=(M,some r)→∃ M1,M=M0++M1∧ModsOk t L M1∧l=jl t L M1++r:=by
 intro L
 induction L with
 | nil=>intro M0 l r M h;simp only [List.foldl_nil,Prod.mk.injEq,Option.some.injEq] at h;exact ⟨[],by rw [← h.1];simp,.nil,by rw [h.2];rfl⟩
 | cons s L ih =>
  intro M0 l r M h
  simp only [List.foldl_cons,KX] at h
  cases hq:(Kt (jk t s.c).key (some l)).2 with
  | none =>
   rw [hq] at h
   have:=Df t L (M0++[(Kt (jk t s.c).key (some l)).1])
   rw [h] at this
   cases this
  | some l1 =>
   rw [hq] at h
   obtain ⟨h1,h2⟩:=Cs (key:=(jk t s.c).key) (l:=l) (r:=l1) (m:=(Kt (jk t s.c).key (some l)).1) (by rw [← hq])
   obtain ⟨M1,h3,h4,h5⟩:=ih _ _ _ _ h
   exact ⟨_ :: M1,by rw [h3,List.append_assoc];rfl,.cons h1 h4,by
    simp only [jl,List.append_assoc]
    rw [← h5]
    exact h2⟩
theorem AA {t:List ColB} {L:List SpotB} {M:List ModF} (h:ModsOk t L M):∀ (M0:List ModF) (r:List UInt8),L.foldl (KX t) (M0,some (jl t L M++r))=(M0++M,some r):=by
 induction h with
 | nil=>intro M0 r;simp [jl]
 | cons hm _ ih =>
  intro M0 r
  simp only [List.foldl_cons,KX,jl,List.append_assoc]
  rw [MM hm]
  simp only
  rw [ih]
  simp
def zm (footer:List UInt8):PlanB :=
 ⟨((jJ 60 (jJ 60 (some footer)).2).1:Nat),((jJ 60 (jJ 60 (jJ 60 (some footer)).2).2).1:Nat),((jJ 9 (jJ 60 (jJ 60 (jJ 60 (some footer)).2).2).2).1:Nat),false⟩
def qK (footer:List UInt8):Nat:=(jJ 60 (some footer)).1
def xO (footer:List UInt8):List ColB × Option (List UInt8) :=
 xJ (jJ 6 (jJ 9 (jJ 60 (jJ 60 (jJ 60 (some footer)).2).2).2).2).2 (jJ 6 (jJ 9 (jJ 60 (jJ 60 (jJ 60 (some footer)).2).2).2).2).1
def ZJ (foot:Nat) (footer:List UInt8):Bool:=(!(xO footer).2.isNone && (qU (zm footer) && (jV (xO footer).1 && decide ((zm footer).foot=(foot:Int)))))
def ZO (footer:List UInt8):List SpotB:=jC (qK footer) (xO footer).1.length (zm footer).group.toNat (zm footer).page.toNat
def Kn (parts footer:List UInt8):List ModF × Option (List UInt8):=qI (xO footer).1 (some parts) (ZO footer)
def Gt (foot:Nat) (parts footer:List UInt8):Option SheetF :=
 if ZJ foot footer=true then
  if (Kn parts footer).2=some []∧qH (qK footer) (zm footer) (xO footer).1 (jp (xO footer).1 4 true (ZO footer) (Kn parts footer).1)=footer then some ⟨qK footer,zm footer,(xO footer).1,(Kn parts footer).1⟩ else none
 else none
theorem DD (foot:Nat) (parts footer:List UInt8):Gt foot parts footer=xo foot parts footer:=by
 cases hl:Gt foot parts footer with
 | some S =>
  symm
  apply UI
  unfold Gt at hl
  split at hl
  ·rename_i hh
   split at hl
   ·rename_i hm
    cases hl
    obtain ⟨h1,h2⟩:=hm
    simp only [ZJ,Bool.and_eq_true,decide_eq_true_eq] at hh
    obtain ⟨_,hp,hc,hf⟩:=hh
    obtain ⟨M1,e1,e2,e3⟩:=NL (xO footer).1 (ZO footer) [] parts [] (Kn parts footer).1 (by
     show Kn parts footer=_
     rw [← h1])
    simp only [List.nil_append] at e1
    rw [e1] at h2 ⊢
    rw [List.append_nil] at e3
    have hR:qK footer≤60:=xI _ _
    have hB:∀ c ∈ (xO footer).1,c.cells=[]:=Ug _ _
    have hT:(zm footer).told=false:=rfl
    unfold ZO at *
    generalize qK footer=R at *
    generalize (xO footer).1=C at *
    generalize zm footer=p at *
    exact ⟨hR,hp,hT,hf,hc,hB,e2,e3,h2.symm⟩
   ·cases hl
  ·cases hl
 | none =>
  symm
  apply Xp
  intro S hS
  have hf:=hS.footer
  have hp:=hS.plan
  have hpl:=hS.plan
  simp only [qU,Bool.and_eq_true,decide_eq_true_eq] at hpl
  have hcs:∀ c ∈ S.cols,c.name.length≤8∧(c.kind=0∨c.kind=1)∧0≤c.key∧c.key≤9∧c.cells=[]:=by
   intro c hc
   obtain ⟨k,hk,rfl⟩:=List.mem_iff_getElem.1 hc
   have hh:=hS.heads
   simp only [jV,Bool.and_eq_true] at hh
   obtain ⟨a,b,c,d⟩:=QR (QK hh.1 (Nat.le_refl _) k hk).1
   exact ⟨(NT a).2,b,c,d,hS.bare _ (List.getElem_mem hk)⟩
  have hlen:S.cols.length≤6:=by
   have hh:=hS.heads
   simp only [jV,Bool.and_eq_true,decide_eq_true_eq] at hh
   exact hh.2.2
  have hfoot:S.plan.foot=(foot:Int):=hS.foot
  unfold qH at hf
  simp only [List.append_assoc] at hf
  have hrow:=hS.rows
  generalize hPL:(jp S.cols 4 true (qx S) S.mods).flatMap uB=PB at hf
  have r1:=Jn 60 S.rows (uB S.plan.group.toNat++(uB S.plan.page.toNat++(uB S.plan.foot.toNat++(uB S.cols.length++(S.cols.flatMap jT++PB))))) hrow (by decide)
  have r2:=Jn 60 S.plan.group.toNat (uB S.plan.page.toNat++(uB S.plan.foot.toNat++(uB S.cols.length++(S.cols.flatMap jT++PB)))) (by omega) (by decide)
  have r3:=Jn 60 S.plan.page.toNat (uB S.plan.foot.toNat++(uB S.cols.length++(S.cols.flatMap jT++PB))) (by omega) (by decide)
  have r4:=Jn 9 S.plan.foot.toNat (uB S.cols.length++(S.cols.flatMap jT++PB)) (by omega) (by decide)
  have r5:=Jn 6 S.cols.length (S.cols.flatMap jT++PB) hlen (by decide)
  rw [← hf] at r1
  have eR:qK footer=S.rows:=by unfold qK;rw [r1]
  have eP:zm footer=S.plan:=by
   unfold zm
   rw [r1]
   simp only
   rw [r2]
   simp only
   rw [r3]
   simp only
   rw [r4]
   have ht:=hS.told
   generalize S.plan=p at *
   cases p
   simp only [PlanB.mk.injEq] at *
   exact ⟨by omega,by omega,by omega,ht.symm⟩
  have eC:xO footer=(S.cols,some PB):=by
   unfold xO
   rw [r1]
   simp only
   rw [r2]
   simp only
   rw [r3]
   simp only
   rw [r4]
   simp only
   rw [r5]
   simp only
   rw [Dt PB hcs _ (Nat.le_refl _)]
   simp
  have eS:ZO footer=qx S:=by unfold ZO qx;rw [eR,eC,eP]
  have eM:Kn parts footer=(S.mods,some []):=by
   unfold Kn
   rw [eC,eS,hS.parts]
   have:=AA hS.mods [] []
   simpa [qI] using this
  unfold Gt at hl
  rw [if_pos,if_pos] at hl
  ·cases hl
  ·refine ⟨by rw [eM],?_⟩
   rw [eM,eR,eP,eC,eS]
   exact hS.footer.symm
  ·simp only [ZJ,eC,eP,hp,hS.heads,hfoot,Option.isNone_some,Bool.not_false,Bool.true_and,decide_true]
end
end Go.Proofs.YthhpbhpfagoapaaGreat
