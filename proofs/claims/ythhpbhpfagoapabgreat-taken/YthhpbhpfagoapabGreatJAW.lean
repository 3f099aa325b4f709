import Derived.Test.YthhpbhpfagoapabGreatJAT
import Derived.Test.YthhpbhpfagoapabGreatJBE
import Derived.Test.YthhpbhpfagoapabGreatJAV
import Derived.Test.YthhpbhpfagoapabGreatJBC
import Derived.Deep.CutBlock
namespace Go.Proofs.YthhpbhpfagoapabGreat
set_option linter.unusedVariables false
set_option linter.unusedSimpArgs false
set_option maxRecDepth 100000
set_option maxHeartbeats 16000000
open Go.RowKit
section
theorem Dn (a:Option Addr) (cap:Nat) (j:JobB) (ra:Option Addr) (rcap:Nat) (r:List KeyB) (w:World) (hj:LiesJ w a cap j) (hr:LiesK w ra r) (hrm:r.length≤maxLen) :
  Calls Tryz.prog 61 #[jobV (.slice a j.table.length cap) j,.slice ra r.length rcap] w fun e w'=>e=.returned (.bool (KV j.table r j.table.length && jw r j.plan.foot))∧Below w.heap.size w w':=by
 have Hj:=hid hj
 have Hr:=hid hr
 have hlen:=hj.len
 unfold maxLen at hlen
 clear hj hr
 go_enter Tryz.func61,Tryz.ntmps61
 go_wp2
 obtain ⟨hb0,hs1,_,_⟩:=jK w #[.slice a j.table.length cap,.int .i64 j.plan.group,.int .i64 j.plan.page,.int .i64 j.plan.foot,.bool j.plan.told,strB j.pre,.int .i64 j.draw] 27
 have Hx0:=hid (NR w (.slice a j.table.length cap) j 27)
 have Hj0:=hid (Hj.out.later hb0)
 have Hr0:=hid (Hr.out.later hb0)
 have Hb0:=hid hb0
 clear hb0
 generalize w.alloc _=w0 at *
 go_loopw [14] (fun i wr=>∃ k:Nat,k≤j.table.length∧i=.int .i64 k∧KV j.table r k=true∧Below w0.heap.size w0 wr) (fun i _=>j.table.length - (intOf i).toNat)
 case atStart=>exact ⟨0,Nat.zero_le _,rfl,rfl,Below.refl _ _⟩
 case round =>
  obtain ⟨k,hkl,rfl,hall,hB⟩:=hrel
  have Hall:=hid hall
  clear hall
  by_cases hlt:k < j.table.length
  ·obtain ⟨b,off,rfl,hbw,hcell⟩:=(Hj0.out.table.later hB).at_ (List.ne_nil_of_length_pos (by omega))
   obtain ⟨g1,g2,g3,v,g4,ca,cap2,rfl,_⟩:=hcell k hlt
   clear hcell
   have hki:(k:Int) < (j.table.length:Int):=by omega
   have HT:=hid (Cz (r:=r) hlt)
   have HNo:Hid ((decide ((j.table[k]).key=0) || jw r (j.table[k]).key)=false→KV j.table r j.table.length=false):=by
    intro h
    simp only [KV,List.take_length,List.all_eq_false]
    exact ⟨j.table[k],List.getElem_mem hlt,by rw [h];simp⟩
   go_wp2_with fail
   obtain ⟨hbb,hsb,hcb,_⟩:=jK wr #[strB (j.table[k]).name,.int .i64 (j.table[k]).kind,.int .i64 (j.table[k]).key,.slice ca (j.table[k]).cells.length cap2] 31
   have y2:=hcb 2
   simp only [List.getElem?_toArray,List.getElem?_cons_zero,List.getElem?_cons_succ] at y2
   have hBb:=hB.trans (hbb.mono hB.size)
   clear hcb hbb g1 g2 g3 g4 hB hbw
   generalize wr.alloc _=wb at *
   refine (QW ra rcap r (j.table[k]).key wb hrm (Hr0.out.later hBb)).mono ?_
   rintro e w2 ⟨rfl,hb2⟩
   have z2:=(hb2.cell (p:=⟨wr.heap.size,2,none⟩) hsb).trans y2
   have hB2:=hBb.trans (hb2.mono hBb.size)
   have HBB:=hid (Hb0.out.trans (hB2.mono Hb0.out.size))
   clear y2 hBb hb2
   generalize ji r (j.table[k]).key=sv at *
   cases hn:jw r (j.table[k]).key with
   | true =>
    have HT2:Hid (KV j.table r (k+1)=true):=by show _=_;rw [HT.out,Hall.out,hn];simp
    clear hn HT
    go_wp2
    go_roundw
    case rel=>exact ⟨k+1,by omega,by go_num,HT2.out,hB2⟩
    case measure=>simp [intOf];omega
   | false =>
    rw [hn] at HT HNo
    clear hn
    by_cases hk0:(j.table[k]).key=0
    ·have HT2:Hid (KV j.table r (k+1)=true):=by show _=_;rw [HT.out,Hall.out];simp [hk0]
     rw [hk0] at z2
     clear HT HNo hk0
     go_wp2
     go_roundw
     case rel=>exact ⟨k+1,by omega,by go_num,HT2.out,hB2⟩
     case measure=>simp [intOf];omega
    ·have hk1:((j.table[k]).key != 0)=true:=by simp [hk0]
     have HX:Hid (KV j.table r j.table.length=false):=HNo.out (by simp [hk0])
     clear HT HNo hk0
     go_wp2
     go_ret
     exact ⟨qc (by rw [HX.out];rfl),HBB.out⟩
  ·have hke:k=j.table.length:=by omega
   subst hke
   obtain ⟨x0,x1,x2,x3,x4,x5,x6⟩:=Hx0.out.later hs1 hB
   clear x0 x1 x2 x4 x5 x6
   go_wp2_with fail
   refine (QW ra rcap r j.plan.foot _ hrm (Hr0.out.later hB)).mono ?_
   rintro e w2 ⟨rfl,hb2⟩
   have hB2:=hB.trans (hb2.mono hB.size)
   have HBB:=hid (Hb0.out.trans (hB2.mono Hb0.out.size))
   clear x3 hb2 hB hB2
   generalize ji r j.plan.foot=sv at *
   go_wp2
   go_ret
   exact ⟨qc (by rw [Hall.out];rfl),HBB.out⟩
theorem ES (a:Option Addr) (cap:Nat) (j:JobB) (ra:Option Addr) (rcap:Nat) (r:List KeyB) (w:World) (hj:LiesJ w a cap j) (hr:LiesK w ra r) (hrm:r.length≤maxLen) :
  Calls Tryz.prog 36 #[jobV (.slice a j.table.length cap) j,.slice ra r.length rcap] w fun e w'=>e=.returned (.int .i64 (zH j r))∧Below w.heap.size w w':=by
 have Hj:=hid hj
 have Hr:=hid hr
 have hlen:=hj.len
 have hpre:=hj.pre
 have Hpre:=hid hpre
 unfold maxLen at hlen hpre
 clear hj hr
 have HE:Hid (zH j r=if xy j.table=false then 5 else if Gk j=false then 7 else if xI r=false then 1 else if KC j r=true then 8 else 0):=rfl
 have HP2:Hid (Gk j=(qM j.plan && (decide (j.pre.length≤20) && (decide (0≤j.draw) && decide (j.draw≤65535))))):=rfl
 have HHM:=hid (CK (j:=j) (r:=r))
 go_enter Tryz.func36,Tryz.ntmps36
 go_wp2_with fail
 obtain ⟨hb0,hs1,_,_⟩:=jK w #[.slice a j.table.length cap,.int .i64 j.plan.group,.int .i64 j.plan.page,.int .i64 j.plan.foot,.bool j.plan.told,strB j.pre,.int .i64 j.draw] 27
 have Hx0:=hid (NR w (.slice a j.table.length cap) j 27)
 have Hj0:=hid (Hj.out.later hb0)
 have Hr0:=hid (Hr.out.later hb0)
 have Hb0:=hid hb0
 clear hb0
 generalize w.alloc _=w0 at *
 refine (AP a cap j.table w0 Hj.out.len Hj.out.cap_ Hj0.out.table).mono ?_
 rintro e w1 ⟨rfl,hb1⟩
 obtain ⟨x0,x1,x2,x3,x4,x5,x6⟩:=Hx0.out.later hs1 hb1
 have HB1:=hid (Hb0.out.trans (hb1.mono Hb0.out.size))
 cases ht:xy j.table with
 | false =>
  have Ht:=hid ht
  clear ht
  go_wp2
  go_ret
  exact ⟨xd (by rw [HE.out,Ht.out];rfl),HB1.out⟩
 | true =>
  have Ht:=hid ht
  clear ht
  go_wp2_with fail
  refine (NI j.plan _).mono ?_
  rintro e w2 ⟨rfl,hb2⟩
  have hB2:=hb1.trans (hb2.mono hb1.size)
  have HB2:=hid (Hb0.out.trans (hB2.mono Hb0.out.size))
  clear x0 x1 x2 x3 x4 x5 x6 hb1 hb2
  obtain ⟨x0,x1,x2,x3,x4,x5,x6⟩:=Hx0.out.later hs1 hB2
  cases hp1:qM j.plan with
  | false =>
   have HX:Hid (Gk j=false):=by show _=_;rw [HP2.out,hp1];rfl
   clear hp1
   go_wp2
   go_ret
   exact ⟨xd (by rw [HE.out,Ht.out,HX.out];rfl),HB2.out⟩
  | true =>
   rw [hp1] at HP2
   clear hp1
   go_wp2_with fail
   refine (Vy j.pre _ Hpre.out).mono ?_
   rintro e w3 ⟨rfl,rfl⟩
   cases hp2:decide (j.pre.length≤20) with
   | false =>
    have HX:Hid (Gk j=false):=by show _=_;rw [HP2.out,hp2];rfl
    clear hp2
    go_wp2
    go_ret
    exact ⟨xd (by rw [HE.out,Ht.out,HX.out];rfl),HB2.out⟩
   | true =>
    rw [hp2] at HP2
    clear hp2
    go_wp2_with fail
    refine (Md j.draw _).mono ?_
    rintro e w3 ⟨rfl,rfl⟩
    cases hp3:(decide (0≤j.draw) && decide (j.draw≤65535)) with
    | false =>
     have HX:Hid (Gk j=false):=by show _=_;rw [HP2.out,hp3];rfl
     clear hp3
     go_wp2
     go_ret
     exact ⟨xd (by rw [HE.out,Ht.out,HX.out];rfl),HB2.out⟩
    | true =>
     have HX:Hid (Gk j=true):=by show _=_;rw [HP2.out,hp3];rfl
     clear hp3
     go_wp2_with fail
     refine (NU ra rcap r _ hrm (Hr0.out.later hB2)).mono ?_
     rintro e w3 ⟨rfl,hb3⟩
     have hB3:=hB2.trans (hb3.mono hB2.size)
     have HB3:=hid (Hb0.out.trans (hB3.mono Hb0.out.size))
     clear x0 x1 x2 x3 x4 x5 x6 hB2 hb3
     obtain ⟨x0,x1,x2,x3,x4,x5,x6⟩:=Hx0.out.later hs1 hB3
     cases hk:xI r with
     | false =>
      have Hk:=hid hk
      clear hk
      go_wp2
      go_ret
      exact ⟨xd (by rw [HE.out,Ht.out,HX.out,Hk.out];rfl),HB3.out⟩
     | true =>
      have Hk:=hid hk
      clear hk
      go_wp2_with fail
      refine (Dn a cap j ra rcap r _ (Hj0.out.later hB3) (Hr0.out.later hB3) hrm).mono ?_
      rintro e w4 ⟨rfl,hb4⟩
      have HB4:=hid (HB3.out.trans (hb4.mono HB3.out.size))
      rw [HHM.out Ht.out]
      clear x0 x1 x2 x3 x4 x5 x6 hB3 hb4
      cases hms:KC j r with
      | true =>
       have Hms:=hid hms
       clear hms
       go_wp2
       go_ret
       exact ⟨xd (by rw [HE.out,Ht.out,HX.out,Hk.out,Hms.out];rfl),HB4.out⟩
      | false =>
       have Hms:=hid hms
       clear hms
       go_wp2
       go_ret
       exact ⟨xd (by rw [HE.out,Ht.out,HX.out,Hk.out,Hms.out];rfl),HB4.out⟩
end
section
theorem Lies.part {w:World} {b off:Nat} {l:List CellB} (hok:∀ c ∈ l,okC c) (hb:b < w.heap.size) (h:∀ j (h:j < l.length),
  w.cell? ⟨b,off+j*3,none⟩=some (.bool (l[j]).null)∧w.cell? ⟨b,off+j*3+1,none⟩=some (.int .i64 (l[j]).int)∧w.cell? ⟨b,off+j*3+2,none⟩=some (strB (l[j]).text)) (s n:Nat) :
  Lies w (some ⟨b,off+s*3,none⟩) ((l.drop s).take n):=by
 refine ⟨fun c hc=>hok c (List.mem_of_mem_drop (List.mem_of_mem_take hc)),fun hne=>⟨b,off+s*3,rfl,hb,fun j hj=>?_⟩⟩
 have hj2:s+j < l.length:=by rw [List.length_take,List.length_drop] at hj;omega
 have e:((l.drop s).take n)[j]=l[s+j]:=by simp
 obtain ⟨h1,h2,h3⟩:=h (s+j) hj2
 rw [e,show off+s*3+j*3=off+(s+j)*3 by omega]
 exact ⟨h1,h2,h3⟩
theorem PP (n size m k:Nat) (hk:k < m):(JJ n size m)[k*2]?=some (.int .i64 ((k*size:Nat):Int))∧(JJ n size m)[k*2+1]?=some (.int .i64 ((min (k*size+size) n:Nat):Int)):=by
 have h1:=Jw (RG n size) 2 (fun _=>rfl) (List.range m) k 0 (by simpa using hk) (by decide)
 have h2:=Jw (RG n size) 2 (fun _=>rfl) (List.range m) k 1 (by simpa using hk) (by decide)
 simp only [List.getElem_range] at h1 h2
 exact ⟨h1,h2⟩
theorem Vu {w:World} {base n size m k:Nat} {sa:Option Addr} {sc:Nat} (h:w.ownsRow base 169 2 (.slice sa m sc) m (JJ n size m)) (hk:k < m) :
  ∃ g,sa=some ⟨g,0,none⟩∧g < w.heap.size∧w.cell? ⟨g,k*2,none⟩=some (.int .i64 ((k*size:Nat):Int))∧w.cell? ⟨g,k*2+1,none⟩=some (.int .i64 ((min (k*size+size) n:Nat):Int)):=by
 obtain ⟨s1,s2⟩:=PP n size m k hk
 rcases h.2 with ⟨h0,h1⟩|⟨g,cap,cur,hv,_⟩
 ·omega
 ·simp only [Value.slice.injEq] at hv
  obtain ⟨rfl,_,rfl⟩:=hv
  exact ⟨g,rfl,(h.lt g rfl).2,by rw [h.cellAt _ (by omega)];exact s1,by rw [h.cellAt _ (by omega)];exact s2⟩
theorem Bw {w:World} {q:Nat} {x y:Value} {t:TypeId} (h:w.heap[q]?=some (.cells #[x,y] t (0,0))):w.cell? ⟨q,0,none⟩=some x∧w.cell? ⟨q,1,none⟩=some y :=
 ⟨by rw [jb h];rfl,by rw [jb h];rfl⟩
theorem RQ {w:World} {b1 b2:Nat} {a b c d x y:Value} {t u:TypeId} (h1:w.heap[b1]?=some (.cells #[a,b,c,d] t (0,0))) (h2:w.heap[b2]?=some (.cells #[x,y] u (0,0))) :
  w.cell? ⟨b1,1,none⟩=some b∧w.cell? ⟨b1,2,none⟩=some c∧w.cell? ⟨b2,0,none⟩=some x∧w.cell? ⟨b2,1,none⟩=some y :=
 ⟨(RL h1).2.1,(RL h1).2.2,(Bw h2).1,(Bw h2).2⟩
structure Laid (w0:World) (ta:Option Addr) (tcap:Nat) (ra:Option Addr) (rcap:Nat) (j:JobB) (r:List KeyB):Prop where
 table:LiesT w0 ta j.table
 ring:LiesK w0 ra r
 len:r.length≤maxLen
 good:GoodJ j r
 caps:j.table.length≤tcap
theorem Laid.secret {w0:World} {ta:Option Addr} {tcap:Nat} {ra:Option Addr} {rcap:Nat} {j:JobB} {r:List KeyB} (h:Laid w0 ta tcap ra rcap j r) (key:Int):(ji r key).length≤1000:=by
 by_cases hn:jw r key=true
 ·rw [Qk h.good.ring hn];decide
 ·have hf:jw r key=false:=by simpa using hn
  rw [(ZD h.good.ring).2 hf];decide
theorem MQ (q:Nat) (ta:Option Addr) (tcap:Nat) (ra:Option Addr) (rcap:Nat) (r:List KeyB) (j:JobB) (st:StB) (g c:Nat) (w0 w:World) (hL:Laid w0 ta tcap ra rcap j r) (hb:Below w0.heap.size w0 w)
  (hs:st.out.length≤80000000) (hg:st.log.length≤22000) (hgr:g*j.plan.group.toNat < qb j.table) (hc:c < j.table.length)
  (hp:PressAt w w0.heap.size q (.slice ta j.table.length tcap) (.slice ra r.length rcap) j st) :
  Calls Tryz.prog 96 #[.pointer (some ⟨q,0,none⟩),.int .i64 (g:Int),.int .i64 (c:Int),.agg #[.int .i64 ((g*j.plan.group.toNat:Nat):Int),.int .i64 ((min (g*j.plan.group.toNat+j.plan.group.toNat) (qb j.table):Nat):Int)]] w
   fun e w'=>e=.returned (.tuple #[])∧PressAt w' w0.heap.size q (.slice ta j.table.length tcap) (.slice ra r.length rcap) j (qA j r st (jh (qb j.table) j.plan.group.toNat j.plan.page.toNat g c))∧KeptT pressT w0.heap.size w w':=by
 have Hp:=hid hp
 have HL:=hid hL
 have Hb:=hid hb
 obtain ⟨⟨hG1,hG6⟩,⟨hP1,hP6⟩,_⟩:=hL.good.sizes
 have hR:=hL.good.table.rows
 have hpe:=XB _ _ _ hgr
 have hplan:=hL.good.plan
 simp only [qM,Bool.and_eq_true,decide_eq_true_eq] at hplan
 obtain ⟨P,hP⟩:∃ P:Nat,j.plan.page=(P:Int):=⟨j.plan.page.toNat,by omega⟩
 have hPP:j.plan.page.toNat=P:=by omega
 obtain ⟨hcl1,hcl2,hcsm⟩:=hL.good.table.cells c hc
 obtain ⟨hnm,hkind,hk0,hk9⟩:=hL.good.table.head c hc
 obtain ⟨tb0,toff0,hta0,htb0,_⟩:=hL.table.at_ (List.ne_nil_of_length_pos (by omega))
 obtain ⟨tb,toff,hta,htb,hcell⟩:=(hL.table.later hb).at_ (List.ne_nil_of_length_pos (by omega))
 obtain ⟨g1,g2,g3,v4,g4,ca,cap2,rfl,hcc,hclie,hcm⟩:=hcell c hc
 obtain ⟨ov,lv,hrow,hBq,hout,hlog⟩:=hp
 have c0:=(qO hrow).1.1
 have c2:=(qO hrow).1.2.2.1
 rw [hP] at c2
 clear hcell hplan hL hb
 subst hta
 simp only [Option.some.injEq,Addr.mk.injEq,and_true] at hta0
 obtain ⟨rfl,rfl⟩:=hta0
 rw [hPP] at hP1 hP6
 rw [hPP]
 generalize j.plan.group.toNat=G at *
 have hci:(c:Int) < (j.table.length:Int):=by omega
 have hmn:min (g*G+G) (qb j.table)=g*G+jp (qb j.table) G g:=hpe.symm
 rw [hmn]
 have hnp:0 < jp (qb j.table) G g:=(Up hG1).2 hgr
 have hne:g*G+jp (qb j.table) G g≤qb j.table:=by omega
 have hn6:=(Jy (qb j.table) G g).1
 obtain ⟨cb,coff,hca,hcb,hccell⟩:=hclie.at_ (List.ne_nil_of_length_pos (by omega))
 subst hca
 have HST:Hid (jh (qb j.table) G P g c=jt P g c (g*G) (jp (qb j.table) G g) (jY (jp (qb j.table) G g) P)++[⟨77,g,c,0,g*G,jp (qb j.table) G g⟩]):=rfl
 have HPI:Hid (∀ k,k*P < jp (qb j.table) G g→SpotIn j.table ⟨80,g,c,k,g*G+k*P,jp (jp (qb j.table) G g) P k⟩):=fun k hk=>Tb rfl hR hG1 hP1 hG6 hc HL.out.good.table.few.2 hgr hk
 have hsc:g*G+jp (qb j.table) G g≤(j.table[c]).cells.length:=by omega
 have hg60:g < 60:=by have:g*1≤g*G:=Nat.mul_le_mul (Nat.le_refl _) hG1;omega
 generalize hs0:g*G=s0 at *
 generalize hn0:jp (qb j.table) G g=n at *
 have HCA:Hid (jf j.table c=j.table[c]):=xz hc
 have Hpl:=hid (fun (s:SpotB) (h1:s.c < j.table.length) (h2:s.many≤60)=>UD HL.out.good.table (s:=s) h1 h2)
 have Hsl:=hid (Un (r:=r) HL.out.good.table)
 have Hsec:=hid (HL.out.secret)
 have HKI:=hid hkind
 have HLC:Hid (∀ w',Below w0.heap.size w0 w'→∀ s m,Lies w' (some ⟨cb,coff+s*3,none⟩) (((j.table[c]).cells.drop s).take m)):=by
  intro w' hw' s m
  obtain ⟨tb',toff',hta',_,hcell'⟩:=(HL.out.table.later hw').at_ (List.ne_nil_of_length_pos (by omega))
  obtain ⟨_,_,_,v4',g4',ca',cap2',rfl,_,hclie',_⟩:=hcell' c hc
  simp only [Option.some.injEq,Addr.mk.injEq,and_true] at hta'
  obtain ⟨rfl,rfl⟩:=hta'
  have hsame:Value.slice ca' (j.table[c]).cells.length cap2'=.slice (some ⟨cb,coff,none⟩) (j.table[c]).cells.length cap2:=by
   have h1:=(hw'.cell (p:=⟨tb,toff+c*4+3,none⟩) htb0).symm.trans g4'
   have h2:=(Hb.out.cell (p:=⟨tb,toff+c*4+3,none⟩) htb0).symm.trans g4
   rw [h1] at h2
   exact Option.some.inj h2
  simp only [Value.slice.injEq] at hsame
  obtain ⟨rfl,_,rfl⟩:=hsame
  obtain ⟨b',off',hb',hbl',hcc'⟩:=hclie'.at_ (List.ne_nil_of_length_pos (by omega))
  simp only [Option.some.injEq,Addr.mk.injEq,and_true] at hb'
  obtain ⟨rfl,rfl⟩:=hb'
  exact Lies.part hclie'.ok hbl' hcc' s m
 have Hrow:=hid hrow
 have hq:q < w.heap.size:=(Array.getElem?_eq_some_iff.1 hrow).1
 have Hccell:=hid hccell
 have Hcsm:=hid hcsm
 have hs60:s0 < 60:=by omega
 have hc60:c≤6:=by have:=HL.out.good.table.few.2;omega
 clear hmn hpe hs0 hn0 hcl1 hPP hP hrow hout hlog hccell hcsm hnm hkind hgr hclie hne hR
 generalize (j.table[c]).name=nm at *
 generalize hKD:(j.table[c]).kind=kd at *
 generalize hKY:(j.table[c]).key=ky at *
 generalize hCE:(j.table[c]).cells=ce at *
 have HKD:=hid hKD
 have HKY:=hid hKY
 have HCE:=hid hCE
 clear hKD hKY hCE
 go_enter Tryz.func96,Tryz.ntmps96
 go_wp2_with fail
 obtain ⟨hbA,hsA,_,hhA⟩:=jK w #[.int .i64 (s0:Int),.int .i64 ((s0:Int)+(n:Int))] 169
 obtain ⟨hbB,hsB,_,hhB⟩:=jK (w.alloc (.cells #[.int .i64 (s0:Int),.int .i64 ((s0:Int)+(n:Int))] 169)) #[strB nm,.int .i64 kd,.int .i64 ky,.slice (some ⟨cb,coff,none⟩) ce.length cap2] 31
 have hsz:(w.alloc (.cells #[.int .i64 (s0:Int),.int .i64 ((s0:Int)+(n:Int))] 169)).heap.size=w.heap.size+1:=by simp
 rw [hsz] at hhB
 have hbb:=hbA.trans (hbB.mono hbA.size)
 clear hbA hsA hhA hbB hsB hsz g1 g2 g3 g4
 generalize World.alloc (World.alloc _ _) _=wb at *
 have e0:s0+n - s0=n:=by omega
 rw [e0]
 clear e0
 refine (UQ n P wb (by omega) hP1 (by omega)).mono ?_
 rintro e w1 ⟨sv,rfl,hsp,hb1⟩
 obtain ⟨sa,sc,rfl⟩:=jL hsp
 have hB1:=hbb.trans (hb1.mono hbb.size)
 have Hsp:=hid hsp
 have HhB:=hid (jd hb1 hhB)
 have HP1:=hid (Hp.out.later hB1)
 have HK1:=hid (Below.keptT (T:=pressT) hB1 Hb.out.size)
 have hcle:=Ql (n:=n) hP1
 clear hsp hhB hb1 hbb c0 c2
 generalize hCN:jY n P=CN at *
 have HCN:=hid hCN
 clear hCN
 go_wp2_with fail
 go_loopw [37] (fun i wr=>∃ k:Nat,k≤CN∧i=.int .i64 (k:Int)∧PressAt wr w0.heap.size q (.slice (some ⟨tb,toff,none⟩) j.table.length tcap) (.slice ra r.length rcap) j (qA j r st (jt P g c s0 n k))∧wr.heap[w.heap.size+1]?=some (.cells #[strB nm,.int .i64 kd,.int .i64 ky,.slice (some ⟨cb,coff,none⟩) ce.length cap2] 31 (0,0))∧wr.ownsRow wb.heap.size 169 2 (.slice sa CN sc) CN (JJ n P CN)∧KeptT pressT w0.heap.size w wr) (fun i _=>CN - (intOf i).toNat)
 case atStart=>exact ⟨0,Nat.zero_le _,rfl,HP1.out,HhB.out,Hsp.out,HK1.out⟩
 case round =>
  clear HP1 HhB Hsp HK1 Hp
  obtain ⟨k,hkl,rfl,hpr,hcx,hsp,hK⟩:=hrel
  have Hpr:=hid hpr
  have Hcx:=hid hcx
  have Hsp:=hid hsp
  have hBw0:=Hb.out.trans hK.below
  have hlk:=Hsl.out (jt P g c s0 n k) st (fun s hs2=>by
   simp only [jt,List.mem_map,List.mem_range] at hs2
   obtain ⟨p,_,rfl⟩:=hs2
   exact ⟨hc,by have:=(Jy n P p).2;simp only;omega⟩)
  have hpsl:(jt P g c s0 n k).length=k:=by simp [jt]
  rw [hpsl] at hlk
  clear hpr hcx hsp hpsl
  by_cases hlt:k < CN
  ·have hki:(k:Int) < (CN:Int):=by omega
   obtain ⟨sg,rfl,hsg,s1,s2⟩:=Vu Hsp.out hlt
   have hkP:k*P < n:=(Ju hP1).1 (by rw [HCN.out];exact hlt)
   have hSI:=HPI.out k hkP
   have hpe:=XB n P k hkP
   have hpl3:=Hpl.out ⟨80,g,c,k,s0+k*P,jp n P k⟩ hc hSI.few.2.2.2.2
   have HPB:Hid (qS j.table ⟨80,g,c,k,s0+k*P,jp n P k⟩=xN kd ((ce.drop (s0+k*P)).take (jp n P k))):=by
    show _=_
    simp only [qS,HCA.out,HKD.out,HCE.out]
    rfl
   have HSS:Hid (qA j r st (jt P g c s0 n (k+1))=QA j r ky 80 g c k (qS j.table ⟨80,g,c,k,s0+k*P,jp n P k⟩) (qA j r st (jt P g c s0 n k))):=by
    show _=_
    rw [Qs,XY]
    show zM j r _ _=_
    simp only [zM,HCA.out,HKY.out]
   have HLP:Hid (∀ w',Below w.heap.size w w'→True):=fun _ _=>trivial
   have hk60:k < 60:=by omega
   rw [HPB.out] at hpl3 HSS
   have hpn1:jp n P k≤60:=hSI.few.2.2.2.2
   rw [← hpe] at s2
   have hle2:k*P+jp n P k≤n:=by omega
   clear hSI hpe HLP
   generalize hkp0:k*P=kP at *
   generalize hpn0:jp n P k=pn at *
   clear hkp0 hpn0 HPB
   have e1:coff+(s0+kP)*3=coff+s0*3+kP*3:=by omega
   go_wp2_with fail
   obtain ⟨hbx,hsx,_,hhx⟩:=jK wr #[.int .i64 (kP:Int),.int .i64 ((kP:Int)+(pn:Int))] 169
   have hKx:KeptT pressT w0.heap.size w (wr.alloc (.cells #[.int .i64 (kP:Int),.int .i64 ((kP:Int)+(pn:Int))] 169)):=hK.trans (Below.keptT hbx (by have:=hBw0.size;omega))
   have hcx2:=jd hbx Hcx.out
   have Hprx:=hid (Hpr.out.later hbx)
   have Hspx:=hid (ju Hsp.out hbx)
   have hBw0x:=hBw0.trans (hbx.mono hBw0.size)
   clear s1 s2 hbx hK hsg
   generalize wr.alloc _=wx at *
   have hcap:s0+kP+pn≤ce.length:=by omega
   have hcq:kP < cap2 - s0:=by omega
   have hcq2:kP+pn≤cap2 - s0:=by omega
   have e2:kP+pn - kP=pn:=by omega
   have hll:((ce.drop (s0+kP)).take pn).length=pn:=by rw [List.length_take,List.length_drop];omega
   have hBwx:=hKx.below
   have hcbx:cb < w0.heap.size∨True:=.inr trivial
   have HPG:Hid (∀ w',Below wx.heap.size wx w'→Calls Tryz.prog 122 #[.int .i64 kd,.slice (some ⟨cb,coff+s0*3+kP*3,none⟩) pn (cap2 - s0 - kP)] w' fun e w2=>e=.returned (strB (xN kd ((ce.drop (s0+kP)).take pn)))∧Below w'.heap.size w' w2):=by
    intro w' hw'
    have hlie:=HLC.out w' (hBw0x.trans (hw'.mono hBw0x.size)) (s0+kP) pn
    rw [e1] at hlie
    have:=TP kd (some ⟨cb,coff+s0*3+kP*3,none⟩) (cap2 - s0 - kP) _ w' HKI.out (by rw [hll];omega) (fun x hx=>Hcsm.out x (List.mem_of_mem_drop (List.mem_of_mem_take hx))) hlie
    rw [hll] at this
    exact this
   generalize xN kd ((ce.drop (s0+kP)).take pn)=PG at *
   have i1:(0:Int)≤(kP:Int):=by omega
   have i2:(kP:Int)≤(kP:Int)+(pn:Int):=by omega
   have i3:(kP:Int)+(pn:Int)≤((cap2 - s0:Nat):Int):=by omega
   have i4:((kP:Int)+(pn:Int)).toNat=kP+pn:=by omega
   have i5:(0:Int)≤(kP:Int)+(pn:Int):=by omega
   have i6:¬ cap2 - s0=kP:=by omega
   clear e1 hll
   go_region_held3 (fun w'=>w'.cell? ⟨w.heap.size+1,1,none⟩=some (.int .i64 kd)∧w'.cell? ⟨w.heap.size+1,2,none⟩=some (.int .i64 ky)∧w'.cell? ⟨wr.heap.size,0,none⟩=some (.int .i64 (kP:Int))∧w'.cell? ⟨wr.heap.size,1,none⟩=some (.int .i64 ((kP:Int)+(pn:Int))))
    (first|exact RQ Y7 Z7|exact RQ Y6 Z6|exact RQ hcx2 hhx)
    (first
     | (go_at_call 122;refine (HPG.out _ (Xf _)).mono ?_;rintro e w6 ⟨rfl,hb6⟩;replace hb6:=jl hb6;have Y6:=jd hb6 hcx2;have Z6:=jd hb6 hhx)
     | (go_at_call 121;refine (AX w0.heap.size q (.slice (some ⟨tb,toff,none⟩) j.table.length tcap) ra rcap r j (qA j r st (jt P g c s0 n k)) ky 80 g c k PG _ (by omega) (by omega) (by omega) (by omega) (by omega) (by omega) HL.out.good.pre HL.out.good.draw.1 HL.out.good.draw.2 (Hsec.out ky) HL.out.len (HL.out.ring.later (hBw0x.trans (hb6.mono hBw0x.size))) ?_ (Hprx.out.later hb6)).mono ?_;exact Nat.le_trans hBw0x.size hb6.size;rintro e w7 ⟨rfl,hp7,hk7⟩;have Y7:=hk7.row Y6 (by decide);have Z7:=hk7.row Z6 (by decide)))
   have HK7:=hid (hKx.trans ((Below.keptT (T:=pressT) hb6 hBw0x.size).trans hk7))
   have HP7:=hid hp7
   have HY7:=hid Y7
   have HS7:=hid (hk7.owns (ju Hspx.out hb6) (by decide))
   clear Y6 Y7 Z6 Z7 hb6 hp7 hk7 hcx2 hhx
   go_wp2
   go_roundw
   case rel=>exact ⟨k+1,by omega,by go_num,by rw [HSS.out];exact HP7.out,HY7.out,HS7.out,HK7.out⟩
   case measure=>simp [intOf];omega
  ·have hke:k=CN:=by omega
   subst hke
   have hll:((ce.drop s0).take n).length=n:=by rw [List.length_take,List.length_drop];omega
   have hpl3:=Hpl.out ⟨77,g,c,0,s0,n⟩ hc (by simp only;omega)
   have HPB:Hid (qS j.table ⟨77,g,c,0,s0,n⟩=Qv kd ((ce.drop s0).take n)):=by
    show _=_
    simp only [qS,HCA.out,HKD.out,HCE.out]
    rfl
   have HSS:Hid (qA j r st (jh (qb j.table) G P g c)=QA j r ky 77 g c 0 (qS j.table ⟨77,g,c,0,s0,n⟩) (qA j r st (jt P g c s0 n k))):=by
    show _=_
    rw [HST.out,XY]
    show zM j r _ _=_
    simp only [zM,HCA.out,HKY.out]
   rw [HPB.out] at hpl3 HSS
   have HMT:Hid (∀ w',Below wr.heap.size wr w'→Calls Tryz.prog 113 #[.int .i64 kd,.slice (some ⟨cb,coff+s0*3,none⟩) n (cap2 - s0)] w' fun e w2=>e=.returned (strB (Qv kd ((ce.drop s0).take n)))∧Below w'.heap.size w' w2):=by
    intro w' hw'
    have hlie:=HLC.out w' (hBw0.trans (hw'.mono hBw0.size)) s0 n
    have:=YR kd (some ⟨cb,coff+s0*3,none⟩) (cap2 - s0) _ w' (by rw [hll];omega) (fun x hx=>Hcsm.out x (List.mem_of_mem_drop (List.mem_of_mem_take hx))) hlie
    rw [hll] at this
    exact this
   generalize Qv kd ((ce.drop s0).take n)=MT at *
   have hcx:=Hcx.out
   clear hll HPB
   go_wp2_with fail
   go_region_held3 (fun w'=>w'.cell? ⟨w.heap.size+1,1,none⟩=some (.int .i64 kd)∧w'.cell? ⟨w.heap.size+1,2,none⟩=some (.int .i64 ky))
    (first|exact (RL Y7).2|exact (RL Y6).2|exact (RL hcx).2)
    (first
     | (go_at_call 113;refine (HMT.out _ (Xf _)).mono ?_;rintro e w6 ⟨rfl,hb6⟩;replace hb6:=jl hb6;have Y6:=jd hb6 hcx)
     | (go_at_call 121;refine (AX w0.heap.size q (.slice (some ⟨tb,toff,none⟩) j.table.length tcap) ra rcap r j (qA j r st (jt P g c s0 n k)) ky 77 g c 0 MT _ (by omega) (by omega) (by omega) (by omega) (by omega) (by omega) HL.out.good.pre HL.out.good.draw.1 HL.out.good.draw.2 (Hsec.out ky) HL.out.len (HL.out.ring.later (hBw0.trans (hb6.mono hBw0.size))) ?_ (Hpr.out.later hb6)).mono ?_;exact Nat.le_trans hBw0.size hb6.size;rintro e w7 ⟨rfl,hp7,hk7⟩;have Y7:=hk7.row Y6 (by decide)))
   have HK7:=hid (hK.trans ((Below.keptT (T:=pressT) hb6 hBw0.size).trans hk7))
   have HP7:=hid hp7
   clear Y6 Y7 hb6 hp7 hk7 hcx
   go_wp2
   go_end0
   exact ⟨rfl,by rw [HSS.out];exact HP7.out,HK7.out⟩
end
end Go.Proofs.YthhpbhpfagoapabGreat
