import Derived.Test.YthhpbhpfagoapaaGreatGAR
import Derived.Test.YthhpbhpfagoapaaGreatGAT
import Derived.Deep.CutBlock
namespace Go.Proofs.YthhpbhpfagoapaaGreat
set_option linter.all false
set_option maxRecDepth 100000
set_option maxHeartbeats 16000000
open Go.RowKit
variable{w:W}{m n:Nat}
theorem T3.part{l:List Z9}(r:∀c∈l,D9 c)(b:n<w.heap.size)(f:∀j (f:j<l.length),
  w.cell? (A n (m+j*3))=some (.bool (l[j]).null)/\w.cell? (A n (m+j*3+1))=some (N (l[j]).int)/\w.cell? (A n (m+j*3+2))=some (S (l[j]).text))(a d:Nat) :
  T3 w (some (A n (m+a*3))) ((l.drop a).take d):=by
 refine⟨fun c o=>r c (dw (bP o)),fun s=>⟨n,m+a*3,rfl,b,fun j p=>?_⟩⟩;have q:a+j<l.length:=by rw[aM,aP]at p;omega
 have g:((l.drop a).take d)[j]=l[a+j]:=by simp
 obtain⟨h,i,k⟩:=f (a+j) q;rw[g,show m+a*3+j*3=m+(a+j)*3 by omega];exact⟨h,i,k⟩
theorem BN(n size b a:Nat)(e:a<b):(Xb n size b)[a*2]?=some (N ((a*size:Nat):Int))/\(Xb n size b)[a*2+1]?=some (N ((min (a*size+size) n:Nat):Int)):=by
 have c:=Jl (IB n size) 2 (fun _=>rfl) (List.range b) a 0 (by simpa using e) (by decide);have d:=Jl (IB n size) 2 (fun _=>rfl) (List.range b) a 1 (by simpa using e) (by decide);simp only[eh]at c d;exact⟨c,d⟩
theorem NQ{d:W}{h n size b a:Nat}{f:O'}{l:Nat}(c:d.ownsRow h 290 2 (.slice f b l) b (Xb n size b))(i:a<b) :
  ∃g,f=some (A g 0)/\g<d.heap.size/\d.cell? (A g (a*2))=some (N ((a*size:Nat):Int))/\d.cell? (A g (a*2+1))=some (N ((min (a*size+size) n:Nat):Int)):=by
 obtain⟨j,k⟩:=BN n size b a i;rcases c.2 with⟨p,q⟩|⟨g,m,o,e,_⟩
 ·omega
 ·simp only[cx]at e;obtain⟨rfl,_,rfl⟩:=e;exact⟨g,rfl,(c.lt g rfl).2,by rw[c.cellAt _ (by omega)];exact j,by rw[c.cellAt _ (by omega)];exact k⟩
variable{x y:Value}{F:TypeId}
theorem jcq(b:w.heap[n]?=some (.cells #[x,y] F (0,0))):w.cell? (A n 0)=some x/\w.cell? (A n 1)=some y :=
 ⟨by rw[jb b];rfl,by rw[jb b];rfl⟩
theorem Ej{h b c i f g:Value}{t j:TypeId}(d:w.heap[n]?=some (.cells #[h,b,c,i] t (0,0)))(e:w.heap[m]?=some (.cells #[f,g] j (0,0))) :
  w.cell? (A n 1)=some b/\w.cell? (A n 2)=some c/\w.cell? (A m 0)=some f/\w.cell? (A m 1)=some g :=
 ⟨(YP d).2.1,(YP d).2.2,(jcq e).1,(jcq e).2⟩
structure Laid (w0:W) (ta:O') (tcap:Nat) (ra:O') (rcap:Nat) (j:V6) (r:List W9):Prop where
 table:P3 w0 ta j.table
 ring:U2 w0 ra r
 len:r.length<=maxLen
 af:P6 j r
 c5:j.table.length<=tcap
variable{a:O'}{X:V6}{E:List W9}
theorem Laid.ab{e:O'}(b:Laid w a n e m X E)(key:Int):(jh E key).length<=1000:=by
 by_cases c:jG E key=true
 ·rw[JB b.af.ring c];decide
 ·have d:jG E key=false:=by simpa using c
  rw[(Xa b.af.ring).2 d];decide
theorem SJ(q:Nat)(ta:O')(tcap:Nat)(ra:O')(rcap:Nat)(r:List W9)(j:V6)(st:G8)(g c:Nat)(w0 w:W)(hL:Laid w0 ta tcap ra rcap j r)(hb:Below w0.heap.size w0 w)
  (hs:st.o.length<=80000000)(hg:st.log.length<=22000)(hgr:g*j.J.group.toNat<qv j.table)(hc:c<j.table.length)
  (hp:U3 w w0.heap.size q (.slice ta j.table.length tcap) (.slice ra r.length rcap) j st) :
  C' 216 #[(Q q 0),N g,N c,.agg #[N ((g*j.J.group.toNat:Nat):Int),N ((min (g*j.J.group.toNat+j.J.group.toNat) (qv j.table):Nat):Int)]] w
   fun e w'=>e=.returned (.tuple #[])/\U3 w' w0.heap.size q (.slice ta j.table.length tcap) (.slice ra r.length rcap) j (qk j r st (jl (qv j.table) j.J.group.toNat j.J.aa.toNat g c))/\V8 U6 w0.heap.size w w':=by
 have Hp:=I hp;have HL:=I hL;have Hb:=I hb;obtain⟨⟨hG1,hG6⟩,⟨hP1,hP6⟩,_⟩:=hL.af.a3;have hR:=hL.af.table.rows;have hpe:=ZZ _ _ _ hgr;have hplan:=hL.af.J;simp only[qK,aK,aN]at hplan;obtain⟨P,hP⟩:∃P:Nat,j.J.aa=(P:Int):=⟨j.J.aa.toNat,by omega⟩;have hPP:j.J.aa.toNat=P:=by omega
 obtain⟨hcl1,hcl2,hcsm⟩:=hL.af.table.cells c hc;obtain⟨hnm,hkind,hk0,hk9⟩:=hL.af.table.head c hc;obtain⟨tb0,toff0,hta0,htb0,_⟩:=hL.table.at_ (aE (by omega));obtain⟨tb,toff,hta,htb,hcell⟩:=(hL.table.j hb).at_ (aE (by omega));obtain⟨g1,g2,g3,v4,g4,ca,cap2,rfl,hcc,hclie,hcm⟩:=hcell c hc;obtain⟨ov,lv,hrow,hBq,hout,hlog⟩:=hp;have c0:=(xg hrow).1.1;have c2:=(xg hrow).1.2.2.1;rw[hP]at c2;clear hcell hplan hL hb;subst hta;simp only[aW,cG,de]at hta0;obtain⟨rfl,rfl⟩:=hta0;rw[hPP]at hP1 hP6;rw[hPP];generalize j.J.group.toNat=G at *;have hci:(c:Int)<(j.table.length:Int):=by omega
 have hmn:min (g*G+G) (qv j.table)=g*G+jv (qv j.table) G g:=hpe.symm;rw[hmn];have hnp:0<jv (qv j.table) G g:=(UL hG1).2 hgr;have hne:g*G+jv (qv j.table) G g<=qv j.table:=by omega
 have hn6:=(Qz (qv j.table) G g).1;obtain⟨cb,coff,hca,hcb,hccell⟩:=hclie.at_ (aE (by omega));subst hca;have HST:J (jl (qv j.table) G P g c=jr P g c (g*G) (jv (qv j.table) G g) (qc (jv (qv j.table) G g) P)++[⟨77,g,c,0,g*G,jv (qv j.table) G g⟩]):=rfl;have HPI:J (∀k,k*P<jv (qv j.table) G g->E6 j.table ⟨80,g,c,k,g*G+k*P,jv (jv (qv j.table) G g) P k⟩):=fun k hk=>Bm rfl hR hG1 hP1 hG6 hc HL.o.af.table.ao.2 hgr hk;have hsc:g*G+jv (qv j.table) G g<=(j.table[c]).cells.length:=by omega
 have hg60:g<60:=by have:g*1<=g*G:=cS (aA _) hG1;omega
 generalize hs0:g*G=s0 at *;generalize hn0:jv (qv j.table) G g=n at *;have HCA:J (ji j.table c=j.table[c]):=xP hc;have Hpl:=I (fun(s:V1) (h1:s.c<j.table.length) (h2:s.many<=60)=>UE HL.o.af.table (s:=s) h1 h2);have Hsl:=I (VC (r:=r) HL.o.af.table);have Hsec:=I (HL.o.ab);have HKI:=I hkind;have HLC:J (∀w',Below w0.heap.size w0 w'->∀s m,T3 w' (some (A cb (coff+s*3))) (((j.table[c]).cells.drop s).take m)):=by
  intro w' hw' s m;obtain⟨tb',toff',hta',_,hcell'⟩:=(HL.o.table.j hw').at_ (aE (by omega));obtain⟨_,_,_,v4',g4',ca',cap2',rfl,_,hclie',_⟩:=hcell' c hc;simp only[aW,cG,de]at hta';obtain⟨rfl,rfl⟩:=hta';have hsame:Value.slice ca' (j.table[c]).cells.length cap2'=.slice (some (A cb coff)) (j.table[c]).cells.length cap2:=by
   have h1:=(hw'.cell (p:=A tb (toff+c*4+3)) htb0).symm.trans g4';have h2:=(Hb.o.cell (p:=A tb (toff+c*4+3)) htb0).symm.trans g4;rw[h1]at h2;exact gQ h2
  simp only[cx]at hsame;obtain⟨rfl,_,rfl⟩:=hsame;obtain⟨b',off',hb',hbl',hcc'⟩:=hclie'.at_ (aE (by omega));simp only[aW,cG,de]at hb';obtain⟨rfl,rfl⟩:=hb';exact T3.part hclie'.ok hbl' hcc' s m
 have Hrow:=I hrow;have hq:q<w.heap.size:=(aF.1 hrow).1;have Hccell:=I hccell;have Hcsm:=I hcsm;have hs60:s0<60:=by omega
 have hc60:c<=6:=by have:=HL.o.af.table.ao.2;omega
 clear hmn hpe hs0 hn0 hcl1 hPP hP hrow hout hlog hccell hcsm hnm hkind hgr hclie hne hR;generalize (j.table[c]).name=nm at *;generalize hKD:(j.table[c]).kind=kd at *;generalize hKY:(j.table[c]).key=ky at *;generalize hCE:(j.table[c]).cells=ce at *;have HKD:=I hKD;have HKY:=I hKY;have HCE:=I hCE;clear hKD hKY hCE;go_enter Tryz.func216,Tryz.ntmps216;go_wp2_with fail;obtain⟨hbA,hsA,_,hhA⟩:=jJ w #[N s0,N ((s0:Int)+(n:Int))] 290;obtain⟨hbB,hsB,_,hhB⟩:=jJ (w.alloc (.cells #[N s0,N ((s0:Int)+(n:Int))] 290)) #[S nm,N kd,N ky,.slice (some (A cb coff)) ce.length cap2] 61;have hsz:(w.alloc (.cells #[N s0,N ((s0:Int)+(n:Int))] 290)).heap.size=w.heap.size+1:=by simp
 rw[hsz]at hhB;have hbb:=hbA.trans (hbB.mono hbA.size);clear hbA hsA hhA hbB hsB hsz g1 g2 g3 g4;generalize World.alloc (World.alloc _ _) _=wb at *;have e0:s0+n-s0=n:=by omega
 rw[e0];clear e0;refine(Gn n P wb (by omega) hP1 (by omega)).mono ?_;rintro e w1 ⟨sv,rfl,hsp,hb1⟩;obtain⟨sa,sc,rfl⟩:=jt hsp;have hB1:=hbb.trans (hb1.mono hbb.size);have Hsp:=I hsp;have HhB:=I (jd hb1 hhB);have HP1:=I (Hp.o.j hB1);have HK1:=I (Below.ag (T:=U6) hB1 Hb.o.size);have hcle:=QP (n:=n) hP1;clear hsp hhB hb1 hbb c0 c2;generalize hCN:qc n P=CN at *;have HCN:=I hCN;clear hCN;go_wp2_with fail;go_loopw [37] (fun i wr=>∃k:Nat,k<=CN/\i=N k/\U3 wr w0.heap.size q (.slice (some (A tb toff)) j.table.length tcap) (.slice ra r.length rcap) j (qk j r st (jr P g c s0 n k))/\wr.heap[w.heap.size+1]?=some (.cells #[S nm,N kd,N ky,.slice (some (A cb coff)) ce.length cap2] 61 (0,0))/\wr.ownsRow wb.heap.size 290 2 (.slice sa CN sc) CN (Xb n P CN)/\V8 U6 w0.heap.size w wr) (fun i _=>CN-(intOf i).toNat)
 case atStart=>exact⟨0,aG _,rfl,HP1.o,HhB.o,Hsp.o,HK1.o⟩
 case round =>
  clear HP1 HhB Hsp HK1 Hp;obtain⟨k,hkl,rfl,hpr,hcx,hsp,hK⟩:=hrel;have Hpr:=I hpr;have Hcx:=I hcx;have Hsp:=I hsp;have hBw0:=Hb.o.trans hK.below;have hlk:=Hsl.o (jr P g c s0 n k) st (fun s hs2=>by
   simp only[jr,cM,cF]at hs2;obtain⟨p,_,rfl⟩:=hs2;exact⟨hc,by have:=(Qz n P p).2;simp only;omega⟩)
  have hpsl:(jr P g c s0 n k).length=k:=by simp[jr]
  rw[hpsl]at hlk;clear hpr hcx hsp hpsl;by_cases hlt:k<CN
  ·have hki:(k:Int)<(CN:Int):=(by omega);obtain⟨sg,rfl,hsg,s1,s2⟩:=NQ Hsp.o hlt;have hkP:k*P<n:=(JE hP1).1 (by rw[HCN.o];exact hlt);have hSI:=HPI.o k hkP;have hpe:=ZZ n P k hkP;have hpl3:=Hpl.o ⟨80,g,c,k,s0+k*P,jv n P k⟩ hc hSI.ao.2.2.2.2;have HPB:J (xQ j.table ⟨80,g,c,k,s0+k*P,jv n P k⟩=xy kd ((ce.drop (s0+k*P)).take (jv n P k))):=by
    show _=_;simp only[xQ,HCA.o,HKD.o,HCE.o];rfl
   have HSS:J (qk j r st (jr P g c s0 n (k+1))=ZX j r ky 80 g c k (xQ j.table ⟨80,g,c,k,s0+k*P,jv n P k⟩) (qk j r st (jr P g c s0 n k))):=by
    show _=_;rw[Xv,Zn];show Qv j r _ _=_;simp only[Qv,HCA.o,HKY.o]
   have HLP:J (∀w',Below w.heap.size w w'->True):=fun _ _=>trivial;have hk60:k<60:=(by omega);rw[HPB.o]at hpl3 HSS;have hpn1:jv n P k<=60:=hSI.ao.2.2.2.2;rw[<-hpe]at s2;have hle2:k*P+jv n P k<=n:=(by omega);clear hSI hpe HLP;generalize hkp0:k*P=kP at *;generalize hpn0:jv n P k=pn at *;clear hkp0 hpn0 HPB;have e1:coff+(s0+kP)*3=coff+s0*3+kP*3:=(by omega);go_wp2_with fail;obtain⟨hbx,hsx,_,hhx⟩:=jJ wr #[N kP,N ((kP:Int)+(pn:Int))] 290;have hKx:V8 U6 w0.heap.size w (wr.alloc (.cells #[N kP,N ((kP:Int)+(pn:Int))] 290)):=hK.trans (Below.ag hbx (by have:=hBw0.size;omega));have hcx2:=jd hbx Hcx.o;have Hprx:=I (Hpr.o.j hbx);have Hspx:=I (ju Hsp.o hbx);have hBw0x:=hBw0.trans (hbx.mono hBw0.size);clear s1 s2 hbx hK hsg;generalize wr.alloc _=wx at *;have hcap:s0+kP+pn<=ce.length:=(by omega);have hcq:kP<cap2-s0:=(by omega);have hcq2:kP+pn<=cap2-s0:=(by omega);have e2:kP+pn-kP=pn:=(by omega);have hll:((ce.drop (s0+kP)).take pn).length=pn:=(by rw[aM,aP];omega);have hBwx:=hKx.below;have hcbx:cb<w0.heap.size\/True:=.inr trivial;have HPG:J (∀w',Below wx.heap.size wx w'->C' 67 #[N kd,.slice (some (A cb (coff+s0*3+kP*3))) pn (cap2-s0-kP)] w' fun e w2=>e=.returned (S (xy kd ((ce.drop (s0+kP)).take pn)))/\Below w'.heap.size w' w2):=by
    intro w' hw';have hlie:=HLC.o w' (hBw0x.trans (hw'.mono hBw0x.size)) (s0+kP) pn;rw[e1]at hlie;have:=Wv kd (some (A cb (coff+s0*3+kP*3))) (cap2-s0-kP) _ w' HKI.o (by rw[hll];omega) (fun x hx=>Hcsm.o x (dw (bP hx))) hlie;rw[hll]at this;exact this
   generalize xy kd ((ce.drop (s0+kP)).take pn)=PG at *;have i1:(0:Int)<=(kP:Int):=(by omega);have i2:(kP:Int)<=(kP:Int)+(pn:Int):=(by omega);have i3:(kP:Int)+(pn:Int)<=((cap2-s0:Nat):Int):=(by omega);have i4:((kP:Int)+(pn:Int)).toNat=kP+pn:=(by omega);have i5:(0:Int)<=(kP:Int)+(pn:Int):=(by omega);have i6:¬cap2-s0=kP:=(by omega);clear e1 hll;go_region_held3 (fun w'=>w'.cell? (A (w.heap.size+1) 1)=some (N kd)/\w'.cell? (A (w.heap.size+1) 2)=some (N ky)/\w'.cell? (A wr.heap.size 0)=some (N kP)/\w'.cell? (A wr.heap.size 1)=some (N ((kP:Int)+(pn:Int))))
    (first|exact Ej Y7 Z7|exact Ej Y6 Z6|exact Ej hcx2 hhx)
    (first
     | (go_at_call 67;refine(HPG.o _ (Qj _)).mono ?_;rintro e w6 ⟨rfl,hb6⟩;replace hb6:=jg hb6;have Y6:=jd hb6 hcx2;have Z6:=jd hb6 hhx)
     | (go_at_call 256;refine(TZ w0.heap.size q (.slice (some (A tb toff)) j.table.length tcap) ra rcap r j (qk j r st (jr P g c s0 n k)) ky 80 g c k PG _ (by omega) (by omega) (by omega) (by omega) (by omega) (by omega) HL.o.af.pre HL.o.af.draw.1 HL.o.af.draw.2 (Hsec.o ky) HL.o.len (HL.o.ring.j (hBw0x.trans (hb6.mono hBw0x.size))) ?_ (Hprx.o.j hb6)).mono ?_;exact aI hBw0x.size hb6.size;rintro e w7 ⟨rfl,hp7,hk7⟩;have Y7:=hk7.row Y6 (by decide);have Z7:=hk7.row Z6 (by decide)))
   have HK7:=I (hKx.trans ((Below.ag (T:=U6) hb6 hBw0x.size).trans hk7));have HP7:=I hp7;have HY7:=I Y7;have HS7:=I (hk7.owns (ju Hspx.o hb6) (by decide));clear Y6 Y7 Z6 Z7 hb6 hp7 hk7 hcx2 hhx;go_wp2;go_roundw
   ·exact⟨k+1,by omega,by go_num,by rw[HSS.o];exact HP7.o,HY7.o,HS7.o,HK7.o⟩
   ·simp[intOf];omega
  ·have hke:k=CN:=(by omega);subst hke;have hll:((ce.drop s0).take n).length=n:=(by rw[aM,aP];omega);have hpl3:=Hpl.o ⟨77,g,c,0,s0,n⟩ hc (by simp only;omega);have HPB:J (xQ j.table ⟨77,g,c,0,s0,n⟩=JD kd ((ce.drop s0).take n)):=by
    show _=_;simp only[xQ,HCA.o,HKD.o,HCE.o];rfl
   have HSS:J (qk j r st (jl (qv j.table) G P g c)=ZX j r ky 77 g c 0 (xQ j.table ⟨77,g,c,0,s0,n⟩) (qk j r st (jr P g c s0 n k))):=by
    show _=_;rw[HST.o,Zn];show Qv j r _ _=_;simp only[Qv,HCA.o,HKY.o]
   rw[HPB.o]at hpl3 HSS;have HMT:J (∀w',Below wr.heap.size wr w'->C' 234 #[N kd,.slice (some (A cb (coff+s0*3))) n (cap2-s0)] w' fun e w2=>e=.returned (S (JD kd ((ce.drop s0).take n)))/\Below w'.heap.size w' w2):=by
    intro w' hw';have hlie:=HLC.o w' (hBw0.trans (hw'.mono hBw0.size)) s0 n;have:=AJ kd (some (A cb (coff+s0*3))) (cap2-s0) _ w' (by rw[hll];omega) (fun x hx=>Hcsm.o x (dw (bP hx))) hlie;rw[hll]at this;exact this
   generalize JD kd ((ce.drop s0).take n)=MT at *;have hcx:=Hcx.o;clear hll HPB;go_wp2_with fail;go_region_held3 (fun w'=>w'.cell? (A (w.heap.size+1) 1)=some (N kd)/\w'.cell? (A (w.heap.size+1) 2)=some (N ky))
    (first|exact(YP Y7).2|exact(YP Y6).2|exact(YP hcx).2)
    (first
     | (go_at_call 234;refine(HMT.o _ (Qj _)).mono ?_;rintro e w6 ⟨rfl,hb6⟩;replace hb6:=jg hb6;have Y6:=jd hb6 hcx)
     | (go_at_call 256;refine(TZ w0.heap.size q (.slice (some (A tb toff)) j.table.length tcap) ra rcap r j (qk j r st (jr P g c s0 n k)) ky 77 g c 0 MT _ (by omega) (by omega) (by omega) (by omega) (by omega) (by omega) HL.o.af.pre HL.o.af.draw.1 HL.o.af.draw.2 (Hsec.o ky) HL.o.len (HL.o.ring.j (hBw0.trans (hb6.mono hBw0.size))) ?_ (Hpr.o.j hb6)).mono ?_;exact aI hBw0.size hb6.size;rintro e w7 ⟨rfl,hp7,hk7⟩;have Y7:=hk7.row Y6 (by decide)))
   have HK7:=I (hK.trans ((Below.ag (T:=U6) hb6 hBw0.size).trans hk7));have HP7:=I hp7;clear Y6 Y7 hb6 hp7 hk7 hcx;go_wp2;go_end0
   exact⟨rfl,by rw[HSS.o];exact HP7.o,HK7.o⟩
end Go.Proofs.YthhpbhpfagoapaaGreat
