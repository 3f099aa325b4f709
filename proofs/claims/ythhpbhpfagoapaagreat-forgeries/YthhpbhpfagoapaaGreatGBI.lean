import Derived.Test.YthhpbhpfagoapaaGreatGBE
namespace Go.Proofs.YthhpbhpfagoapaaGreat
set_option linter.all false
set_option maxRecDepth 100000
set_option maxHeartbeats 16000000
open Go.RowKit
variable{w:W}{n:Nat}{q x y z:Value}{F:TypeId}
def AF(e:w.heap[n]?=some (.cells #[x,y,z,q] F (0,0))):w.cell? (A n 0)=some x/\w.cell? (A n 1)=some y/\w.cell? (A n 2)=some z:=YP e
def RS(rows d P f:Nat)(told:Bool)(a:O')(eS:Nat)(t:List W8)(pa:O')(pc:Nat)(places:List Nat)(h:W)
  (hr:rows<=60)(hG:d<=60)(hP:P<=60)(hF:f<=9)(ht:t.length<=6)(f2:places.length<=360)(ec:∀M∈places,M<=80000000)
  (d8:∀c∈t,c.name.length<=8/\(0<=c.kind/\c.kind<=9)/\(0<=c.key/\c.key<=9))(hl:P3 h a t)
  (eg:∀j (hj:j<places.length),∃g,pa=some (A g 0)/\g<h.heap.size/\h.cell? (A g j)=some (N ((places[j]:Nat):Int))):C' 87 #[N rows,.agg #[N d,N P,N f,.bool told],.slice a t.length eS,.slice pa places.length pc] h
   fun i b=>i=.returned (S (uB rows++uB d++uB P++uB f++uB t.length++t.flatMap jZ++places.flatMap uB))/\Below h.heap.size h b:=by
 have Hl:=I hl;have eR:=I eg;have dT:=I d8;have dW:=I ec;clear hl eg d8 ec;have fa:=jO rows (by omega);have fb:=jO d (by omega);have fc:=jO P (by omega);have fd:=jO f (by omega);have fe:=jO t.length (by omega);have D:IntKind.u64.wrap (rows:Int)=(rows:Int):=Qw (by omega) (by omega);have v2:IntKind.u64.wrap (d:Int)=(d:Int):=Qw (by omega) (by omega);have v3:IntKind.u64.wrap (P:Int)=(P:Int):=Qw (by omega) (by omega);have v4:IntKind.u64.wrap (f:Int)=(f:Int):=Qw (by omega) (by omega);have v5:IntKind.u64.wrap (t.length:Int)=(t.length:Int):=Qw (by omega) (by omega);have s:J (∀(n:Nat) b,n<=80000000->C' 147 #[.int .u64 (n:Int)] b fun i L=>i=.returned (S (uB n))/\Below b.heap.size b L):=fun n b h=>Bg n b (by omega);have q1:¬(9223372036854775807<(uB rows).length+(uB d).length):=by omega
 have q2:¬(9223372036854775807<(uB rows).length+(uB d).length+(uB P).length):=by omega
 have q3:¬(9223372036854775807<(uB rows).length+(uB d).length+(uB P).length+(uB f).length):=by omega
 have q4:¬(9223372036854775807<(uB rows).length+(uB d).length+(uB P).length+(uB f).length+(uB t.length).length):=by omega
 go_enter Tryz.func87,Tryz.ntmps87;go_wp2_with fail;obtain⟨d5,f4,_,co⟩:=jJ h #[N d,N P,N f,.bool told] 24;have dv:=I d5;clear d5;generalize h.alloc _=wb at *;go_region_held3 (fun b=>b.cell? (A h.heap.size 0)=some (N d)/\b.cell? (A h.heap.size 1)=some (N P)/\b.cell? (A h.heap.size 2)=some (N f))
  (first|exact AF Y5|exact AF Z|exact AF Y|exact AF X|exact AF V|exact AF co)
  (first
   | (go_at_call_of 147 (Value.int IntKind.u64 (rows:Int));refine(s.o rows _ (by omega)).mono ?_;rintro i w1 ⟨rfl,z⟩;replace z:=jg z;have V:=jd z co)
   | (go_at_call_of 147 (Value.int IntKind.u64 (d:Int));refine(s.o d _ (by omega)).mono ?_;rintro i L ⟨rfl,bX⟩;have X:=jd bX V)
   | (go_at_call_of 147 (Value.int IntKind.u64 (P:Int));refine(s.o P _ (by omega)).mono ?_;rintro i w3 ⟨rfl,b4⟩;have Y:=jd b4 X)
   | (go_at_call_of 147 (Value.int IntKind.u64 (f:Int));refine(s.o f _ (by omega)).mono ?_;rintro i w4 ⟨rfl,cd⟩;have Z:=jd cd Y)
   | (go_at_call 147;refine(s.o t.length _ (by omega)).mono ?_;rintro i w5 ⟨rfl,ce⟩;have Y5:=jd ce Z))
 have ac:=dv.o.trans (z.mono dv.o.size);have am:=ac.trans (bX.mono ac.size);have ap:=am.trans (b4.mono am.size);have be:=ap.trans (cd.mono ap.size);have ds:=I (be.trans (ce.mono be.size));have fk:(uB rows++uB d++uB P++uB f++uB t.length).length<=50:=by simp only[aB];omega
 clear V X Y Z Y5 z bX b4 cd ce ac am ap be D v2 v3 v4 v5 fa fb fc fd fe co q1 q2 q3 q4;go_simp;simp only[xh];generalize d3:uB rows++uB d++uB P++uB f++uB t.length=w at *;have eM:=I d3;clear d3;generalize d2:uB rows++uB d++uB P++uB f=A4 at *;have es:=I d2;clear d2;generalize d1:uB rows++uB d++uB P=A3 at *;have er:=I d1;clear d1;generalize d0:uB rows++uB d=A2 at *;have eq:=I d0;clear d0;go_wp2_with fail;go_loopw [9,10] (fun v u wr=>∃a:Nat,a<=t.length/\u=N a/\v=S (w++(t.take a).flatMap jZ)/\Below h.heap.size h wr) (fun _ u _=>t.length-(intOf u).toNat)
 case atStart=>exact⟨0,aG _,rfl,by simp,ds.o⟩
 case round=>
  clear ds;obtain⟨a,fv,rfl,rfl,l⟩:=hrel;have ea:=KQ jZ 38 (t.take a) (fun c hc=>by
   obtain⟨h1,h2,h3⟩:=dT.o c (bP hc);have a:=jO c.name.length (by omega);have k:=jO c.kind.toNat (by omega);have d:=jO c.key.toNat (by omega);simp only[jZ,xB,aB];omega)
  rw[aM]at ea;have e7:(w++(t.take a).flatMap jZ).length<=300:=by
   rw[aB];have:38*min a t.length<=38*6:=cS (aA _) (by omega);omega
  clear ea;by_cases dl:a<t.length
  ·obtain⟨k,dr,rfl,H,d6⟩:=(Hl.o.j l).at_ (aE (by omega));obtain⟨g1,F,G,v4,g4,ca,ff,rfl,_⟩:=d6 a dl;clear d6 g4;have ft:(a:Int)<(t.length:Int):=(by omega);obtain⟨fl,⟨e0,e1⟩,e2,e3⟩:=dT.o t[a] (aJ dl);have U:=I (Ki jZ t a dl);have T:J (jZ t[a]=xB (t[a]).name++uB (t[a]).kind.toNat++uB (t[a]).key.toNat):=rfl;obtain⟨m,cs⟩:∃m:Nat,(t[a]).kind=(m:Int):=⟨(t[a]).kind.toNat,by omega⟩;obtain⟨q,da⟩:∃q:Nat,(t[a]).key=(q:Int):=⟨(t[a]).key.toNat,by omega⟩;rw[cs,da]at T;rw[cs]at F;rw[da]at G;have fs:m<=9:=(by omega);have fw:q<=9:=(by omega);simp only[bY]at T;clear e0 e1 e2 e3 cs da;generalize (t[a]).name=r at *;have f7:(xB r).length<=20:=by have:=jO r.length (by omega);simp only[xB,aB];omega
   have fn:=jO m (by omega);have fr:=jO q (by omega);have D:IntKind.u64.wrap (m:Int)=(m:Int):=Qw (by omega) (by omega);have v2:IntKind.u64.wrap (q:Int)=(q:Int):=Qw (by omega) (by omega);have HT:J (∀b,C' 146 #[S r] b fun i L=>i=.returned (S (xB r))/\Below b.heap.size b L):=fun b=>WP r b (by omega);have O:J (w++(t.take (a+1)).flatMap jZ=w++(t.take a).flatMap jZ++xB r++uB m++uB q):=by show _=_;rw[U.o,T.o];simp
   generalize w++(t.take a).flatMap jZ=E at *;have q1:¬(9223372036854775807<E.length+(xB r).length):=(by omega);have q2:¬(9223372036854775807<E.length+(xB r).length+(uB m).length):=(by omega);have q3:¬(9223372036854775807<E.length+(xB r).length+(uB m).length+(uB q).length):=(by omega);go_wp2_with fail;go_region_held3 (fun b=>b.cell? (A k (dr+a*4))=some (S r)/\b.cell? (A k (dr+a*4+1))=some (N m)/\b.cell? (A k (dr+a*4+2))=some (N q))
    (first|exact⟨(B.cell (p:=A k _) ci).trans z1,(B.cell (p:=A k _) ci).trans z2,(B.cell (p:=A k _) ci).trans z3⟩|exact⟨z1,z2,z3⟩|exact⟨y1,y2,y3⟩|exact⟨g1,F,G⟩)
    (first
     | (go_at_call 146;refine(HT.o _).mono ?_;rintro i w6 ⟨rfl,o⟩;replace o:=jg o;have y1:=(o.cell (p:=A k _) H).trans g1;have y2:=(o.cell (p:=A k _) H).trans F;have y3:=(o.cell (p:=A k _) H).trans G;have K:=aC H o.size)
     | (go_at_call_of 147 (Value.int IntKind.u64 (m:Int));refine(s.o m _ (by omega)).mono ?_;rintro i w7 ⟨rfl,x⟩;have z1:=(x.cell (p:=A k _) K).trans y1;have z2:=(x.cell (p:=A k _) K).trans y2;have z3:=(x.cell (p:=A k _) K).trans y3;have ci:=aC K x.size)
     | (go_at_call_of 147 (Value.int IntKind.u64 (q:Int));refine(s.o q _ (by omega)).mono ?_;rintro i w8 ⟨rfl,B⟩))
   have bi:=l.trans (o.mono l.size);have bv:=bi.trans (x.mono bi.size);have eC:=I (bv.trans (B.mono bv.size));clear g1 F G y1 y2 y3 z1 z2 z3 o x B bi bv l D v2;simp only[xh];rw[<-O.o];clear q1 q2 q3;go_wp2;go_roundw
   ·exact⟨a+1,by omega,by go_num,rfl,eC.o⟩
   ·simp[intOf];omega
  ·have e5:a=t.length:=(by omega);subst e5;rw[aS];rw[aS]at e7;generalize d4:w++t.flatMap jZ=y at *;have eP:=I d4;have HB:=I l;clear d4 l;go_wp2_with fail;go_loopw [9,11] (fun v u wr=>∃e:Nat,e<=places.length/\u=N e/\v=S (y++(places.take e).flatMap uB)/\Below h.heap.size h wr) (fun _ u _=>places.length-(intOf u).toNat)
   case atStart=>exact⟨0,aG _,rfl,by simp,HB.o⟩
   case round=>
    clear HB;obtain⟨e,f1,rfl,rfl,l⟩:=hrel;have em:=KQ uB 10 (places.take e) (fun M hx=>jO M (by have:=dW.o M (bP hx);omega));have f5:(y++(places.take e).flatMap uB).length<=4000:=by
     rw[aB];rw[aM]at em;have:10*min e places.length<=10*360:=cS (aA _) (by omega);omega
    clear em;by_cases dd:e<places.length
    ·obtain⟨g,rfl,e4,d7⟩:=eR.o e dd;have cm:=(l.cell (p:=A g e) e4).trans d7;have fz:(e:Int)<(places.length:Int):=(by omega);have f3:=dW.o places[e] (aJ dd);have U:=I (Ki uB places e dd);generalize places[e]=C at *;have D:IntKind.u64.wrap (C:Int)=(C:Int):=Qw (by omega) (by omega);have f6:=jO C (by omega);have O:J (y++(places.take (e+1)).flatMap uB=y++(places.take e).flatMap uB++uB C):=by show _=_;rw[U.o];simp
     generalize y++(places.take e).flatMap uB=E at *;clear d7;go_wp2_with fail;refine(s.o C _ (by omega)).mono ?_;rintro i w6 ⟨rfl,o⟩;have ev:=I (l.trans (o.mono l.size));clear l o cm D;go_wp2_with fail;go_roundw
     ·exact⟨e+1,by omega,by go_num,by rw[O.o];simp[xh],ev.o⟩
     ·simp[intOf];omega
    ·have e6:e=places.length:=(by omega);subst e6;rw[aS];go_wp2;go_ret;exact⟨qH (by rw[<-eP.o,<-eM.o,<-es.o,<-er.o,<-eq.o]),l⟩
end Go.Proofs.YthhpbhpfagoapaaGreat
