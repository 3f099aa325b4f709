import Derived.Test.YthhpbhpfagoapaaGreatGBD
import Derived.Lib.SmallJoins
import Derived.Test.YthhpbhpfagoapaaGreatGAZ
namespace Go.Proofs.YthhpbhpfagoapaaGreat
set_option linter.all false
set_option maxRecDepth 100000
set_option maxHeartbeats 16000000
open Go.RowKit
def jan:DecidableEq Z9:=fun a b=>decidable_of_iff (a.null=b.null/\a.int=b.int/\a.text=b.text) ⟨fun⟨d,e,f⟩=>by cases a;cases b;simp_all,fun c=>by subst c;exact⟨rfl,rfl,rfl⟩⟩
def Ib(a b:List Z9):Decidable (a=b):=@instDecidableEqList Z9 jan a b
def Kg(a b:List Z9):Bool:=@decide (a=b) (Ib a b)
def D4{a b:List Z9}:Kg a b=true↔a=b:=@gD _ (Ib a b)
def E9{a b:List Z9}:Kg a b=false↔¬a=b:=@cW _ (Ib a b)
variable{c g i k m n:Nat}{v w:W}
def Qs(a:Below n w v):Below n w v.drew:=⟨a.os,a.tape,a.output,a.size,a.block⟩
def GA{α:Type}{b c:List α}(f:n<b.length)(g:n<c.length)(d:b.take n=c.take n)(e:b[n]=c[n]):b.take (n+1)=c.take (n+1):=by
 rw[aH f,aH g,d,e]
structure E2 (w:W) (a:O') (F:Nat->U1) (n:Nat):Prop where
 at_:0<n->∃b,a=some (A b 0)/\b<w.heap.size/\∀j,j<n->∃ca cc,
  w.cell? (A b (j*5))=some (S (F j).name)/\w.cell? (A b (j*5+1))=some (N (F j).kind)/\w.cell? (A b (j*5+2))=some (N (F j).key)/\w.cell? (A b (j*5+3))=some (N (F j).state) /\
  w.cell? (A b (j*5+4))=some (.slice ca (F j).cells.length cc)/\T3 w ca (F j).cells/\(F j).cells.length<=1000
variable{a:O'}{Y:Nat->U1}
def E2.j{d g:W}{n:Nat}(h:E2 d a Y n)(f:Below d.heap.size d g):E2 g a Y n:=by
 refine⟨fun v=>?_⟩;obtain⟨b,s,c,t⟩:=h.at_ v;refine⟨b,s,aC c f.size,fun j u=>?_⟩;obtain⟨ca,cc,i,k,l,m,o,q,r⟩:=t j u;exact⟨ca,cc,(f.cell (p:=A b _) c).trans i,(f.cell (p:=A b _) c).trans k,(f.cell (p:=A b _) c).trans l,(f.cell (p:=A b _) c).trans m,(f.cell (p:=A b _) c).trans o,q.j f,r⟩
variable{T:Nat->Value}
def KU(e:m<n){i:Nat}(d:i<5):(Xt Y T n)[m*5+i]?=(GW (Y m) (T m))[i]?:=by
 unfold Xt;rw[fR,UX (s:=5) _ d]
 ·rw[dB,eT e];rfl
 ·intro g c;simp only[cM]at c;obtain⟨f,_,rfl⟩:=c;rfl
variable{q x y z:Value}
def U5.av(b:U5 n w x Y m T)(s:∀j,j<m->(Y j).cells.length<=1000):∃l e,x=.slice l m e/\E2 w l Y m:=by
 rcases b.row.2 with⟨f,q⟩|⟨g,e,u,f,_⟩
 ·exact⟨none,0,by rw[f,q],⟨fun o=>by omega⟩⟩
 ·have c:=b.row;subst f;refine⟨some (A g 0),e,rfl,⟨fun _=>⟨g,rfl,(c.lt g rfl).2,fun j a=>?_⟩⟩⟩;obtain⟨ca,cc,t,_,r⟩:=QZ (b.cells j a) (fun k h=>⟨(b.small j a k h).1,(b.small j a k h).2.1,aI (b.small j a k h).2.2 (by decide)⟩);refine⟨ca,cc,?_,?_,?_,?_,?_,r,s j a⟩
  ·rw[c.cellAt _ (by omega)];exact KU (i:=0) a (by omega)
  ·rw[c.cellAt _ (by omega)];exact KU (i:=1) a (by omega)
  ·rw[c.cellAt _ (by omega)];exact KU (i:=2) a (by omega)
  ·rw[c.cellAt _ (by omega)];exact KU (i:=3) a (by omega)
  ·rw[c.cellAt _ (by omega),<-t];exact KU (i:=4) a (by omega)
def Lw:Prop:=∀(file pre:B8) (b:List W9) (c:Bool) (a:V7),qJ file pre b c=(0,some a)->a.U.length<=1000/\∀j,j<a.U.length->(qq pre b a j).cells.length<=1000
def VL:Lw:=by
 intro file pre l n a e;obtain⟨_,_,m,parts,footer,b⟩:=Rk e;have k:=b.J;simp only[qK,aK,aN]at k;have g:=b.aq;simp only[jW,aK,aN]at g;refine⟨by omega,fun j h=>?_⟩;have d:=xj b.ae;unfold qq;split
 ·exact aG _
 ·split
  ·exact aG _
  ·rename_i cells f;have:=(RT pre l (ji a.U j).kind (ji a.U j).key (X8:=a.rows) (C:=a.U.length) (G:=a.J.group.toNat) (P:=a.J.aa.toNat) (c:=j) h (by omega) (by omega) (M:=a.ae) d (i:=(qp a).length) (cells:=cells) (by
    show jP _ _ _ _ _ _ ((qp a).take _) (a.ae.take _)=_;rw[aS,<-d,aS];exact f)).1
   have:=b.rows;simp only;omega
section
open Go.ChangeShapes Go.WideShapes Go.ChangeAt Go.RowKit Go.Deep
def KC(d:w.cell? (A n m)=some x):n<w.heap.size:=by
 rcases eA n w.heap.size with b|b
 ·exact b
 ·simp[World.cell?,fi b]at d
variable{K:Int}
def ZU(b:(Lit.int .i64 K).wf=true):-9223372036854775808<=K/\K<=9223372036854775807:=by
 simp[Lit.wf,IntKind.min,IntKind.max,IntKind.signed,IntKind.bits]at b;exact⟨by omega,by omega⟩
def Tryz.bl:Tryz.prog.cellsOf 58=3:=by kernel_rfl
def Tryz.bo:Tryz.prog.cellsOf 4=1:=by kernel_rfl
def Tryz.az:Tryz.prog.cellsOf 3=1:=by kernel_rfl
def Tryz.ax:Tryz.prog.cellsOf 9=1:=by kernel_rfl
variable{C:List Value}
def Wm{b:Type}{p:TypeId×Value->b}{x:Nat->Bool}{s:Bool}{B:DataW b×List MemPlace}
  (r:DataW.trod p Tryz.prog w n x s m 58 C=some B):∃c:Z9,D9 c/\C=[.bool c.null,N c.int,S c.text]:=by
 obtain⟨D,E,F,a,q,j,g,h,i⟩:=trod_struct3 Tryz.underlying58 r;rw[Tryz.bl]at j
 match C,j with
 | [c0,c1,c2],_=>
  simp only[Tryz.bo,Tryz.az,Tryz.ax]at g h i;obtain⟨o,d,_⟩:=DataW.trod_bool Tryz.underlying4 g;obtain⟨u,e,_,y⟩:=ef Tryz.underlying3 h;obtain⟨k,f,_,z⟩:=fg Tryz.underlying9 i;simp at d e f;subst d e f;obtain⟨v,l⟩:=ZU y;refine⟨⟨o,u,k.data.toList⟩,⟨v,l,by simpa using z⟩,?_⟩;obtain⟨⟨t⟩⟩:=k;rfl
def PY{l:Type}{F:TypeId×Value->l}{D:DataW l×List MemPlace}
  (h:DataW.trod F Tryz.prog w 0 (fun _=>true) true n 59 [.slice a m k]=some D):∃B:List Z9,B.length=m/\m<=k/\k<=maxLen/\T3 w a B/\(m=0\/∃s C,D.1=.slice s C/\s.length+C.length=k):=by
 rcases open_slice Tryz.underlying59 h with⟨d,_⟩|⟨e,bi,am,bv,b,ac,Pl,d,_,T,U,x,rfl,z⟩
 ·simp at d;obtain⟨rfl,rfl,rfl⟩:=d;exact⟨[],rfl,aA _,by decide,⟨by simp,fun h=>absurd rfl h⟩,.inl rfl⟩
 ·simp at d;obtain⟨rfl,rfl,rfl⟩:=d;simp only[db]at x;subst x;rw[Tryz.bl]at z;have E:∀len,len<m->∃c:Z9,D9 c/\w.cell? (e.add (len*3))=some (.bool c.null)/\w.cell? (e.add (len*3+1))=some (N c.int)/\w.cell? (e.add (len*3+2))=some (S c.text):=by
   intro len f;obtain⟨ap,K,L⟩:=z len (by omega);obtain⟨c,X,rfl⟩:=Wm L;obtain⟨_,_,H⟩:=e9 K;have p:=H 0 (by omega);have q:=H 1 (by omega);have r:=H 2 (by omega);rw[add_add]at p q r;exact⟨c,X,by simpa using p,by simpa using q,by simpa using r⟩
  have be:Inhabited Z9:=⟨⟨false,0,[]⟩⟩;obtain⟨G,g⟩:=choose_lt E;refine⟨(List.range m).map G,by simp,T,U,⟨?_,?_⟩,.inr ⟨_,_,rfl,by simp;omega⟩⟩
  ·intro c v;simp only[cM,cF]at v;obtain⟨len,f,rfl⟩:=v;exact(g len f).1
  ·intro V;have y:0<m:=by
    rcases dH m with i|i
    ·subst i;simp at V
    ·exact i
   obtain⟨o,Z,spot⟩:=e;have Y:spot=none:=(by simpa[Addr.add]using fq (g 0 y).2.1);subst Y;have M:o<w.heap.size:=by
    have:=(g 0 y).2.1;rw[fu]at this;exact KC this
   refine⟨o,Z,rfl,M,fun j O=>?_⟩;have P:j<m:=(by simpa using O);obtain⟨_,g1,t,u⟩:=g j P;rw[fu]at g1 t u;simp only[ey,eh];exact⟨g1,t,u⟩
end
section
open Go.ChangeShapes Go.WideShapes Go.ChangeAt Go.RowKit Go.Deep Go.Joins
def Tryz.bq:Tryz.prog.cellsOf 63=2:=by kernel_rfl
def Tryz.a8:Tryz.prog.cellsOf 61=4:=by kernel_rfl
def Tryz.cj:Tryz.prog.cellsOf 24=4:=by kernel_rfl
def Tryz.bs:Tryz.prog.cellsOf 26=7:=by kernel_rfl
def Tryz.cq:Tryz.prog.cellsOf 59=1:=by kernel_rfl
def Tryz.b6:Tryz.prog.cellsOf 22=1:=by kernel_rfl
def Tryz.cc:Tryz.prog.bytesOf 58=32:=by kernel_rfl
def Tryz.cg:Tryz.prog.bytesOf 63=24:=by kernel_rfl
def Tryz.bp:Tryz.prog.bytesOf 61=56:=by kernel_rfl
variable{F:TypeId}
def Yk{c:Type}{P:Program}{b:List (DataW c)}{d:DataW c}(a:d∈b)(f:n∈d.weights P F):n∈DataW.weightsAll P F b:=by
 induction b with
 | nil=>simp at a
 | cons h b g=>
  simp only[DataW.weightsAll,aX];rcases bD.1 a with rfl|a
  ·exact .inl f
  ·exact .inr (g a)
variable{C:List Value}
def WV{b:Type}{l:TypeId×Value->b}{r:Nat->Bool}{p:Bool}{v:DataW b×List MemPlace}
  (o:DataW.trod l Tryz.prog w n r p m 63 C=some v):∃c:W9,Bj c/\C=[N c.number,S c.ab]:=by
 obtain⟨x,y,k,j,h,f,g⟩:=trod_struct2 Tryz.underlying63 o;rw[Tryz.bq]at h
 match C,h with
 | [c0,c1],_=>
  simp only[Tryz.az,Tryz.ax]at f g;obtain⟨q,d,_,s⟩:=ef Tryz.underlying3 f;obtain⟨i,e,_,u⟩:=fg Tryz.underlying9 g;simp at d e;subst d e;refine⟨⟨q,i.data.toList⟩,⟨by simpa using u,ZU s⟩,?_⟩;obtain⟨⟨t⟩⟩:=i;rfl
def Bw{l:Type}{C:TypeId×Value->l}{z:DataW l×List MemPlace}
  (h:DataW.trod C Tryz.prog w 0 (fun _=>true) true n 27 [.slice a m k]=some z)(X:∀g∈z.1.weights Tryz.prog 27,g<=reachBytes):∃b:List W9,b.length=m/\m<=k/\k<=maxLen/\U2 w a b/\b.length*24<=140737488351232:=by
 rcases open_slice Tryz.underlying27 h with⟨d,_⟩|⟨f,be,ac,y,g,Z,Pl,d,_,M,O,v,rfl,x⟩
 ·simp at d;obtain⟨rfl,rfl,rfl⟩:=d;exact⟨[],rfl,aA _,by decide,⟨by simp,fun h=>absurd rfl h⟩,by simp⟩
 ·simp at d;obtain⟨rfl,rfl,rfl⟩:=d;simp only[db]at v;subst v;rw[Tryz.bq]at x;have V:(m+(y-m))*24<=reachBytes:=by
   have:=X ((m+(y-m))*Tryz.prog.bytesOf 63) (by simp only[DataW.weights,Tryz.underlying27,cJ,fI];exact cC ..);rw[Tryz.cg]at this;exact this
  simp only[reachBytes]at V;have B:∀E,E<m->∃c:W9,Bj c/\w.cell? (f.add (E*2))=some (N c.number)/\w.cell? (f.add (E*2+1))=some (S c.ab):=by
   intro E u;obtain⟨am,F,G⟩:=x E (by omega);obtain⟨c,T,rfl⟩:=WV G;obtain⟨_,_,t⟩:=e9 F;have p:=t 0 (by omega);have q:=t 1 (by omega);rw[add_add]at p q;exact⟨c,T,by simpa using p,by simpa using q⟩
  have ap:Inhabited W9:=⟨⟨0,[]⟩⟩;obtain⟨D,e⟩:=choose_lt B;refine⟨(List.range m).map D,by simp,M,O,⟨?_,?_⟩,by simp;omega⟩
  ·intro c s;simp only[cM,cF]at s;obtain⟨E,u,rfl⟩:=s;exact(e E u).1
  ·intro P;have len:0<m:=by
    rcases dH m with i|i
    ·subst i;simp at P
    ·exact i
   obtain⟨o,Y,spot⟩:=f;have U:spot=none:=(by simpa[Addr.add]using fq (e 0 len).2.1);subst U;have H:o<w.heap.size:=by
    have:=(e 0 len).2.1;rw[fu]at this;exact KC this
   refine⟨o,Y,rfl,H,fun j K=>?_⟩;have L:j<m:=(by simpa using K);obtain⟨_,g1,r⟩:=e j L;rw[fu]at g1 r;simp only[ey,eh];exact⟨g1,r⟩
def TO{h:Type}{x:TypeId×Value->h}{i:DataW h×List MemPlace}
  (o:DataW.trod x Tryz.prog w 0 (fun _=>true) true n 61 C=some i)(H:∀z∈i.1.weights Tryz.prog 61,z<=reachBytes):∃q:W8×Value,MP q.1/\C=[S q.1.name,N q.1.kind,N q.1.key,q.2]/\G9 w q.2 q.1.cells:=by
 obtain⟨y0,y1,y2,V,z,K,u,p,r,s,e⟩:=trod_struct4 Tryz.underlying61 o;rw[Tryz.a8]at u
 match C,u with
 | [c0,c1,c2,c3],_=>
  simp only[Tryz.az,Tryz.ax,Tryz.cq]at p r s e;obtain⟨v,k,_,U⟩:=fg Tryz.underlying9 p;obtain⟨L,l,_,P⟩:=ef Tryz.underlying3 r;obtain⟨M,m,_,T⟩:=ef Tryz.underlying3 s;simp at k l m e;subst k l m;obtain⟨b,len,c,rfl⟩:∃b len c,c3=.slice b len c:=by
   rcases open_slice Tryz.underlying59 e with⟨a,_⟩|⟨Z,ap,ac,be,z,X,Y,a,_⟩
   ·simp at a;exact⟨_,_,_,a⟩
   ·simp at a;exact⟨_,_,_,a⟩
  obtain⟨g,rfl,F,am,E,B⟩:=PY e;have G:g.length*32<=140737488351232:=by
   rcases B with o|⟨y,O,D,f⟩
   ·omega
   ·have:=H ((y.length+O.length)*Tryz.prog.bytesOf 58) (by
     rw[K];simp only[DataW.weights,Tryz.underlying61];refine DataW.weights_mem_each (j:=3) (t:=59) (d:=V.1) rfl rfl _ ?_;rw[D];simp only[DataW.weights,Tryz.underlying59];exact cC ..)
    rw[Tryz.cc,f]at this;simp only[reachBytes]at this;omega
  refine⟨⟨⟨v.data.toList,L,M,g⟩,.slice b g.length c⟩,⟨by simpa using U,ZU P,ZU T⟩,?_,⟨b,c,rfl,F,E,G⟩⟩;obtain⟨⟨t⟩⟩:=v;rfl
def Ls{p:Type}{M:TypeId×Value->p}{H:DataW p×List MemPlace}
  (i:DataW.trod M Tryz.prog w 0 (fun _=>true) true n 22 [.slice a m k]=some H)(E:∀b∈H.1.weights Tryz.prog 22,b<=reachBytes):∃o:List W8,o.length=m/\m<=k/\k<=maxLen/\P3 w a o/\o.length*56<=140737488351232:=by
 rcases open_slice Tryz.underlying22 i with⟨f,_⟩|⟨e,cd,bv,G,b,K,Pl,f,_,hl,hm,C,rfl,F⟩
 ·simp at f;obtain⟨rfl,rfl,rfl⟩:=f;exact⟨[],rfl,aA _,by decide,⟨by simp,fun i=>absurd rfl i⟩,by simp⟩
 ·simp at f;obtain⟨rfl,rfl,rfl⟩:=f;simp only[db]at C;subst C;rw[Tryz.a8]at F;have be:(m+(G-m))*56<=reachBytes:=by
   have:=E ((m+(G-m))*Tryz.prog.bytesOf 61) (by simp only[DataW.weights,Tryz.underlying22,cJ,fI];exact cC ..);rw[Tryz.bp]at this;exact this
  simp only[reachBytes]at be;have L:∀len,len<m->∃q:W8×Value,MP q.1/\w.cell? (e.add (len*4))=some (S q.1.name)/\w.cell? (e.add (len*4+1))=some (N q.1.kind)/\w.cell? (e.add (len*4+2))=some (N q.1.key)/\w.cell? (e.add (len*4+3))=some q.2/\G9 w q.2 q.1.cells:=by
   intro len P;obtain⟨bX,U,V⟩:=F len (by omega);obtain⟨q,am,rfl,hq⟩:=TO V (fun b hn=>E b (by
    simp only[DataW.weights,Tryz.underlying22];refine bA _ (gu _ (Yk (d:=K len) ?_ hn));exact cM.2 ⟨len,cF.2 P,rfl⟩))
   obtain⟨_,_,g⟩:=e9 U;have t:=g 0 (by omega);have u:=g 1 (by omega);have v:=g 2 (by omega);have r:=g 3 (by omega);rw[add_add]at t u v r;exact⟨q,am,by simpa using t,by simpa using u,by simpa using v,by simpa using r,hq⟩
  have b4:Inhabited (W8×Value):=⟨⟨⟨[],0,0,[]⟩,.bool false⟩⟩;obtain⟨O,h⟩:=choose_lt L;refine⟨(List.range m).map (fun len=>(O len).1),by simp,hl,hm,⟨?_,?_⟩,by simp;omega⟩
  ·intro c B;simp only[cM,cF]at B;obtain⟨len,P,rfl⟩:=B;exact(h len P).1
  ·intro ac;have D:0<m:=by
    rcases dH m with l|l
    ·subst l;simp at ac
    ·exact l
   obtain⟨s,bi,spot⟩:=e;have ap:spot=none:=(by simpa[Addr.add]using fq (h 0 D).2.1);subst ap;have X:s<w.heap.size:=by
    have:=(h 0 D).2.1;rw[fu]at this;exact KC this
   refine⟨s,bi,rfl,X,fun j Y=>?_⟩;have Z:j<m:=(by simpa using Y);obtain⟨_,g1,x,y,z,T⟩:=h j Z;rw[fu]at g1 x y z;simp only[ey,eh];exact⟨g1,x,y,_,z,T⟩
def OF{p:Type}{E:TypeId×Value->p}{q:DataW p×List MemPlace}
  (G:DataW.trod E Tryz.prog w 0 (fun _=>true) true n 26 C=some q)(O:∀F∈q.1.weights Tryz.prog 26,F<=reachBytes):∃(a:O') (b:Nat) (j:V6),C=[.slice a j.table.length b,N j.J.group,N j.J.aa,N j.J.R,.bool j.J.told,S j.pre,N j.draw]/\F6 w a b j/\j.table.length*56<=140737488351232:=by
 obtain⟨y0,y1,y2,y3,F,P,z,e,g,h,i⟩:=trod_struct4 Tryz.underlying26 G;rw[Tryz.bs]at z
 match C,z with
 | [c0,c1,c2,c3,c4,c5,c6],_=>
  simp only[Tryz.az,Tryz.ax,Tryz.b6,Tryz.cj]at e g h i;simp at e g h i;obtain⟨z0,z1,z2,z3,n',be,ap,k,l,m,o⟩:=trod_struct4 Tryz.underlying24 g;simp only[Tryz.az,Tryz.bo]at k l m o;simp at k l m o;obtain⟨V,r,_,Y⟩:=ef Tryz.underlying3 k;obtain⟨X,s,_,Z⟩:=ef Tryz.underlying3 l;obtain⟨U,u,_,w3⟩:=ef Tryz.underlying3 m;obtain⟨T,v,_⟩:=DataW.trod_bool Tryz.underlying4 o;obtain⟨B,f,_,ws⟩:=fg Tryz.underlying9 h;obtain⟨D,x,_,wd⟩:=ef Tryz.underlying3 i;simp at r s u v f x;subst r s u v f x;obtain⟨a,len,b,rfl⟩:∃a len b,c0=.slice a len b:=by
   rcases open_slice Tryz.underlying22 e with⟨c,_⟩|⟨a',bi,am,bv,F,ac,Pl,c,_⟩
   ·simp at c;exact⟨_,_,_,c⟩
   ·simp at c;exact⟨_,_,_,c⟩
  obtain⟨t,rfl,y,H,K,L⟩:=Ls e (fun F M=>O F (by
   rw[P];simp only[DataW.weights,Tryz.underlying26];exact DataW.weights_mem_each (j:=0) (t:=22) (d:=y0.1) rfl rfl _ M))
  refine⟨a,b,⟨t,⟨V,X,U,T⟩,B.data.toList,D⟩,?_,⟨K,aI y H,y,by simpa using ws,ZU wd,ZU Y,ZU Z,ZU w3⟩,L⟩;obtain⟨⟨t⟩⟩:=B;rfl
end
structure P0 (w:W) (a:O') (js:List V6):Prop where
 at_:js≠[]->∃b off,a=some (A b off)/\b<w.heap.size/\∀k (h:k<js.length),∃ta tc,
  w.cell? (A b (off+k*7))=some (.slice ta (js[k]).table.length tc)/\w.cell? (A b (off+k*7+1))=some (N (js[k]).J.group)/\w.cell? (A b (off+k*7+2))=some (N (js[k]).J.aa)/\w.cell? (A b (off+k*7+3))=some (N (js[k]).J.R) /\
  w.cell? (A b (off+k*7+4))=some (.bool (js[k]).J.told)/\w.cell? (A b (off+k*7+5))=some (S (js[k]).pre)/\w.cell? (A b (off+k*7+6))=some (N (js[k]).draw)/\F6 w ta tc (js[k])
variable{V:List V6}
def P0.j{d g:W}(h:P0 d a V)(f:Below d.heap.size d g):P0 g a V:=by
 refine⟨fun u=>?_⟩;obtain⟨b,w,r,c,s⟩:=h.at_ u;refine⟨b,w,r,aC c f.size,fun v t=>?_⟩;obtain⟨x,y,i,j,k,l,m,n,o,q⟩:=s v t;exact⟨x,y,(f.cell (p:=A b _) c).trans i,(f.cell (p:=A b _) c).trans j,(f.cell (p:=A b _) c).trans k,(f.cell (p:=A b _) c).trans l,(f.cell (p:=A b _) c).trans m,(f.cell (p:=A b _) c).trans n,(f.cell (p:=A b _) c).trans o,q.j f⟩
def P0.take(f:P0 w a V)(n:Nat):P0 w a (V.take n):=by
 refine⟨fun k=>?_⟩;have l:V≠[]:=by intro e;subst e;simp at k
 obtain⟨d,o,g,j,h⟩:=f.at_ l;refine⟨d,o,g,j,fun m i=>?_⟩;rw[aM]at i;rw[dL];exact h m (by omega)
def OK(a:List V6)(p:B8)(c:Int):Prop:=(∃b:Nat,∃d:b<a.length,c=(b:Int)/\(a[b]).pre=p/\∀j∈a.take b,j.pre≠p)\/(c=-1/\∀j∈a,j.pre≠p)
def Ih(p:B8)(a:W):C' 104 #[S p] a fun e b=>e=.returned (.func (.func 165) #[] #[(Q a.heap.size 0)])/\b.cell? (A a.heap.size 0)=some (S p)/\a.heap.size<b.heap.size/\Below a.heap.size a b:=by
 have i:∀(d:Fn) (first c:V') (a:W),(Instr.makeFunc d first c).run Tryz.prog a=.ok (.func d first c) a:=fun _ _ _ _=>rfl;obtain⟨f,g,h,_⟩:=jJ a #[S p] 9;go_enter Tryz.func104,Tryz.ntmps104;go_wp2;go_ret;exact⟨rfl,h 0,g,f⟩
def BV(e:Value)(j:V6)(p:B8)(b:Nat)(a:W)(d:a.cell? (A b 0)=some (S p)):C' 165 #[D0 e j,(Q b 0)] a fun c f=>c=.returned (.bool (j.pre==p))/\Below a.heap.size a f:=by
 have g:=aZ a _ d;go_enter Tryz.func165,Tryz.ntmps165;go_wp2;go_ret;exact⟨rfl,(k8 _ _).alloc (aA _) _⟩
def EV(u:O')(F:Nat)(a:List V6)(p:B8)(h:Nat)(d:W)(H:a.length<=maxLen)(y:P0 d u a)(o:d.cell? (A h 0)=some (S p)):C' 103 #[.slice u a.length F,.func (.func 165) #[] #[(Q h 0)]] d fun v P=>(∃C,v=.returned (N C)/\OK a p C)/\Below d.heap.size d P:=by
 have D:=I y;have E:=I o;have G:=aZ d _ o;clear y o;unfold maxLen at H;go_enter Tryz.func103,Tryz.ntmps103;go_wp2;go_loopw [8] (fun r wr=>∃b:Nat,b<=a.length/\r=N b/\(∀j∈a.take b,j.pre≠p)/\Below d.heap.size d wr) (fun r _=>a.length-(intOf r).toNat)
 case atStart=>exact⟨0,aG _,rfl,(by simp),k8 _ _⟩
 case round=>
  obtain⟨b,V,rfl,B,g⟩:=hrel;have m:=I B;clear B;by_cases q:b<a.length
  ·obtain⟨T,Y,rfl,U,x⟩:=(D.o.j g).at_ (aE (by omega));obtain⟨M,O,c0,c1,c2,c3,c4,c5,c6,_⟩:=x b q;have z:=(g.cell (p:=A h 0) G).trans E.o;have t:=I (BV (.slice M (a[b]).table.length O) a[b] p h wr z);have X:(b:Int)<(a.length:Int):=(by omega);have k:J ((a[b]).pre≠p->∀j∈a.take (b+1),j.pre≠p):=by
    intro K j e;rw[aH q,aX]at e;rcases e with e|e
    ·exact m.o j e
    ·simp only[bD,bH,dm]at e;subst e;exact K
   have l:J ((a[b]).pre=p->OK a p (b:Int)):=fun c=>.inl ⟨b,q,rfl,c,m.o⟩;clear x;generalize a[b]=i at *;generalize i.table.length=n at *;go_wp2_with fail;refine t.o.mono ?_;rintro v Z ⟨rfl,w⟩;have s:=I (g.trans (w.mono g.size));clear t w c0 c1 c2 c3 c4 c5 c6 z;by_cases c:i.pre=p
   ·have L:(i.pre==p)=true:=(by simp[c]);have f:=I (l.o c);clear c l k;go_wp2;go_ret;exact⟨⟨_,rfl,f.o⟩,s.o⟩
   ·have L:(i.pre==p)=false:=(by simpa using c);have f:=I (k.o c);clear c l k;go_wp2;go_roundw
    ·exact⟨b+1,by omega,by go_num,f.o,s.o⟩
    ·simp[intOf];omega
  ·have f:J (OK a p (-1)):=.inr ⟨rfl,by have:=m.o;rw[aU (by omega)]at this;exact this⟩;go_wp2;go_ret;exact⟨⟨_,rfl,f.o⟩,g⟩
def IN(g:O')(i:Nat)(a:List V6)(p:B8)(d:Nat)(b:W)(o:a.length<=maxLen)(n:P0 b g a)(k:b.cell? (A d 0)=some (S p)):C' 152 #[.slice g a.length i,.func (.func 165) #[] #[(Q d 0)]] b fun h r=>((h=.returned (.bool true)/\∃j∈a,j.pre=p)\/(h=.returned (.bool false)/\∀j∈a,j.pre≠p))/\Below b.heap.size b r:=by
 have e:=I (EV g i a p d b o n k);clear n k o;go_enter Tryz.func152,Tryz.ntmps152;go_wp2_with fail;refine e.o.mono ?_;rintro h u ⟨⟨t,rfl,⟨q,m,rfl,c,_⟩|⟨rfl,c⟩⟩,l⟩
 ·have f:J (∃j∈a,j.pre=p):=⟨a[q],aJ m,c⟩;have s:(0:Int)<=(q:Int):=by omega
  clear c m e;go_wp2;go_ret;exact⟨.inl ⟨rfl,f.o⟩,l⟩
 ·have f:=I c;clear c e;go_wp2;go_ret;exact⟨.inr ⟨rfl,f.o⟩,l⟩
def Vn(a:List V6):Prop:=∀b (c:b<a.length),∀j∈a.take b,j.pre≠(a[b]).pre
def FV(P:O')(i:Nat)(b:List V6)(m:W)(hm:b.length<=8)(hc:b.length<=i)(hl:P0 m P b):C' 93 #[.slice P b.length i] m fun f e=>((f=.returned (.bool true)/\¬Vn b)\/(f=.returned (.bool false)/\Vn b))/\Below m.heap.size m e:=by
 have Hl:=I hl;clear hl;go_enter Tryz.func93,Tryz.ntmps93;go_wp2;go_loopw [7] (fun F wr=>∃a:Nat,a<=b.length/\F=N a/\(∀d (k:d<a) (z:d<b.length),∀j∈b.take d,j.pre≠(b[d]).pre)/\Below m.heap.size m wr) (fun F _=>b.length-(intOf F).toNat)
 case atStart=>exact⟨0,aG _,rfl,(fun d k=>by omega),k8 _ _⟩
 case round=>
  obtain⟨a,hk,rfl,ht,q⟩:=hrel;have M:=I ht;clear ht;by_cases am:a<b.length
  ·have dd:(a:Int)<(b.length:Int):=(by omega);have L:=I (Hl.o.j q);obtain⟨T,bX,rfl,co,Y⟩:=L.o.at_ (aE (by omega));obtain⟨ta,tc,c0,c1,c2,c3,c4,c5,c6,_⟩:=Y a am;clear Y;have x:J ((∃j∈b.take a,j.pre=(b[a]).pre)->¬Vn b):=fun⟨j,hj,he⟩ cd=>cd a am j hj he;have w:J ((∀j∈b.take a,j.pre≠(b[a]).pre)->∀d (k:d<a+1) (z:d<b.length),∀j∈b.take d,j.pre≠(b[d]).pre):=by
    intro r d be z;by_cases f:d=a
    ·subst f;exact r
    ·exact M.o d (by omega) z
   have E:(b.take a).length=a:=(by rw[aM];omega);have v:=I (fun e h (B:Below wr.heap.size wr e) (r:e.cell? (A h 0)=some (S (b[a]).pre))=>IN (some (A T bX)) i (b.take a) (b[a]).pre h e (by rw[E];unfold maxLen;omega) ((L.o.take a).j B) r);rw[E]at v;clear E;generalize hJ:b[a]=c at *;clear hJ;generalize c.table.length=n at *;go_upto_region 4 with fail;clear c0 c1 c2 c3 c4 c5 c6;obtain⟨t,bv,_,ac⟩:=jJ wr #[.slice ta n tc,N c.J.group,N c.J.aa,N c.J.R,.bool c.J.told,S c.pre,N c.draw] 26;generalize wr.alloc (.cells #[.slice ta n tc,N c.J.group,N c.J.aa,N c.J.R,.bool c.J.told,.string ⟨c.pre.toArray⟩,N c.draw] 26)=s at *;have z5:s.cell? (A wr.heap.size 5)=some (S c.pre):=(by rw[jb ac];rfl);have G:=I (q.trans (t.mono q.size));have ap:wr.heap.size<s.heap.size:=bv;have K:J (∀e h,Below s.heap.size s e->e.cell? (A h 0)=some (S c.pre)->C' 152 #[.slice (some (A T bX)) a i,.func (.func 165) #[] #[(Q h 0)]] e fun f u=>∃bb,f=.returned (.bool bb)/\((bb=true/\∃j∈b.take a,j.pre=c.pre)\/(bb=false/\∀j∈b.take a,j.pre≠c.pre))/\Below e.heap.size e u):=by
    intro e h B r;refine(v.o e h (t.trans (B.mono t.size)) r).mono ?_;rintro f u ⟨⟨rfl,k⟩|⟨rfl,k⟩,g⟩
    ·exact⟨true,rfl,.inl ⟨rfl,k⟩,g⟩
    ·exact⟨false,rfl,.inr ⟨rfl,k⟩,g⟩
   clear ac t bv v q;generalize ci:wr.heap.size=l at *;clear ci;have cs:(0:Int)<=(a:Int):=(by omega);have da:(a:Int)<=(i:Int):=(by omega);have dl:((a:Int)).toNat=a:=(by omega);have dr:¬((a:Int)=(i:Int)):=(by omega);have Z:s.drew.cell? (A l 5)=some (S c.pre):=z5;go_region_held3 (fun e=>e.cell? (A l 5)=some (S c.pre))
    (first|with_reducible exact O|with_reducible exact y|with_reducible exact Z)
    (first
     | (go_at_call 104;refine(Ih c.pre _).mono ?_;rintro f u ⟨rfl,bi,_,g⟩;have y:u.cell? (A l 5)=some (S c.pre):=(g.cell (p:=A l 5) ap).trans z5)
     | (go_at_call 152;refine(K.o _ _ (jg g) bi).mono ?_;rintro f w5 ⟨bb,rfl,ce,D⟩;have O:w5.cell? (A l 5)=some (S c.pre):=(D.cell (p:=A l 5) (aC ap g.size)).trans y))
   rename_i b4;clear b4;have C:=jg g;have X:=G.o.trans ((C.trans (D.mono C.size)).mono G.o.size);have H:=I X;clear g D C X O y Z K bi;rcases ce with⟨rfl,V⟩|⟨rfl,U⟩
   ·have o:=I (x.o V);clear V x w;go_wp2;go_ret;exact⟨.inl ⟨rfl,o.o⟩,H.o⟩
   ·have o:=I (w.o U);clear U x w;go_wp2;go_roundw
    ·exact⟨a+1,by omega,by go_num,o.o,H.o⟩
    ·simp[intOf];omega
  ·have o:J (Vn b):=fun d be=>M.o d (by omega) be;go_wp2;go_ret;exact⟨.inr ⟨rfl,o.o⟩,q⟩
def xE(a:List V6)(b:List W9):List V5:=a.flatMap fun j=>Xu j b
def JY(a:List V6)(b:List W9):Prop:=a.length<=8/\Vn a/\∀j∈a,xp j b=0
def Ve(a b:List V5):qg (a++b)=qg a++qg b:=by simp[qg]
variable{C:List Value}
def Nj(f:w.ownsRow n m k (R g i c) i C):∀j b,C[j]?=some b->w.cell? (((A g 0):Addr).add j)=some b:=by
 intro j b d;have l:=(aV.1 d).1;have size:=f.1;have m:((A g 0):Addr).add j=(A g j):=by simp[Addr.add];omega
 rw[m,f.cellAt j (by omega)];exact d
def DI(F:O')(G:Nat)(a:List V6)(T:O')(co:Nat)(b:List W9)(f:W)(hm:a.length<=maxLen)(hc:a.length<=G)(hl:P0 f F a)(hr:U2 f T b)(ce:b.length<=maxLen):C' 41 #[.slice F a.length G,.slice T b.length co] f fun u w'=>((¬JY a b/\u=.returned (.tuple #[.slice none 0 0,N 10]))\/(JY a b/\∃y,u=.returned (.tuple #[y,N 0])/\w'.ownsRow f.heap.size 40 4 y (xE a b).length (qg (xE a b))/\(xE a b).length<=800000))/\Below f.heap.size f w':=by
 obtain⟨i0,hi,d8,ea,ec⟩:=ks Tryz.ak;have Hl:=I hl;have Hr:=I hr;have d2:=I ce;clear hl hr ce;unfold maxLen at hm;by_cases w:a.length<=8
 ·have d3:¬(8:Int)<(a.length:Int):=by omega
  have D:=I (FV F G a f w hc Hl.o);go_enter Tryz.func41,Tryz.ntmps41;go_wp2_with fail;refine D.o.mono ?_;rintro u s ⟨⟨rfl,o⟩|⟨rfl,o⟩,p⟩
  ·have h:J (¬JY a b):=fun e=>o e.2.1;clear o D;go_wp2;go_ret2;exact⟨.inl ⟨h.o,rfl⟩,p⟩
  ·have cs:=I o;have d0:=I (Hl.o.j p);have d1:=I (Hr.o.j p);have m:=I p;clear o D p;go_wp2;go_loopw [6,21] (fun v P wr=>∃c:Nat,c<=a.length/\P=N c/\(∀j∈a.take c,xp j b=0)/\wr.ownsRow s.heap.size 40 4 v (xE (a.take c) b).length (qg (xE (a.take c) b))/\(xE (a.take c) b).length<=100000*c/\Below s.heap.size s wr) (fun _ P _=>a.length-(intOf P).toNat)
   case atStart=>exact⟨0,aG _,rfl,(by simp),kg _ _ _ _,aA _,k8 _ _⟩
   case round=>
    obtain⟨c,hk,rfl,ht,b4,bX,H⟩:=hrel;have E:=I ht;have t:=I b4;have z:=I H;clear ht b4;by_cases L:c<a.length
    ·have er:(c:Int)<(a.length:Int):=(by omega);obtain⟨eg,eM,rfl,eq,be⟩:=(d0.o.j H).at_ (aE (by omega));obtain⟨U,V,c0,c1,c2,c3,c4,c5,c6,ap⟩:=be c L;have am:=I (aH L);have dr:J (a[c]∈a):=aJ L;clear be H;generalize hJ:a[c]=d at *;clear hJ;have B:=I ap;have X:J (xp d b=0->P6 d b):=fun e=>Uh e (Gd B.o.table);clear ap;go_upto_region 7 with fail;clear c0 c1 c2 c3 c4 c5 c6;obtain⟨x,d7,_,bv⟩:=jJ wr #[.slice U d.table.length V,N d.J.group,N d.J.aa,N d.J.R,.bool d.J.told,S d.pre,N d.draw] 26;generalize wr.alloc (.cells #[.slice U d.table.length V,N d.J.group,N d.J.aa,N d.J.R,.bool d.J.told,.string ⟨d.pre.toArray⟩,N d.draw] 26)=w3 at *;obtain⟨⟨z0,z1,z2,z3,z4,z5,z6⟩,_⟩:=XW bv;have n:=I (z.o.trans (x.mono z.o.size));have HW:=I (Sk U V T co b d w3 (B.o.j x) (d1.o.j n.o) d2.o);have ac:=I (jy t.o x);clear bv x d7 B t;go_wp2_with fail;refine HW.o.mono ?_;clear z0 z1 z2 z3 z4 z5 z6 HW;rintro u w4 ⟨q,⟨M,rfl⟩|⟨O,y,rfl,K⟩⟩
     ·have h:J (¬JY a b):=fun e=>M (e.2.2 d dr.o);have k:=I (m.o.trans ((n.o.trans (q.mono n.o.size)).mono m.o.size));have ev:(xp d b !=0)=true:=(by simpa using M);clear M q;go_wp2;go_ret2;exact⟨.inl ⟨h.o,rfl⟩,k.o⟩
     ·have es:=(X.o O).cl;have eC:=CX d b;have dW:J (∀j∈a.take (c+1),xp j b=0):=by
       intro j i;rw[am.o,aX]at i;rcases i with i|i
       ·exact E.o j i
       ·simp only[bD,bH,dm]at i;subst i;exact O
      have Y:J (xE (a.take (c+1)) b=xE (a.take c) b++Xu d b):=by
       show xE (a.take (c+1)) b=_;rw[am.o];simp[xE]
      obtain⟨g,r,rfl⟩:∃g r,y=R g (Xu d b).length r:=by
       rcases K.2 with⟨_,h0⟩|⟨g,r,em,e,_⟩
       ·omega
       ·exact⟨g,r,e⟩
      have C:=I (jy ac.o q);have Z:=I K;have k:=I (n.o.trans (q.mono n.o.size));have ci:=k.o.size;have dT:=I (ZG (Xu d b));have dv:=I (Va (l:=Xu d b));clear O K q ac E X;generalize d5:xE (a.take c) b=Lk at *;generalize d4:Xu d b=Lj at *;clear d5 d4;go_wp2_with(at_builtin;refine ko _ rfl (.tmp 34) (.tmp 35) 28 rfl s.heap.size 40 i0 _ 4 64 Tryz.underlying28 hi d8 ea ec rfl (by decide) _ _ _ rfl C.o (A g 0) Lj.length r (qg Lj) rfl dT.o (Nj Z.o) dv.o (by unfold maxLen;omega) (by omega) ci ?_);intro v2 w5 cd bi _;have da:=I (k.o.grown bi ci (fun c hk=>(C.o.lt c hk).1));have ds:J (w5.ownsRow s.heap.size 40 4 v2 (xE (a.take (c+1)) b).length (qg (xE (a.take (c+1)) b))):=by
       show w5.ownsRow _ _ _ _ _ _;rw[Y.o,Ve,aB];exact cd
      have dd:J ((xE (a.take (c+1)) b).length<=100000*(c+1)):=by
       show(xE (a.take (c+1)) b).length<=100000*(c+1);rw[Y.o,aB];omega
      clear cd bi C Z;go_wp2;go_roundw
      ·exact⟨c+1,by omega,by go_num,dW.o,ds.o,dd.o,da.o⟩
      ·simp[intOf];omega
    ·have d6:c=a.length:=(by omega);subst d6;have h:J (JY a b):=⟨w,cs.o,by have:=E.o;rw[aS]at this;exact this⟩;have HO:J (wr.ownsRow f.heap.size 40 4 u6 (xE a b).length (qg (xE a b))):=by
      have:=NG t.o m.o.size;rw[aS]at this;exact this
     have k:=I (m.o.trans (z.o.mono m.o.size));have dl:J ((xE a b).length<=800000):=by
      rw[aS]at bX;show(xE a b).length<=800000;omega
     obtain⟨va,vc,rfl⟩:=jt HO.o;clear t bX;go_wp2;go_ret2;exact⟨.inr ⟨h.o,_,rfl,HO.o,dl.o⟩,k.o⟩
 ·have d3:(8:Int)<(a.length:Int):=by omega
  have h:J (¬JY a b):=fun e=>w e.1;clear w;go_enter Tryz.func41,Tryz.ntmps41;go_wp2;go_ret2;exact⟨.inl ⟨h.o,rfl⟩,k8 _ _⟩
def AL{q g:Nat}{o:Obj}(a:q≠g)(h:w.heap[q]?=some o)(b c d e:Value):((((w.setCell (A g 0) b).setCell (A g 1) c).setCell (A g 2) d).setCell (A g 3) e).heap[q]?=some o:=by
 rw[kA _ (A g 3) q e a,kA _ (A g 2) q d a,kA _ (A g 1) q c a,kA _ (A g 0) q b a];exact h
variable{F:TypeId}
def Gj{q:Nat}{f g c h b d:Value}(e:w.heap[q]?=some (.cells #[f,g,c,h,b,d] F (0,0))):w.cell? (A q 4)=some b/\w.cell? (A q 5)=some d:=⟨by rw[jb e];rfl,by rw[jb e];rfl⟩
def XP(b:w.heap[n]?=some (.cells #[x,y,z,q] F (0,0))):(w.cell? (A n 0)=some x/\w.cell? (A n 1)=some y/\w.cell? (A n 2)=some z/\w.cell? (A n 3)=some q)/\w.frozen? (A n 0)=false/\w.frozen? (A n 1)=false/\w.frozen? (A n 2)=false/\w.frozen? (A n 3)=false:=⟨Jc b,kh w n 0 _ _ b,kh w n 1 _ _ b,kh w n 2 _ _ b,kh w n 3 _ _ b⟩
def IT{o:Obj}(d:Below (w.alloc o).drew.heap.size (w.alloc o).drew v):Below w.heap.size w v:=by
 have c:Below w.heap.size w (w.alloc o):=(k8 _ _).alloc (aA _) o;have e:Below (w.alloc o).heap.size (w.alloc o) v:=jg d;exact c.trans (e.mono c.size)
def Yz(sort:B8)(g c p:Int)(b d:B8)(t:O')(L:Nat)(e:List W9)(key:Int)(h:B8)(a:W)(ap:e.length<=maxLen)(be:(jh e key).length<=1000)(K:U2 a t e):C' 168 #[.agg #[S sort,N g,N c,N p,S b,S d],.slice t e.length L,N key,S h] a fun r k=>r=.returned (P7 ⟨jh e key,b,h,d⟩)/\Below a.heap.size a k:=by
 obtain⟨s,bi,G,H⟩:=QB a #[S sort,N g,N c,N p,S b,S d] 113 #[S [],S [],S [],S []] 40;go_enter Tryz.func168,Tryz.ntmps168;go_wp2_with fail;have y:=I (K.j s);have w:=I s;have U:=I G;have V:=I H;clear K s G H;generalize (a.alloc _).alloc _=w0 at *;refine(Zt t L e key w0 ap y.o).mono ?_;rintro r l ⟨rfl,j⟩;generalize jG e key=hk at *;generalize F:jh e key=f at *;have T:=I F;clear F;have u:=I (w.o.trans (j.mono w.o.size));have x:=I (jd j U.o);have X:=I (jd j V.o);clear j y;go_upto_region 2 with fail;have B:l.drew.cell? (A a.heap.size 4)=some (S b)/\l.drew.cell? (A a.heap.size 5)=some (S d):=Gj x.o;have m:(l.alloc (.cells #[S f] 9)).drew.heap[a.heap.size]?=some (.cells #[S sort,N g,N c,N p,S b,S d] 113 (0,0)):=jo _ x.o;have z:(l.alloc (.cells #[S f] 9)).drew.heap[a.heap.size+1]?=some (.cells #[S [],S [],S [],S []] 40 (0,0)):=jo _ X.o;have C:=Gj m;go_region_held3 (fun k=>k.cell? (A a.heap.size 4)=some (S b)/\k.cell? (A a.heap.size 5)=some (S d))
  (first|with_reducible exact E|with_reducible exact D|with_reducible exact C|with_reducible exact B)
  (first
   | (go_at_call 194;refine(TW f _ _ be ?_).mono ?_;exact kH _ _;rintro r w2 ⟨rfl,i⟩;have n:=jd i m;have o:=jd i z;have D:=Gj n;have E:=Gj (AL (q:=a.heap.size) (g:=a.heap.size+1) (by omega) n (S f) (S b) (S h) (S d));obtain⟨⟨x0,x1,x2,x3⟩,f0,f1,f2,f3⟩:=XP o))
 rename_i ac;clear ac;have am:=jg i;have M:=I (u.o.trans ((IT i).mono u.o.size));have P:=I (Yc o (S f) (S b) (S h) (S d));have O:=I ((((M.o.setCell (p:=A (a.heap.size+1) 0) (by simp) (S f)).setCell (p:=A (a.heap.size+1) 1) (by simp) (S b)).setCell (p:=A (a.heap.size+1) 2) (by simp) (S h)).setCell (p:=A (a.heap.size+1) 3) (by simp) (S d));clear B C D E x0 x1 x2 x3 f0 f1 f2 f3 m n z o i am;go_wp2;generalize (((w2.setCell _ _).setCell _ _).setCell _ _).setCell _ _=K0 at *;obtain⟨Y,Z,e2,e3⟩:=Jc P.o;exact kk (v:=P7 ⟨f,b,h,d⟩) (by simp[results,Tryz.results168,go_sem,Y,Z,e2,e3]) rfl ⟨by rw[T.o],O.o⟩
def jdf(q:Nat)(b:U0)(a:W):Prop:=a.cell? (A q 0)=some (N b.R)/\a.cell? (A q 1)=some (.bool b.told)/\a.cell? (A q 2)=some (S b.footer)/\a.cell? (A q 3)=some (S [if b.told=true then 83 else 70])/\a.cell? (A q 4)=some (N 0)/\a.cell? (A q 5)=some (N 0)/\a.cell? (A q 6)=some (N 0)/\a.cell? (A q 7)=some (S b.I)/\a.cell? (A q 8)=some (S b.body)/\a.cell? (A q 9)=some (S (qw b))
variable{Z:V7}
def MJ{b:U0}(a:w.heap[n]?=some (.cells (xq Z b x y m) F (0,0))):jdf n b w:=⟨by rw[jb a];rfl,by rw[jb a];rfl,by rw[jb a];rfl,by rw[jb a];rfl,by rw[jb a];rfl,by rw[jb a];rfl,by rw[jb a];rfl,by rw[jb a];rfl,by rw[jb a];rfl,by rw[jb a];rfl⟩
def ID(h:V7)(a:U0)(cv i:Value)(f:Nat)(B:O')(Y:Nat)(e:List W9)(pre:B8)(b:W)(co:(xq h a cv i f).size=18)(dl:(xq h a cv i f).all (·.oneCell')=true)(P:pre.length<=20)(O:a.footer.length<=5000)(V:e.length<=maxLen)(X:(jh e (a.R:Int)).length<=1000)(U:U2 b B e):C' 108 #[.agg (xq h a cv i f),.slice B e.length Y,S pre] b fun k c=>k=.returned (P7 ⟨jh e (a.R:Int),a.I,qu pre a,a.body⟩)/\Below b.heap.size b c:=by
 have be:J (∀c:W,C' 169 #[.agg #[N a.R,.bool a.told,S a.footer,S [if a.told=true then 83 else 70],N 0,N 0,N 0,S a.I,S a.body,S (qw a)],S pre] c fun k s=>k=.returned (S (qu pre a))/\Below c.heap.size c s):=fun c=>GD a pre c P O;obtain⟨M,dr,z,T⟩:=QB b (xq h a cv i f) 120 #[S [],S [],S [],S []] 40;have bv:=I (fun(c:W) (hb:Below b.heap.size b c)=>Yz [if a.told=true then 83 else 70] 0 0 0 a.I a.body B Y e (a.R:Int) (qu pre a) c V X (U.j hb));have b4:J (∀C,C=qu pre a->P7 ⟨jh e (a.R:Int),a.I,C,a.body⟩=P7 ⟨jh e (a.R:Int),a.I,qu pre a,a.body⟩):=fun C x=>by rw[x]
 have bX:=I T;have ap:=I (MJ z);have D:=I z;have m:=I M;have dd:(Tryz.prog.info? 120).map (·.size)=some (xq h a cv i f).size:=by rw[co];kernel_rfl
 clear U M z T X V P O b4;have j:=I (fun(c:W) (x:c.heap[b.heap.size]?=some (.cells (xq h a cv i f) 120 (0,0)))=>MJ x);unfold jdf at j;generalize cd:xq h a cv i f=CC at *;clear cd ap;generalize (if a.told=true then(83:UInt8)else 70)=Z at *;generalize K:qu pre a=n at *;have cs:=I K;generalize L:jh e (a.R:Int)=r at *;have da:=I L;clear K L;go_enter Tryz.func108,Tryz.ntmps108;go_wp2_with fail;generalize (b.alloc _).alloc _=d at *;have E:d.drew.cell? (A b.heap.size 0)=some (N a.R)/\d.drew.cell? (A b.heap.size 1)=some (.bool a.told)/\d.drew.cell? (A b.heap.size 2)=some (S a.footer)/\d.drew.cell? (A b.heap.size 3)=some (S [Z])/\d.drew.cell? (A b.heap.size 4)=some (N 0)/\d.drew.cell? (A b.heap.size 5)=some (N 0)/\d.drew.cell? (A b.heap.size 6)=some (N 0)/\d.drew.cell? (A b.heap.size 7)=some (S a.I)/\d.drew.cell? (A b.heap.size 8)=some (S a.body)/\d.drew.cell? (A b.heap.size 9)=some (S (qw a)):=j.o d D.o;have ci:b.heap.size≠b.heap.size+1:=by omega
 go_region_held3 (fun c=>c.cell? (A b.heap.size 0)=some (N a.R)/\c.cell? (A b.heap.size 1)=some (.bool a.told)/\c.cell? (A b.heap.size 2)=some (S a.footer)/\c.cell? (A b.heap.size 3)=some (S [Z])/\c.cell? (A b.heap.size 4)=some (N 0)/\c.cell? (A b.heap.size 5)=some (N 0)/\c.cell? (A b.heap.size 6)=some (N 0)/\c.cell? (A b.heap.size 7)=some (S a.I)/\c.cell? (A b.heap.size 8)=some (S a.body)/\c.cell? (A b.heap.size 9)=some (S (qw a)))
  (first|with_reducible exact H|with_reducible exact G|with_reducible exact F|with_reducible exact E)
  (first
   | (go_at_call 169;refine(be.o _).mono ?_;rintro k w1 ⟨rfl,l⟩;have t:=jd (jg l) D.o;have F:=j.o w1 t)
   | (go_at_call 168;refine(bv.o _ (m.o.trans ((jg l).mono m.o.size))).mono ?_;rintro k s ⟨rfl,o⟩;have u:=jd o t;have G:=j.o s u;have w:=jd o (jd (jg l) bX.o);have H:=j.o _ (AL (q:=b.heap.size) (g:=b.heap.size+1) ci u (S r) (S a.I) (S n) (S a.body));obtain⟨⟨x0,x1,x2,x3⟩,f0,f1,f2,f3⟩:=XP w))
 rename_i ce;clear ce;have y:=jg l;have ac:=I (m.o.trans ((y.trans (o.mono y.size)).mono m.o.size));have bi:=I (Yc w (S r) (S a.I) (S n) (S a.body));have am:=I ((((ac.o.setCell (p:=A (b.heap.size+1) 0) (by simp) (S r)).setCell (p:=A (b.heap.size+1) 1) (by simp) (S a.I)).setCell (p:=A (b.heap.size+1) 2) (by simp) (S n)).setCell (p:=A (b.heap.size+1) 3) (by simp) (S a.body));clear E F G H x0 x1 x2 x3 f0 f1 f2 f3 t u w l o y;go_wp2;generalize (((s.setCell _ _).setCell _ _).setCell _ _).setCell _ _=K0 at *;obtain⟨e0,e1,e2,e3⟩:=Jc bi.o;exact kk (v:=P7 ⟨r,a.I,n,a.body⟩) (by simp[results,Tryz.results108,go_sem,e0,e1,e2,e3]) rfl ⟨rfl,am.o⟩
def WP(a:B8)(b:W)(d:a.length<=1000000):C' 146 #[S a] b fun c e=>c=.returned (S (xB a))/\Below b.heap.size b e:=LY ⟨a.toArray⟩ b (by rw[jT];exact d)
def Kt(pre:B8)(sort:UInt8)(g c p:Nat)(b:W)(x:pre.length<=20)(w:g<=65535)(v:c<=65535)(y:p<=65535):C' 86 #[S pre,S [sort],N g,N c,N p] b fun a m=>a=.returned (S (jz pre sort g c p))/\Below b.heap.size b m:=by
 have k:J (jz pre sort g c p=xB pre++[sort]++qh (g:Int)++qh (c:Int)++qh (p:Int)):=rfl;have z:(xB pre).length<=40:=by have:=jO pre.length (by omega);simp only[xB,aB];omega
 have t:(qh (g:Int)).length<=2:=cO (jx (g:Int));have s:(qh (c:Int)).length<=2:=cO (jx (c:Int));have u:(qh (p:Int)).length<=2:=cO (jx (p:Int));go_enter Tryz.func86,Tryz.ntmps86;go_wp2_with fail;refine(WP pre b (by omega)).mono ?_;rintro a B ⟨rfl,f⟩;go_wp2_with fail;refine(Jg (g:Int) _ (by omega) (by omega)).mono ?_;rintro a C ⟨rfl,h⟩;go_wp2_with fail;refine(Jg (c:Int) _ (by omega) (by omega)).mono ?_;rintro a D ⟨rfl,i⟩;go_wp2_with fail;refine(Jg (p:Int) _ (by omega) (by omega)).mono ?_;rintro a E ⟨rfl,j⟩;have d:=f.trans (h.mono f.size);have e:=d.trans (i.mono d.size);have l:=I (e.trans (j.mono e.size));clear f h i j d e;generalize xB pre=r at *;generalize qh (g:Int)=o at *;generalize qh (c:Int)=n at *;generalize qh (p:Int)=q at *;go_wp2;go_ret;exact⟨by rw[k.o];simp[xh],l.o⟩
def jas(kind:Int)(b:List Z9)(a:kind≠0\/jk b=[]):JD kind b=uB (b.length-(jk b).length)++[0]:=by
 unfold JD;rw[aL (by rintro⟨c,d⟩;rcases a with a|a;exact a c;exact d a)]
def Su(a:List Z9)(b:jk a≠[]):JD 0 a=uB (a.length-(jk a).length)++([1]++zB (JF (jk a) (xe (jk a)))++zB (Xx (jk a) (xe (jk a)))):=by
 unfold JD;rw[aQ ⟨rfl,b⟩]
variable{D:List Z9}
def jdr(b:0<D.length):xe D=(D[0]).int:=by
 cases D with
 | nil=>simp at b
 | cons c D=>rfl
def Cv(a:List Z9)(b:Nat)(d:b<a.length)(c:Int):JF (a.take (b+1)) c=if(a[b]).int<JF (a.take b) c then(a[b]).int else JF (a.take b) c:=by
 unfold JF;rw[aH d,eE];rfl
def PP(a:List Z9)(b:Nat)(d:b<a.length)(c:Int):Xx (a.take (b+1)) c=if Xx (a.take b) c<(a[b]).int then(a[b]).int else Xx (a.take b) c:=by
 unfold Xx;rw[aH d,eE];rfl
def YB(kind:Int)(y:O')(Y:Nat)(a:List Z9)(o:W)(hn:a.length<=60)(F:∀c∈a,qI c)(hl:T3 o y a):C' 145 #[N kind,.slice y a.length Y] o fun l w'=>l=.returned (S (JD kind a))/\Below o.heap.size o w':=by
 have X:=I hl;have Hs:=I F;have d5:(jk a).length<=a.length:=du _ _;have r:J (∀c∈jk a,qI c):=fun c h=>F c (dn.1 h).1;clear hl F;go_enter Tryz.func145,Tryz.ntmps145;go_wp2_with fail;refine(Is y Y a o (by omega) X.o).mono ?_;rintro l w1 ⟨v,rfl,be,ac⟩;obtain⟨va,vc,rfl,_,bv⟩:=QZ be (fun c h=>X.o.ok c (dn.1 h).1);have s:=I bv;have O:=I ac;clear be bv ac;have dl:IntKind.i64.wrap ((a.length:Int)-((jk a).length:Int))=((a.length-(jk a).length:Nat):Int):=by rw[kE];omega
 have dr:IntKind.u64.wrap ((a.length-(jk a).length:Nat):Int)=((a.length-(jk a).length:Nat):Int):=Qw (by omega) (by omega);have d4:=jO (a.length-(jk a).length) (by omega);go_wp2_with fail;refine(Bg (a.length-(jk a).length) _ (by omega)).mono ?_;rintro l w2 ⟨rfl,B⟩;have p:=I (O.o.trans (B.mono O.o.size));have t:=I (s.o.j B);clear B dl dr;by_cases n:kind=0/\jk a≠[]
 ·obtain⟨rfl,i⟩:=n;have q:=I (Su a i);have bX:=dO.2 i;have ds:(((jk a).length:Int)==0)=false:=by simp;omega
  have dW:(0:Int)<((jk a).length:Int):=by omega
  obtain⟨b,d6,rfl,d1,C⟩:=t.o.at_ i;have x:=(C 0 bX).2.1;simp only[eX,dD]at x;have P:=I (jdr bX);rw[<-P.o]at x;have D:=QY _ r.o;have T:=I (fun b=>Ug ((jk a).take b) (fun c h=>r.o c (bP h)) _ D);have V:=I (fun b=>Vd ((jk a).take b) (fun c h=>r.o c (bP h)) _ D);have ci:=I C;have cd:=I (Cv (jk a));have ce:=I (PP (jk a));clear C D i s t P;generalize Z:jk a=d at *;generalize cs:xe d=F0 at *;have dv:=I Z;clear Z cs;go_wp2_with fail;go_loopw [7,8,9] (fun lo da G wr=>∃b:Nat,b<=d.length/\G=N b/\lo=N (JF (d.take b) F0)/\da=N (Xx (d.take b) F0)/\wr=w2) (fun _ _ G _=>d.length-(intOf G).toNat)
  case atStart=>exact⟨0,aG _,rfl,rfl,rfl,rfl⟩
  case round=>
   obtain⟨b,d3,rfl,rfl,rfl,rfl⟩:=hrel;by_cases E:b<d.length
   ·have d2:(b:Int)<(d.length:Int):=(by omega);have g2:=(ci.o b E).2.1;have u:=I (cd.o b E F0);have w:=I (ce.o b E F0);obtain⟨H,K⟩:=T.o b;obtain⟨L,M⟩:=V.o b;generalize JF (d.take b) F0=k at *;generalize Xx (d.take b) F0=e at *;generalize (d[b]).int=j at *;clear x;by_cases m:j<k
    ·by_cases g:e<j
     ·go_wp2;go_roundw
      ·exact⟨b+1,by omega,by go_num,by rw[u.o,aQ m],by rw[w.o,aQ g],by simp⟩
      ·simp[intOf];omega
     ·have co:¬e<j:=g;go_wp2;go_roundw
      ·exact⟨b+1,by omega,by go_num,by rw[u.o,aQ m],by rw[w.o,aL g],by simp⟩
      ·simp[intOf];omega
    ·have d0:¬j<k:=m;by_cases g:e<j
     ·go_wp2;go_roundw
      ·exact⟨b+1,by omega,by go_num,by rw[u.o,aL m],by rw[w.o,aQ g],by simp⟩
      ·simp[intOf];omega
     ·have co:¬e<j:=g;go_wp2;go_roundw
      ·exact⟨b+1,by omega,by go_num,by rw[u.o,aL m],by rw[w.o,aL g],by simp⟩
      ·simp[intOf];omega
   ·have dd:b=d.length:=(by omega);subst dd;obtain⟨H,K⟩:=T.o d.length;obtain⟨L,M⟩:=V.o d.length;rw[aS]at *;have z1:=Uu _ H K;have z2:=Uu _ L M;generalize JF d F0=k at *;generalize Xx d F0=e at *;clear x;go_wp2_with fail;refine(LH k _ H K).mono ?_;rintro l w3 ⟨rfl,am⟩;go_wp2_with fail;refine(LH e _ L M).mono ?_;rintro l w4 ⟨rfl,ap⟩;have z:=p.o.trans (am.mono p.o.size);have b4:=I (z.trans (ap.mono z.size));clear am ap z;generalize uB (a.length-d.length)=U at *;generalize zB k=Z1 at *;generalize zB e=Z2 at *;go_wp2;go_ret;exact⟨by rw[q.o];simp[xh],b4.o⟩
 ·have q:=I (jas kind a (by by_cases f:kind=0;exact .inr (by simpa[f]using n);exact .inl f));by_cases f:kind=0
  ·have i:jk a=[]:=(by simpa[f]using n);subst f;have bi:(jk a).length=0:=(by rw[i];rfl);have ds:(((jk a).length:Int)==0)=true:=(by rw[bi];rfl);clear n s t r i bi;generalize uB (a.length-(jk a).length)=U at *;go_wp2;go_ret;exact⟨by rw[q.o];simp[xh],p.o⟩
  ·have dT:(kind !=0)=true:=(by simpa using f);clear n f s t;generalize uB (a.length-(jk a).length)=U at *;go_wp2;go_ret;exact⟨by rw[q.o];simp[xh],p.o⟩
def Ty(d:1<=k)(j:1<=i):∀f∈jR n m k i,f.start<n:=by
 intro f a;simp only[jR,jM,jp,cU,cF]at a;obtain⟨g,P,c,b,a⟩:=a;have e:=(JE d).1 P;have o:=ZZ n k g e;rcases aX.1 a with a|a
 ·simp only[jr,cM,cF]at a;obtain⟨p,l,rfl⟩:=a;have h:=(JE j).1 l;simp only;omega
 ·simp only[bD,bH,dm]at a;subst a;exact e
def jgk{d e c f g h:Value}(b:w.heap[n]?=some (.cells #[d,e,c,f,g,h] F (0,0))):w.cell? (A n 0)=some d/\w.cell? (A n 1)=some e/\w.cell? (A n 2)=some c/\w.cell? (A n 3)=some f/\w.cell? (A n 4)=some g/\w.cell? (A n 5)=some h:=⟨by rw[jb b];rfl,by rw[jb b];rfl,by rw[jb b];rfl,by rw[jb b];rfl,by rw[jb b];rfl,by rw[jb b];rfl⟩
def CI(O:O')(cd:Nat)(t:List W8)(b:V1)(d:W)(hg:L9 t)(hs:E6 t b)(b4:b.start<qv t)(G:P3 d O t):C' 83 #[.slice O t.length cd,.agg #[S [b.sort],N b.g,N b.c,N b.p,N b.start,N b.many]] d
   fun f a=>f=.returned (S (xQ t b))/\Below d.heap.size d a:=by
 obtain⟨sort,g,c,p,start,many⟩:=b;obtain⟨L,n,K,bX⟩:=hs;simp only at L n K bX b4;obtain⟨be,bi,E⟩:=hg.cells c n;obtain⟨P,dr,rfl,M,D⟩:=G.at_ (aE (by omega));obtain⟨g1,z,g3,v4,B,ca,e,rfl,co,s,bv⟩:=D c n;obtain⟨cb,l,rfl,ap,C⟩:=s.at_ (aE (by omega));have q:=I (T3.part s.ok ap C start many);have w:J (xQ t ⟨sort,g,c,p,start,many⟩=if sort=77 then JD (t[c]).kind (((t[c]).cells.drop start).take many)else xy (t[c]).kind (((t[c]).cells.drop start).take many)):=by
  show _=_;simp only[xQ,xP n]
 have da:start+many<=(t[c]).cells.length:=by omega
 have H:(((t[c]).cells.drop start).take many).length=many:=by rw[aM,aP];omega
 have i:=I H;have r:J (∀v∈((t[c]).cells.drop start).take many,qI v):=fun v hx=>E v (dw (bP hx));have cs:(c:Int)<(t.length:Int):=by omega
 have ac:J (∀a,Below d.heap.size d a->C' 145 #[N (t[c]).kind,.slice (some (A cb (l+start*3))) many (e-start)] a fun f k=>f=.returned (S (JD (t[c]).kind (((t[c]).cells.drop start).take many)))/\Below a.heap.size a k):=by
  intro a u;have:=YB (t[c]).kind (some (A cb (l+start*3))) (e-start) _ a (by rw[i.o];omega) r.o (q.o.j u);rw[i.o]at this;exact this
 have am:J (∀a,Below d.heap.size d a->C' 52 #[N (t[c]).kind,.slice (some (A cb (l+start*3))) many (e-start)] a fun f k=>f=.returned (S (xy (t[c]).kind (((t[c]).cells.drop start).take many)))/\Below a.heap.size a k):=by
  intro a u;have:=TY (t[c]).kind (some (A cb (l+start*3))) (e-start) _ a ⟨q.o.j u,r.o,by rw[i.o];omega⟩;rw[i.o]at this;exact this
 generalize JD (t[c]).kind (((t[c]).cells.drop start).take many)=MT at *;generalize xy (t[c]).kind (((t[c]).cells.drop start).take many)=PG at *;generalize (t[c]).kind=kd at *;have ci:start+many<=e:=by omega
 have dl:start<e:=by omega
 clear G D s C q E g1 g3 H i r be bi bv K;generalize (t[c]).cells.length=ce at *;have i1:(0:Int)<=(start:Int):=by omega
 have i2:(start:Int)<=(start:Int)+(many:Int):=by omega
 have i3:(start:Int)+(many:Int)<=(e:Int):=by omega
 have i4:((start:Int)+(many:Int)).toNat=start+many:=by omega
 have i5:(0:Int)<=(start:Int)+(many:Int):=by omega
 have i6:¬e=start:=by omega
 have i7:IntKind.i64.wrap ((start:Int)+(many:Int))=(start:Int)+(many:Int):=by rw[kE];omega
 have i8:start+many-start=many:=by omega
 go_enter Tryz.func83,Tryz.ntmps83;go_wp2_with fail;obtain⟨m,dd,_,F⟩:=jJ d #[S [sort],N g,N c,N p,N start,N many] 161;obtain⟨T,U,V,X,Y,Z⟩:=jgk F;have x:=(m.cell (p:=A P _) M).trans z;have y:=(m.cell (p:=A P _) M).trans B;have h:=I m;clear m F z B;generalize d.alloc _=w0 at *;go_quiet(fail);rcases L with rfl|rfl
 ·go_wp2_with fail;refine(am.o _ (below_drewN h.o nq)).mono ?_;rintro f k ⟨rfl,j⟩;have o:=I ((below_drewN h.o nq).trans (j.mono h.o.size));clear j T U V X Y Z x y;go_wp2;go_ret;exact⟨qH (by rw[w.o];rfl),o.o⟩
 ·go_wp2_with fail;refine(ac.o _ (below_drewN h.o nq)).mono ?_;rintro f k ⟨rfl,j⟩;have o:=I ((below_drewN h.o nq).trans (j.mono h.o.size));clear j T U V X Y Z x y;go_wp2;go_ret;exact⟨qH (by rw[w.o];rfl),o.o⟩
end Go.Proofs.YthhpbhpfagoapaaGreat
