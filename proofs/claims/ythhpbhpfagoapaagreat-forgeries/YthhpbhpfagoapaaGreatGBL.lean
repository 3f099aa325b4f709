import Derived.Test.YthhpbhpfagoapaaGreatGBG
import Derived.Test.YthhpbhpfagoapaaGreatGBF
import Derived.Test.YthhpbhpfagoapaaGreatGBK
import Derived.Test.YthhpbhpfagoapaaGreatGBH
namespace Go.Proofs.YthhpbhpfagoapaaGreat
set_option linter.all false
set_option maxRecDepth 100000
set_option maxHeartbeats 16000000
open Go.RowKit
def Ca(Z:O')(co:Nat)(b:List V6)(M:O')(bi:Nat)(f:List W9)(n:W)(hm:b.length<=maxLen)(hl:P0 n Z b)(hr:U2 n M f)(be:f.length<=maxLen):C' 16 #[.slice Z b.length co,.slice M f.length bi] n fun w w'=>(∃bb,w=.returned (.bool bb)/\(bb=true↔JY b f))/\Below n.heap.size n w':=by
 have Hl:=I hl;have Hr:=I hr;have ci:=I be;clear hl hr be;unfold maxLen at hm;go_enter Tryz.func16,Tryz.ntmps16;go_wp2;go_loopw [5] (fun m wr=>∃c:Nat,c<=b.length/\m=N c/\(∀j∈b.take c,xp j f=0)/\(∀a (d:a<c) (G:a<b.length),∀j∈b.take a,j.pre≠(b[a]).pre)/\Below n.heap.size n wr) (fun m _=>b.length-(intOf m).toNat)
 case atStart=>exact⟨0,aG _,rfl,(by simp),(fun a d=>by omega),k8 _ _⟩
 case round=>
  obtain⟨c,hk,rfl,h,ht,x⟩:=hrel;have X:=I ht;have Y:=I h;have z:=I x;clear ht h;by_cases r:c<b.length
  ·have dv:(c:Int)<(b.length:Int):=(by omega);obtain⟨i,s,rfl,K,L⟩:=(Hl.o.j x).at_ (aE (by omega));obtain⟨ta,tc,c0,c1,c2,c3,c4,c5,c6,ac⟩:=L c r;have D:J (∀a (d:a<b.length),wr.cell? (A i (s+a*7+5))=some (S (b[a]).pre)):=fun a d=>by
    obtain⟨_,_,_,_,_,_,_,h5,_,_⟩:=L a d;exact h5
   have P:=I (SA ta tc b[c] M bi f wr ac (Hr.o.j x) ci.o);have u:J ((∃j∈b.take c,j.pre=(b[c]).pre)->¬JY b f):=fun⟨j,e,k⟩ H=>H.2.1 c r j e k;have C:J ((∀j∈b.take c,j.pre≠(b[c]).pre)->∀a (d:a<c+1) (G:a<b.length),∀j∈b.take a,j.pre≠(b[a]).pre):=by
    intro y a ap G;by_cases w:a=c
    ·subst w;exact y
    ·exact X.o a (by omega) G
   have F:J (xp b[c] f≠0->¬JY b f):=fun d H=>d (H.2.2 _ (aJ r));have E:J (xp b[c] f=0->∀j∈b.take (c+1),xp j f=0):=by
    intro d j e;rw[aH r,aX]at e;rcases e with e|e
    ·exact Y.o j e
    ·simp only[bD,bH,dm]at e;subst e;exact d
   have T:=I (D.o c r);have HG:J (∀a (d:a<c),b[a]'(by omega)∈b.take c):=fun a d=>di.2 ⟨a,by omega,rfl⟩;clear L ac x;generalize b[c]=g at *;go_wp2_with fail;refine P.o.mono ?_;clear c0 c1 c2 c3 c4 c5 c6 P;rintro w t ⟨rfl,q⟩;have B:=I (z.o.trans (q.mono z.o.size));have b4:J (∀a (d:a<b.length),t.cell? (A i (s+a*7+5))=some (S (b[a]).pre)):=fun a d=>(q.cell (p:=A i _) K).trans (D.o a d);have cd:J (t.cell? (A i (s+c*7+5))=some (S g.pre)):=(q.cell (p:=A i _) K).trans T.o;have am:i<t.heap.size:=aC K q.size;clear q D T;by_cases h:xp g f=0
   ·have ds:(xp g f !=0)=false:=(by rw[h];rfl);have ce:=I (E.o h);clear h F E;go_wp2_with fail;go_loopw [7] (fun m wq=>∃a:Nat,a<=c/\m=N a/\(∀j∈b.take a,j.pre≠g.pre)/\Below t.heap.size t wq) (fun m _=>c-(intOf m).toNat)
    case atStart=>exact⟨0,aG _,rfl,(by simp),k8 _ _⟩
    case round=>
     obtain⟨a,d1,rfl,y,o⟩:=hrel;have V:=I y;have O:=I (B.o.trans (o.mono B.o.size));have bv:=I o;clear y;by_cases dl:a<c
     ·have dW:(a:Int)<(c:Int):=(by omega);have d0:(a:Int)<(b.length:Int):=(by omega);have dT:(c:Int)<(b.length:Int):=(by omega);have y1:=(o.cell (p:=A i (s+a*7+5)) am).trans (b4.o a (by omega));have y2:=(o.cell (p:=A i (s+c*7+5)) am).trans cd.o;have bX:=I (HG.o a dl);have U:J (b.take (a+1)=b.take a++[b[a]'(by omega)]):=aH (by omega);generalize cs:b[a]'(by omega)=v at *;clear cs o;by_cases k:v.pre=g.pre
      ·have l:=I (u.o ⟨v,bX.o,k⟩);have da:(v.pre==g.pre)=true:=(by simp[k]);clear k u C;go_wp2_with fail;go_quiet(fail);go_wp2;go_ret;exact⟨⟨false,rfl,fun d=>(by cases d),fun d=>absurd d l.o⟩,below_drewN O.o nq⟩
      ·have l:J (∀j∈b.take (a+1),j.pre≠g.pre):=by
        intro j e;rw[U.o,aX]at e;rcases e with e|e
        ·exact V.o j e
        ·simp only[bD,bH,dm]at e;subst e;exact k
       have da:(v.pre==g.pre)=false:=(by simpa using k);clear k u U;go_wp2_with fail;go_quiet(fail);go_wp2_with fail;go_roundw
       ·exact⟨a+1,by omega,by go_num,l.o,below_drewN bv.o nq⟩
       ·simp[intOf];omega
     ·have dr:a=c:=(by omega);subst dr;have l:=I (C.o V.o);clear u C;go_wp2_with fail;go_roundw
      ·exact⟨a+1,by omega,by go_num,ce.o,l.o,O.o⟩
      ·simp[intOf];omega
   ·have ds:(xp g f !=0)=true:=(by rw[eI];exact h);have l:=I (F.o h);clear h F E;go_wp2;go_ret;exact⟨⟨false,rfl,fun d=>(by cases d),fun d=>absurd d l.o⟩,B.o⟩
  ·have dd:c=b.length:=(by omega);subst dd;have HA:J (Vn b):=fun a ap=>X.o a (by omega) ap;have HZ:J (∀j∈b,xp j f=0):=by have:=Y.o;rw[aS]at this;exact this
   go_wp2;go_ret;exact⟨⟨_,rfl,fun d=>⟨by have:=eZ d;omega,HA.o,HZ.o⟩,fun d=>dK (by have:=d.1;omega)⟩,z.o⟩
section
open Go
def GP{P:Program}(f:W)(t k e:TypeId)(j:TypeInfo)(i:P.underlying t=some (.slice e))(h:P.info? e=some j)(a:O')(n b:Nat)(g:n<=b)(d:O')(c:Nat):(Builtin.append_ #[t,t] k #[.slice a n b,.slice d 0 c]).run P f=.ok (.slice a n b) f:=by
 cases a<;>cases d<;>simp[Builtin.append_,gn i,sizeOf,typeInfo,h,Builtin.lenOf,Builtin.firstCells,loadCells,loadCellsFrom,storeCells,g]
variable{v w:W}
def NJ{P:Program}{o:Oper}{a:Act}{g:Act->W->Prop}{k:Exit->Act->W->Prop}(i j:Operand)(t:TypeId)
  (q:o.op=.call { callee:=.builtin .append,args:=#[i,j],argTypes:=#[t,t]})
  (e:TypeId)(h:TypeInfo)(u:P.underlying t=some (.slice e))(p:P.info? e=some h)(d:O')(n b:Nat)(s:a.eval i=.slice d n b)(m:n<=b)(b2:O')(c:Nat)(v:a.eval j=.slice b2 0 c)
  (l:g (a.put o.dst (.slice d n b)) w):o.wp P a w g k:=by
 have r:=GP (P:=P) w t o.type e h u p d n b m b2 c;unfold Oper.wp execOp;simp only[q,resolve,invoke,builtin,dF,dE,cV,List.map_toArray,eo,List.map_nil,s,v,r];exact l
def xW{P:Program}{j:Array Oper}{rest:List Oper}{o:Oper}{a:Act}{h:Exit->Act->W->Prop}(q:o.guard=none)(f g:Operand)(t:TypeId)
  (s:o.op=.call { callee:=.builtin .append,args:=#[f,g],argTypes:=#[t,t]})
  (e:TypeId)(i:TypeInfo)(v:P.underlying t=some (.slice e))(r:P.info? e=some i)(d:O')(n b:Nat)(u:a.eval f=.slice d n b)(p:n<=b)(b2:O')(c:Nat)(k:a.eval g=.slice b2 0 c)
  (l:wpList P j h rest (a.put o.dst (.slice d n b)) w):wpList P j h (o::rest) a w:=wpList_plain q fun _ m=>NJ f g t s e i v r d n b u p b2 c k (m _ _ l)
variable{c g i k m n:Nat}{a:O'}{C:List Value}
def Ng(h:w.ownsRow n m k (.slice a g c) i C):i<=c/\g=i:=by
 rcases h.2 with⟨d,o⟩|⟨f,l,b,d,_,_,p,_⟩
 ·injection d with _ h4 h5
  omega
 ·injection d with _ h4 h5
  omega
end
def DR(pre:B8)(b:List W9)(a:V7)(d:Nat):List V5:=(List.range d).flatMap fun c=>if xM (qq pre b a c)=true then xm pre b (ji a.U c).key c (qp a) a.ae else[]
def CB(pre:B8)(c:List W9)(a:V7)(b:Nat):DR pre c a (b+1)=DR pre c a b++if xM (qq pre c a b)=true then xm pre c (ji a.U b).key b (qp a) a.ae else[]:=by simp[DR,cI]
def xC(b:V5)(pre:B8)(d:List W9)(a:V7)(c:Nat):List V5:=b::DR pre d a c
def DK(a:V5)(pre:B8)(c:List W9)(b:V7):xC a pre c b 0=[a]:=rfl
def Mw(d:V5)(pre:B8)(c:List W9)(a:V7)(b:Nat):xC d pre c a (b+1)=xC d pre c a b++if xM (qq pre c a b)=true then xm pre c (ji a.U b).key b (qp a) a.ae else[]:=by
 unfold xC;rw[CB];rfl
def Ay(pre:B8)(b:List W9)(a:V7)(c:Nat):(qq pre b a c).key=(ji a.U c).key:=by
 unfold qq;split
 ·rfl
 ·split<;>rfl
def IG{pre:B8}{r:List W9}{X9:V7}{c:Nat}(a:xM (qq pre r X9 c)=true):(ji X9.U c).key≠0:=by
 simp only[xM,aK,aN]at a;rw[<-Ay pre r X9 c];exact a.1
def YO(a:V7)(e:U0)(dl P d4:Nat)(cv q:Value)(m:Nat)(d3:Nat->Value)(Qp:Nat->Nat->List W6)(Qm:Nat->Nat->W6)(Pv:Nat->Nat->Value)(pre:B8)(ra:O')(da:Nat)(d:List W9)(fa:O')(fc:Nat)(f:W)
  (X:K4 a dl P d4 f (xq a e cv q m) cv m d3 Qp Qm Pv)(e1:(xq a e cv q m).size=18)(eM:(xq a e cv q m).all (·.oneCell')=true)(ce:pre.length<=20)(eg:e.footer.length<=5000)(ci:∀key,(jh d key).length<=1000)(eR:d.length<=maxLen)(hr:U2 f ra d)(hl:E2 f fa (qq pre d a) a.U.length):C' 46 #[.agg (xq a e cv q m),.slice fa a.U.length fc,S pre,.slice ra d.length da] f fun s l=>∃v,s=.returned v/\l.ownsRow f.heap.size 40 4 v (xC ⟨jh d (e.R:Int),e.I,qu pre e,e.body⟩ pre d a a.U.length).length (qg (xC ⟨jh d (e.R:Int),e.I,qu pre e,e.body⟩ pre d a a.U.length))/\(xC ⟨jh d (e.R:Int),e.I,qu pre e,e.body⟩ pre d a a.U.length).length<=1000000/\Below f.heap.size f l:=by
 obtain⟨i0,hi,f6,f7,f8⟩:=ks Tryz.ak;have eq:=X.inf;have gr:=X.n6;have dv:=I (fun(l:W) (u:Below f.heap.size f l)=>ID a e cv q m ra da d pre l e1 eM ce eg eR (ci _) (hr.j u));have e5:=I (fun(c:Nat) (l:W) (u:Below f.heap.size f l) hc hk=>Ag a dl P d4 (xq a e cv q m) cv m d3 Qp Qm Pv pre ra da d c l (X.j u) hc hk ce (ci _) eR (hr.j u));have Hl:=I hl;have fl:=I (Mw ⟨jh d (e.R:Int),e.I,qu pre e,e.body⟩ pre d a);have dT:=I (DK ⟨jh d (e.R:Int),e.I,qu pre e,e.body⟩ pre d a);have e7:=I (fun c=>IG (pre:=pre) (r:=d) (X9:=a) (c:=c));have fd:=I (fun c=>Iw (qq pre d a c));clear X e1 eM ce eg ci hr hl;generalize ft:xq a e cv q m=U at *;clear ft;generalize qq pre d a=p at *;generalize fr:(⟨jh d (e.R:Int),e.I,qu pre e,e.body⟩:V5)=fs at *;clear fr;generalize a.U.length=n at *;obtain⟨d7,gi,_,eC⟩:=jJ f U 120;have d1:=I eC;have d0:=I eq;clear eC eq;go_enter Tryz.func46,Tryz.ntmps46;go_wp2_with(refine kx rfl 120 (.tmp 4) rfl f.heap.size rfl 120 U (0,0) _ d1.o Tryz.underlying120 rfl d0.o ?_);have bi:=I d7;clear d7;generalize f.alloc _=w0 at *;refine(dv.o w0 bi.o).mono ?_;clear dv;rintro s E ⟨rfl,bv⟩;obtain⟨h,i,j,k⟩:=fs;simp only;have ac:=I (bi.o.trans (bv.mono bi.o.size));have d2:=I (jd bv d1.o);clear bv;obtain⟨Y,f4,_,em⟩:=jJ E #[S h,S i,S j,S k] 40;have e3:=I (ac.o.trans (Y.mono ac.o.size));have fn:=I (jd Y d2.o);have f2:=aC (aF.1 d2.o).1 Y.size;have e6:J ((E.alloc (.cells #[S h,S i,S j,S k] 40)).ownsRow f.heap.size 40 4 (R E.heap.size 1 1) (xC ⟨h,i,j,k⟩ pre d a 0).length (qg (xC ⟨h,i,j,k⟩ pre d a 0))):=by
  rw[dT.o];exact⟨rfl,.inr ⟨E.heap.size,1,_,rfl,ac.o.size,em,aA _,by decide,rfl,rfl⟩⟩
 clear Y f4 em;go_wp2;generalize E.alloc _=w2 at *;go_loopw [9,19] (fun v co wr=>∃b:Nat,b<=n/\co=N b/\wr.ownsRow f.heap.size 40 4 v (xC ⟨h,i,j,k⟩ pre d a b).length (qg (xC ⟨h,i,j,k⟩ pre d a b))/\(xC ⟨h,i,j,k⟩ pre d a b).length<=1+3660*b/\wr.heap[f.heap.size]?=some (.cells U 120 (0,0))/\f.heap.size<wr.heap.size/\Below f.heap.size f wr) (fun _ co _=>n-(intOf co).toNat)
 case atStart=>exact⟨0,aG _,rfl,e6.o,by rw[dT.o];exact aA _,fn.o,f2,e3.o⟩
 case round=>
  obtain⟨b,gg,rfl,b4,gp,eS,f1,hB⟩:=hrel;have be:=I b4;have G:=I hB;have fe:=I eS;obtain⟨wa,dd,rfl⟩:=jt b4;clear b4 hB eS;by_cases er:b<n
  ·have ge:(b:Int)<(n:Int):=(by omega);obtain⟨ga,rfl,gd,ec⟩:=(Hl.o.j G.o).at_ (by omega);obtain⟨ca,V,g1,g2,g3,g4,C,_⟩:=ec b er;have HP:=I (fd.o b (.slice ca (p b).cells.length V));have dW:=I (fl.o b);have fb:=I (e7.o b);have dr:=I (fun l u=>e5.o b l u er);clear ec;generalize xm pre d (ji a.U b).key b (qp a) a.ae=o at *;generalize xM (p b)=f9 at *;generalize (p b).cells.length=cs at *;generalize (p b).name=nm at *;generalize (p b).kind=kd at *;generalize (p b).key=ky at *;generalize (p b).state=st at *;go_upto_region 5 with fail;clear g1 g2 g3 g4 C;obtain⟨ea,f5,_,w⟩:=jJ wr #[S nm,N kd,N ky,N st,.slice ca cs V] 91;generalize wr.alloc (.cells #[.string ⟨nm.toArray⟩,N kd,N ky,N st,.slice ca cs V] 91)=F at *;have x0:F.cell? (A wr.heap.size 0)=some (S nm):=(by rw[jb w];rfl);have x1:F.cell? (A wr.heap.size 1)=some (N kd):=(by rw[jb w];rfl);have x2:F.cell? (A wr.heap.size 2)=some (N ky):=(by rw[jb w];rfl);have x3:F.cell? (A wr.heap.size 3)=some (N st):=(by rw[jb w];rfl);have x4:F.cell? (A wr.heap.size 4)=some (.slice ca cs V):=(by rw[jb w];rfl);have ap:=I ea;clear w ea f5;go_wp2_with fail;refine(HP.o _).mono ?_;clear HP x0 x1 x2 x3 x4;rintro s w4 ⟨rfl,d8⟩;have x:=I (ap.o.trans (d8.mono ap.o.size));have H:=I (G.o.trans (x.o.mono G.o.size));have M:=I (jd x.o fe.o);have L:=I (jy be.o x.o);have es:f.heap.size<w4.heap.size:=aC f1 x.o.size;clear d8 ap x be;cases f9 with
   | false=>
    have t:xC ⟨h,i,j,k⟩ pre d a (b+1)=xC ⟨h,i,j,k⟩ pre d a b:=(by rw[dW.o,aL (by decide),aT]);have z:J (w4.ownsRow f.heap.size 40 4 (.slice wa (xC ⟨h,i,j,k⟩ pre d a b).length dd) (xC ⟨h,i,j,k⟩ pre d a (b+1)).length (qg (xC ⟨h,i,j,k⟩ pre d a (b+1)))):=(by rw[t];exact L.o);have y:J ((xC ⟨h,i,j,k⟩ pre d a (b+1)).length<=1+3660*(b+1)):=by show List.length _<=_;rw[t];omega
    clear t L;go_wp2;go_roundw
    ·exact⟨b+1,by omega,by go_num,z.o,y.o,M.o,es,H.o⟩
    ·simp[intOf];omega
   | true=>
    have t:xC ⟨h,i,j,k⟩ pre d a (b+1)=xC ⟨h,i,j,k⟩ pre d a b++o:=(by rw[dW.o,aQ rfl]);have ds:=I t;clear t;go_wp2_with(refine kx rfl 120 (.tmp 4) rfl f.heap.size rfl 120 U (0,0) _ M.o Tryz.underlying120 rfl d0.o ?_);refine(dr.o w4 H.o (fb.o (by trivial))).mono ?_;clear dr;rintro s w5 ⟨v5,rfl,cd,go,D⟩;obtain⟨a5,c5,rfl⟩:=jt cd;have am:=I (H.o.trans (D.mono H.o.size));have O:=I (jd D M.o);have r:=I (jy L.o D);have K:=I cd;have ev:f.heap.size<w5.heap.size:=aC es D.size;have e2:=am.o.size;clear D cd L M;generalize d6:(xC ⟨h,i,j,k⟩ pre d a b)=B at *;have T:J ((xC ⟨h,i,j,k⟩ pre d a (b+1))=B++o):=by show _=_;rw[ds.o,<-d6]
    clear d6 ds;by_cases hz:o.length=0
    ·have bX:o=[]:=aO hz;have fv:=(Ng r.o).1;have z:J (w5.ownsRow f.heap.size 40 4 (.slice wa B.length dd) (xC ⟨h,i,j,k⟩ pre d a (b+1)).length (qg (xC ⟨h,i,j,k⟩ pre d a (b+1)))):=(by rw[T.o,bX,aT];exact r.o);have y:J ((xC ⟨h,i,j,k⟩ pre d a (b+1)).length<=1+3660*(b+1)):=by show List.length _<=_;rw[T.o,bX,aT];omega
     rw[hz];clear hz bX K;go_wp2_with(at_builtin;refine xW rfl (.tmp 26) (.tmp 31) 28 rfl 40 i0 Tryz.underlying28 hi wa B.length dd rfl fv a5 c5 rfl ?_);go_roundw
     ·exact⟨b+1,by omega,by go_num,z.o,y.o,O.o,ev,am.o⟩
     ·simp[intOf];omega
    ·obtain⟨C,rfl⟩:∃C,a5=some (A C 0):=by
      rcases K.o.2 with⟨_,h0⟩|⟨g,gb,gc,d5,_⟩
      ·omega
      ·simp only[cx]at d5;exact⟨g,d5.1⟩
     have fk:=I (ZG o);go_wp2_with(at_builtin;refine ko _ rfl (.tmp 26) (.tmp 31) 28 rfl f.heap.size 40 i0 _ 4 64 Tryz.underlying28 hi f6 f7 f8 rfl (by decide) _ B.length (qg B) rfl r.o (A C 0) o.length c5 (qg o) rfl fk.o (Nj K.o) (Va o) (by unfold maxLen;omega) (by omega) e2 ?_);intro v6 w6 eP Z _;have fz:=(aF.1 O.o).1;have ff:=I ((Z.block f.heap.size fz (fun s=>SH r.o O.o (by decide) s.symm)).trans O.o);have e4:=I (am.o.grown Z e2 (fun b hk=>(r.o.lt b hk).1));have f3:f.heap.size<w6.heap.size:=aC ev Z.size;have z:J (w6.ownsRow f.heap.size 40 4 v6 (xC ⟨h,i,j,k⟩ pre d a (b+1)).length (qg (xC ⟨h,i,j,k⟩ pre d a (b+1)))):=(by rw[T.o,Ve,aB];exact eP);have y:J ((xC ⟨h,i,j,k⟩ pre d a (b+1)).length<=1+3660*(b+1)):=by show List.length _<=_;rw[T.o,aB];omega
     clear eP Z r K;go_wp2;go_roundw
     ·exact⟨b+1,by omega,by go_num,z.o,y.o,ff.o,f3,e4.o⟩
     ·simp[intOf];omega
  ·have fw:b=n:=(by omega);subst fw;go_wp2;go_ret;exact⟨_,rfl,be.o,by omega,G.o⟩
def L5(c:List V6)(a:List W9)(file pre:B8)(d:Ending):Prop:=(¬JY c a/\d=.returned (.tuple #[P7 ⟨[],[],[],[]⟩,N 10])) \/
 (JY c a/\(((∃e,qJ file pre a false=(e,none)/\e≠0)/\d=.returned (.tuple #[P7 ⟨[],[],[],[]⟩,N 11])) \/
  ∃b f,qJ file pre a false=(0,some b)/\xL file=some f /\
   ((zZ (qq pre a b) b.U.length pre c/\d=.returned (.tuple #[P7 ⟨[],[],[],[]⟩,N 11])) \/
    (¬zZ (qq pre a b) b.U.length pre c/\d=.returned (ZS (Jv (Xe pre a f b) (xE c a)))))))
variable{V:List V6}{E:List W9}{l r s:B8}
def L5.same{j k:Ending}(c:L5 V E s r j)(b:L5 V E s r k):j=k:=by
 rcases c with⟨e,rfl⟩|⟨e,c⟩
 ·rcases b with⟨_,rfl⟩|⟨f,_⟩
  ·rfl
  ·exact absurd f e
 ·rcases b with⟨f,_⟩|⟨_,b⟩
  ·exact absurd e f
  ·rcases c with⟨⟨o,d,_⟩,rfl⟩|⟨m,file,d,q,c⟩
   ·rcases b with⟨_,rfl⟩|⟨n,p,a,_⟩
    ·rfl
    ·rw[d]at a;simp at a
   ·rcases b with⟨⟨o,a,_⟩,_⟩|⟨n,p,a,g,b⟩
    ·rw[d]at a;simp at a
    ·rw[d]at a;rw[q]at g;simp only[cX,aW,eu]at a g;subst a;subst g;rcases c with⟨h,rfl⟩|⟨h,rfl⟩
     ·rcases b with⟨_,rfl⟩|⟨i,_⟩
      ·rfl
      ·exact absurd h i
     ·rcases b with⟨i,_⟩|⟨_,rfl⟩
      ·exact absurd i h
      ·rfl
def jch{pre:B8}{r:List W9}{a:U0}{X9:V7}(c:a.told=false->a.footer=[]):xC ⟨jh r (a.R:Int),a.I,qu pre a,a.body⟩ pre r X9 X9.U.length=Xe pre r a X9:=by
 have b:(⟨jh r (a.R:Int),a.I,qu pre a,a.body⟩:V5)=xT pre r a:=by
  unfold xT qu;cases d:a.told with
  | true=>simp
  | false=>simp[c d]
 rw[b];rfl
variable{Z:V7}
def VP{a:U0}(i:qJ s r E false=(0,some Z))(c:xL s=some a):a.footer.length<=5000/\(a.told=false->a.footer=[]):=by
 obtain⟨_,_,q,footer,d,_,l,j,g⟩:=GT i;rw[c]at d;cases d;have b:=(Uz c).1;refine⟨?_,b.none_⟩;cases f:a.told with
 | false=>rw[b.none_ f];decide
 | true=>
  have h:=(j f).1;subst h;have e:=Zz l;have:=Xm (fun p n=>by
   have m:=XA _ _ _ _ p n;have file:=(KH a).2.2;have t:=(JR b rfl).len;have u:=b.short;have k:=e.parts;rw[<-k]at m;have v:=(Uz c).2;omega) e
  omega
def Lo(c:xD E=true)(key:Int):(jh E key).length<=1000:=by
 cases b:jG E key with
 | true=>rw[JB c b];decide
 | false=>rw[(Xa c).2 b];decide
def Lr(ja:O')(jc:Nat)(f:List V6)(L:O')(Z:Nat)(b:List W9)(file pre:B8)(a:W)(bi:f.length<=maxLen)(go:f.length<=jc)(hj:P0 a ja f)(hr:U2 a L b)(bv:b.length<=maxLen)(fd:file.length<=maxLen)(fr:pre.length<=maxLen):C' 13 #[.slice ja f.length jc,.slice L b.length Z,S file,S pre] a fun i e=>L5 f b file pre i/\Below a.heap.size a e:=by
 obtain⟨e5,g0,_,ff⟩:=jJ a #[S [],S [],S [],S []] 40;have HX:J (∀i,L5 f b file pre i↔L5 f b file pre i):=fun i=>Iff.rfl;have gU:=I bi;have eC:=I (fun(e:W) (s:Below a.heap.size a e)=>DI ja jc f L Z b e bi go (hj.j s) (hr.j s) bv);have ev:=I (fun(e:W) (s:Below a.heap.size a e)=>IX file pre L Z b false e fd fr bv (hr.j s));have ec:=I (fun d4 n e0 ge (e:W) (s:Below a.heap.size a e) (k:n<=1000) (hl:E2 e e0 d4 n)=>IM e0 ge d4 n pre ja jc f e k bi hl (hj.j s));have HR:=I hr;have eS:=I bv;have D:=I e5;have co:=I ff;clear hj hr bv fd fr bi e5 ff HX;go_enter Tryz.func13,Tryz.ntmps13;go_wp2_with fail;generalize a.alloc _=w0 at *;refine(eC.o w0 D.o).mono ?_;clear eC;rintro i w1 ⟨⟨fl,rfl⟩|⟨V,lv,rfl,fk,gY⟩,F⟩
 ·have u:=I (D.o.trans (F.mono D.o.size));have Ho:=I (jd F co.o);obtain⟨⟨y0,y1,y2,y3⟩,f0,f1,f2,f3⟩:=XP Ho.o;have O:=I (Yc Ho.o (S []) (S []) (S []) (S []));have x:=I ((((u.o.setCell (p:=A a.heap.size 0) (aA _) (S [])).setCell (p:=A a.heap.size 1) (aA _) (S [])).setCell (p:=A a.heap.size 2) (aA _) (S [])).setCell (p:=A a.heap.size 3) (aA _) (S []));have f6:=I fl;clear F fl;go_wp2;generalize (((w1.setCell _ _).setCell _ _).setCell _ _).setCell _ _=K0 at *;obtain⟨y,z,B,C⟩:=Jc O.o;exact kk (v:=.tuple #[P7 ⟨[],[],[],[]⟩,N 10]) (by simp[results,Tryz.results13,go_sem,y,z,B,C]) rfl ⟨.inl ⟨f6.o,rfl⟩,x.o⟩
 ·have ce:=I V;have u:=I (D.o.trans (F.mono D.o.size));have eM:=I (jd F co.o);obtain⟨la,lc,gt,e3⟩:=UO fk;subst gt;have f4:=I e3;clear V F fk e3 D co;go_wp2_with fail;refine(ev.o w1 u.o).mono ?_;clear ev;rintro i c ⟨j,ds,m,⟨U,l,k,dr,t,X,rfl⟩|⟨d,cv,K,E,gd,Qp,Qm,Pv,k,rfl,dT⟩⟩
  ·have be:(Tryz.prog.info? 120).map (·.size)=some l.size:=(by rw[t];kernel_rfl);have bX:W7.size=l.size:=(by rw[t];rfl);obtain⟨h,gr,_,H⟩:=jJ c W7 120;have r:=jH (c.alloc (.cells W7 120)) c.heap.size l;have q:=I (u.o.trans (m.mono u.o.size));have P:=I (jd m eM.o);have gs:=(aF.1 P.o).1;have T:=I (jm r (jd h P.o) (by omega));have w:=I ((q.o.trans (h.mono q.o.size)).trans (jn r q.o.size (aI q.o.size h.size)));have gZ:(U !=0)=true:=(by rw[eI];exact dr);have fz:J (∃U,qJ file pre b false=(U,none)/\U≠0):=⟨U,k,dr⟩;obtain⟨⟨y0,y1,y2,y3⟩,f0,f1,f2,f3⟩:=XP T.o;have O:=I (Yc T.o (S []) (S []) (S []) (S []));have x:=I ((((w.o.setCell (p:=A a.heap.size 0) (aA _) (S [])).setCell (p:=A a.heap.size 1) (aA _) (S [])).setCell (p:=A a.heap.size 2) (aA _) (S [])).setCell (p:=A a.heap.size 3) (aA _) (S []));clear t k dr h r m ds;go_wp2_with(refine kl rfl 120 (.tmp 12) (.tmp 29) rfl c.heap.size l rfl rfl 120 W7 H be bX X ?_);generalize (c.alloc _).setRow _ _=w3 at *;generalize (((w3.setCell _ _).setCell _ _).setCell _ _).setCell _ _=K0 at *;obtain⟨y,z,B,C⟩:=Jc O.o;exact kk (v:=.tuple #[P7 ⟨[],[],[],[]⟩,N 11]) (by simp[results,Tryz.results13,go_sem,y,z,B,C]) rfl ⟨.inr ⟨ce.o,.inl ⟨fz.o,rfl⟩⟩,x.o⟩
  ·obtain⟨e1,fs,gX,parts,footer,V⟩:=Rk k;have dv:=ds d k;obtain⟨fe,fn⟩:=VP k dv;obtain⟨gi,ft⟩:=VL _ _ _ _ _ k;obtain⟨_,t,X⟩:=dT.one;obtain⟨h,gr,_,H⟩:=jJ c W7 120;have r:=jH (c.alloc (.cells W7 120)) c.heap.size (xq d j cv K E);have oA:=kr (c.alloc (.cells W7 120)) c.heap.size _ (xq d j cv K E) 120 (0,0) H;have q:=I (u.o.trans (m.mono u.o.size));have P:=I (jd m eM.o);have gs:=(aF.1 P.o).1;have T:=I (jm r (jd h P.o) (by omega));have e7:=jn r q.o.size (aI q.o.size h.size);have w:=I ((q.o.trans (h.mono q.o.size)).trans e7);have e6:=(m.trans (h.mono m.size)).trans (jn r m.size (aI m.size h.size));have em:=I (f4.o.j e6);have dd:=jbx ((dT.j h).grown r H (by decide) (by decide) (by decide) (by decide)) V;have ea:=I (YN d _ _ _ _ _ _ _ _ _ _ pre L Z b _ dd e1 fs eS.o (HR.o.j w.o));have ci:=I (fun fa fc (e:W) (s:Below ((c.alloc (.cells W7 120)).setRow c.heap.size (xq d j cv K E)).heap.size ((c.alloc (.cells W7 120)).setRow c.heap.size (xq d j cv K E)) e) hl=>YO d j _ _ _ cv K E gd Qp Qm Pv pre L Z b fa fc e (dd.j s) t X e1 fe (Lo fs) eS.o (HR.o.j (w.o.trans (s.mono w.o.size))) hl);have f9:=I (jch (pre:=pre) (r:=b) (X9:=d) fn);have HN:=I k;have HF:=I dv;clear k dT V h r m dd ds dv fe fn e6 e7;generalize gg:xq d j cv K E=l at *;clear gg;have be:(Tryz.prog.info? 120).map (·.size)=some l.size:=(by rw[t];kernel_rfl);have bX:W7.size=l.size:=(by rw[t];rfl);clear t;have b4:=I be;have ga:=I bX;have f8:=I X;have eq:=I H;have da:=I oA;clear be bX X H oA;go_wp2_with(first|(refine kl rfl 120 (.tmp 12) (.tmp 29) rfl c.heap.size l rfl rfl 120 W7 eq.o b4.o ga.o f8.o ?_)|(refine kx rfl 120 (.tmp 12) rfl c.heap.size rfl 120 l (0,0) _ da.o Tryz.underlying120 rfl b4.o ?_));refine ea.o.mono ?_;clear ea eq;generalize (c.alloc _).setRow _ _=w3 at *;rintro i w4 ⟨G,v,Vs,rfl,fb⟩;obtain⟨va,vc,gT,e2⟩:=fb.av ft;subst gT;have cd:=I e2;have M:=I (w.o.trans (G.mono w.o.size));have cs:=I (jd G T.o);have eR:=I (jd G da.o);have eg:=I (em.o.j G);have d5:=I G;clear G fb e2 T da em ft;go_wp2_with fail;refine(ec.o _ _ va vc w4 M.o gi cd.o).mono ?_;clear ec;rintro i w5 ⟨⟨rfl,Y⟩|⟨rfl,Y⟩,o⟩
   ·have HW:=I Y;have ac:=I (M.o.trans (o.mono M.o.size));have am:=I (jd o cs.o);obtain⟨⟨y0,y1,y2,y3⟩,f0,f1,f2,f3⟩:=XP am.o;have O:=I (Yc am.o (S []) (S []) (S []) (S []));have x:=I ((((ac.o.setCell (p:=A a.heap.size 0) (aA _) (S [])).setCell (p:=A a.heap.size 1) (aA _) (S [])).setCell (p:=A a.heap.size 2) (aA _) (S [])).setCell (p:=A a.heap.size 3) (aA _) (S []));clear o Y ci;go_wp2;generalize (((w5.setCell _ _).setCell _ _).setCell _ _).setCell _ _=K0 at *;obtain⟨y,z,B,C⟩:=Jc O.o;exact kk (v:=.tuple #[P7 ⟨[],[],[],[]⟩,N 11]) (by simp[results,Tryz.results13,go_sem,y,z,B,C]) rfl ⟨.inr ⟨ce.o,.inr ⟨d,j,HN.o,HF.o,.inl ⟨HW.o,rfl⟩⟩⟩,x.o⟩
   ·have HW:=I Y;have ac:=I (M.o.trans (o.mono M.o.size));have am:=I (jd o cs.o);have gc:=I (jd o eR.o);have f5:=I (eg.o.j o);have es:=I (ci.o va vc w5 (d5.o.trans (o.mono d5.o.size)) (cd.o.j o));clear o Y ci cd eR eg cs;go_wp2_with(refine kx rfl 120 (.tmp 12) rfl c.heap.size rfl 120 l (0,0) _ gc.o Tryz.underlying120 rfl b4.o ?_);refine es.o.mono ?_;clear es;rintro i w6 ⟨v6,rfl,dW,gp,ap⟩;rw[f9.o]at dW gp;obtain⟨sa,sc,gw,e4⟩:=UO dW;subst gw;have d6:=I (ac.o.trans (ap.mono ac.o.size));have gb:=I (jd ap am.o);have d8:=I (YS sa la sc lc (Xe pre b j d) (xE f b) w6 (by omega) (by omega) e4 (f5.o.j ap));clear ap dW e4;go_wp2_with fail;refine d8.o.mono ?_;clear d8;rintro i w7 ⟨rfl,dl⟩;have fw:=I (d6.o.trans (dl.mono d6.o.size));have eP:=I (jd dl gb.o);clear dl;have d7:J (L5 f b file pre (.returned (ZS (Jv (Xe pre b j d) (xE f b))))):=.inr ⟨ce.o,.inr ⟨d,j,HN.o,HF.o,.inr ⟨HW.o,rfl⟩⟩⟩;generalize Jv (Xe pre b j d) (xE f b)=ST at *;obtain⟨⟨y0,y1,y2,y3⟩,f0,f1,f2,f3⟩:=XP eP.o;obtain⟨g,er,fv⟩:∃(g:V5) (er:Int),ZS ST=.tuple #[P7 g,N er]:=by
     cases ST with
     | none=>exact⟨_,_,rfl⟩
     | some g=>exact⟨g,0,rfl⟩
    rw[fv]at d7 ⊢;have f7:=I (Yc eP.o (S g.ab) (S g.I) (S g.extra) (S g.body));have x:=I ((((fw.o.setCell (p:=A a.heap.size 0) (aA _) (S g.ab)).setCell (p:=A a.heap.size 1) (aA _) (S g.I)).setCell (p:=A a.heap.size 2) (aA _) (S g.extra)).setCell (p:=A a.heap.size 3) (aA _) (S g.body));clear fv;go_wp2;generalize (((w7.setCell _ _).setCell _ _).setCell _ _).setCell _ _=K0 at *;obtain⟨y,z,B,C⟩:=Jc f7.o;exact kk (v:=.tuple #[P7 g,N er]) (by simp[results,Tryz.results13,go_sem,y,z,B,C]) rfl ⟨d7.o,x.o⟩
def L4(c t:B8):Prop:=∃a b,c=a++t++b
def L4.c2(g:L4 s r)(h:L4 r l):L4 s l:=by
 obtain⟨d,e,rfl⟩:=g;obtain⟨c,f,rfl⟩:=h;exact⟨d++c,f++e,by simp[aD]⟩
def Pw{t:List W8}:∀(c:List V1) (a:List W6) (b:Nat) (g:V1) (f:W6),c[b]?=some g->a[b]?=some f->L4 (jw t c a) (qR (ji t g.c).key f):=by
 intro c
 induction c with
 | nil=>intro a b g f d;simp at d
 | cons m c k=>
  intro a b g f d e;cases a with
  | nil=>simp at e
  | cons l a=>
   cases b with
   | zero=>
    simp only[bU,aW]at d e;subst d;subst e;exact⟨[],jw t c a,by simp[jw]⟩
   | succ b=>
    simp only[bV]at d e;obtain⟨h,i,j⟩:=k a b g f d e;exact⟨qR (ji t m.c).key l++h,i,by simp[jw,j,aD]⟩
variable{B:List W8}{L:List V1}{H:List W6}
def jab(a:V2 B L H):∀(b:Nat) (d:V1) (c:W6),L[b]?=some d->H[b]?=some c->zJ (ji B d.c).key c:=by
 induction a using V2.ind with
 | nil=>intro b d c a;simp at a
 | cons h _ i=>
  intro b d c a e;cases b with
  | zero=>
   simp only[bU,aW]at a e;subst a;subst e;exact h
  | succ b=>
   simp only[bV]at a e;exact i b d c a e
variable{K:Int}{c g i k m n:Nat}
def Ss:∀(e:List V1) (b:List W6) (g:V5),g∈xm s E K n e b->∃(h:Nat) (d:V1) (f:W6),e[h]?=some d/\b[h]?=some f/\d.c=n/\g=⟨jh E K,f.I,jz s d.sort d.g d.c d.p,f.body⟩:=by
 intro e
 induction e with
 | nil=>intro b g a;cases b<;>simp[xm]at a
 | cons d e o=>
  intro b g a;cases b with
  | nil=>simp[xm]at a
  | cons f b=>
   simp only[xm,aX]at a;rcases a with a|a
   ·split at a
    ·rename_i c;simp only[bD,bH,dm]at a;exact⟨0,d,f,rfl,rfl,c,a⟩
    ·simp at a
   ·obtain⟨h,q,p,j,k,l,m⟩:=o b g a;exact⟨h+1,q,p,j,k,l,m⟩
structure zac (file:B8) (x:V5):Prop where
 df:L4 file (x.I++x.body)
 opens:∃ p,qE x.ab x.I x.extra x.body=some p
 ab:x.ab.length=8
 I:x.I.length=4
 extra:x.extra.length<=5000
 body:x.body.length<=5002
def jcw{a:U0}(z:qJ s r E false=(0,some Z))(o:xL s=some a):∀n∈Xe r E a Z,zac s n:=by
 obtain⟨h,v,f',footer,pre,H,T,B,O⟩:=GT z;rw[o]at pre;cases pre;obtain⟨l,F⟩:=Uz o;have j:=Zz T;have bX:=(VP z o).1;have ap:L4 s a.parts:=by
  rw[<-F];exact⟨_,_,by unfold xN;rw[<-aD]⟩
 intro n d;unfold Xe at d;rcases bD.1 d with rfl|d
 ·have e:L4 s ((xT r E a).I++(xT r E a).body):=by
   rw[<-F];show L4 (xN a) (a.I++a.body);unfold xN qP;refine⟨([67,70]++[if a.told=true then 79 else 69]++[T4 (a.R:Int)])++a.parts++((if a.told=true then qh (a.footer.length:Int)++a.footer else[])++qh (a.body.length:Int)),(qh (((if a.told=true then qh (a.footer.length:Int)++a.footer else[])++(qh (a.body.length:Int)++(a.I++a.body))).length:Int)++[67,70]),?_⟩;simp only[aD]
  have bi:=zL r 83 0 0 0 h;have bv:=zL r 70 0 0 0 h;have V:a.told=true->a.footer.length<=4200:=by
   intro f;have L:=(B f).1;subst L;exact Xm (fun n d=>by
    have ac:=XA _ _ _ _ n d;have h3:=(KH a).2.2;have C:=(JR l rfl).len;have h5:=l.short;rw[<-j.parts]at ac;omega) j
  cases f:a.told with
  | true=>
   have k:=(B f).2;have:=V f;refine⟨e,⟨[],?_⟩,JB v H,l.I,?_,(KR k).2⟩
   ·simp only[xT,f,db];exact k
   ·simp only[xT,f,db,aB];omega
  | false=>
   have k:=O f;refine⟨e,⟨footer,?_⟩,JB v H,l.I,?_,(KR k).2⟩
   ·simp only[xT,f,cD,dz];exact k
   ·simp only[xT,f,cD,dz];omega
 ·simp only[cU,cF]at d;obtain⟨c,U,d⟩:=d;split at d
  ·rename_i u;have p:=IG u;obtain⟨y,i,g,w,b,x,rfl⟩:=Ss _ _ _ d;have e:(qq r E Z c).state=0:=by
    simp only[xM,aK,aN]at u;exact u.2
   have G:=jab j.ae y i g w b;rw[x]at G;have am:g.I.length=4/\g.body.length<=65535:=by
    rcases G with⟨M,_⟩|⟨_,_,C,_,P⟩
    ·exact absurd M p
    ·exact⟨C,P⟩
   have K:=Pw (t:=Z.U) (qp Z) Z.ae y i g w b;rw[<-j.parts,x]at K;have Y:L4 (qR (ji Z.U c).key g) (g.I++g.body):=⟨qh (g.body.length:Int),[],by unfold qR;rw[aL p];simp⟩;unfold qq at e;by_cases q:0<(ji Z.U c).key/\jG E (ji Z.U c).key=false
   ·rw[aQ q]at e;simp at e
   ·rw[aL q]at e;have file:0<(ji Z.U c).key:=by
     have be:=XN j.aq j.bare (ji Z.U c) (by rw[xP U];exact aJ _);have:=be.key;omega
    have X:jG E (ji Z.U c).key=true:=by
     cases hq:jG E (ji Z.U c).key with
     | true=>rfl
     | false=>exact absurd ⟨file,hq⟩ q
    cases D:jP r E (ji Z.U c).kind (ji Z.U c).key c (some []) (qp Z) Z.ae with
    | none=>rw[D]at e;simp at e
    | some cells=>
     obtain⟨plain,m⟩:=Gy _ _ _ _ D y i g w b x;unfold zo at m;rw[aL p]at m;have hb:=zL r i.sort i.g i.c i.p h;exact⟨(ap.c2 K).c2 Y,⟨plain,m⟩,JB v X,am.1,by simp only;omega,(KR m).2⟩
  ·simp at d
def PM(e:Vn V):∀j∈V,∀d∈V,j.pre=d.pre->j=d:=by
 intro j k d l f;obtain⟨a,g,rfl⟩:=cA.1 k;obtain⟨b,h,rfl⟩:=cA.1 l;rcases gI a b with n|i|m
 ·exact absurd f (e b h _ (di.2 ⟨a,by omega,rfl⟩))
 ·subst i;rfl
 ·exact absurd f.symm (e a g _ (di.2 ⟨b,by omega,rfl⟩))
def Gm(g:U1)(c:W8):KE g c=true↔Lb g c:=by
 unfold KE Lb;simp only[aK,aN,dp,fL,D4];constructor
 ·rintro⟨⟨⟨d,e⟩,f⟩,a⟩;refine⟨⟨d,e,f⟩,fun b=>?_⟩;rcases a with a|a
  ·rw[a]at b;cases b
  ·exact a
 ·rintro⟨⟨d,e,f⟩,a⟩;refine⟨⟨⟨d,e⟩,f⟩,?_⟩;cases b:xM g with
  | false=>exact .inl rfl
  | true=>exact .inr (a b)
def WI(e:Tu (ZY s E Z) B):Jo (qq s E Z) Z.U.length B=true:=by
 obtain⟨i,f⟩:=e;have j:Z.U.length=B.length:=by simpa[ZY]using i
 unfold Jo;rw[aK,aN];refine⟨j,C7.2 fun d h=>(Gm _ _).2 ?_⟩;have:=f d (by omega);have g:(ZY s E Z).getD d ⟨[],0,0,0,[]⟩=qq s E Z d:=by
  unfold ZY;rw[ei,dB,eT h];rfl
 rw[g]at this;exact this
def Ms   {file pre:List UInt8}  {f:U0} (hg:∀ j ∈ V,P6 j E) (hd:Vn V) (hr:qJ file pre E false=(0,some Z)) (hf:xL file=some f) (hw:¬ zZ (qq pre E Z) Z.U.length pre V):∃ x,Jv (Xe pre E f Z) (xE V E)=some x∧zac file x∧x ∉ xE V E∧x ∈ Xe pre E f Z:=by
 cases hs:Jv (Xe pre E f Z) (xE V E) with
 | some x=>
  unfold Jv at hs
  have h1:=List.mem_of_find?_eq_some hs
  have h2:=List.find?_some hs
  exact ⟨x,rfl,jcw hr hf x h1,E0.1 (by simpa using h2),h1⟩
 | none=>
  exfalso
  unfold Jv at hs
  rw [List.find?_eq_none] at hs
  have hall:∀ x ∈ Xe pre E f Z,∃ j ∈ V,x ∈ Xu j E:=by
   intro x hx
   have:=hs x hx
   have:=G0.1 (by simpa using this)
   unfold xE at this
   exact List.mem_flatMap.1 this
  obtain ⟨j,hj,hp,ht⟩:=Cm hg (PM hd) hr hf hall
  obtain ⟨a,ha,rfl⟩:=List.mem_iff_getElem.1 hj
  exact hw ⟨a,ha,hp,fun k hk=>by rw [← hp];exact hd a ha k hk,WI ht⟩
def JX(b:Nat->U1)(c:List W8):Nat->Bool
 | 0=>false
 | a+1=>JX b c a||(decide (0<(b a).key)&&decide ((b a).state=0) && !Kg (b a).cells (ji c a).cells)
def Jj(a:Nat->U1)(n:Nat)(b:List W8):Bool:=!YU a n b||JX a b n
def MN{F:Nat->U1}{T:List W8}(e:m<n)(c:JX F T (m+1)=true):JX F T n=true:=by
 induction n with
 | zero=>omega
 | succ n d=>
  by_cases b:m=n
  ·subst b;exact c
  ·simp only[JX,d (by omega),Bool.true_or]
def TK{a:Nat->U1}{c:List W8}:∀{n:Nat},JX a c n=false↔∀b,b<n->¬(0<(a b).key/\(a b).state=0/\(a b).cells≠(ji c b).cells):=by
 intro n
 induction n with
 | zero=>exact⟨fun _ b i=>by omega,fun _=>rfl⟩
 | succ n k=>
  simp only[JX,gy];rw[k];have key:(decide (0<(a n).key)&&decide ((a n).state=0) && !Kg (a n).cells (ji c n).cells)=false↔¬(0<(a n).key/\(a n).state=0/\(a n).cells≠(ji c n).cells):=by
   cases h:Kg (a n).cells (ji c n).cells
   ·have f:=E9.1 h;by_cases d:0<(a n).key<;>by_cases e:(a n).state=0<;>simp[d,e,f]
   ·have f:=D4.1 h;by_cases d:0<(a n).key<;>by_cases e:(a n).state=0<;>simp[d,e,f]
  rw[key];refine⟨fun⟨d,e⟩ b i=>?_,fun g=>⟨fun b i=>g b (by omega),g n (by omega)⟩⟩;by_cases j:b=n
  ·subst j;exact e
  ·exact d b (by omega)
variable{Y:Nat->U1}
def ML{T:List W8}(l:∀i,i<n->0<=(Y i).key):Jj Y n T=!Jo Y n T:=by
 have key:Jj Y n T=false↔Jo Y n T=true:=by
  unfold Jj Jo YU;rw[gy,Bool.not_eq_false',aK,aK,aN,PW,TK,C7];constructor
  ·rintro⟨⟨d,f⟩,k⟩;refine⟨d,fun a e=>(Gm _ _).2 ⟨f a e,fun h=>?_⟩⟩;simp only[xM,aK,aN]at h;have:=k a e;have o:=l a e;by_cases g:(Y a).cells=(ji T a).cells
   ·exact g
   ·exact absurd ⟨by omega,h.2,g⟩ this
  ·rintro⟨d,f⟩;refine⟨⟨d,fun a e=>((Gm _ _).1 (f a e)).1⟩,fun a e ⟨m,j,c⟩=>?_⟩;exact c (((Gm _ _).1 (f a e)).2 (by simp only[xM,aK,aN];exact⟨by omega,j⟩))
 cases d:Jo Y n T with
 | true=>rw[key.2 d];rfl
 | false=>
  cases f:Jj Y n T with
  | true=>rfl
  | false=>rw[key.1 f]at d;cases d
def Po(e:qJ s r E false=(0,some Z)):∀b,b<Z.U.length->0<=(qq r E Z b).key:=by
 intro b f;obtain⟨_,_,g,parts,footer,c⟩:=Rk e;rw[Ay];exact(XN c.aq c.bare (ji Z.U b) (by rw[xP f];exact aJ _)).key.1
abbrev zab(v:Value)(j:V6):List Value:=[v,N j.J.group,N j.J.aa,N j.J.R,.bool j.J.told,S j.pre,N j.draw]
def GF(P:List (V6×Value)):List Value:=P.flatMap fun p=>zab p.2 p.1
def NL(a:List (V6×Value)):(GF a).length=a.length*7:=Qn _ 7 (fun _=>rfl) a
def EH(a:List (V6×Value))(j:Nat)(c:j<a.length)(b:Nat)(d:b<7):(GF a)[j*7+b]?=(zab (a[j]).2 (a[j]).1)[b]?:=Jl _ 7 (fun _=>rfl) a j b c d
abbrev D1:V6:=⟨[],⟨0,0,0,false⟩,[109,97,114,107],-77⟩
def OR:V6×Value:=(D1,.slice none 0 0)
def Al:V6×Value:=(⟨[],⟨0,0,0,false⟩,[],0⟩,.slice none 0 0)
def Tryz.cr:(Tryz.prog.info? 26).map (fun a=>(a.zero,a.size,a.bytes))=some (some (.agg #[.slice none 0 0,N 0,N 0,N 0,.bool false,.string ⟨#[]⟩,N 0]),7,80):=by kernel_rfl
def Pn(n:Nat):GF (List.replicate n Al)=(madeCells (Value.agg #[.slice none 0 0,N 0,N 0,N 0,.bool false,.string ⟨#[]⟩,N 0]).cells (n*7)).toList:=by
 have j:(Value.agg #[.slice none 0 0,N 0,N 0,N 0,.bool false,.string ⟨#[]⟩,N 0]).cells=#[.slice none 0 0,N 0,N 0,N 0,.bool false,.string ⟨#[]⟩,N 0]:=rfl;apply eF;intro c;by_cases d:c<n*7
 ·obtain⟨b,a,g,rfl⟩:∃b a,a<7/\c=b*7+a:=⟨c/7,c%7,fU _ (by decide),by omega⟩;have f:b<(List.replicate n Al).length:=by simp;omega
  rw[EH _ b f a g,j];simp only[cH];have i:(b*7+a)%7=a:=by omega
  have h:a=0\/a=1\/a=2\/a=3\/a=4\/a=5\/a=6:=by omega
  rcases h with rfl|rfl|rfl|rfl|rfl|rfl|rfl
  ·have e:b*7<n*7:=(by omega);simp[madeCells,e,Al]
  all_goals simp[madeCells,d,i,Al]
 ·rw[cN (by rw[NL];simp;omega),cN (by rw[dP,lf];omega)]
abbrev B6(b:W)(g a:Nat)(j:V6)(v:Value):W:=((((((b.setCell (A g (a*7)) v).setCell (A g (a*7+1)) (N j.J.group)).setCell (A g (a*7+2)) (N j.J.aa)).setCell (A g (a*7+3)) (N j.J.R)).setCell (A g (a*7+4)) (.bool j.J.told)).setCell (A g (a*7+5)) (S j.pre)).setCell (A g (a*7+6)) (N j.draw)
def jfm(a b:List (V6×Value))(f:V6×Value)(j:V6)(v:Value):(((((((GF (a++f::b)).set (a.length*7) v).set (a.length*7+1) (N j.J.group)).set (a.length*7+2) (N j.J.aa)).set (a.length*7+3) (N j.J.R)).set (a.length*7+4) (.bool j.J.told)).set (a.length*7+5) (S j.pre)).set (a.length*7+6) (N j.draw)=GF (a++(j,v)::b):=by
 have e:=NL a;have d:∀c:V6×Value,GF (a++c::b)=GF a++(zab c.2 c.1++GF b):=by intro c;simp[GF]
 rw[d,d,<-e];rw[bI _ _ (aA _),bI _ _ (by omega),bI _ _ (by omega),bI _ _ (by omega),bI _ _ (by omega),bI _ _ (by omega),bI _ _ (by omega)];simp
abbrev H8(b:W)(a g n:Nat)(P:List (V6×Value)):Prop:=b.ownsRow a 26 7 (R g n n) n (GF P)
variable{v w:W}{C:List Value}
def IE(f:w.ownsRow n i g (R m k k) k C)(o:Nat)(e:Value):V8 [i] n w (w.setCell (A m o) e):=by
 rcases f.2 with⟨a,_⟩|⟨p,l,j,a,h,b,_⟩
 ·simp at a
 ·simp only[cx,aW,cG,de,eu]at a;obtain⟨rfl,rfl⟩:=a;exact(V8.refl _ _ _).set b h (by simp) e
def H8.cy{b g n k:Nat}{Z8 c:List (V6×Value)}{q:V6×Value}(d:H8 w b g n (Z8++q::c))(p:Z8.length=k)(j:V6)(v:Value):H8 (B6 w g k j v) b g n (Z8++(j,v)::c)/\V8 [26] b w (B6 w g k j v):=by
 subst p;have e:=(d.stored (Z8.length*7) v).1;have f:=(e.stored (Z8.length*7+1) (N j.J.group)).1;have h:=(f.stored (Z8.length*7+2) (N j.J.aa)).1;have i:=(h.stored (Z8.length*7+3) (N j.J.R)).1;have l:=(i.stored (Z8.length*7+4) (.bool j.J.told)).1;have m:=(l.stored (Z8.length*7+5) (S j.pre)).1;have o:=(m.stored (Z8.length*7+6) (N j.draw)).1;rw[jfm]at o;exact⟨o,((((((IE d _ _).trans (IE e _ _)).trans (IE f _ _)).trans (IE h _ _)).trans (IE i _ _)).trans (IE l _ _)).trans (IE m _ _)⟩
def D8(b:W)(a:Nat)(p:V6×Value):Prop:=∃g,p.2=R g p.1.table.length (p.1.table.length+8)/\U9 b a g p.1.table
def D8.j{base:Nat}{p:V6×Value}(c:D8 w base p)(f:Below w.heap.size w v):D8 v base p:=by
 obtain⟨g,d,e⟩:=c;exact⟨g,d,e.j f⟩
def D8.kept{p:V6×Value}(e:D8 w n p)(i:V8 [26] m w v):D8 v n p:=by
 obtain⟨g,f,h⟩:=e;exact⟨g,f,h.ag i (by decide) (by decide)⟩
structure G4 (w:W) (base g:Nat) (js:List V6) (k m:Nat):Prop where
 ex:∃P:List (V6×Value),P.map Prod.fst=js.take k/\(∀p∈P,D8 w base p)/\H8 w base g (js.length+8) (P++(List.replicate m OR++List.replicate (js.length+8-k-m) Al))
def G4.j{base g d e:Nat}{c:List V6}(h:G4 w base g c d e)(b:Below w.heap.size w v):G4 v base g c d e:=by
 obtain⟨P,i,j,k⟩:=h.ex;exact⟨P,i,fun p l=>(j p l).j b,ZC k b⟩
def G4.a2(e:G4 w n m V k i):n<=m/\m<w.heap.size/\(∀o,o<(V.length+8)*7->∃v,w.cell? (A m o)=some v)/\∀o,w.frozen? (A m o)=false:=by
 obtain⟨P,_,_,a⟩:=e.ex;have g:=a.1;refine⟨(a.lt m rfl).1,(a.lt m rfl).2,fun o j=>?_,fun o=>a.frozenAt o⟩;rw[a.cellAt o (by omega),aR (by omega)];exact⟨_,rfl⟩
def G4.step(e:G4 w n m V k 0)(o:k<V.length)(q:U9 w n i (V[k]).table):G4 (B6 w m k V[k] (R i (V[k]).table.length ((V[k]).table.length+8))) n m V (k+1) 0:=by
 obtain⟨P,h,l,a⟩:=e.ex;have b:P.length=k:=by have:=bN List.length h;simp at this;omega
 rw[show V.length+8-k-0=(V.length+8-(k+1)-0)+1 by omega,dt]at a;obtain⟨g,j⟩:=H8.cy (Z8:=P) a b V[k] (R i (V[k]).table.length ((V[k]).table.length+8));refine⟨P++[(V[k],R i (V[k]).table.length ((V[k]).table.length+8))],?_,?_,?_⟩
 ·rw[eb,h,aH o];rfl
 ·intro p c;rcases aX.1 c with c|c
  ·exact(l p c).kept j
  ·simp only[bD,bH,dm]at c;subst c;exact D8.kept ⟨i,rfl,q⟩ j
 ·rw[aD];exact g
def G4.mark(c:G4 w n m V V.length i)(o:i<8):G4 (B6 w m (V.length+i) D1 (.slice none 0 0)) n m V V.length (i+1):=by
 obtain⟨P,d,j,e⟩:=c.ex;have g:P.length=V.length:=by have:=bN List.length d;simpa using this
 rw[show V.length+8-V.length-i=(V.length+8-V.length-(i+1))+1 by omega,dt,<-aD]at e;obtain⟨f,l⟩:=H8.cy (k:=V.length+i) e (by simp[g]) D1 (.slice none 0 0);refine⟨P,d,fun p b=>(j p b).kept l,?_⟩;rw[en,aD];rw[aD]at f;exact f
def IC(e:Below n w v)(b:n<=m)(a:Nat)(j:V6)(wr:Value):Below n w (B6 v m a j wr):=((((((e.setCell (p:=A m (a*7)) b _).setCell (p:=A m (a*7+1)) b _).setCell (p:=A m (a*7+2)) b _).setCell (p:=A m (a*7+3)) b _).setCell (p:=A m (a*7+4)) b _).setCell (p:=A m (a*7+5)) b _).setCell (p:=A m (a*7+6)) b _
abbrev M6(c:W)(b g:Nat)(a:List V6):Prop:=G4 c b g a a.length 8
def M6.bj(g:M6 w n m V)(a:Nat)(r:a<V.length):∃d,(∀c,c<7->w.cell? (A m (a*7+c))=(zab (R d (V[a]).table.length ((V[a]).table.length+8)) V[a])[c]?)/\U9 w n d (V[a]).table:=by
 obtain⟨P,e,o,j⟩:=g.ex;rw[aS]at e;have q:P.length=V.length:=by have:=bN List.length e;simpa using this
 have k:a<P.length:=by omega
 have i:P[a].1=V[a]:=by
  have:(P.map Prod.fst)[a]'(by rw[cJ];exact k)=V[a]:=by simp only[e]
  simpa using this
 obtain⟨d,b,l⟩:=o P[a] (aJ _);rw[i]at b l;refine⟨d,fun c p=>?_,l⟩;have s:=j.1;rw[j.cellAt _ (by omega),EH _ a (by simp;omega) c p,dC k,b,i]
def M6.mark(j:M6 w n m V)(d:Nat)(o:d<8)(b:Nat)(k:b<7):w.cell? (A m ((V.length+d)*7+b))=(zab (.slice none 0 0) D1)[b]?:=by
 obtain⟨P,e,l,c⟩:=j.ex;rw[aS]at e;have g:P.length=V.length:=by have:=bN List.length e;simpa using this
 have a:=c.1;have i:List.replicate 8 OR++List.replicate (V.length+8-V.length-8) Al=List.replicate 8 OR:=by rw[show V.length+8-V.length-8=0 by omega];simp
 rw[i]at c;rw[c.cellAt _ (by omega),EH _ (V.length+d) (by simp;omega) b k,dA (by omega),cH];rfl
variable{a:O'}
def M6.av(d:M6 w n m V)(l:P0 v a V):P0 w (some (A m 0)) V:=by
 refine⟨fun g=>⟨m,0,rfl,d.a2.2.1,fun f e=>?_⟩⟩;obtain⟨p,b,j⟩:=d.bj f e;obtain⟨_,_,_,_,k⟩:=l.at_ g;obtain⟨_,_,_,_,_,_,_,_,_,o⟩:=k f e;simp only[dh];exact⟨_,_,b 0 (by decide),b 1 (by decide),b 2 (by decide),b 3 (by decide),b 4 (by decide),b 5 (by decide),b 6 (by decide),j.av o.table,o.len,by omega,o.pre,o.draw,o.group,o.aa,o.R⟩
def Si(z:O')(be:Nat)(a:List V6)(f:W)(P:P0 f z a)(T:a.length*80<=140737488351232)(U:∀j∈a,j.table.length*56<=140737488351232):C' 12 #[.slice z a.length be] f fun B V=>∃g,B=.returned (R g a.length (a.length+8))/\M6 V f.heap.size g a/\Below f.heap.size f V:=by
 obtain⟨i1,bv,cd,ce,ci⟩:=ks Tryz.cr;have Hj:=I P;have Ht:=I U;clear P U;go_enter Tryz.func12,Tryz.ntmps12;go_wp2_with(at_make;refine kN _ rfl (.tmp 10) (.tmp 10) 36 rfl f.heap.size 26 i1 (.agg #[.slice none 0 0,N 0,N 0,N 0,.bool false,.string ⟨#[]⟩,N 0]) 7 Tryz.underlying36 bv cd ce .i64 .i64 _ _ (a.length+8) rfl rfl (by omega) (by omega) (by rw[ci];omega) (by unfold maxLen;omega) (aA _) ?_;intro X x s;rw[<-Pn]at x);have y:J (G4 X f.heap.size f.heap.size a 0 0):=⟨[],by simp,by simp,by simpa using x⟩;have H:Below f.heap.size f X:=(k8 _ _).grown s (aA _) (fun _ bi=>by cases bi);clear x s;generalize O:f.heap.size=g at *;have r:=I O;clear O;go_loopw [5] (fun n wr=>∃b:Nat,b<=a.length/\n=N b/\G4 wr g g a b 0/\Below g f wr) (fun n _=>a.length-(intOf n).toNat)
 case atStart=>exact⟨0,aG _,rfl,y.o,H⟩
 case round=>
  clear H y;obtain⟨b,hk,rfl,q,h⟩:=hrel;have k:=I q;clear q;by_cases w:b<a.length
  ·have i:Below f.heap.size f wr:=(by rw[r.o];exact h);obtain⟨l,o,rfl,m,M⟩:=Hj.o.at_ (aE (by omega));obtain⟨ta,tc,C,g1,D,E,F,G,g6,L⟩:=M b w;have e0:=(i.cell (p:=A l (o+b*7)) m).trans C;have e1:=(i.cell (p:=A l (o+b*7+1)) m).trans g1;have e2:=(i.cell (p:=A l (o+b*7+2)) m).trans D;have e3:=(i.cell (p:=A l (o+b*7+3)) m).trans E;have e4:=(i.cell (p:=A l (o+b*7+4)) m).trans F;have e5:=(i.cell (p:=A l (o+b*7+5)) m).trans G;have e6:=(i.cell (p:=A l (o+b*7+6)) m).trans g6;have HJ:=I (L.j i);have v:=i.size;rw[r.o]at v;clear M L i C g1 D E F G g6;have co:(b:Int)<(a.length:Int):=(by omega);go_wp2_with fail;clear e0 e1 e2 e3 e4 e5 e6;refine(WG ta tc a[b] wr HJ.o (Ht.o _ (aJ w))).mono ?_;rintro B w5 ⟨gi,rfl,K,u⟩;have t:=I (k.o.j u);obtain⟨_,s,e,d⟩:=t.o.a2;obtain⟨u0,s0⟩:=e (b*7) (by omega);obtain⟨u1,s1⟩:=e (b*7+1) (by omega);obtain⟨u2,s2⟩:=e (b*7+2) (by omega);obtain⟨u3,s3⟩:=e (b*7+3) (by omega);obtain⟨u4,s4⟩:=e (b*7+4) (by omega);obtain⟨u5,s5⟩:=e (b*7+5) (by omega);obtain⟨u6,s6⟩:=e (b*7+6) (by omega);have f0:=d (b*7);have f1:=d (b*7+1);have f2:=d (b*7+2);have f3:=d (b*7+3);have f4:=d (b*7+4);have f5:=d (b*7+5);have f6:=d (b*7+6);have ap:=I (t.o.step w (K.bx v));have ac:=I (IC (h.trans (u.mono v)) (aA g) b a[b] (R gi (a[b]).table.length ((a[b]).table.length+8)));clear e d K u h k t;go_wp2;go_roundw
   ·exact⟨b+1,by omega,by go_num,ap.o,ac.o⟩
   ·simp[intOf];omega
  ·have bX:b=a.length:=(by omega);subst bX;go_wp2_with fail;go_loopw [6] (fun n wr=>∃c:Nat,c<=8/\n=N c/\G4 wr g g a a.length c/\Below g f wr) (fun n _=>8-(intOf n).toNat)
   case atStart=>exact⟨0,aG _,rfl,k.o,h⟩
   case round=>
    clear h k;rename_i wq _ _ _;obtain⟨c,cs,rfl,q,h⟩:=hrel;have k:=I q;clear q;by_cases b4:c<8
    ·obtain⟨_,s,e,d⟩:=k.o.a2;obtain⟨u0,s0⟩:=e ((a.length+c)*7) (by omega);obtain⟨u1,s1⟩:=e ((a.length+c)*7+1) (by omega);obtain⟨u2,s2⟩:=e ((a.length+c)*7+2) (by omega);obtain⟨u3,s3⟩:=e ((a.length+c)*7+3) (by omega);obtain⟨u4,s4⟩:=e ((a.length+c)*7+4) (by omega);obtain⟨u5,s5⟩:=e ((a.length+c)*7+5) (by omega);obtain⟨u6,s6⟩:=e ((a.length+c)*7+6) (by omega);have f0:=d ((a.length+c)*7);have f1:=d ((a.length+c)*7+1);have f2:=d ((a.length+c)*7+2);have f3:=d ((a.length+c)*7+3);have f4:=d ((a.length+c)*7+4);have f5:=d ((a.length+c)*7+5);have f6:=d ((a.length+c)*7+6);have am:=I (k.o.mark b4);have Z:=I (IC h (aA g) (a.length+c) D1 (.slice none 0 0));clear h e d k;go_wp2;go_roundw
     ·exact⟨c+1,by omega,by go_num,am.o,Z.o⟩
     ·simp[intOf];omega
    ·have T:c=8:=(by omega);subst T;have Y:=I h;clear h;go_wp2;go_ret;exact⟨g,rfl,by rw[r.o];exact k.o,by rw[r.o];exact Y.o⟩
abbrev At7(b:W)(a o:Nat)(v:Value)(j:V6):Prop:=b.cell? (A a o)=some v/\b.cell? (A a (o+1))=some (N j.J.group)/\b.cell? (A a (o+2))=some (N j.J.aa)/\b.cell? (A a (o+3))=some (N j.J.R)/\b.cell? (A a (o+4))=some (.bool j.J.told)/\b.cell? (A a (o+5))=some (S j.pre)/\b.cell? (A a (o+6))=some (N j.draw)
def At7.j{d e:W}{v:Value}{j:V6}(f:At7 d n m v j)(c:n<d.heap.size)(b:Below d.heap.size d e):At7 e n m v j:=by
 obtain⟨g,h,i,k,l,o,a⟩:=f;exact⟨(b.cell (p:=A n _) c).trans g,(b.cell (p:=A n _) c).trans h,(b.cell (p:=A n _) c).trans i,(b.cell (p:=A n _) c).trans k,(b.cell (p:=A n _) c).trans l,(b.cell (p:=A n _) c).trans o,(b.cell (p:=A n _) c).trans a⟩
def IZ(C:O')(X g D:Nat)(b:List V6)(f:W)(K:P0 f C b)(L:b.length*80<=140737488351232)(M:∀j∈b,j.table.length*56<=140737488351232)(E:M6 f D g b):C' 15 #[R g b.length (b.length+8),.slice C b.length X] f fun p d=>p=.returned (.bool true)/\Below f.heap.size f d:=by
 have U:=I K;have y:=I E;have V:=I M;clear K E M;go_enter Tryz.func15,Tryz.ntmps15;go_wp2_with fail;go_loopw [6] (fun i wr=>∃a:Nat,a<=b.length/\i=N a/\Below f.heap.size f wr) (fun i _=>b.length-(intOf i).toNat)
 case atStart=>exact⟨0,aG _,rfl,k8 _ _⟩
 case round=>
  obtain⟨a,hk,rfl,c⟩:=hrel;by_cases w:a<b.length
  ·obtain⟨v,x,rfl,Z,H⟩:=(U.o.j c).at_ (aE (by omega));obtain⟨n,o,c0,c1,c2,c3,c4,c5,c6,F⟩:=H a w;have t:=I (y.o.j c);obtain⟨m,h,G⟩:=M6.bj t.o a w;have ac:=t.o.a2.2.1;have s:J (At7 wr v (x+a*7) (.slice n (b[a]).table.length o) b[a]):=⟨c0,c1,c2,c3,c4,c5,c6⟩;have u:J (At7 wr g (a*7) (R m (b[a]).table.length ((b[a]).table.length+8)) b[a]):=⟨h 0 (by decide),h 1 (by decide),h 2 (by decide),h 3 (by decide),h 4 (by decide),h 5 (by decide),h 6 (by decide)⟩;have z:J (∀d,Below wr.heap.size wr d->C' 34 #[D0 (R m (b[a]).table.length ((b[a]).table.length+8)) b[a],D0 (.slice n (b[a]).table.length o) b[a]] d fun p w2=>p=.returned (.bool true)/\Below d.heap.size d w2):=fun d O=>SZ n o m D b[a] d (F.j O) (V.o _ (aJ w)) (G.j O)
   have l:=I c;clear H F h G t c0 c1 c2 c3 c4 c5 c6 c;have be:(a:Int)<(b.length:Int):=(by omega);generalize b[a]=e at *;go_wp2_with fail;go_region_held3 (fun d=>At7 d v (x+a*7) (.slice n e.table.length o) e/\At7 d g (a*7) (R m e.table.length (e.table.length+8)) e)
    (first|exact B|exact⟨s.o,u.o⟩)
    (first|(go_at_call 34;refine(z.o _ (Qj _)).mono ?_;rintro p P ⟨rfl,r⟩;have B:At7 P v (x+a*7) (.slice n e.table.length o) e/\At7 P g (a*7) (R m e.table.length (e.table.length+8)) e:=⟨s.o.j Z (jg r),u.o.j ac (jg r)⟩))
   rename_i Y;clear Y;obtain⟨⟨c0,c1,c2,c3,c4,c5,c6⟩,⟨o0,o1,o2,o3,o4,o5,o6⟩⟩:=B;have T:=I (l.o.trans ((jg r).mono l.o.size));clear r l z s u;go_wp2_with fail;go_quiet(fail);go_wp2_with fail;go_roundw
   ·exact⟨a+1,by omega,by go_num,below_drewN T.o nq⟩
   ·simp[intOf];omega
  ·have am:a=b.length:=(by omega);subst am;go_wp2_with fail;go_loopw [9] (fun i wr=>∃k:Nat,k<=8/\i=N k/\Below f.heap.size f wr) (fun i _=>8-(intOf i).toNat)
   case atStart=>exact⟨0,aG _,rfl,c⟩
   case round=>
    clear c;obtain⟨k,bi,rfl,c⟩:=hrel;by_cases ap:k<8
    ·have q:=M6.mark (y.o.j c) k ap;have c0:=q 0 (by decide);have c2:=q 5 (by decide);have c3:=q 6 (by decide);simp only[dD,bU,bV]at c0 c2 c3;clear q;go_wp2_with fail;exact⟨⟨k+1,by omega,by go_num,c⟩,by simp[intOf];omega⟩
    ·have L:k=8:=(by omega);subst L;have l:=I c;clear c;go_wp2;go_ret;exact⟨rfl,l.o⟩
section
open Go.ChangeShapes Go.WideShapes Go.ChangeAt Go.RowKit Go.Deep Go.Joins
def Tryz.ch:Tryz.prog.bytesOf 26=80:=by kernel_rfl
def FE{r:Type}{F:TypeId×Value->r}{C:DataW r×List MemPlace}
  (i:DataW.trod F Tryz.prog w 0 (fun _=>true) true n 36 [.slice a m k]=some C)(y:∀H∈C.1.weights Tryz.prog 36,H<=reachBytes):∃g:List V6,g.length=m/\m<=k/\k<=maxLen/\P0 w a g/\g.length*80<=140737488351232/\∀j∈g,j.table.length*56<=140737488351232:=by
 rcases open_slice Tryz.underlying36 i with⟨e,_⟩|⟨t,b4,bi,B,H,D,Pl,e,_,X,Y,x,rfl,z⟩
 ·simp at e;obtain⟨rfl,rfl,rfl⟩:=e;exact⟨[],rfl,aA _,by decide,⟨fun i=>absurd rfl i⟩,by simp,by simp⟩
 ·simp at e;obtain⟨rfl,rfl,rfl⟩:=e;simp only[db]at x;subst x;rw[Tryz.bs]at z;have ap:(m+(B-m))*80<=reachBytes:=by
   have:=y ((m+(B-m))*Tryz.prog.bytesOf 26) (by simp only[DataW.weights,Tryz.underlying36,cJ,fI];exact cC ..);rw[Tryz.ch]at this;exact this
  simp only[reachBytes]at ap;have E:∀len,len<m->∃q:V6×O'×Nat,(∀f,f<7->w.cell? (t.add (len*7+f))=([.slice q.2.1 q.1.table.length q.2.2,N q.1.J.group,N q.1.J.aa,N q.1.J.R,.bool q.1.J.told,S q.1.pre,N q.1.draw]:List Value)[f]?)/\F6 w q.2.1 q.2.2 q.1/\q.1.table.length*56<=140737488351232:=by
   intro len o;obtain⟨bv,L,M⟩:=z len (by omega);obtain⟨ta,tc,j,rfl,p,U⟩:=OF M (fun H Z=>y H (by
    simp only[DataW.weights,Tryz.underlying36];refine bA _ (gu _ (Yk (d:=D len) ?_ Z));exact cM.2 ⟨len,cF.2 o,rfl⟩))
   obtain⟨_,_,P⟩:=e9 L;refine⟨(j,ta,tc),fun f V=>?_,p,U⟩;have v:=P f (by simpa using V);rw[add_add]at v;exact v
  have bX:Inhabited (V6×O'×Nat):=⟨⟨⟨[],⟨0,0,0,false⟩,[],0⟩,none,0⟩⟩;obtain⟨G,b⟩:=choose_lt E;refine⟨(List.range m).map (fun len=>(G len).1),by simp,X,Y,⟨?_⟩,by simp;omega,?_⟩
  ·intro ac;have hp:0<m:=by
    rcases dH m with s|s
    ·subst s;simp at ac
    ·exact s
   obtain⟨u,be,spot⟩:=t;have l:=(b 0 hp).1 0 (by decide);have am:spot=none:=(by simpa[Addr.add]using fq l);subst am;have O:u<w.heap.size:=by
    rw[fu]at l;exact KC l
   refine⟨u,be,rfl,O,fun j p=>?_⟩;have T:j<m:=(by simpa using p);obtain⟨g1,K,_⟩:=b j T;simp only[fu,<-dq]at g1;simp only[ey,eh];exact⟨_,_,g1 0 (by decide),g1 1 (by decide),g1 2 (by decide),g1 3 (by decide),g1 4 (by decide),g1 5 (by decide),g1 6 (by decide),K⟩
  ·intro c h;simp only[cM,cF]at h;obtain⟨len,o,rfl⟩:=h;exact(b len o).2.2
end
abbrev zae:List TypeId:=[157,40]
def E8(c:W)(a q:Nat)(draw:Int)(log:List V5):Prop:=∃b,c.heap[q]?=some (.cells #[N draw,b] 157 (0,0))/\a<=q/\c.ownsRow a 40 4 b log.length (qg log)
variable{U:List V5}
def E8.j{a c:W}{B q:Nat}(d:E8 a B q K U)(b:Below a.heap.size a c):E8 c B q K U:=by
 obtain⟨h,e,f,g⟩:=d;exact⟨h,jd b e,f,ju g b⟩
variable{x y:Value}{F:TypeId}
def Vm(b:w.heap[n]?=some (.cells #[x,y] F (0,0))):w.cell? (A n 0)=some x/\w.cell? (A n 1)=some y:=⟨by rw[jb b];rfl,by rw[jb b];rfl⟩
def jcp{log log2:List V5}
  (r:w.heap[m]?=some (.cells #[N K,x] 157 (0,0)))(g:n<=m)(i:w.ownsRow n 40 4 x log.length (qg log))
  (draw:n<=w.heap.size)(j:v.ownsRow n 40 4 y k (qg log2))(p:k=log2.length)(h:w.grownBy v x.ownBlock):E8 (v.setCell (A m 1) y) n m K log2/\V8 zae n w (v.setCell (A m 1) y):=by
 subst p;have e:=jq h i r (by decide);have s:=kj v m 1 _ 157 y e;have b:v.grownBy (v.setCell (A m 1) y) (some m):=⟨rfl,rfl,rfl,by simp,fun t _ o=>kA v (A m 1) t y (fun l=>o (by simp[l]))⟩;refine⟨⟨y,?_,g,j.kept b (.inr (NX j e (by decide)))⟩,?_⟩
 ·rw[s];rfl
 ·refine V8.set ?_ e g (by decide) y;exact(V8.refl _ _ _).grown h draw (RF i (by decide))
def FL(c b a plain:B8)(d:W)(f:c.length<=1000)(g:b.length<=1000)(h:a.length<=5000)(i:plain.length<=5000):C' 59 #[S c,S b,S a,S plain] d fun e j=>e=.returned (S (zg c b a plain))/\Below d.heap.size d j:=YD ⟨c.toArray⟩ ⟨b.toArray⟩ ⟨a.toArray⟩ ⟨plain.toArray⟩ d (by rw[jT];exact f) (by rw[jT];exact g) (by rw[jT];exact h) (by rw[jT];exact i)
def JM(draw:Int)(b a plain:B8)(n:Nat):B8:=qh ((zg b (xn draw n) a plain).length:Int)++(xn draw n++zg b (xn draw n) a plain)
def KI(draw:Int)(b a plain:B8)(n:Nat):V5:=⟨b,xn draw n,a,zg b (xn draw n) a plain⟩
def RN(f q:Nat)(draw:Int)(log:List V5)(c b plain:B8)(l:W)(hg:log.length<=60000)(hl:plain.length<=5000)(he:b.length<=5000)(bX:c.length<=1000)
  (bi:0<=draw)(bv:draw<=65535)(E:f<=l.heap.size)(hp:E8 l f q draw log):C' 85 #[(Q q 0),S c,S b,S plain] l fun d a=>d=.returned (S (JM draw c b plain log.length))/\E8 a f q draw (log++[KI draw c b plain log.length])/\V8 zae f l a:=by
 obtain⟨i0,hi,b4,cd,ce⟩:=ks Tryz.ak;have X:J (JM draw c b plain log.length=qh ((zg c (xn draw log.length) b plain).length:Int)++(xn draw log.length++zg c (xn draw log.length) b plain)):=rfl;have V:J (KI draw c b plain log.length=⟨c,xn draw log.length,b,zg c (xn draw log.length) b plain⟩):=rfl;have z:J (qh draw++qh (log.length:Int)=xn draw log.length):=rfl;have dd:(xn draw log.length).length<=4:=cO (UI draw log.length);have da:=cO (zT c (xn draw log.length) b plain);have ci:(qh draw).length<=2:=cO (jx draw);have co:(qh (log.length:Int)).length<=2:=cO (jx (log.length:Int));obtain⟨lv,j,be,u⟩:=hp;obtain⟨la,lc,rfl⟩:=jt u;have Z:=I j;have Y:=I u;clear u;go_enter Tryz.func85,Tryz.ntmps85;go_wp2_with fail;generalize F:qh draw=B at *;generalize G:qh (log.length:Int)=C at *;have L:J (∀a,C' 84 #[N draw] a fun d m=>d=.returned (S B)/\Below a.heap.size a m):=by
  intro a;rw[<-F];exact Jg _ a bi bv
 have M:J (∀a,C' 84 #[N log.length] a fun d m=>d=.returned (S C)/\Below a.heap.size a m):=by
  intro a;rw[<-G];exact Jg _ a (by omega) (by omega)
 have q1:¬(9223372036854775807<B.length+C.length):=by omega
 clear F G;go_region_held3 (fun a=>a.cell? (A q 0)=some (N draw)/\a.cell? (A q 1)=some (.slice la log.length lc))
  (first|exact Vm D|exact Vm o|exact Vm j)
  (first
   | (go_at_call_of 84 (N draw);refine(L.o _).mono ?_;rintro d m ⟨rfl,e⟩;replace e:=jg e;have o:=jd e j)
   | (go_at_call 84;refine(M.o _).mono ?_;rintro d w3 ⟨rfl,r⟩;have D:=jd r o))
 have p:=e.trans (r.mono e.size);clear o D e r j q1;go_simp;simp only[xh];rw[z.o];clear z;generalize xn draw log.length=g at *;go_wp2_with fail;refine(FL c g b plain w3 bX (by omega) he hl).mono ?_;rintro d w4 ⟨rfl,H⟩;generalize ap:zg c g b plain=body at *;clear ap;have h:=p.trans (H.mono p.size);have k:=jd h Z.o;have i:=ju Y.o h;obtain⟨_,c1⟩:=Vm k;have dl:=h.size;clear H p;go_wp2_with(at_builtin;refine ko _ rfl (.tmp 32) (.tmp 38) 28 rfl f 40 i0 (.agg #[.string ⟨#[]⟩,.string ⟨#[]⟩,.string ⟨#[]⟩,.string ⟨#[]⟩]) 4 64 Tryz.underlying28 hi b4 cd ce rfl (by decide) _ _ _ rfl (i.alloc _) (A _ 0) 1 1 [S c,S g,S b,S body] rfl rfl (qr w4 #[S c,S g,S b,S body] 40) (by intro dr K;simp at K;rcases K with rfl|rfl|rfl|rfl<;>rfl) (by unfold maxLen;omega) (by omega) (by simp;omega) ?_;intro v5 x v t _;obtain⟨a5,c5,rfl⟩:=jt v;have w:=jq t (i.alloc _) (jo _ k) (by decide);have ac:x.frozen? (A q 1)=false:=kh x q 1 _ _ w;have am:=(Vm w).2);have n:=I (jcp (log2:=log++[⟨c,g,b,body⟩]) (jo _ k) be (i.alloc _) (by simp;omega) (by rw[XM];exact v) (by simp) t);have y:=I (((Below.ag (T:=zae) h E).trans (Below.ag ((k8 _ _).alloc (aA _) _) (by omega))).trans n.o.2);have P:=I n.o.1;clear v t w ac am k i c1 n;generalize x.setCell _ _=w6 at *;go_wp2_with fail;refine(Jg (body.length:Int) w6 (by omega) (by omega)).mono ?_;rintro d w7 ⟨rfl,s⟩;have cs:(qh (body.length:Int)).length<=2:=cO (jx (body.length:Int));have O:=I (y.o.trans (Below.ag (T:=zae) s (aI E y.o.size)));have U:=I (P.o.j s);clear s;generalize qh (body.length:Int)=TC at *;go_wp2;go_ret;exact⟨by rw[X.o];simp[xh],by rw[V.o];exact U.o,O.o⟩
def Tz(c b P g a:Nat):jp c b P g (a+1)=jp c b P g a++jl c b P g a:=by simp[jp,cI]
def LB(d a P g c:Nat)(o:1<=P)(B:g*a<d)(z:1<=a):∀(b j:Nat) (h:V1),(jp d a P g b)[j]?=some h->h.sort=77->h.c=c->0<zE c ((jp d a P g b).take j):=by
 intro b
 induction b with
 | zero=>intro j h e;simp[jp]at e
 | succ b w=>
  intro j h e l m;rw[Tz]at e ⊢;by_cases s:j<(jp d a P g b).length
  ·rw[cR s]at e;rw[dV (by omega)];exact w j h e l m
  ·rw[bM (by omega)]at e;rw[fj,zr];have r:jl d a P g b=jr P g b (g*a) (jv d a g) (qc (jv d a g) P)++[⟨77,g,b,0,g*a,jv d a g⟩]:=rfl;generalize j-(jp d a P g b).length=v at e;have i:=Nk d a P g b o;rw[r]at e i ⊢;generalize u:jr P g b (g*a) (jv d a g) (qc (jv d a g) P)=n at e i ⊢;have k:n.length<=v:=by
    apply gM;intro t;rw[cR t]at e;have f:=dJ e;rw[<-u]at f;simp only[jr,cM]at f;obtain⟨p,_,rfl⟩:=f;exact absurd (show(80:UInt8)=77 from l) (by decide)
   have q:b=c:=by
    rw[bM k]at e;have f:=dJ e;simp only[cQ]at f;subst f;exact m
   subst q;rw[zr]at i;have x:zE b [⟨77,g,b,0,g*a,jv d a g⟩]=0:=(by simp[zE]);have y:0<jv d a g:=(by unfold jv;omega);rw[fj,aU k,zr];omega
def Sn(e f a P c:Nat)(o:c<f)(j:1<=P)(i:1<=a):∀n,n<=qc e a->∀(g:Nat) (b:V1),(jM e f a P n)[g]?=some b->b.sort=77->b.c=c->b.start<zE c ((jM e f a P n).take g):=by
 intro n
 induction n with
 | zero=>intro _ g b d;simp[jM]at d
 | succ n s=>
  intro u g b d h m;have r:n*a<e:=(JE i).1 (by omega);rw[Un]at d ⊢;by_cases q:g<(jM e f a P n).length
  ·rw[cR q]at d;rw[dV (by omega)];exact s (by omega) g b d h m
  ·rw[bM (by omega)]at d;have v:=LB e a P n c j r i f _ b d h m;have l:=dJ d;simp only[jp,cU,cF]at l;obtain⟨t,_,k⟩:=l;have w:b.start=n*a:=by
    simp only[jl,jr,aX,cM,cQ]at k;rcases k with⟨p,_,rfl⟩|rfl
    ·exact absurd (show(80:UInt8)=77 from h) (by decide)
    ·rfl
   rw[fj,aU (by omega),zr,Rr e f a P c o j n (by omega)];omega
variable{D:List Z9}
def Dl(pre:B8)(h:List W9)(kind key:Int)(b:g<m)(P:1<=i)(l:1<=k)(o:H.length=(jR n m k i).length)(j:jP pre h kind key g (some []) ((jR n m k i).take c) (H.take c)=some D):D.length<=n/\∀a,(jR n m k i)[c]?=some a->a.sort=77->a.c=g->a.start<D.length:=by
 have f:=IA pre h kind key g _ _ _ _ (by simp[o]) (fun a cells=>(XH a (bP cells)).symm) j;refine⟨(RT pre h kind key b P l o j).1,fun a cells p q=>?_⟩;simp only[bJ,dh]at f;rw[f];exact Sn n m k i g b P l (qc n k) (aA _) c a cells p q
section
theorem P5.j{w x:W}{b base:Nat}{c:V7}(e:P5 w b base c)(a:Below w.heap.size w x):P5 x b base c:=by
 obtain⟨cv,sv,k,d,f,g,h,i,j⟩:=e;exact⟨cv,sv,k,d,jd a f,jy g a,jy h a,jy i a,jy j a⟩
theorem BP{w:W}{d n:Nat}{c:O'}{f:Nat}{M:List W6}(a:w.ownsRow d 9 1 (.slice c n f) n (XE M))(k:Nat)(e:k<M.length) :
  ∃g,c=some (A g 0)/\g<w.heap.size/\w.cell? (A g k)=some (S (M[k]).plain):=by
 have m:(XE M).length=M.length:=by simp[XE]
 have o:n=M.length:=by have:=a.1;omega
 rcases a.2 with⟨j,l⟩|⟨g,h,i,b,_⟩
 ·omega
 ·simp only[cx]at b;obtain⟨rfl,_,rfl⟩:=b;refine⟨g,rfl,(a.lt g rfl).2,?_⟩;rw[a.cellAt _ (by omega)];simp[XE,e]
theorem jbn{w:W}{e n:Nat}{c:O'}{f:Nat}{M:List W6}(a:w.ownsRow e 167 2 (.slice c n f) n (Qa M))(k:Nat)(i:k<M.length) :
  ∃g,c=some (A g 0)/\g<w.heap.size/\w.cell? (A g (k*2))=some (S (M[k]).I)/\w.cell? (A g (k*2+1))=some (S (M[k]).body):=by
 have q:(Qa M).length=M.length*2:=Qn (fun m:W6=>[S m.I,S m.body]) 2 (fun _=>rfl) M;have r:n=M.length:=by have:=a.1;omega
 have at_:∀b,b<2->(Qa M)[k*2+b]?=([S (M[k]).I,S (M[k]).body]:List Value)[b]?:=fun b h=>Jl (fun m:W6=>[S m.I,S m.body]) 2 (fun _=>rfl) M k b i h;rcases a.2 with⟨o,p⟩|⟨g,j,l,d,_⟩
 ·omega
 ·simp only[cx]at d;obtain⟨rfl,_,rfl⟩:=d;refine⟨g,rfl,(a.lt g rfl).2,?_,?_⟩
  ·rw[a.cellAt _ (by omega)];exact at_ 0 (by decide)
  ·rw[a.cellAt _ (by omega)];exact at_ 1 (by decide)
def jbk(w:W)(b a e:V')(c d f:TypeId):Below w.heap.size w (((w.alloc (.cells b c)).alloc (.cells a d)).alloc (.cells e f))/\(((w.alloc (.cells b c)).alloc (.cells a d)).alloc (.cells e f)).heap[w.heap.size]?=some (.cells b c (0,0))/\(((w.alloc (.cells b c)).alloc (.cells a d)).alloc (.cells e f)).heap[w.heap.size+1]?=some (.cells a d (0,0))/\(((w.alloc (.cells b c)).alloc (.cells a d)).alloc (.cells e f)).heap[w.heap.size+2]?=some (.cells e f (0,0)):=by
 obtain⟨i,_,j,k⟩:=QB w b c a d;obtain⟨g,_,_,h⟩:=jJ ((w.alloc (.cells b c)).alloc (.cells a d)) e f;have l:((w.alloc (.cells b c)).alloc (.cells a d)).heap.size=w.heap.size+2:=by simp
 rw[l]at h;exact⟨i.trans (g.mono i.size),jd g j,jd g k,h⟩
theorem GZ{w:W}{q:Nat}{a b c d e:Value}{t:TypeId}(f:w.heap[q]?=some (.cells #[a,b,c,d,e] t (0,0))) :
  w.cell? (A q 0)=some a/\w.cell? (A q 1)=some b/\w.cell? (A q 2)=some c/\w.cell? (A q 3)=some d/\w.cell? (A q 4)=some e:=by
 refine⟨?_,?_,?_,?_,?_⟩<;>rw[kC w q _ _ _ (0,0) f]<;>rfl
theorem Gs{w:W}{q:Nat}{a b c d:Value}{t:TypeId}(e:w.heap[q]?=some (.cells #[a,b,c,d] t (0,0))) :
  w.cell? (A q 0)=some a/\w.cell? (A q 1)=some b/\w.cell? (A q 2)=some c/\w.cell? (A q 3)=some d:=by
 refine⟨?_,?_,?_,?_⟩<;>rw[kC w q _ _ _ (0,0) e]<;>rfl
abbrev K6:V':=#[S [],N 0,N 0,N 0,V3]
structure F7 (x w:W) (col fnd:V') (cv:Value) (cells:List Z9) (sv:Value) (Z:List V5):Prop where
 below:Below w.heap.size w x
 b0:x.heap[w.heap.size]?=some (.cells K6 91 (0,0))
 b1:x.heap[w.heap.size+1]?=some (.cells col 61 (0,0))
 b2:x.heap[w.heap.size+2]?=some (.cells fnd 91 (0,0))
 ah:x.ownsRow (w.heap.size+3) 58 3 cv cells.length (jL cells)
 aj:x.ownsRow (w.heap.size+3) 40 4 sv Z.length (qg Z)
section
variable {x y w:W} {col fnd:V'} {cv:Value} {cells:List Z9} {sv:Value} {Z:List V5}
def F7.size(a:F7 x w col fnd cv cells sv Z):w.heap.size+3<=x.heap.size:=e8 (aF.1 a.b2).1
def F7.j(a:F7 x w col fnd cv cells sv Z)(b:Below x.heap.size x y):F7 y w col fnd cv cells sv Z:=⟨a.below.trans (b.mono a.below.size),jd b a.b0,jd b a.b1,jd b a.b2,jy a.ah b,jy a.aj b⟩
def F7.alloc(a:F7 x w col fnd cv cells sv Z)(o:Obj):F7 (x.alloc o) w col fnd cv cells sv Z:=a.j ((k8 x.heap.size x).alloc (aA _) o)
def F7.drew(a:F7 x w col fnd cv cells sv Z):F7 x.drew w col fnd cv cells sv Z:=a.j (qD (k8 x.heap.size x))
theorem xV{x y:W}{v:Value}{b a s m q:Nat}{f:List Value}{o:Obj}(d:x.grownBy y v.ownBlock)(e:x.ownsRow b a s v m f)(c:x.heap[q]?=some o)(g:q<b):y.heap[q]?=some o:=by
 rw[d.block q (aF.1 c).1 (fun a=>by have:=(e.lt q a.symm).1;omega)];exact c
theorem F7.cb(a:F7 x w col fnd cv cells sv Z){d:Value}{c:List Z9}(b:x.grownBy y cv.ownBlock)(f:y.ownsRow (w.heap.size+3) 58 3 d c.length (jL c)):F7 y w col fnd d c sv Z :=
 ⟨QD a.below b (fun k e=>by have:=(a.ah.lt k e).1;omega),xV b a.ah a.b0 (by omega),xV b a.ah a.b1 (by omega),xV b a.ah a.b2 (by omega),f,a.aj.kept b (qd a.aj a.ah (by decide))⟩
theorem F7.aw(a:F7 x w col fnd cv cells sv Z){c:Value}{Z':List V5}(b:x.grownBy y sv.ownBlock)(e:y.ownsRow (w.heap.size+3) 40 4 c Z'.length (qg Z')):F7 y w col fnd cv cells c Z' :=
 ⟨QD a.below b (fun k d=>by have:=(a.aj.lt k d).1;omega),xV b a.aj a.b0 (by omega),xV b a.aj a.b1 (by omega),xV b a.aj a.b2 (by omega),a.ah.kept b (qd a.ah a.aj (by decide)),e⟩
theorem QK{x:W}{c a s m b:Nat}{v:Value}{e:List Value}(d:x.ownsRow c a s v m e)(f:b<c):v.ownBlock=none\/v.ownBlock≠some b:=by
 rcases hv:v.ownBlock with _|g
 ·exact .inl rfl
 ·refine .inr (fun a=>?_);have:=(d.lt g hv).1;injection a with a
  omega
def F7.a5(a:F7 x w col fnd cv cells sv Z)(c:Nat)(d:V')(g:w.heap.size+3<=c)(e:cv.ownBlock=none\/cv.ownBlock≠some c)(f:sv.ownBlock=none\/sv.ownBlock≠some c):F7 (x.setRow c d) w col fnd cv cells sv Z:=by
 have b:=Zo x c d;exact⟨a.below.trans (jn b (by omega) a.below.size),qL b a.b0 (by omega),qL b a.b1 (by omega),qL b a.b2 (by omega),a.ah.kept b e,a.aj.kept b f⟩
theorem F7.bm(a:F7 x w col fnd cv cells sv Z)(c:Nat)(v:Value):F7 (x.setCell (A (w.heap.size+2) c) v) w col (fnd.setIfInBounds c v) cv cells sv Z:=by
 have b:=Qk x (w.heap.size+2) c v;exact⟨a.below.trans (jn b (by omega) a.below.size),qL b a.b0 (by omega),qL b a.b1 (by omega),kj x _ c _ _ v a.b2,a.ah.kept b (QK a.ah (by omega)),a.aj.kept b (QK a.aj (by omega))⟩
end
theorem LC{pre:B8}{r:List W9}{key:Int}{s:V1}{m:W6}{p:B8}(d:zJ key m)(a:zo pre r key s m=some p):p.length<=65535:=by
 unfold zo at a;rcases d with⟨b,_,_,c⟩|⟨b,_,_,_,e⟩
 ·rw[aQ b]at a;injection a with a
  subst a;exact c
 ·rw[aL b]at a;unfold qE at a;split at a
  ·injection a with a
   subst a;rw[zS,aM];omega
  ·cases a
def Ps{t:List W8}:∀{L:List V1} {M:List W6},V2 t L M->∀k (a:k<L.length) (b:k<M.length),zJ (ji t (L[k]).c).key M[k]:=by
 intro L M c
 induction c using V2.ind with
 | nil=>intro k a;exact absurd a (by simp)
 | cons d _ e=>
  intro k a b;cases k with
  | zero=>exact d
  | succ k=>exact e k (by simpa using a) (by simpa using b)
theorem BH{d:Nat}{parts footer:B8}{a:V7}(e:U8 d parts footer a){c:Nat}(f:c<a.U.length):((a.U[c]).kind=0\/(a.U[c]).kind=1)/\0<=(a.U[c]).key/\(a.U[c]).key<=9:=by
 have b:=e.aq;simp only[jW,aK]at b;exact(QA (QE b.1 (aA _) c f).1).2
theorem CG{b a c P:Nat}(n:1<=a)(l:b<=60)(g:1<=c)(i:1<=P)(h:c<=60)(f:a<=6):∀s∈jR b a c P,s.g<60/\s.c<60/\s.p<60/\s.start<60/\s.many<=60:=by
 intro s m;have k:(List.replicate a (⟨[],0,0,List.replicate b ⟨true,0,[]⟩⟩:W8)).length=a:=by simp
 have j:b=qv (List.replicate a (⟨[],0,0,List.replicate b ⟨true,0,[]⟩⟩:W8)):=by
  obtain⟨d,rfl⟩:∃d,a=d+1:=⟨a-1,by omega⟩;simp[qv,dt]
 have e:=Cd (t:=List.replicate a (⟨[],0,0,List.replicate b ⟨true,0,[]⟩⟩:W8)) j l g i h (by simpa using f) s (by rw[k];exact m);exact e.ao
def RY(a b:List V5):qg (a++b)=qg a++qg b:=by simp[qg]
def CV(pre:B8)(r:List W9)(a:V7)(c:Nat):List V5:=if xM (qq pre r a c)=true then xm pre r (ji a.U c).key c (qp a) a.ae else[]
def zF(pre:B8)(r:List W9)(key:Int)(c:Nat)(L:List V1)(M:List W6)(k:Nat):List V5:=if key=0 then[]else xm pre r key c (L.take k) (M.take k)
def Yx(pre:B8)(r:List W9)(key:Int)(c:Nat):∀(L:List V1) (M:List W6) (k:Nat) (s:V1) (m:W6),L[k]?=some s->M[k]?=some m ->
  xm pre r key c (L.take (k+1)) (M.take (k+1))=xm pre r key c (L.take k) (M.take k)++(if s.c=c then[⟨jh r key,m.I,jz pre s.sort s.g s.c s.p,m.body⟩]else[]):=by
 intro L
 induction L with
 | nil=>intro M k s m a;simp at a
 | cons f L d=>
  intro M k s m a b;cases M with
  | nil=>simp at b
  | cons e M=>
   cases k with
   | zero=>
    simp only[bU,aW]at a b;subst a b;simp[xm]
   | succ k=>
    simp only[bV]at a b;simp only[dN,xm];rw[d M k s m a b,aD]
section
variable {pre:B8} {r:List W9} {key:Int} {c k:Nat} {L:List V1} {M:List W6} {s:V1} {m:W6}
def jbe:zF pre r key c L M 0=[]:=by unfold zF;simp[xm]
def jbh(a:L[k]?=some s)(b:M[k]?=some m)(d:s.c≠c):zF pre r key c L M (k+1)=zF pre r key c L M k:=by
 unfold zF;rw[Yx pre r key c L M k s m a b,aL d,aT]
def jac(a:key=0):zF pre r key c L M (k+1)=zF pre r key c L M k:=by
 unfold zF;rw[aQ a,aQ a]
def jbr(b:L[k]?=some s)(d:M[k]?=some m)(e:s.c=c)(a:key≠0):zF pre r key c L M (k+1)=zF pre r key c L M k++[⟨jh r key,m.I,jz pre s.sort s.g s.c s.p,m.body⟩]:=by
 unfold zF;rw[aL a,aL a,Yx pre r key c L M k s m b d,aQ e]
end
theorem jcs{pre:B8}{r:List W9}{a:V7}{c:Nat}{L:List V1}{M:List W6}{n:B8}{m b d:Int}{cells:List Z9}(j:c<a.U.length)(k:(a.U[c]).key=b)(h:qp a=L)(i:a.ae=M)(l:M.length=L.length)(e:qq pre r a c=⟨n,m,b,d,cells⟩):CV pre r a c=if d=0 then zF pre r b c L M L.length else[]:=by
 unfold CV zF;rw[e,h,i,xP j,k,aS,<-l,aS];simp only[xM,aK,aN];by_cases f:b=0<;>by_cases g:d=0<;>simp[f,g]
def jfk(a:U1)(Z:List V5)(w:W)(d:Ending)(b:W):Prop:=Below w.heap.size w b/\∃c sv,d=.returned (.tuple #[.agg #[S a.name,N a.kind,N a.key,N a.state,c],sv])/\b.ownsRow w.heap.size 58 3 c a.cells.length (jL a.cells)/\(∀x∈a.cells,qI x)/\b.ownsRow w.heap.size 40 4 sv Z.length (qg Z)/\Z.length<=21960
end
theorem Aa(k:V7)(it:Nat)(parts footer:B8)(cs ir c:Nat)(pre:B8)(ra:O')(e7:Nat)(i:List W9)(e:W)(bX:U8 it parts footer k)(hT:P5 e cs ir k)(hc:c<k.U.length)(hL:pre.length<=20)(hr:xD i=true)(hM:i.length<=maxLen)(hl:U2 e ra i) :
  C' 91 #[(Q cs 0),N c,S pre,.slice ra i.length e7] e (jfk (qq pre i k c) (CV pre i k c) e):=by
 have hp:=bX.J;simp only[qK,aK,aN]at hp;have hh:=bX.aq;simp only[jW,aK,aN]at hh;have hz:=bX.rows;have ht:k.U.length<=6:=by omega
 have dl:=xj bX.ae;obtain⟨iC,j1,j2⟩:=BH bX hc;have h7:=I (Ps bX.ae);have jc:(qp k).length<=21960:=As (by omega) (by omega) (by omega) hz ht;have ig:J (∀b∈qp k,b.g<60/\b.c<60/\b.p<60/\b.start<60/\b.many<=60):=CG (by omega) hz (by omega) (by omega) (by omega) ht;have ii:J (∀b∈qp k,b.sort=80\/b.sort=77):=XH;have hF:=xP hc;have u:J (qq pre i k c=if 0<(k.U[c]).key/\jG i (k.U[c]).key=false then⟨(k.U[c]).name,(k.U[c]).kind,(k.U[c]).key,1,[]⟩else match jP pre i (k.U[c]).kind (k.U[c]).key c (some []) (qp k) k.ae with
   | none=>⟨(k.U[c]).name,(k.U[c]).kind,(k.U[c]).key,2,[]⟩
   | some cells=>⟨(k.U[c]).name,(k.U[c]).kind,(k.U[c]).key,0,cells⟩):=by
  show _=_;unfold qq;rw[hF];rfl
 have f9:J (∀dd cells,jP pre i (k.U[c]).kind (k.U[c]).key c (some []) ((qp k).take dd) (k.ae.take dd)=some cells->cells.length<=k.rows/\∀b,(qp k)[dd]?=some b->b.sort=77->b.c=c->b.start<cells.length):=fun dd cells t=>Dl pre i (k.U[c]).kind (k.U[c]).key hc (by omega) (by omega) dl t;obtain⟨cv,sv,pv,ev,gd,ff,ge,gi,go⟩:=hT;obtain⟨pa,pc,rfl⟩:=jt gi;obtain⟨ea,ec,rfl⟩:=jt go;obtain⟨ca,cc,rfl⟩:=jt ff;obtain⟨sa,sc,rfl⟩:=jt ge;have jj:cs<e.heap.size:=(aF.1 gd).1;have fd:=I gd;have i4:=I ff;have ij:=I ge;have ik:=I gi;have il:=I go;obtain⟨cg,iz,js,t0,t1,t2,t3⟩:=Mk ff c hc;subst iz;have g5:=I hl;have ce:J (∀o E f d a st cells,qp k=o->k.ae=E->(k.U[c]).key=a->E.length=o.length->qq pre i k c=⟨f,d,a,st,cells⟩->CV pre i k c=if st=0 then zF pre i a c o E o.length else[]):=fun _ _ _ _ _ _ _ h1 h2 h3 h4 h5=>jcs hc h3 h1 h2 h4 h5;have hn:=I (fun l (t:U2 l ra i)=>JS ra e7 i (k.U[c]).key l hM t);have hm:J (jh i (k.U[c]).key=[]↔jG i (k.U[c]).key=false):=Xa hr;have f8:J (jG i (k.U[c]).key=true->(jh i (k.U[c]).key).length=8):=fun t=>JB hr t;clear gd ff ge gi go hl hp hh hF bX hr;generalize (k.U[c]).name=f at *;generalize (k.U[c]).kind=d at *;generalize hH:(k.U[c]).key=a at *;have f5:=I hH;clear hH;generalize hw:qp k=o at *;generalize hy:k.ae=E at *;replace ce:=I (fun st cells=>ce.o o E f d a st cells (by first|rfl|exact hw) (by first|rfl|exact hy) (by first|rfl|exact f5.o) dl);clear hw hy;have j0:(c:Int)<(k.U.length:Int):=by omega
 obtain⟨hC,hO,hP,hQ⟩:=jbk e K6 #[S f,N d,N a,V3] #[S f,N d,N a,N 0,V3] 91 61 91;have er:=I (F7.mk hC hO hP hQ (cv:=V3) (cells:=[]) (kg _ _ _ _) (sv:=V3) (Z:=[]) (kg _ _ _ _));clear hC hO hP hQ;obtain⟨_,_,_,_,_,d5,_⟩:=zq fd.o;go_enter Tryz.func91,Tryz.ntmps91;go_upto_region 3 with fail;generalize ix:((e.alloc _).alloc _).alloc _=W0 at *;clear ix t0 t1 t2 t3 d5;obtain⟨_,_,e2,_⟩:=Gs er.o.b1;go_cut [44] (fun bv wd=>bv=.bool (decide (0<a/\jG i a=false))/\F7 wd e #[S f,N d,N a,V3] #[S f,N d,N a,N 0,V3] V3 [] V3 [])
 case first =>
  by_cases hk:0<a
  ·go_wp2_with fail;refine(hn.o W0 (g5.o.j er.o.below)).mono ?_;rintro ap w1 ⟨rfl,be⟩;have V:=I (er.o.j be);clear be e2;cases hs:jG i a with
   | false =>
    rw[hm.o.2 hs];go_wp2;go_meet
    ·exact⟨by simp[hk,hs],V.o⟩
   | true =>
    obtain⟨eP,n,hD⟩:∃eP n,jh i a=eP::n:=by
     have:=f8.o hs
     match Z:jh i a with
     | []=>rw[Z]at this;cases this
     | eP::n=>exact⟨eP,n,rfl⟩
    rw[hD];go_wp2;go_meet
    ·exact⟨by simp[hs],V.o⟩
  ·obtain rfl:a=0:=by omega
   go_wp2;go_meet
   ·exact⟨by simp,er.o⟩
 case rest =>
  obtain⟨iy,H⟩:=hcut;subst iy;have V:=I H;clear H er e2;by_cases d3:0<a/\jG i a=false
  ·rw[aQ d3]at u;have hd:decide (0<a/\jG i a=false)=true:=dK d3;rw[hd];obtain⟨_,_,_,g3,_⟩:=GZ V.o.b2;have f3:=kh wc (e.heap.size+2) 3 _ _ V.o.b2;go_upto_region 5 with fail;have m:J (F7 (wc.setCell (A (e.heap.size+2) 3) (N 1)) e #[S f,N d,N a,V3] #[S f,N d,N a,N 1,V3] V3 [] V3 []):=V.o.bm 3 (N 1);clear g3 f3;generalize ac:wc.setCell _ _=s at *;clear ac;go_wp2_with(first|(refine kx rfl 91 (.tmp 11) rfl (e.heap.size+2) rfl 91 #[S f,N d,N a,N 1,V3] (0,0) _ m.o.b2 Tryz.underlying91 rfl (by kernel_rfl) ?_)|(refine kl rfl 91 (.tmp 8) (.tmp 46) rfl e.heap.size #[S f,N d,N a,N 1,V3] rfl rfl 91 K6 m.o.b0 (by kernel_rfl) rfl (by simp[Value.oneCell']) ?_));have Y:=I (kr s e.heap.size _ #[S f,N d,N a,N 1,V3] 91 (0,0) m.o.b0);have X:=I (m.o.below.trans (jn (Zo s e.heap.size #[S f,N d,N a,N 1,V3]) (aA _) m.o.below.size));generalize L:s.setRow _ _=ze at *;clear L;rw[ce.o _ _ u.o,aL (by decide),u.o];exact kk (v:=.tuple #[.agg #[S f,N d,N a,N 1,V3],V3]) (qN (p:=8) (q:=9) rfl _ _ _ _ _ rfl rfl (ki (P:=Tryz.prog) ze e.heap.size 91 91 #[S f,N d,N a,N 1,V3] (0,0) _ Y.o Tryz.underlying91 rfl (by kernel_rfl))) rfl ⟨X.o,V3,V3,rfl,kg _ _ _ _,(fun C y=>by cases y),kg _ _ _ _,aG _⟩
  ·rw[aL d3]at u;have hd:decide (0<a/\jG i a=false)=false:=bS d3;rw[hd];have ie:J (0<a->(jh i a).length<=1000):=fun t=>by
    have:jG i a=true:=by
     cases Z:jG i a with
     | true=>rfl
     | false=>exact absurd ⟨t,Z⟩ d3
    rw[f8.o this];decide
   clear hd d3 hm f8 hn;go_wp2;go_loopw [12,13,14] (fun cv sv dd wr=>∃(j:Nat) (cells:List Z9) (O:List V5),j<=o.length/\dd=N j/\jP pre i d a c (some []) (o.take j) (E.take j)=some cells/\F7 wr e #[S f,N d,N a,V3] #[S f,N d,N a,N 0,V3] cv cells sv O/\(∀C∈cells,qI C)/\zF pre i a c o E j=O/\O.length<=j) (fun _ _ dd _=>o.length-(intOf dd).toNat)
   case atStart=>exact⟨0,[],[],aG _,rfl,by simp[jP],V.o,(by intro C y;cases y),jbe,aA _⟩
   case round =>
    obtain⟨j,cells,O,j3,rfl,hG,H,hN,hX,j8⟩:=hrel;obtain⟨B,r,rfl⟩:=jt H.ah;obtain⟨za,zc,rfl⟩:=jt H.aj;have dT:=I hG;have HA:=I H;have cd:=I hN;have fe:=I hX;clear hG H hN hX V;have d6:=(zq (jd HA.o.below fd.o)).2.2.2.2.2.2.1;by_cases e5:j<o.length
    ·have iE:(j:Int)<(o.length:Int):=(by omega);have fn:j<E.length:=(by omega);have j4:(j:Int)<(E.length:Int):=(by omega);obtain⟨sg,iK,ka,s0,s1,s2,s3,s4,s5⟩:=NW (jy ij.o HA.o.below) j e5;have iL:=iK;subst iL;have dv:=I (jJ wr #[S [(o[j]).sort],N ((o[j]).g:Int),N ((o[j]).c:Int),N ((o[j]).p:Int),N ((o[j]).start:Int),N ((o[j]).many:Int)] 161).2.2.2;have am:=I (HA.o.alloc (.cells #[S [(o[j]).sort],N ((o[j]).g:Int),N ((o[j]).c:Int),N ((o[j]).p:Int),N ((o[j]).start:Int),N ((o[j]).many:Int)] 161));have ja:=HA.o.size;have g8:=I (h7.o j e5 fn);have Z:=ig.o o[j] (aJ e5);have iM:=ii.o o[j] (aJ e5);have fb:J (o[j]?=some o[j]):=aR e5;have f2:J (E[j]?=some E[j]):=aR fn;go_upto_region 12 with fail;clear s0 s1 s2 s3 s4 s5 d6 HA;generalize iQ:wr.alloc _=wx at *;clear iQ;generalize iv:wr.heap.size=z at *;clear iv;obtain⟨pg,iI,_,p0⟩:=BP (jy ik.o am.o.below) j fn;subst iI;obtain⟨_,_,_,_,_,_,_,d7,_⟩:=zq (jd am.o.below fd.o);have g7:=I (fun gY (hb:Below e.heap.size e gY)=>jbn (jy il.o hb) j fn);generalize o[j]=b at *;generalize iF:E[j]=h at *;clear iF;have D:=I (Pa pre i d a c fb.o f2.o dT.o);obtain⟨x0,x1,x2,x3,U,x5⟩:=Xo dv.o;by_cases d1:b.c=c
     ·rw[aQ d1]at D;have iG:((b.c:Int) != (c:Int))=false:=(by simp[d1]);have fa:=I d1;clear d1;obtain⟨_,_,e2,_⟩:=Gs am.o.b1;go_upto_if 76 with fail;clear x0 x1 x2 x3 U x5 d7 p0;go_cut [13,16,17,76] (fun iZ iY iX _ wd=>∃w ok p,iY=S p/\iX=.bool ok/\ok=(zo pre i a b h).isSome/\(∀q,zo pre i a b h=some q->p=q)/\F7 wd e #[S f,N d,N a,V3] #[S f,N d,N a,N 0,V3] (.slice B cells.length r) cells iZ w/\zF pre i a c o E (j+1)=w/\w.length<=j+1/\wd.heap[z]?=some (.cells #[S [b.sort],N b.g,N b.c,N b.p,N b.start,N b.many] 161 (0,0)))
      case first =>
       by_cases hk:0<a
       ·have ia:J (zo pre i a b h=qE (jh i a) h.I (jz pre b.sort b.g b.c b.p) h.body):=by
         show _=_;unfold zo;rw[aL (by omega)]
        have d4:=g8.o;rw[fa.o,xP hc,f5.o]at d4;have j6:h.I.length=4/\h.body.length<=65535:=by
         rcases d4 with t|t
         ·omega
         ·exact⟨t.2.2.1,t.2.2.2.2⟩
        obtain⟨F,gU⟩:∃F,F=jh i a:=⟨_,rfl⟩;obtain⟨bd,fk⟩:∃bd,bd=jz pre b.sort b.g b.c b.p:=⟨_,rfl⟩;obtain⟨oo,gT⟩:∃oo,oo=(zo pre i a b h).isSome:=⟨_,rfl⟩;have h8:=I gT;have b4:J (∀l,C' 86 #[S pre,S [b.sort],N b.g,N b.c,N b.p] l fun ap w2=>ap=.returned (S bd)/\Below l.heap.size l w2):=fun l=>by
         rw[fk];exact Kt pre b.sort b.g b.c b.p l hL (by omega) (by omega) (by omega)
        have h9:J (∀l,U2 l ra i->C' 89 #[.slice ra i.length e7,N a,S bd,.agg #[S h.I,S h.body]] l fun ap w2=>Below l.heap.size l w2/\∃p,ap=.returned (.tuple #[.agg #[S F,S h.I,S bd,S h.body],S p,.bool oo])/\∀q,zo pre i a b h=some q->p=q):=fun l t=>by
         have hD:=zL pre b.sort b.g b.c b.p hL;have h2:=GN ra e7 i a (jz pre b.sort b.g b.c b.p) h.I h.body l t hM (ie.o hk) (by omega) (by omega) (by unfold maxLen;omega);rw[gT,gU,fk,ia.o];exact h2
        have iq:J (zF pre i a c o E (j+1)=O++[⟨F,h.I,bd,h.body⟩]):=by
         show _=_;rw[gU,fk,jbr fb.o f2.o fa.o (by omega),fe.o]
        clear gU fk gT d4;obtain⟨eg,iB,_⟩:=g7.o wx am.o.below;subst iB;have fc:J (∀l,F7 l e #[S f,N d,N a,V3] #[S f,N d,N a,N 0,V3] (.slice B cells.length r) cells (.slice za O.length zc) O->l.heap[z]?=some (.cells #[S [b.sort],N b.g,N b.c,N b.p,N b.start,N b.many] 161 (0,0))->l.cell? (A (e.heap.size+1) 2)=some (N a)/\l.cell? (A z 0)=some (S [b.sort])/\l.cell? (A z 1)=some (N b.g)/\l.cell? (A z 2)=some (N b.c)/\l.cell? (A z 3)=some (N b.p)/\l.cell? (A cs 8)=some (R eg E.length ec)/\l.cell? (A eg (j*2))=some (S h.I)/\l.cell? (A eg (j*2+1))=some (S h.body)):=fun gY H hB=>by
         obtain⟨g,hg,_,h1,h2⟩:=g7.o gY H.below;simp only[aW,cG,de]at hg;subst hg;obtain⟨y0,y1,y2,y3,_⟩:=Xo hB;exact⟨(Gs H.b1).2.2.1,y0,y1,y2,y3,(zq (jd H.below fd.o)).2.2.2.2.2.2.2.2,h1,h2⟩
        have gZ:=I (jJ wx V9 40).2.2.2;have ft:=I (am.o.alloc (.cells V9 40));have f1:=I (Xd (.cells V9 40) dv.o);have io:=I (JT am.o.aj (aA _));have im:=I (JT am.o.ah (aA _));have iu:=am.o.size;have i9:z<wx.heap.size:=(aF.1 dv.o).1;clear am dv;go_upto_region 17 with fail;clear e2;generalize iR:wx.alloc _=wy at *;clear iR;generalize iw:wx.heap.size=B2 at *;clear iw;have hS:=fc.o wy ft.o f1.o;refine k9 (S:=fun l=>l.cell? (A (e.heap.size+1) 2)=some (N a)/\l.cell? (A z 0)=some (S [b.sort])/\l.cell? (A z 1)=some (N b.g)/\l.cell? (A z 2)=some (N b.c)/\l.cell? (A z 3)=some (N b.p)/\l.cell? (A cs 8)=some (R eg E.length ec)/\l.cell? (A eg (j*2))=some (S h.I)/\l.cell? (A eg (j*2+1))=some (S h.body)) (by kernel_rfl) hS (fun bi=>?_);refine tk 0 (.slice ra i.length e7) ?_;refine tk 1 (Q (e.heap.size+1) 2) ?_;refine tk 2 (N a) ?_;refine tk 3 (S pre) ?_;refine tk 4 (Q z 0) ?_;refine tk 5 (S [b.sort]) ?_;refine tk 6 (Q z 1) ?_;refine tk 7 (N b.g) ?_;refine tk 8 (Q z 2) ?_;refine tk 9 (N b.c) ?_;refine tk 10 (Q z 3) ?_;refine tk 11 (N b.p) ?_;refine tk 13 (Q cs 0) ?_;refine tk 14 (Q cs 0) ?_;refine tk 15 (Q cs 8) ?_;refine tk 16 (R eg E.length ec) ?_;refine tk 17 (N j) ?_;refine tk 18 (Q eg (j*2)) ?_;refine tk 19 (.agg #[S h.I,S h.body]) ?_;simp only[jA,jB,jC,Act.put,jD,jE,jF];refine rd 12 (fun ci T=>?_);simp only[jA,jB,jC];go_simp;go_at_call 86
        refine(b4.o _).mono ?_;rintro ap y1 ⟨rfl,be⟩;replace be:=jg be;have V:=I (ft.o.j be);have fv:=I (jd be f1.o);have hf:=I (jd be gZ.o);clear be hS ft f1 gZ;have hS:=fc.o y1 V.o fv.o;(try go_wp2_with fail);refine T.out _ _ hS (fun bi=>?_);clear T ci;(try simp only[jA,jB,jC,Act.put,jD,jE,jF]);refine rd 20 (fun ci T=>?_);simp only[jA,jB,jC];go_simp;go_at_call 89
        refine(h9.o _ (g5.o.j V.o.below)).mono ?_;rintro ap y2 ⟨d0,p,rfl,co⟩;have f6:=I co;have fs:=I (V.o.j d0);have fw:=I (jd d0 fv.o);have f7:=I (jd d0 hf.o);clear d0 hS co V fv hf;have hS:=fc.o y2 fs.o fw.o;(try go_wp2_with fail);refine T.out _ _ hS (fun bi=>?_);clear T ci;(try simp only[jA,jB,jC,Act.put,jD,jE,jF]);refine tk 21 (.tuple #[.agg #[S F,S h.I,S bd,S h.body],S p,.bool oo]) ?_;refine tk 22 (.agg #[S F,S h.I,S bd,S h.body]) ?_;refine tk 23 (S p) ?_;refine tk 24 (.bool oo) ?_;simp only[jA,jB,jC,Act.put,jD,jE,jF];refine rd 25 (fun ci T=>?_);simp only[jA,jB,jC];rw[aQ (by simp[Region.wanted])];refine kL 40 (.tmp 18) (.tmp 100) rfl B2 #[S F,S h.I,S bd,S h.body] rfl rfl 40 V9 f7.o (by kernel_rfl) rfl (by simp[Value.oneCell']) ?_;have ds:=I (fs.o.a5 B2 #[S F,S h.I,S bd,S h.body] iu im.o io.o);have fz:=I (qL (Zo y2 B2 #[S F,S h.I,S bd,S h.body]) fw.o (by omega));have hj:=I (kr y2 B2 _ #[S F,S h.I,S bd,S h.body] 40 (0,0) f7.o);clear hS fs fw f7;have hS:=fc.o _ ds.o fz.o;refine T.out _ _ hS (fun bi=>?_);clear T ci;(try simp only[jA,jB,jC,Act.put,jD,jE,jF]);refine tk 26 (S p) ?_;refine tk 27 (.bool oo) ?_;simp only[jA,jB,jC,Act.put,jD,jE,jF];refine kp (by kernel_rfl) ?_ _;clear bi hS;generalize iS:y2.setRow _ _=y3 at *;clear iS;obtain⟨i0,hi,iT,iU,iV⟩:=ks Tryz.ak;go_wp2_with(first|(refine kx rfl 40 (.tmp 18) rfl B2 rfl 40 #[S F,S h.I,S bd,S h.body] (0,0) _ hj.o Tryz.underlying40 rfl (by kernel_rfl) ?_)|(at_builtin;refine ko _ rfl (.tmp 103) (.tmp 105) 28 rfl (e.heap.size+3) 40 i0 _ 4 64 Tryz.underlying28 hi iT iU iV rfl (by decide) _ _ _ rfl (ds.o.aj.alloc _) (A _ 0) 1 1 [S F,S h.I,S bd,S h.body] rfl rfl (qr y3 #[S F,S h.I,S bd,S h.body] 40) (by intro kf hu;simp at hu;rcases hu with rfl|rfl|rfl|rfl<;>rfl) (by unfold maxLen;omega) (by omega) (by have:=ds.o.size;simp;omega) ?_;intro v4 w4 hJ gt _));have hY:=I ((ds.o.alloc (.cells #[S F,S h.I,S bd,S h.body] 40)).aw (Z':=O++[⟨F,h.I,bd,h.body⟩]) gt (by rw[XM,aB];exact hJ));have hZ:=I (jq gt (ds.o.aj.alloc (.cells #[S F,S h.I,S bd,S h.body] 40)) (Xd (.cells #[S F,S h.I,S bd,S h.body] 40) fz.o) (by decide));clear hJ gt ds fz hj;go_wp2;go_meet
        ·exact⟨_,oo,p,rfl,rfl,h8.o,f6.o,hY.o,iq.o,by rw[aB];simp;omega,hZ.o⟩
       ·have gw:a=0:=(by omega);go_wp2;go_meet
        ·exact⟨O,true,h.plain,rfl,rfl,by unfold zo;rw[aQ gw];rfl,fun q Z=>by unfold zo at Z;rw[aQ gw]at Z;injection Z,am.o,(jac gw).trans fe.o,by omega,dv.o⟩
      case rest =>
       obtain⟨w,ok,p,iJ,iH,bX,co,H,hW,j7,ho⟩:=hcut;subst iJ iH;have M:=I H;have b4:=I ho;have f6:=I co;have ha:=I bX;have ga:=I hW;clear hW;obtain⟨zb,zd,L⟩:=jt H.aj;subst L;clear H ho co bX am dv;obtain⟨x0,x1,x2,x3,U,x5⟩:=Xo b4.o;obtain⟨_,e1,e2,_⟩:=Gs M.o.b1;cases ok with
       | false =>
        have ib:J (zo pre i a b h=none):=by
         show _=_;cases Z:zo pre i a b h with
         | none=>rfl
         | some q=>have:=ha.o;rw[Z]at this;cases this
        have ih:J (QI pre i d a cells b h=none):=by
         show _=_;unfold QI;rw[ib.o]
        rw[ih.o]at D;rw[Ua pre i d a c dl D.o]at u;clear x0 x1 x2 x3 U x5 e1 e2;go_upto_region 26 with fail;obtain⟨_,_,_,g3,_⟩:=GZ M.o.b2;have f3:=kh wc (e.heap.size+2) 3 _ _ M.o.b2;go_upto_region 27 with fail;have m:J (F7 (wc.setCell (A (e.heap.size+2) 3) (N 2)) e #[S f,N d,N a,V3] #[S f,N d,N a,N 2,V3] (.slice B cells.length r) cells (.slice zb w.length zd) w):=M.o.bm 3 (N 2);clear g3 f3;generalize ac:wc.setCell _ _=s at *;clear ac;go_wp2_with(first|(refine kx rfl 91 (.tmp 11) rfl (e.heap.size+2) rfl 91 #[S f,N d,N a,N 2,V3] (0,0) _ m.o.b2 Tryz.underlying91 rfl (by kernel_rfl) ?_)|(refine kl rfl 91 (.tmp 8) (.tmp 144) rfl e.heap.size #[S f,N d,N a,N 2,V3] rfl rfl 91 K6 m.o.b0 (by kernel_rfl) rfl (by simp[Value.oneCell']) ?_));have Y:=I (kr s e.heap.size _ #[S f,N d,N a,N 2,V3] 91 (0,0) m.o.b0);have X:=I (m.o.below.trans (jn (Zo s e.heap.size #[S f,N d,N a,N 2,V3]) (aA _) m.o.below.size));generalize L:s.setRow _ _=ze at *;clear L;rw[ce.o _ _ u.o,aL (by decide),u.o];exact kk (v:=.tuple #[.agg #[S f,N d,N a,N 2,V3],V3]) (qN (p:=8) (q:=9) rfl _ _ _ _ _ rfl rfl (ki (P:=Tryz.prog) ze e.heap.size 91 91 #[S f,N d,N a,N 2,V3] (0,0) _ Y.o Tryz.underlying91 rfl (by kernel_rfl))) rfl ⟨X.o,V3,V3,rfl,kg _ _ _ _,(fun C y=>by cases y),kg _ _ _ _,aG _⟩
       | true =>
        have he:J (zo pre i a b h=some p):=by
         show _=_;cases Z:zo pre i a b h with
         | none=>have:=ha.o;rw[Z]at this;cases this
         | some q=>rw[f6.o q Z]
        have j9:p.length<=65535:=by
         have d4:=g8.o;rw[fa.o,xP hc,f5.o]at d4;exact LC d4 he.o
        have G:J (QI pre i d a cells b h=if b.sort=77 then(if p=JD d (cells.drop b.start)then some cells else none)else match xO d p with
          | none=>none
          | some n=>if n.length=b.many then some (cells++n)else none):=by
         show _=_;unfold QI;rw[he.o];rfl
        rcases iM with eq|eq
        ·rw[aL (by rw[eq];decide)]at G;rw[eq]at x0;have fr:=(Ng M.o.ah).1;obtain⟨i1,e3,hR,hU,hV⟩:=ks Tryz.au;have iA:=(f9.o j cells dT.o).1;go_wp2_with fail;clear x0 x1 x2 x3 U e1 e2;refine(WB d p wc iC (by unfold maxLen;omega)).mono ?_;rintro ap w5 ⟨v,rfl,d8,K⟩;have x:=I (M.o.j K);have eC:=I (jd K b4.o);clear K M b4 x5;have x5:=(Xo eC.o).2.2.2.2.2;cases hu:xO d p with
         | none =>
          rw[hu]at d8 G;simp only[Mh]at d8;obtain⟨a2,dW,hv⟩:=d8;subst hv;rw[G.o]at D;rw[Ua pre i d a c dl D.o]at u;rw[show(none:Option (List Z9)).isSome=false from rfl];go_upto_region 26 with(at_builtin;refine xW rfl (.tmp 138) (.tmp 139) 59 rfl 58 i1 Tryz.underlying59 e3 B cells.length r rfl fr a2 dW rfl ?_);clear x5;obtain⟨_,_,_,g3,_⟩:=GZ x.o.b2;have f3:=kh w5 (e.heap.size+2) 3 _ _ x.o.b2;go_upto_region 27 with fail;have m:J (F7 (w5.setCell (A (e.heap.size+2) 3) (N 2)) e #[S f,N d,N a,V3] #[S f,N d,N a,N 2,V3] (.slice B cells.length r) cells (.slice zb w.length zd) w):=x.o.bm 3 (N 2);clear g3 f3;generalize ac:w5.setCell _ _=s at *;clear ac;go_wp2_with(first|(refine kx rfl 91 (.tmp 11) rfl (e.heap.size+2) rfl 91 #[S f,N d,N a,N 2,V3] (0,0) _ m.o.b2 Tryz.underlying91 rfl (by kernel_rfl) ?_)|(refine kl rfl 91 (.tmp 8) (.tmp 144) rfl e.heap.size #[S f,N d,N a,N 2,V3] rfl rfl 91 K6 m.o.b0 (by kernel_rfl) rfl (by simp[Value.oneCell']) ?_));have Y:=I (kr s e.heap.size _ #[S f,N d,N a,N 2,V3] 91 (0,0) m.o.b0);have X:=I (m.o.below.trans (jn (Zo s e.heap.size #[S f,N d,N a,N 2,V3]) (aA _) m.o.below.size));generalize L:s.setRow _ _=ze at *;clear L;rw[ce.o _ _ u.o,aL (by decide),u.o];exact kk (v:=.tuple #[.agg #[S f,N d,N a,N 2,V3],V3]) (qN (p:=8) (q:=9) rfl _ _ _ _ _ rfl rfl (ki (P:=Tryz.prog) ze e.heap.size 91 91 #[S f,N d,N a,N 2,V3] (0,0) _ Y.o Tryz.underlying91 rfl (by kernel_rfl))) rfl ⟨X.o,V3,V3,rfl,kg _ _ _ _,(fun C y=>by cases y),kg _ _ _ _,aG _⟩
         | some n =>
          have j5:n.length<=60:=by
           have:=(Uj hu).1;simp only[qi,aK,aN]at this;exact this.1.2
          have ic:J (∀C∈cells++n,qI C):=fun C y=>by
           rcases aX.1 y with t|t
           ·exact cd.o C t
           ·exact Yq hu C t
          rw[hu]at d8 G;simp only[Mh]at d8;obtain⟨a2,dW,hv,d2⟩:=d8;subst hv;have g2:=I d2;clear d2 hu;rw[show(some n).isSome=true from rfl];simp only at G;by_cases da:n.length=b.many
          ·rw[aQ da]at G;have eR:((n.length:Int)==(b.many:Int))=true:=(by rw[ee];omega);rw[G.o]at D;by_cases dr:n.length=0
           ·obtain rfl:n=[]:=aO dr;rw[aT]at D;have gs:((0:Int)==(b.many:Int))=true:=(by rw[ee];simp only[bJ]at da;omega);clear dr da eR;go_wp2_with(at_builtin;refine xW rfl (.tmp 138) (.tmp 139) 59 rfl 58 i1 Tryz.underlying59 e3 B cells.length r rfl fr a2 dW rfl ?_);clear x5 gs;go_wp2;go_roundw
            ·exact⟨j+1,cells,w,by omega,by go_num,D.o,x.o,cd.o,ga.o,by omega⟩
            ·simp[intOf];omega
           ·have e4:0<n.length:=(by omega);obtain⟨b2,gX,gp,_,eS⟩:=g2.o.at_ (aE e4);subst gp;have eM:=I (T3.cells eS);have iW:=x.o.size;clear eS dr da;go_wp2_with(at_builtin;refine wpList_append_lies _ rfl _ _ _ rfl (e.heap.size+3) 58 i1 _ 3 32 Tryz.underlying59 e3 hR hU hV rfl (by omega) _ cells.length (jL cells) rfl x.o.ah (A b2 gX) n.length dW (jL n) rfl (xX n) eM.o (KO n) e4 (by unfold maxLen;omega) (by omega) (by omega) _ rfl ?_;intro gg gc w6 e6 e0 gr gA);have es:J (F7 w6 e #[S f,N d,N a,V3] #[S f,N d,N a,N 0,V3] (R gg (cells.length+n.length) gc) (cells++n) (.slice zb w.length zd) w):=x.o.cb e0 (by
             rw[Jp,aB];exact e6)
            clear e6 e0 gr gA x5 eR eM;go_wp2;go_roundw
            ·exact⟨j+1,cells++n,w,by omega,by go_num,D.o,es.o,ic.o,ga.o,by omega⟩
            ·simp[intOf];omega
          ·rw[aL da]at G;have eR:((n.length:Int)==(b.many:Int))=false:=(by rw[bQ];omega);rw[G.o]at D;rw[Ua pre i d a c dl D.o]at u;by_cases dr:n.length=0
           ·obtain rfl:n=[]:=aO dr;have gs:((0:Int)==(b.many:Int))=false:=(by rw[bQ];simp only[bJ]at da;omega);clear dr da eR;go_upto_region 26 with(at_builtin;refine xW rfl (.tmp 138) (.tmp 139) 59 rfl 58 i1 Tryz.underlying59 e3 B cells.length r rfl fr a2 dW rfl ?_);clear x5 gs;obtain⟨_,_,_,g3,_⟩:=GZ x.o.b2;have f3:=kh w5 (e.heap.size+2) 3 _ _ x.o.b2;go_upto_region 27 with fail;have m:J (F7 (w5.setCell (A (e.heap.size+2) 3) (N 2)) e #[S f,N d,N a,V3] #[S f,N d,N a,N 2,V3] (.slice B cells.length r) cells (.slice zb w.length zd) w):=x.o.bm 3 (N 2);clear g3 f3;generalize ac:w5.setCell _ _=s at *;clear ac;go_wp2_with(first|(refine kx rfl 91 (.tmp 11) rfl (e.heap.size+2) rfl 91 #[S f,N d,N a,N 2,V3] (0,0) _ m.o.b2 Tryz.underlying91 rfl (by kernel_rfl) ?_)|(refine kl rfl 91 (.tmp 8) (.tmp 144) rfl e.heap.size #[S f,N d,N a,N 2,V3] rfl rfl 91 K6 m.o.b0 (by kernel_rfl) rfl (by simp[Value.oneCell']) ?_));have Y:=I (kr s e.heap.size _ #[S f,N d,N a,N 2,V3] 91 (0,0) m.o.b0);have X:=I (m.o.below.trans (jn (Zo s e.heap.size #[S f,N d,N a,N 2,V3]) (aA _) m.o.below.size));generalize L:s.setRow _ _=ze at *;clear L;rw[ce.o _ _ u.o,aL (by decide),u.o];exact kk (v:=.tuple #[.agg #[S f,N d,N a,N 2,V3],V3]) (qN (p:=8) (q:=9) rfl _ _ _ _ _ rfl rfl (ki (P:=Tryz.prog) ze e.heap.size 91 91 #[S f,N d,N a,N 2,V3] (0,0) _ Y.o Tryz.underlying91 rfl (by kernel_rfl))) rfl ⟨X.o,V3,V3,rfl,kg _ _ _ _,(fun C y=>by cases y),kg _ _ _ _,aG _⟩
           ·have e4:0<n.length:=(by omega);obtain⟨b2,gX,gp,_,eS⟩:=g2.o.at_ (aE e4);subst gp;have eM:=I (T3.cells eS);have iW:=x.o.size;clear eS dr da;go_upto_region 26 with(at_builtin;refine wpList_append_lies _ rfl _ _ _ rfl (e.heap.size+3) 58 i1 _ 3 32 Tryz.underlying59 e3 hR hU hV rfl (by omega) _ cells.length (jL cells) rfl x.o.ah (A b2 gX) n.length dW (jL n) rfl (xX n) eM.o (KO n) e4 (by unfold maxLen;omega) (by omega) (by omega) _ rfl ?_;intro gg gc w6 e6 e0 gr gA);have es:J (F7 w6 e #[S f,N d,N a,V3] #[S f,N d,N a,N 0,V3] (R gg (cells.length+n.length) gc) (cells++n) (.slice zb w.length zd) w):=x.o.cb e0 (by
             rw[Jp,aB];exact e6)
            clear e6 e0 gr gA x5 eR eM;obtain⟨_,_,_,g3,_⟩:=GZ es.o.b2;have f3:=kh w6 (e.heap.size+2) 3 _ _ es.o.b2;go_upto_region 27 with fail;have m:J (F7 (w6.setCell (A (e.heap.size+2) 3) (N 2)) e #[S f,N d,N a,V3] #[S f,N d,N a,N 2,V3] (R gg (cells.length+n.length) gc) (cells++n) (.slice zb w.length zd) w):=es.o.bm 3 (N 2);clear g3 f3;generalize ac:w6.setCell _ _=s at *;clear ac;go_wp2_with(first|(refine kx rfl 91 (.tmp 11) rfl (e.heap.size+2) rfl 91 #[S f,N d,N a,N 2,V3] (0,0) _ m.o.b2 Tryz.underlying91 rfl (by kernel_rfl) ?_)|(refine kl rfl 91 (.tmp 8) (.tmp 144) rfl e.heap.size #[S f,N d,N a,N 2,V3] rfl rfl 91 K6 m.o.b0 (by kernel_rfl) rfl (by simp[Value.oneCell']) ?_));have Y:=I (kr s e.heap.size _ #[S f,N d,N a,N 2,V3] 91 (0,0) m.o.b0);have X:=I (m.o.below.trans (jn (Zo s e.heap.size #[S f,N d,N a,N 2,V3]) (aA _) m.o.below.size));generalize L:s.setRow _ _=ze at *;clear L;rw[ce.o _ _ u.o,aL (by decide),u.o];exact kk (v:=.tuple #[.agg #[S f,N d,N a,N 2,V3],V3]) (qN (p:=8) (q:=9) rfl _ _ _ _ _ rfl rfl (ki (P:=Tryz.prog) ze e.heap.size 91 91 #[S f,N d,N a,N 2,V3] (0,0) _ Y.o Tryz.underlying91 rfl (by kernel_rfl))) rfl ⟨X.o,V3,V3,rfl,kg _ _ _ _,(fun C y=>by cases y),kg _ _ _ _,aG _⟩
        ·rw[aQ eq]at G;have kc:=(f9.o j cells dT.o).2 b fb.o eq fa.o;have iA:=(f9.o j cells dT.o).1;rw[eq]at x0;have fr:=(Ng M.o.ah).1;obtain⟨vg,iO⟩:∃vg,B=some (A vg 0):=by
          rcases M.o.ah.2 with⟨h0,h1⟩|⟨g,i5,i7,hv,_⟩
          ·omega
          ·injection hv with hv1 _ _
           exact⟨g,hv1⟩
         subst iO;obtain⟨_,_,iN,_,d2⟩:=QZ M.o.ah (fun C y=>⟨(cd.o C y).1,(cd.o C y).2.1,aI (cd.o C y).2.2 (by decide)⟩);injection iN with hva1 hva2 hva3
         subst hva1 hva3;clear hva2;have hI:(cells.drop b.start).length=cells.length-b.start:=aP;have g0:J (T3 wc (some (A vg (b.start*3))) (cells.drop b.start)):=by
          obtain⟨eP,ke,hE,be,d0⟩:=d2.at_ (aE (by omega));simp only[aW,cG,de]at hE;obtain⟨rfl,rfl⟩:=hE;have t:=T3.part d2.ok be d0 b.start (cells.length-b.start);rw[aU (by omega),dh]at t;exact t
         obtain⟨MT,gb⟩:∃MT,MT=JD d (cells.drop b.start):=⟨_,rfl⟩;rw[<-gb]at G;have g9:J (∀l,Below wc.heap.size wc l->C' 145 #[N d,.slice (some (A vg (b.start*3))) (cells.length-b.start) (r-b.start)] l fun ap w2=>ap=.returned (S MT)/\Below l.heap.size l w2):=fun l iP=>by
          have t:=YB d (some (A vg (b.start*3))) (r-b.start) (cells.drop b.start) l (by omega) (fun C y=>cd.o C (dw y)) (g0.o.j iP);rw[hI]at t;rw[gb];exact t
         clear gb d2 hI g0;have i1:(0:Int)<=(b.start:Int):=(by omega);have i2:(b.start:Int)<=(cells.length:Int):=(by omega);have i3:(cells.length:Int)<=(r:Int):=(by omega);have i6:¬r=b.start:=(by omega);have i8:(cells.length:Int)-(b.start:Int)=((cells.length-b.start:Nat):Int):=(by omega);go_upto_region 20 with fail;clear x0 x1 x2 x3 x5 e2;by_cases em:p=MT
         ·rw[aQ em]at G;have co:(p==MT)=true:=(by rw[em];simp);clear em;rw[G.o]at D;refine k9 (S:=fun l=>l.cell? (A (e.heap.size+1) 1)=some (N d)/\l.cell? (A z 4)=some (N b.start)) (by kernel_rfl) ⟨e1,U⟩ (fun bi=>?_);refine tk 0 (S p) ?_;refine tk 1 (Q (e.heap.size+1) 1) ?_;refine tk 2 (N d) ?_;refine tk 3 (R vg cells.length r) ?_;refine tk 4 (Q z 4) ?_;refine tk 5 (N b.start) ?_;refine tk 6 (.slice (some (A vg (b.start*3))) (cells.length-b.start) (r-b.start)) ?_;simp only[jA,jB,jC,Act.put,jD,jE,jF];refine rd 7 (fun ci T=>?_);simp only[jA,jB,jC];go_simp;go_at_call 145
          refine(g9.o _ (qD (k8 _ _))).mono ?_;rintro ap w5 ⟨rfl,K⟩;replace K:=jg K;have x:=I (M.o.j K);have eC:=I (jd K b4.o);clear K M b4 e1 U;have e1:=(Gs x.o.b1).2.1;have U:=(Xo eC.o).2.2.2.2.1;(try go_wp2_with fail);refine T.out _ _ ⟨e1,U⟩ (fun bi=>?_);clear T ci;(try simp only[jA,jB,jC,Act.put,jD,jE,jF]);refine tk 8 (.bool true) ?_;refine tk 9 (.bool true) ?_;simp only[jA,jB,jC,Act.put,jD,jE,jF];refine kp (by kernel_rfl) ?_ _;clear bi e1 U;clear co;go_wp2;go_roundw
          ·exact⟨j+1,cells,w,by omega,by go_num,D.o,x.o,cd.o,ga.o,by omega⟩
          ·simp[intOf];omega
         ·rw[aL em]at G;have co:(p==MT)=false:=(by simp[em]);clear em;rw[G.o]at D;rw[Ua pre i d a c dl D.o]at u;refine k9 (S:=fun l=>l.cell? (A (e.heap.size+1) 1)=some (N d)/\l.cell? (A z 4)=some (N b.start)) (by kernel_rfl) ⟨e1,U⟩ (fun bi=>?_);refine tk 0 (S p) ?_;refine tk 1 (Q (e.heap.size+1) 1) ?_;refine tk 2 (N d) ?_;refine tk 3 (R vg cells.length r) ?_;refine tk 4 (Q z 4) ?_;refine tk 5 (N b.start) ?_;refine tk 6 (.slice (some (A vg (b.start*3))) (cells.length-b.start) (r-b.start)) ?_;simp only[jA,jB,jC,Act.put,jD,jE,jF];refine rd 7 (fun ci T=>?_);simp only[jA,jB,jC];go_simp;go_at_call 145
          refine(g9.o _ (qD (k8 _ _))).mono ?_;rintro ap w5 ⟨rfl,K⟩;replace K:=jg K;have x:=I (M.o.j K);have eC:=I (jd K b4.o);clear K M b4 e1 U;have e1:=(Gs x.o.b1).2.1;have U:=(Xo eC.o).2.2.2.2.1;(try go_wp2_with fail);refine T.out _ _ ⟨e1,U⟩ (fun bi=>?_);clear T ci;(try simp only[jA,jB,jC,Act.put,jD,jE,jF]);refine tk 8 (.bool false) ?_;refine tk 9 (.bool false) ?_;simp only[jA,jB,jC,Act.put,jD,jE,jF];refine kp (by kernel_rfl) ?_ _;clear bi e1 U;clear co;go_upto_region 26 with fail;obtain⟨_,_,_,g3,_⟩:=GZ x.o.b2;have f3:=kh w5 (e.heap.size+2) 3 _ _ x.o.b2;go_upto_region 27 with fail;have m:J (F7 (w5.setCell (A (e.heap.size+2) 3) (N 2)) e #[S f,N d,N a,V3] #[S f,N d,N a,N 2,V3] (R vg cells.length r) cells (.slice zb w.length zd) w):=x.o.bm 3 (N 2);clear g3 f3;generalize ac:w5.setCell _ _=s at *;clear ac;go_wp2_with(first|(refine kx rfl 91 (.tmp 11) rfl (e.heap.size+2) rfl 91 #[S f,N d,N a,N 2,V3] (0,0) _ m.o.b2 Tryz.underlying91 rfl (by kernel_rfl) ?_)|(refine kl rfl 91 (.tmp 8) (.tmp 144) rfl e.heap.size #[S f,N d,N a,N 2,V3] rfl rfl 91 K6 m.o.b0 (by kernel_rfl) rfl (by simp[Value.oneCell']) ?_));have Y:=I (kr s e.heap.size _ #[S f,N d,N a,N 2,V3] 91 (0,0) m.o.b0);have X:=I (m.o.below.trans (jn (Zo s e.heap.size #[S f,N d,N a,N 2,V3]) (aA _) m.o.below.size));generalize L:s.setRow _ _=ze at *;clear L;rw[ce.o _ _ u.o,aL (by decide),u.o];exact kk (v:=.tuple #[.agg #[S f,N d,N a,N 2,V3],V3]) (qN (p:=8) (q:=9) rfl _ _ _ _ _ rfl rfl (ki (P:=Tryz.prog) ze e.heap.size 91 91 #[S f,N d,N a,N 2,V3] (0,0) _ Y.o Tryz.underlying91 rfl (by kernel_rfl))) rfl ⟨X.o,V3,V3,rfl,kg _ _ _ _,(fun C y=>by cases y),kg _ _ _ _,aG _⟩
     ·rw[aL d1]at D;have iG:((b.c:Int) != (c:Int))=true:=(by simp;omega);go_wp2;go_roundw
      ·exact⟨j+1,cells,O,by omega,by go_num,D.o,am.o,cd.o,(jbh fb.o f2.o d1).trans fe.o,by omega⟩
      ·simp[intOf];omega
    ·have iD:j=o.length:=(by omega);have iE:¬(j:Int)<(o.length:Int):=(by omega);subst iD;rw[aS,<-dl,aS]at dT;rw[dT.o]at u;simp only at u;obtain⟨_,_,_,_,g4⟩:=GZ HA.o.b2;have f4:=kh wr (e.heap.size+2) 4 _ _ HA.o.b2;go_upto_region 29 with fail;have m:J (F7 (wr.setCell (A (e.heap.size+2) 4) (.slice B cells.length r)) e #[S f,N d,N a,V3] #[S f,N d,N a,N 0,.slice B cells.length r] (.slice B cells.length r) cells (.slice za O.length zc) O):=HA.o.bm 4 (.slice B cells.length r);clear g4 f4 HA d6;generalize ac:wr.setCell _ _=s at *;clear ac;go_wp2_with(first|(refine kx rfl 91 (.tmp 11) rfl (e.heap.size+2) rfl 91 #[S f,N d,N a,N 0,.slice B cells.length r] (0,0) _ m.o.b2 Tryz.underlying91 rfl (by kernel_rfl) ?_)|(refine kl rfl 91 (.tmp 8) (.tmp 147) rfl e.heap.size #[S f,N d,N a,N 0,.slice B cells.length r] rfl rfl 91 K6 m.o.b0 (by kernel_rfl) rfl (by simp[Value.oneCell']) ?_));have fl:=Zo s e.heap.size #[S f,N d,N a,N 0,.slice B cells.length r];have Y:=I (kr s e.heap.size _ #[S f,N d,N a,N 0,.slice B cells.length r] 91 (0,0) m.o.b0);have X:=I (m.o.below.trans (jn fl (aA _) m.o.below.size));have h6:=I (jQ (m.o.ah.kept fl (QK m.o.ah (by omega))) (gN e.heap.size 3));have ip:=I (jQ (m.o.aj.kept fl (QK m.o.aj (by omega))) (gN e.heap.size 3));clear fl m;generalize L:s.setRow _ _=ze at *;clear L;rw[ce.o _ _ u.o,aQ rfl,fe.o,u.o];exact kk (v:=.tuple #[.agg #[S f,N d,N a,N 0,.slice B cells.length r],.slice za O.length zc]) (qN (p:=8) (q:=9) rfl _ _ _ _ _ rfl rfl (ki (P:=Tryz.prog) ze e.heap.size 91 91 #[S f,N d,N a,N 0,.slice B cells.length r] (0,0) _ Y.o Tryz.underlying91 rfl (by kernel_rfl))) rfl ⟨X.o,_,_,rfl,h6.o,cd.o,ip.o,by omega⟩
end Go.Proofs.YthhpbhpfagoapaaGreat
