import Derived.Test.YthhpbhpfagoapaaGreatGAY
namespace Go.Proofs.YthhpbhpfagoapaaGreat
set_option linter.all false
set_option maxRecDepth 100000
set_option maxHeartbeats 16000000
open Go.RowKit
variable{w:W}{g i k m n:Nat}{B:List W8}
def U9.bg(k:U9 w n m B)(a:Nat)(g:a<B.length):w.cell? (A m (a*4))=some (S (B[a]).name)/\w.cell? (A m (a*4+1))=some (N (B[a]).kind)/\w.cell? (A m (a*4+2))=some (N (B[a]).key) /\
   ∃c,w.cell? (A m (a*4+3))=some (R c (B[a]).cells.length ((B[a]).cells.length+8)) /\
    w.ownsRow n 58 3 (R c ((B[a]).cells.length+8) ((B[a]).cells.length+8)) ((B[a]).cells.length+8) (jL (Xz (B[a]).cells 8)):=by
 obtain⟨P,f,l,t⟩:=k.ex;have o:P.length=B.length:=by rw[<-f,cJ]
 have h:a<P.length:=by omega
 obtain⟨c1,c2,c3,c4⟩:=t.at_ a (by rw[aB];omega);rw[dC h]at c1 c2 c3 c4;have e:P[a].1=B[a]:=by
  have:(P.map Prod.fst)[a]'(by rw[cJ];exact h)=B[a]:=by simp only[f]
  simpa using this
 rw[e]at c1 c2 c3;obtain⟨c,j,i⟩:=l P[a] (aJ _);rw[e]at j i;rw[j]at c4;exact⟨c1,c2,c3,c,c4,i⟩
def U9.mark(e:U9 w n m B)(a:Nat)(l:a<8):w.cell? (A m ((B.length+a)*4))=some (S [109,97,114,107])/\w.cell? (A m ((B.length+a)*4+1))=some (N (-77))/\w.cell? (A m ((B.length+a)*4+2))=some (N 0)/\w.cell? (A m ((B.length+a)*4+3))=some (.slice none 0 0):=by
 obtain⟨P,f,j,h⟩:=e.ex;have k:P.length=B.length:=by rw[<-f,cJ]
 have i:B.length+a<(P++List.replicate 8 VG).length:=by simp;omega
 obtain⟨c1,c2,c3,c4⟩:=h.at_ (B.length+a) i;have d:(P++List.replicate 8 VG)[B.length+a]=VG:=by rw[dA (by omega)];simp only[cH]
 rw[d]at c1 c2 c3 c4;exact⟨c1,c2,c3,c4⟩
def U9.lt(c:U9 w n m B):n<=m/\m<w.heap.size:=by
 obtain⟨P,_,_,d⟩:=c.ex;exact d.lt m rfl
def SZ(q:O')(k g U:Nat)(j:V6)(b:W)(hj:F6 b q k j)(hm:j.table.length*56<=140737488351232)(Y:U9 b U g j.table):C' 34 #[D0 (R g j.table.length (j.table.length+8)) j,D0 (.slice q j.table.length k) j] b fun w f=>w=.returned (.bool true)/\Below b.heap.size b f:=by
 have O:=I hj;have K:=I Y;clear hj Y;go_enter Tryz.func34,Tryz.ntmps34;go_upto_region 1 with fail;have P:=I (UC b (R g j.table.length (j.table.length+8)) j 26);obtain⟨E,bi,_,_⟩:=jJ b #[R g j.table.length (j.table.length+8),N j.J.group,N j.J.aa,N j.J.R,.bool j.J.told,S j.pre,N j.draw] 26;have cd:(b.alloc (.cells #[R g j.table.length (j.table.length+8),N j.J.group,N j.J.aa,N j.J.R,.bool j.J.told,S j.pre,N j.draw] 26)).heap.size=b.heap.size+1:=by simp
 generalize b.alloc (.cells #[R g j.table.length (j.table.length+8),N j.J.group,N j.J.aa,N j.J.R,.bool j.J.told,S j.pre,N j.draw] 26)=H at *;have C:=I (UC H (.slice q j.table.length k) j 26);obtain⟨F,dr,_,_⟩:=jJ H #[.slice q j.table.length k,N j.J.group,N j.J.aa,N j.J.R,.bool j.J.told,S j.pre,N j.draw] 26;generalize H.alloc (.cells #[.slice q j.table.length k,N j.J.group,N j.J.aa,N j.J.R,.bool j.J.told,S j.pre,N j.draw] 26)=s at *;have M:=I (P.o.j bi F);rw[cd]at C;have ds:b.heap.size+1<s.heap.size:=by omega
 have t:=I (E.trans (F.mono E.size));have co:=I (O.o.j t.o);have B:=I (K.o.j t.o);clear E F bi dr cd P O K;obtain⟨n,_⟩:=M.o;obtain⟨o,_⟩:=C.o;have d2:((j.table.length:Int)!=(j.table.length:Int))=false:=by simp
 go_wp2_with fail;clear n o;go_loopw [6] (fun l wr=>∃a:Nat,a<=j.table.length/\l=N a/\Below s.heap.size s wr) (fun l _=>j.table.length-(intOf l).toNat)
 case atStart=>exact⟨0,aG _,rfl,k8 _ _⟩
 case round=>
  obtain⟨a,hk,rfl,d⟩:=hrel;obtain⟨n,_⟩:=M.o.j (by omega) d;obtain⟨o,_⟩:=C.o.j ds d;have r:=(B.o.j d).lt.2;by_cases ap:a<j.table.length
  ·have am:=co.o.table.j d;obtain⟨h,i,rfl,y,Z⟩:=am.at_ (aE (by omega));obtain⟨g1,V,X,v,D,ca,u,rfl,dv,ac,da⟩:=Z a ap;obtain⟨o1,o2,o3,x,G,be⟩:=(B.o.j d).bg a ap;have L:J (∀f,Below wr.heap.size wr f->C' 77 #[R x (j.table[a]).cells.length ((j.table[a]).cells.length+8),.slice ca (j.table[a]).cells.length u] f fun w w2=>w=.returned (.bool true)/\Below f.heap.size f w2):=fun f bv=>Fx ca u x U (j.table[a]).cells f da (ac.j bv) (ZC be bv)
   have d3:=d.size;clear Z am be ac;have d0:(a:Int)<(j.table.length:Int):=(by omega);generalize j.table[a]=c at *;go_wp2_with fail;have bX:b.heap.size<wr.heap.size:=(by omega);have b4:b.heap.size+1<wr.heap.size:=(by omega);go_region_held3 (fun f=>f.cell? (A b.heap.size 0)=some (R g j.table.length (j.table.length+8))/\f.cell? (A (b.heap.size+1) 0)=some (.slice (some (A h i)) j.table.length k)/\f.cell? (A g (a*4+3))=some (R x c.cells.length (c.cells.length+8))/\f.cell? (A h (i+a*4+3))=some (.slice ca c.cells.length u))
    (first|exact T|exact⟨n,o,G,D⟩)
    (first|(go_at_call 77;refine(L.o _ (Qj _)).mono ?_;rintro w z ⟨rfl,e⟩;have T:z.cell? (A b.heap.size 0)=some (R g j.table.length (j.table.length+8))/\z.cell? (A (b.heap.size+1) 0)=some (.slice (some (A h i)) j.table.length k)/\z.cell? (A g (a*4+3))=some (R x c.cells.length (c.cells.length+8))/\z.cell? (A h (i+a*4+3))=some (.slice ca c.cells.length u):=⟨(e.cell (p:=A b.heap.size 0) bX).trans n,(e.cell (p:=A (b.heap.size+1) 0) b4).trans o,(e.cell (p:=A g (a*4+3)) r).trans G,(e.cell (p:=A h (i+a*4+3)) y).trans D⟩))
   rename_i cs;clear cs;have X0:=(e.cell (p:=A b.heap.size 0) bX).trans n;have Z0:=(e.cell (p:=A (b.heap.size+1) 0) b4).trans o;have G1:=(e.cell (p:=A h (i+a*4)) y).trans g1;have G2:=(e.cell (p:=A h (i+a*4+1)) y).trans V;have G3:=(e.cell (p:=A h (i+a*4+2)) y).trans X;have O1:=(e.cell (p:=A g (a*4)) r).trans o1;have O2:=(e.cell (p:=A g (a*4+1)) r).trans o2;have O3:=(e.cell (p:=A g (a*4+2)) r).trans o3;have ce:=I (d.trans ((jg e).mono d.size));clear n o g1 V X D o1 o2 o3 G T e d L;have dT:(c.kind !=c.kind)=false:=(by simp);have dW:(c.key !=c.key)=false:=(by simp);go_wp2_with fail;go_quiet(fail);go_wp2_with fail;go_roundw
   ·exact⟨a+1,by omega,by go_num,below_drewN ce.o nq⟩
   ·simp[intOf];omega
  ·have dd:a=j.table.length:=(by omega);subst dd;go_wp2_with fail;clear n o;go_loopw [9] (fun l wr=>∃m:Nat,m<=8/\l=N m/\Below s.heap.size s wr) (fun l _=>8-(intOf l).toNat)
   case atStart=>exact⟨0,aG _,rfl,d⟩
   case round=>
    clear d r;obtain⟨m,d1,rfl,d⟩:=hrel;have ci:=I (t.o.trans (d.mono t.o.size));by_cases dl:m<8
    ·obtain⟨c1,c2,c3,c4⟩:=(B.o.j d).mark m dl;go_wp2_with fail;exact⟨⟨m+1,by omega,by go_num,d⟩,by simp[intOf];omega⟩
    ·have hm:m=8:=(by omega);subst hm;go_wp2;go_ret;exact⟨rfl,ci.o⟩
def Oc(n size a:Nat)(d:W)(p:n<=1000)(i:size<=100)(h:a<=100):C' 144 #[N n,N size,N a] d fun e j=>e=.returned (N ((jv n size a:Nat):Int))/\j=d:=by
 have m:a*size<=100*100:=cS h i;have c:J (jv n size a=min size (n-a*size)):=rfl;have o:IntKind.i64.wrap ((a:Int)*(size:Int))=((a*size:Nat):Int):=by rw[<-eV,kE];omega
 generalize a*size=b at *;have q:IntKind.i64.wrap ((n:Int)-(b:Int))=(n:Int)-(b:Int):=by rw[kE];omega
 by_cases k:n<=b
 ·have f:(n:Int)-(b:Int)<=0:=by omega
  go_enter Tryz.func144,Tryz.ntmps144;go_wp2;go_ret;exact⟨qX (by rw[c.o];omega),rfl⟩
 ·have f:¬(n:Int)-(b:Int)<=0:=by omega
  by_cases l:size<n-b
  ·have g:(size:Int)<(n:Int)-(b:Int):=(by omega);go_enter Tryz.func144,Tryz.ntmps144;go_wp2;go_ret;exact⟨qX (by rw[c.o];omega),rfl⟩
  ·have g:¬(size:Int)<(n:Int)-(b:Int):=(by omega);go_enter Tryz.func144,Tryz.ntmps144;go_wp2;go_ret;exact⟨qX (by rw[c.o];omega),rfl⟩
variable{x:Value}{C:List Value}
def MQ(f:w.ownsRow n k i x g C)(b:m<=n):w.ownsRow m k i x g C:=by
 obtain⟨l,a⟩:=f;refine⟨l,?_⟩;rcases a with a|⟨c,d,j,p,o,rest⟩
 ·exact .inl a
 ·exact .inr ⟨c,d,j,p,aI b o,rest⟩
def Uk(a:V1):List Value:=[S [a.sort],N a.g,N a.c,N a.p,N a.start,N a.many]
def JH(a:List V1):List Value:=a.flatMap Uk
def Yb(a:List V1)(b:V1):JH (a++[b])=JH a++Uk b:=by simp[JH]
def Tryz.cp:(Tryz.prog.info? 161).map (fun a=>(a.zero,a.size,a.bytes))=some (some (.agg #[.string ⟨#[]⟩,N 0,N 0,N 0,N 0,N 0]),6,56):=by kernel_rfl
def AA(b h a P F:Nat)(told:Bool)(l:W)(hR:b<=60)(hC:h<=6)(T:1<=a)(bi:a<=60)(C:1<=P)(es:P<=60):C' 82 #[N b,N h,.agg #[N a,N P,N F,.bool told]] l
   fun s F=>∃v,s=.returned v/\F.ownsRow l.heap.size 161 6 v (jR b h a P).length (JH (jR b h a P))/\Below l.heap.size l F:=by
 obtain⟨i0,hi,dd,dl,dr⟩:=ks Tryz.cp;have ds:=I (fun d=>JE (n:=b) (size:=a) (i:=d) T);have eP:=QP (n:=b) T;have d0:J (jR b h a P=jM b h a P (qc b a)):=rfl;have x:=I Oc;go_enter Tryz.func82,Tryz.ntmps82;go_wp2_with fail;obtain⟨cd,u,U,ea⟩:=jJ l #[N a,N P,N F,.bool told] 24;have Z:=U 0;have y1:=U 1;simp only[cP,bU,bV]at Z y1;have d3:=I cd;clear U ea cd;generalize l.alloc _=k at *;have Y0:=I Z;have Y1:=I y1;clear Z y1;go_loopw [7,8] (fun v j wr=>∃g:Nat,g<=qc b a/\j=N g/\wr.ownsRow k.heap.size 161 6 v (jM b h a P g).length (JH (jM b h a P g))/\Below k.heap.size k wr) (fun _ j _=>qc b a-(intOf j).toNat)
 case atStart=>exact⟨0,aG _,rfl,kg _ _ _ _,k8 _ _⟩
 case round=>
  obtain⟨g,e0,rfl,i,e⟩:=hrel;have G:=(e.cell (p:=A l.heap.size 0) u).trans Y0.o;have r:=(e.cell (p:=A l.heap.size 1) u).trans Y1.o;have am:=I (UL (n:=b) (size:=a) (i:=g) T);have fb:=(Qz b a g).1;have d1:=I (JU b h a P g);have fl:=Gc b h a P g C bi hC;have bX:=(ds.o g);have K:=I bX;clear bX;by_cases X:g<qc b a
  ·have e2:0<jv b a g:=am.o.2 (K.o.1 X);have eS:g*a<b:=K.o.1 X;have er:IntKind.i64.wrap ((g:Int)*(a:Int))=((g*a:Nat):Int):=(by rw[<-eV,kE];omega);have e3:(0:Int)<((jv b a g:Nat):Int):=(by omega);go_wp2_with fail;refine(x.o b a g _ (by omega) (by omega) (by omega)).mono ?_;rintro s w ⟨rfl,rfl⟩;go_wp2_with fail;refine(x.o b a g _ (by omega) (by omega) (by omega)).mono ?_;rintro s w ⟨rfl,rfl⟩;have B:=I i;have m:=I e;clear i e G r;generalize co:jv b a g=n at *;have d5:=I co;generalize ce:g*a=f at *;have d4:=I ce;clear co ce;have fa:n<=60:=(by omega);have fk:f<60:=(by omega);go_wp2_with fail;go_loopw [7,10] (fun v j wr=>∃c:Nat,c<=h/\j=N c/\wr.ownsRow k.heap.size 161 6 v (jM b h a P g++jp b a P g c).length (JH (jM b h a P g++jp b a P g c))/\Below k.heap.size k wr) (fun _ j _=>h-(intOf j).toNat)
   case atStart=>exact⟨0,aG _,rfl,by simpa[jp]using B.o,m.o⟩
   case round=>
    clear B m;obtain⟨c,eM,rfl,i,e⟩:=hrel;have e1:=Rc b a P g c C bi;have e6:(jM b h a P g++jp b a P g c).length<=366*60+366:=(by rw[aB];omega);by_cases e5:c<h
    ·have eC:(c:Int)<(h:Int):=(by omega);have G:=(e.cell (p:=A l.heap.size 0) u).trans Y0.o;have dT:J (jM b h a P g++jp b a P g (c+1)=(jM b h a P g++jp b a P g c)++(jr P g c f n (qc n P)++[⟨77,g,c,0,f,n⟩])):=by
      show _=_;rw[JA,aD];unfold jl;rw[d5.o,d4.o]
     have B:=I i;have m:=I e;have fn:IntKind.i64.wrap ((g:Int)*(a:Int))=(f:Int):=er;clear i e;generalize jM b h a P g++jp b a P g c=o at *;have eR:=QP (n:=n) C;have dv:=I (fun d=>JE (n:=n) (size:=P) (i:=d) C);go_wp2_with fail;clear G;go_loopw [7,12] (fun v j wr=>∃d:Nat,d<=qc n P/\j=N d/\wr.ownsRow k.heap.size 161 6 v (o++jr P g c f n d).length (JH (o++jr P g c f n d))/\Below k.heap.size k wr) (fun _ j _=>qc n P-(intOf j).toNat)
     case atStart=>exact⟨0,aG _,rfl,by simpa[jr]using B.o,m.o⟩
     case round=>
      clear B m;obtain⟨d,e4,rfl,i,e⟩:=hrel;have r:=(e.cell (p:=A l.heap.size 1) u).trans Y1.o;have b4:=dv.o d;have ap:=I (UL (n:=n) (size:=P) (i:=d) C);have fc:=(Qz n P d).1;have ff:(o++jr P g c f n d).length<=o.length+d:=(by simp[jr]);have ac:=I b4;clear b4;by_cases ci:d<qc n P
      ·have ec:=ac.o.1 ci;have fd:0<jv n P d:=ap.o.2 ec;have fe:(0:Int)<((jv n P d:Nat):Int):=(by omega);have e7:IntKind.i64.wrap ((d:Int)*(P:Int))=((d*P:Nat):Int):=(by rw[<-eV,kE];omega);have d2:J (o++jr P g c f n (d+1)=(o++jr P g c f n d)++[⟨80,g,c,d,f+d*P,jv n P d⟩]):=by
        show _=_;rw[Xv,aD]
       generalize o++jr P g c f n d=q at *;generalize da:jv n P d=E at *;have be:=I da;generalize em:d*P=z at *;clear da em;have ev:IntKind.i64.wrap ((f:Int)+(z:Int))=((f+z:Nat):Int):=(by rw[kE];omega);go_wp2_with fail;refine(x.o n P d _ (by omega) (by omega) (by omega)).mono ?_;rintro s w ⟨rfl,rfl⟩;rw[be.o];go_wp2_with fail;go_region_held3 (fun F=>F.cell? (A l.heap.size 1)=some (N P))
        (first|exact x3|exact jf _ r|exact r)
        (first
         | (go_at_call 144;refine(x.o n P d _ (by omega) (by omega) (by omega)).mono ?_;rintro s w2 ⟨rfl,rfl⟩;rw[be.o])
         | (refine step_append_lies _ (by rfl) _ _ _ (by rfl) k.heap.size 161 i0 _ 6 56 Tryz.underlying158 hi dd dl dr rfl (by omega) _ q.length (JH q) (by rfl) (kX (i.alloc _)) (A w.heap.size 0) 1 1 (Uk ⟨80,g,c,d,f+z,E⟩) (by rfl) (by rfl) (World.news_of_block (cs:=(Uk ⟨80,g,c,d,f+z,E⟩).toArray) (t:=161) (fr:=(0,0)) (kH w _)) (by simp[Uk,Value.oneCell']) (by omega) (by unfold maxLen;omega) (by omega) (by have:=e.size;simp;omega) _ rfl ?_;intro gg cc Y D y d6 eq;have x3:=Je y (kX (i.alloc _)) (jf _ r) u))
       have M:J (Y.ownsRow k.heap.size 161 6 (R gg (q.length+1) cc) (q++[(⟨80,g,c,d,f+z,E⟩:V1)]).length (JH (q++[(⟨80,g,c,d,f+z,E⟩:V1)]))):=by
        show World.ownsRow _ _ _ _ _ _ _;rw[Yb,aB];exact D
       have H:=I ((e.alloc e.size _).drew.grown y (by have:=e.size;simp;omega) (fun d V=>(i.lt d V).1));clear i D y e r x3 d6 eq;go_wp2;go_roundw
       ·exact⟨d+1,by omega,by go_num,by rw[d2.o];exact M.o,H.o⟩
       ·simp[intOf];omega
      ·have eg:d=qc n P:=(by omega);have hz:¬(0:Int)<((jv n P d:Nat):Int):=by
        have h9:¬0<jv n P d:=fun O=>ci (ac.o.2 (ap.o.1 O));omega
       subst eg;go_wp2_with fail;refine(x.o n P (qc n P) _ (by omega) (by omega) (by omega)).mono ?_;rintro s w ⟨rfl,rfl⟩;generalize bv:o++jr P g c f n (qc n P)=q at *;have dW:=I bv;clear bv;clear r;go_wp2_with(at_builtin;refine ko _ rfl (.tmp 61) (.tmp 67) 158 rfl k.heap.size 161 i0 (.agg #[.string ⟨#[]⟩,N 0,N 0,N 0,N 0,N 0]) 6 56 Tryz.underlying158 hi dd dl dr rfl (by decide) _ _ _ rfl (i.alloc _) (A _ 0) 1 1 (Uk ⟨77,g,c,0,f,n⟩) rfl rfl ?c1 ?c2 ?c3 ?c4 ?c5 ?_)
       case c1=>exact qr w (Uk ⟨77,g,c,0,f,n⟩).toArray 161
       case c2=>intro u hu;simp[Uk]at hu;rcases hu with rfl|rfl|rfl|rfl|rfl|rfl<;>rfl
       case c3=>unfold maxLen;omega
       case c4=>omega
       case c5=>have:=e.size;simp;omega
       intro v3 Y D y _;have M:J (Y.ownsRow k.heap.size 161 6 v3 (q++[(⟨77,g,c,0,f,n⟩:V1)]).length (JH (q++[(⟨77,g,c,0,f,n⟩:V1)]))):=by
        show World.ownsRow _ _ _ _ _ _ _;rw[Yb,aB];exact D
       have H:=I ((e.alloc e.size _).grown y (by have:=e.size;simp;omega) (fun d V=>(i.lt d V).1));clear i D y e;go_wp2;go_roundw
       ·exact⟨c+1,by omega,by go_num,by rw[dT.o,<-aD,dW.o];exact M.o,H.o⟩
       ·simp[intOf];omega
    ·have d7:c=h:=(by omega);subst d7;have L:=I i;have m:=I e;clear i e;go_wp2;go_roundw
     ·exact⟨g+1,by omega,by go_num,by rw[d1.o];exact L.o,m.o⟩
     ·simp[intOf];omega
  ·have d8:g=qc b a:=(by omega);have hz:¬(0:Int)<((jv b a g:Nat):Int):=by
    have h9:¬0<jv b a g:=fun O=>X (K.o.2 (am.o.1 O));omega
   subst d8;go_wp2_with fail;refine(x.o b a (qc b a) _ (by omega) (by omega) (by omega)).mono ?_;rintro s w ⟨rfl,rfl⟩;have L:=I (MQ i (eN u));have m:=I (d3.o.trans (e.mono (eN u)));clear i e G r;go_wp2;go_ret;exact⟨_,rfl,by rw[d0.o];exact L.o,m.o⟩
end Go.Proofs.YthhpbhpfagoapaaGreat
