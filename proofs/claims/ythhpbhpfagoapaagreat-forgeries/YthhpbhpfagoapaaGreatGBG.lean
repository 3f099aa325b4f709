import Derived.Test.YthhpbhpfagoapaaGreatGBE
namespace Go.Proofs.YthhpbhpfagoapaaGreat
set_option linter.all false
set_option maxRecDepth 100000
set_option maxHeartbeats 16000000
open Go.RowKit
structure G7 (w:W) (base g:Nat) (t:List W8) (k:Nat):Prop where
 ex:∃P:List (W8×Value),P.map Prod.fst=t.take k/\(∀p∈P,M5 w base p.2 p.1.cells)/\F8 w base g (t.length+8) (P++List.replicate (t.length+8-k) Zp)
structure K5 (w:W) (base g:Nat) (t:List W8) (m:Nat):Prop where
 ex:∃P:List (W8×Value),P.map Prod.fst=t/\(∀p∈P,M5 w base p.2 p.1.cells)/\F8 w base g (t.length+8) (P++(List.replicate m VG++List.replicate (8-m) Zp))
structure zaj (w:W) (g n:Nat):Prop where
 cell:∀o,o<n*4->∃v,w.cell? (A g o)=some v
 free:∀o,w.frozen? (A g o)=false
variable{v w:W}{g i k m n:Nat}
def F8.a2{P:List (W8×Value)}(a:F8 w n m k P):zaj w m k:=by
 have d:=a.1;refine⟨fun o e=>?_,fun o=>a.frozenAt o⟩;rw[a.cellAt o (by omega),aR (by omega)];exact⟨_,rfl⟩
variable{B:List W8}
def G7.a2(c:G7 w n m B k):zaj w m (B.length+8):=by
 obtain⟨P,_,_,d⟩:=c.ex;exact d.a2
def K5.a2(c:K5 w n m B k):zaj w m (B.length+8):=by
 obtain⟨P,_,_,d⟩:=c.ex;exact d.a2
variable{C:List Value}
def Nt(e:w.ownsRow n 61 4 (R m k k) k C)(o:Nat)(d:Value):V8 [61] n w (w.setCell (A m o) d):=by
 rcases e.2 with⟨a,_⟩|⟨l,j,g,a,f,h,_⟩
 ·simp at a
 ·simp only[cx,aW,cG,de,eu]at a;obtain⟨rfl,rfl⟩:=a;exact(V8.refl _ _ _).set h f (by simp) d
abbrev E3(b:W)(g a:Nat)(c:W8)(v:Value):W:=(((b.setCell (A g (a*4)) (.string ⟨c.name.toArray⟩)).setCell (A g (a*4+1)) (N c.kind)).setCell (A g (a*4+2)) (N c.key)).setCell (A g (a*4+3)) v
def Ch(e:w.ownsRow n 61 4 (R m k k) k C)(a:Nat)(c:W8)(v:Value):V8 [61] n w (E3 w m a c v):=by
 have f:=(e.stored (a*4) (S c.name)).1;have h:=(f.stored (a*4+1) (N c.kind)).1;have i:=(h.stored (a*4+2) (N c.key)).1;exact(((Nt e _ _).trans (Nt f _ _)).trans (Nt h _ _)).trans (Nt i _ _)
def KN{P:List (W8×Value)}(a:P.map Prod.fst=B):P.length=B.length:=by rw[<-a,cJ]
def GJ{n a:Nat}(b:a<n):List.replicate (n-a) Zp=Zp::List.replicate (n-(a+1)) Zp:=by
 rw[show n-a=(n-(a+1))+1 by omega,dt]
def G7.step(g:G7 w n m B k)(r:k<B.length){c a:Value}(wr:Below (E3 w m k B[k] c).heap.size (E3 w m k B[k] c) v)
  (u:M5 v n a (B[k]).cells):G7 (v.setCell (A m (k*4+3)) a) n m B (k+1):=by
 obtain⟨P,h,t,e⟩:=g.ex;have j:P.length=k:=by rw[KN h,aM];omega
 rw[GJ (by omega)]at e;have o:=e.ct j (B[k],c);have s:=Ch e k B[k] c;have i:=ZC o wr;have q:=F8.c7 i j a;have l:=Nt i (k*4+3) a;refine⟨P++[(B[k],a)],?_,?_,?_⟩
 ·rw[eb,h,aH r];rfl
 ·intro p b;rcases aX.1 b with b|b
  ·exact(((t p b).ag s (by decide)).j wr).ag l (by decide)
  ·simp only[bD,bH,dm]at b;subst b;exact u.ag l (by decide)
 ·rw[aD];exact q
def G7.marks(d:G7 w n m B B.length):K5 w n m B 0:=by
 obtain⟨P,b,e,f⟩:=d.ex;rw[aS]at b;exact⟨P,b,e,by simpa using f⟩
def K5.step(j:K5 w m i B g)(s:g<8)(e:Below w.heap.size w v):K5 (E3 v i (B.length+g) C4 (.slice none 0 0)) m i B (g+1):=by
 obtain⟨P,d,l,t⟩:=j.ex;have q:=KN d;have b:=ZC t e;have h:P++(List.replicate g VG++List.replicate (8-g) Zp)=(P++List.replicate g VG)++Zp::List.replicate (8-(g+1)) Zp:=by
  rw[GJ (n:=8) s,aD]
 rw[h]at b;have o:=F8.ct b (k:=B.length+g) (by simp[q]) VG;have r:=Ch b (B.length+g) C4 (.slice none 0 0);refine⟨P,d,fun p u=>((l p u).j e).ag r (by decide),?_⟩;have c:P++(List.replicate (g+1) VG++List.replicate (8-(g+1)) Zp)=(P++List.replicate g VG)++VG::List.replicate (8-(g+1)) Zp:=by
  rw[en];simp
 rw[c];exact o
def K5.cw(c:K5 w n m B 8):U9 w n m B:=by
 obtain⟨P,d,e,f⟩:=c.ex;exact⟨P,d,e,by simpa using f⟩
def ET(f:Below n w v)(b:n<=m)(a:Nat)(c:W8)(wr:Value):Below n w (E3 v m a c wr):=(((f.setCell (p:=A m (a*4)) b _).setCell (p:=A m (a*4+1)) b _).setCell (p:=A m (a*4+2)) b _).setCell (p:=A m (a*4+3)) b _
def G7.start(c:F8 w n m (B.length+8) (List.replicate (B.length+8) Zp)):G7 w n m B 0:=⟨[],by simp,by simp,by simpa using c⟩
def G7.bw(c:G7 w n m B k):n<=m/\m<w.heap.size:=by
 obtain⟨P,_,_,d⟩:=c.ex;exact d.lt m rfl
def K5.bw(c:K5 w n m B k):n<=m/\m<w.heap.size:=by
 obtain⟨P,_,_,d⟩:=c.ex;exact d.lt m rfl
def U9.bx(i:U9 w n k B)(d:m<=n):U9 w m k B:=by
 obtain⟨P,j,b,l,a⟩:=i.ex;refine⟨P,j,fun p t=>(b p t).bx d,l,?_⟩;rcases a with a|⟨k,f,h,o,g,rest⟩
 ·exact .inl a
 ·exact .inr ⟨k,f,h,o,aI d g,rest⟩
def ZP{o:Obj}(d:Below w.heap.size w v)(b:w.heap[n]?=some o):v.heap[n]?=some o:=(d.block n (aF.1 b).1).trans b
variable{x:Value}
def FSx(f:w.ownsRow n k i x g C)(b:m<=n):w.ownsRow m k i x g C:=by
 obtain⟨l,a⟩:=f;refine⟨l,?_⟩;rcases a with a|⟨c,d,j,p,o,rest⟩
 ·exact .inl a
 ·exact .inr ⟨c,d,j,p,aI b o,rest⟩
variable{F:TypeId}
def Ql{b:V'}(c:w.heap[n]?=some (.cells b F (0,0)))(o:Nat):w.frozen? (A n o)=false:=by
 simp[World.frozen?,c]
def jfv{g B:Nat}{c0 c1 c2 c3 c4 c5 c6:Value}(l:w.heap[g]?=some (.cells #[c0,c1,c2,c3,c4,c5,c6] F (0,0)))(a:B<=g)(c d e f h i k:Value):(((((((w.setCell (A g 0) c).setCell (A g 1) d).setCell (A g 2) e).setCell (A g 3) f).setCell (A g 4) h).setCell (A g 5) i).setCell (A g 6) k).heap[g]?=some (.cells #[c,d,e,f,h,i,k] F (0,0)) /\
   V8 [F] B w (((((((w.setCell (A g 0) c).setCell (A g 1) d).setCell (A g 2) e).setCell (A g 3) f).setCell (A g 4) h).setCell (A g 5) i).setCell (A g 6) k):=by
 have u:=(V8.refl [F] B w).set l a (by simp) c (j:=0);have m:=kj w g 0 _ F c l;have v:=u.set m a (by simp) d (j:=1);have n:=kj _ g 1 _ F d m;have t:=v.set n a (by simp) e (j:=2);have o:=kj _ g 2 _ F e n;have x:=t.set o a (by simp) f (j:=3);have p:=kj _ g 3 _ F f o;have y:=x.set p a (by simp) h (j:=4);have q:=kj _ g 4 _ F h p;have z:=y.set q a (by simp) i (j:=5);have r:=kj _ g 5 _ F i q;have C:=z.set r a (by simp) k (j:=6);have s:=kj _ g 6 _ F k r;exact⟨by rw[s];rfl,C⟩
def Gg{c0 c1 c2 c3 c4 c5 c6:Value}(b:w.heap[n]?=some (.cells #[c0,c1,c2,c3,c4,c5,c6] F (0,0))):w.cell? (A n 0)=some c0/\w.cell? (A n 1)=some c1/\w.cell? (A n 2)=some c2/\w.cell? (A n 3)=some c3/\w.cell? (A n 4)=some c4/\w.cell? (A n 5)=some c5/\w.cell? (A n 6)=some c6:=⟨by rw[jb b];rfl,by rw[jb b];rfl,by rw[jb b];rfl,by rw[jb b];rfl,by rw[jb b];rfl,by rw[jb b];rfl,by rw[jb b];rfl⟩
def WG(s:O')(u:Nat)(j:V6)(b:W)(hj:F6 b s u j)(hm:j.table.length*56<=140737488351232):C' 32 #[D0 (.slice s j.table.length u) j] b fun e w'=>∃g,e=.returned (D0 (R g j.table.length (j.table.length+8)) j)/\U9 w' b.heap.size g j.table/\Below b.heap.size b w':=by
 obtain⟨i1,er,eS,e0,e5⟩:=ks Tryz.b9;have Hj:=I hj;clear hj;go_enter Tryz.func32,Tryz.ntmps32;go_upto_region 2 with fail;obtain⟨O,eP,_,ci⟩:=jJ b #[.slice s j.table.length u,N j.J.group,N j.J.aa,N j.J.R,.bool j.J.told,S j.pre,N j.draw] 26;have X:(b.alloc (.cells #[.slice s j.table.length u,N j.J.group,N j.J.aa,N j.J.R,.bool j.J.told,S j.pre,N j.draw] 26)).heap.size=b.heap.size+1:=by simp
 generalize b.alloc (.cells #[.slice s j.table.length u,N j.J.group,N j.J.aa,N j.J.R,.bool j.J.told,S j.pre,N j.draw] 26)=Z at *;obtain⟨T,eR,_,U⟩:=jJ Z #[.slice none 0 0,N 0,N 0,N 0,.bool false,.string ⟨#[]⟩,N 0] 26;have dl:(Z.alloc (.cells #[.slice none 0 0,N 0,N 0,N 0,.bool false,.string ⟨#[]⟩,N 0] 26)).heap.size=b.heap.size+2:=by simp[X]
 generalize Z.alloc (.cells #[.slice none 0 0,N 0,N 0,N 0,.bool false,.string ⟨#[]⟩,N 0] 26)=f at *;have H:=I (ZP T ci);rw[X]at U;have HR:=I U;have ac:=I (O.trans (T.mono O.size));have am:=I (Hj.o.j ac.o);have HZ:=I dl;clear O ci T U eP eR X dl;go_wp2_with(at_make;refine kN _ rfl (.tmp 11) (.tmp 11) 22 rfl f.heap.size 61 i1 (.agg #[.string ⟨#[]⟩,N 0,N 0,.slice none 0 0]) 4 Tryz.underlying22 er eS e0 .i64 .i64 _ _ (j.table.length+8) rfl rfl (by omega) (by omega) (by rw[e5];omega) (by unfold maxLen;omega) (aA _) ?_;intro w3 V E;rw[<-PQ]at V);have bv:=I (G7.start V);have bX:Below f.heap.size f w3:=(k8 _ _).grown E (aA _) (fun _ h=>by cases h);clear V E;generalize ce:f.heap.size=g at *;have r:=I ce;have fr:b.heap.size+2<=g:=by have:=HZ.o;omega
 clear ce;go_loopw [5] (fun n wr=>∃a:Nat,a<=j.table.length/\n=N a/\G7 wr g g j.table a/\Below g f wr) (fun n _=>j.table.length-(intOf n).toNat)
 case atStart=>exact⟨0,aG _,rfl,bv.o,bX⟩
 case round=>
  clear bX bv;obtain⟨a,hk,rfl,k,e⟩:=hrel;have h:=I k;have E:=k.bw.2;have c:=k.a2;clear k;by_cases cs:a<j.table.length
  ·have m:Below f.heap.size f wr:=(by rw[r.o];exact e);have es:=am.o.table.j m;obtain⟨q,_⟩:=Gg (ZP m H.o);obtain⟨t,C,rfl,o,b4⟩:=am.o.table.at_ (aE (by omega));obtain⟨g1,g2,g3,v,L,ca,l,rfl,fk,cd,eq⟩:=b4 a cs;have d8:=I cd;rw[r.o]at o;have e1:=(e.cell (p:=A t (C+a*4)) o).trans g1;have e2:=(e.cell (p:=A t (C+a*4+1)) o).trans g2;have e3:=(e.cell (p:=A t (C+a*4+2)) o).trans g3;have K:=(e.cell (p:=A t (C+a*4+3)) o).trans L;obtain⟨u0,s0⟩:=c.cell (a*4) (by omega);obtain⟨u1,s1⟩:=c.cell (a*4+1) (by omega);obtain⟨u2,s2⟩:=c.cell (a*4+2) (by omega);obtain⟨u3,D⟩:=c.cell (a*4+3) (by omega);have f0:=c.free (a*4);have f1:=c.free (a*4+1);have f2:=c.free (a*4+2);have w:=c.free (a*4+3);clear b4 es cd c m;have fl:(a:Int)<(j.table.length:Int):=(by omega);have Hc:=I (rfl:j.table[a]=j.table[a]);go_upto_region 7 with fail;have x:=ET e (aA g) a (j.table[a]) (.slice ca (j.table[a]).cells.length l);have Y:g<(E3 wr g a j.table[a] (.slice ca (j.table[a]).cells.length l)).heap.size:=(by simp;omega);have G:=I (fun w5 v (hb:Below (E3 wr g a j.table[a] (.slice ca (j.table[a]).cells.length l)).heap.size (E3 wr g a j.table[a] (.slice ca (j.table[a]).cells.length l)) w5) ho=>h.o.step cs (a:=v) hb ho);have F:zaj (E3 wr g a j.table[a] (.slice ca (j.table[a]).cells.length l)) g (j.table.length+8):=by
    obtain⟨P,p1,p2,p3⟩:=h.o.ex;have hP:P.length=a:=(by rw[KN p1,aM];omega);rw[GJ (by omega)]at p3;exact(p3.ct hP (j.table[a],_)).a2
   clear h e1 e2 e3 K s0 s1 s2 D f0 f1 f2 w e q;dsimp only[E3]at x Y G F;generalize (((wr.setCell (A g (a*4)) (.string ⟨(j.table[a]).name.toArray⟩)).setCell (A g (a*4+1)) (N (j.table[a]).kind)).setCell (A g (a*4+2)) (N (j.table[a]).key)).setCell (A g (a*4+3)) (.slice ca (j.table[a]).cells.length l)=w4 at *;have M:Below f.heap.size f w4:=(by rw[r.o];exact x);obtain⟨q,_⟩:=Gg (ZP M H.o);have K:=(x.cell (p:=A t (C+a*4+3)) o).trans L;have ea:=I (d8.o.j M);clear M g1 g2 g3 L;go_wp2_with fail;refine(Tm ca l (j.table[a]).cells w4 eq ea.o).mono ?_;rintro e w5 ⟨gi,rfl,da,z⟩;have dT:=I (G.o w5 _ z ⟨gi,rfl,FSx da (by have:=x.size;rw[r.o]at this;exact this)⟩);have ds:=I ((x.trans (z.mono (by omega))).setCell (p:=A g (a*4+3)) (aA _) (R gi (j.table[a]).cells.length ((j.table[a]).cells.length+8)));obtain⟨u3,D⟩:=F.cell (a*4+3) (by omega);have w:=F.free (a*4+3);have fs:=(z.cell (p:=A g (a*4+3)) Y).trans D;have e6:=(z.frozen (p:=A g (a*4+3)) Y).trans w;clear da z F D w q K G;go_wp2;go_roundw
   ·exact⟨a+1,by omega,by go_num,dT.o,ds.o⟩
   ·simp[intOf];omega
  ·have ev:a=j.table.length:=(by omega);subst ev;have ap:=I h.o.marks;clear h c;go_wp2_with fail;go_loopw [6] (fun n wr=>∃d:Nat,d<=8/\n=N d/\K5 wr g g j.table d/\Below g f wr) (fun n _=>8-(intOf n).toNat)
   case atStart=>exact⟨0,aG _,rfl,ap.o,e⟩
   case round=>
    clear e ap;rename_i wq _ _ _;obtain⟨d,fn,rfl,k,e⟩:=hrel;have h:=I k;have E:=k.bw.2;have c:=k.a2;clear k;by_cases eC:d<8
    ·obtain⟨u0,s0⟩:=c.cell ((j.table.length+d)*4) (by omega);obtain⟨u1,s1⟩:=c.cell ((j.table.length+d)*4+1) (by omega);obtain⟨u2,s2⟩:=c.cell ((j.table.length+d)*4+2) (by omega);obtain⟨u3,D⟩:=c.cell ((j.table.length+d)*4+3) (by omega);have f0:=c.free ((j.table.length+d)*4);have f1:=c.free ((j.table.length+d)*4+1);have f2:=c.free ((j.table.length+d)*4+2);have w:=c.free ((j.table.length+d)*4+3);have dv:=I (h.o.step eC (k8 _ _));have dr:=I (ET e (aA g) (j.table.length+d) C4 (.slice none 0 0));clear e c h;go_wp2;go_roundw
     ·exact⟨d+1,by omega,by go_num,dv.o,dr.o⟩
     ·simp[intOf];omega
    ·have hm:d=8:=(by omega);subst hm;have HH:=I h.o.cw;have m:Below f.heap.size f wr:=(by rw[r.o];exact e);have y:=ZP m H.o;have hR:=ZP m HR.o;clear h c m;obtain⟨q,_⟩:=Gg y;have ec:=Ql y 0;have dW:=I (kj wr b.heap.size 0 _ 26 (R g j.table.length (j.table.length+8)) y);have be:=I ((V8.refl [26] b.heap.size wr).set y (aA _) (by simp) (R g j.table.length (j.table.length+8)) (j:=0));have eM:b.heap.size+1≠b.heap.size:=(by omega);have i:=I ((kA wr (A b.heap.size 0) (b.heap.size+1) (R g j.table.length (j.table.length+8)) eM).trans hR);clear y hR;go_upto_region 13 with fail;clear q ec;generalize wr.setCell (A b.heap.size 0) (R g j.table.length (j.table.length+8))=wx at *;obtain⟨q,x1,x2,x3,x4,x5,x6⟩:=Gg dW.o;obtain⟨y0,y1,y2,y3,y4,y5,y6⟩:=Gg i.o;have e7:=Ql i.o 0;have fa:=Ql i.o 1;have fb:=Ql i.o 2;have fc:=Ql i.o 3;have fd:=Ql i.o 4;have fe:=Ql i.o 5;have ff:=Ql i.o 6;obtain⟨dd,co⟩:=jfv i.o (B:=b.heap.size) (by omega) (R g j.table.length (j.table.length+8)) (N j.J.group) (N j.J.aa) (N j.J.R) (.bool j.J.told) (S j.pre) (N j.draw);have d7:=I dd;have bi:=I co;clear dd co;go_wp2;generalize ((((((wx.setCell _ _).setCell _ _).setCell _ _).setCell _ _).setCell _ _).setCell _ _).setCell _ _=K0 at *;obtain⟨d0,d1,d2,d3,d4,d5,d6⟩:=Gg d7.o;have em:U9 K0 b.heap.size g j.table:=((HH.o.ag be.o (by decide) (by decide)).ag bi.o (by decide) (by decide)).bx (by omega);have eg:Below b.heap.size b K0:=((ac.o.trans (e.mono (by omega))).trans be.o.below).trans bi.o.below;exact kk (v:=D0 (R g j.table.length (j.table.length+8)) j) (by simp[results,Tryz.results32,go_sem,d0,d1,d2,d3,d4,d5,d6]) rfl ⟨g,rfl,em,eg⟩
structure zam (key:Int) (k c:Nat) (mp:List W6) (mm:W6) (pre:B8) (r:List W9) (i:Nat) (sb:UInt8) (p:Nat) (non txt:B8):Prop where
 cells:Im key k c mp mm i=[S [sb],N k,N c,N p,S non,S txt]
 told:(Jd pre r key k c mp mm)[i]?=some ⟨jh r key,non,jz pre sb k c p,txt⟩
 small:p<=65535
variable{K:Int}{H:List W6}
def FY{e:W6}(pre:B8)(j:List W9)(key:k<H.length+1)(f:K≠0)(b:H.length<=60):∃c p i l,zam K n m H e pre j k c p i l:=by
 by_cases d:k<H.length
 ·refine⟨80,k,(H[k]).I,(H[k]).body,?_,?_,by omega⟩
  ·unfold Im;rw[dif_pos d];simp[jX,f]
  ·unfold Jd;rw[cR (by simpa using d),gv,aR d];rfl
 ·have g:k=H.length:=by omega
  subst g;refine⟨77,0,e.I,e.body,?_,?_,by omega⟩
  ·unfold Im;rw[dif_neg d];simp[jX,f]
  ·unfold Jd;rw[bM (by simp)];simp[EQ]
def Td{f:W6}(key:k<H.length+1)(c:i<6):(zt K n m H++[S [77],N n,N m,N 0,S (jX K f).1,S (jX K f).2])[k*6+i]?=(Im K n m H f k)[i]?:=by
 have b:(zt K n m H).length=H.length*6:=by
  unfold zt;rw[List.length_flatten];have:(H.mapIdx (If K n m)).map List.length=List.replicate H.length 6:=by
   rw[List.eq_replicate_iff];refine⟨by simp,fun l g=>?_⟩;simp only[cM,fX]at g;obtain⟨o,⟨q,j,rfl⟩,rfl⟩:=g;rfl
  rw[this];simp
 unfold Im;by_cases e:k<H.length
 ·rw[cR (by omega),dif_pos e,XK (aR e) c];rfl
 ·have h:k=H.length:=by omega
  subst h;rw[bM (by omega),dif_neg e,b]
  congr 1;omega
def SH{f:V'}(q:w.ownsRow n m k x i C)(a:w.heap[g]?=some (.cells f F (0,0)))(j:F≠m):x.ownBlock≠some g:=by
 intro b;rcases q.2 with⟨rfl,_⟩|⟨c,o,p,rfl,_,d,_⟩
 ·simp[Value.ownBlock]at b
 ·simp only[Value.ownBlock,aW]at b;subst b;rw[d]at a;simp only[aW,fZ]at a;exact j a.2.1.symm
def Tp(a:V5):qg [a]=[S a.ab,S a.I,S a.extra,S a.body]:=by simp[qg]
def Ag(e:V7)(u P e3:Nat)(M:V')(cv:Value)(Kb:Nat)(ha:Nat->Value)(i:Nat->Nat->List W6)(o:Nat->Nat->W6)(Pv:Nat->Nat->Value)(pre:B8)(ra:O')(d4:Nat)(h:List W9)(c:Nat)(b:W)
  (f:K4 e u P e3 b M cv Kb ha i o Pv)(hc:c<e.U.length)(ff:(ji e.U c).key≠0)(hE:pre.length<=20)(f1:(jh h (ji e.U c).key).length<=1000)(hH:h.length<=maxLen)(hr:U2 b ra h):C' 110 #[.agg M,N c,.slice ra h.length d4,S pre] b fun H d=>∃v,H=.returned v/\d.ownsRow b.heap.size 40 4 v (xm pre h (ji e.U c).key c (qp e) e.ae).length (qg (xm pre h (ji e.U c).key c (qp e) e.ae))/\(xm pre h (ji e.U c).key c (qp e) e.ae).length<=3660/\Below b.heap.size b d:=by
 obtain⟨i0,hi,hJ,hL,hM⟩:=ks Tryz.ak;have h8:=f.inf;have ie:=f.n6;have e5:xm pre h (ji e.U c).key c (qp e) e.ae=Ju pre h (ji e.U c).key c i o (qc e.rows u):=by
  rw[f.an,f.ae];exact FP (t:=e.U) pre h _ hc (fun g hg x hi=>(f.chunks x hi).ok g hg)
 rw[e5];clear e5;have hX:qc e.rows u<=60:=aI (QP f.g1) f.rows;have gY:J (∀a d,a<qc e.rows u->Below b.heap.size b d->d.ownsRow e3 113 6 (Pv a c) (i a c).length (zt (ji e.U c).key a c (i a c))):=fun a d hk hb=>jy ((f.chunks c hc).bb a hk) hb;have g2:J (∀a,a<qc e.rows u->0<(i a c).length/\(i a c).length<=60):=fun a hk=>by
  have h1:=((f.chunks c hc).ok a hk).2;have ih:0<jv e.rows u a:=(UL f.g1).2 ((JE f.g1).1 hk);have ig:jv e.rows u a<=60:=aI (Qz e.rows u a).2 f.rows;have h2:=QP (n:=jv e.rows u a) f.p1;have h3:0<qc (jv e.rows u a) P:=(JE (i:=0) f.p1).2 (by omega);omega
 obtain⟨cb,cc,rfl,hn,_,_,k2,_⟩:=Ec f.U hc;have dl:=(f.chunks c hc).row;obtain⟨va,vc,hV⟩:=jt dl;have fk:b.cell? (A Kb c)=some (.slice va (qc e.rows u) vc):=by
  rw[jb f.kb,<-hV];simp[hc]
 have er:=I f.kq;have dv:=I f.c9;rw[hV]at dl;have g9:=I dl;have hW:(c:Int)<(e.U.length:Int):=by omega
 have hU:c<=6:=by omega
 have gd:=I ff;have HR:=I hr;have g4:=I f1;have ge:=I k2;clear dl hV f ff hr f1 k2;generalize qc e.rows u=CN at *;generalize hs:(ji e.U c).key=key at *;clear hs;generalize e.U.length=n at *;obtain⟨e7,fl,_,d0⟩:=jJ b M 120;have hQ:(b.alloc (.cells M 120)).cell? (A b.heap.size 17)=some (R Kb n n):=by rw[jb d0];exact dv.o
 have f6:(b.alloc (.cells M 120)).cell? (A b.heap.size 15)=some (R cb n cc):=by rw[jb d0];exact er.o
 have z2:=jf (.cells M 120) fk;have hT:=I f6;clear f6;have hP:=dv.o;go_enter Tryz.func110,Tryz.ntmps110;go_wp2;clear hP hQ z2 fk dv;have g8:=I e7;have ia:=fl;clear e7;generalize b.alloc _=W0 at *;go_loopw [9,20] (fun v x wr=>∃a:Nat,a<=CN/\x=N a/\wr.ownsRow b.heap.size 40 4 v (Ju pre h key c i o a).length (qg (Ju pre h key c i o a))/\(Ju pre h key c i o a).length<=61*a/\wr.heap[b.heap.size]?=some (.cells M 120 (0,0))/\b.heap.size<wr.heap.size/\Below b.heap.size b wr) (fun _ x _=>CN-(intOf x).toNat)
 case atStart=>exact⟨0,aG _,rfl,kg _ _ _ _,aA _,d0,fl,g8.o⟩
 case round=>
  obtain⟨a,h9,rfl,Z,ic,Y,hz,hB⟩:=hrel;have V:=I Z;have B:=I hB;have am:=I Y;obtain⟨wa,im,rfl⟩:=jt Z;clear Z hB Y;by_cases dW:a<CN
  ·have h6:(a:Int)<(CN:Int):=(by omega);obtain⟨vb,il,hI,ij,p0,p1,p2,p3,p4,p5,p6,p7⟩:=Ao (jy g9.o B.o) dW;injection hI with hva1 hva2 hva3
   subst hva1 hva3;clear hva2;obtain⟨hG,fw⟩:=g2.o a dW;have bi:=gY.o a wr dW B.o;obtain⟨g1,c1,ft⟩:∃g1 c1,Pv a c=R g1 (i a c).length c1:=by
    rcases bi.2 with⟨_,h0⟩|⟨g,e4,hd,F,_⟩
    ·omega
    ·exact⟨g,e4,F⟩
   rw[ft]at bi p1;have eS:=I bi;have e2:J (Ju pre h key c i o (a+1)=Ju pre h key c i o a++Jd pre h key a c (i a c) (o a c)):=GC ..;have gZ:J (∀x,x<(i a c).length+1->∃(r:UInt8) (p:Nat) (l m:B8),(∀j,j<6->(zt key a c (i a c)++[S [77],N a,N c,N 0,S (jX key (o a c)).1,S (jX key (o a c)).2])[x*6+j]?=[S [r],N a,N c,N p,S l,S m][j]?)/\(Jd pre h key a c (i a c) (o a c))[x]?=some ⟨jh h key,l,jz pre r a c p,m⟩/\p<=65535):=fun x hi=>by
    obtain⟨r,p,l,m,F⟩:=FY pre h hi gd.o fw;exact⟨r,p,l,m,fun j hj=>by rw[Td hi hj,F.cells],F.told,F.small⟩
   have e0:J ((zt key a c (i a c)).length=(i a c).length*6):=bi.1;have es:=I (Eo pre h key a c (i a c) (o a c));have eR:J (∀ac∈zt key a c (i a c),ac.oneCell'=true):=by
    intro ac w;simp only[zt,List.mem_flatten,fX]at w;obtain⟨io,⟨q,hq,rfl⟩,w⟩:=w;simp only[If,bD,bH,dm]at w;rcases w with rfl|rfl|rfl|rfl|rfl|rfl<;>simp[Value.oneCell']
   have fd:=(bi.lt g1 rfl).2;clear ft bi;generalize zt key a c (i a c)=PC at *;generalize (jX key (o a c)).1=m1 at *;generalize (jX key (o a c)).2=m2 at *;generalize hl:(i a c).length=s at *;generalize Jd pre h key a c (i a c) (o a c)=z at *;clear hl;have hD:(jv e.rows u a:Int)=(jv e.rows u a:Int):=rfl;generalize (jv e.rows u a)=pn at *;clear hD;go_upto_region 5 with fail;clear p0 p1 p2 p3 p4 p5 p6 p7;obtain⟨C,ci,_,D⟩:=jJ wr #[N pn,R g1 s c1,S [77],N a,N c,N 0,S m1,S m2] 261;generalize wr.alloc (.cells #[N pn,R g1 s c1,.string ⟨#[77]⟩,N a,N c,N 0,.string ⟨m1.toArray⟩,.string ⟨m2.toArray⟩] 261)=y at *;have y1:y.cell? (A wr.heap.size 1)=some (R g1 s c1):=(by rw[jb D];rfl);have y2:y.cell? (A wr.heap.size 2)=some (S [77]):=(by rw[jb D];rfl);have y3:y.cell? (A wr.heap.size 3)=some (N a):=(by rw[jb D];rfl);have y4:y.cell? (A wr.heap.size 4)=some (N c):=(by rw[jb D];rfl);have y5:y.cell? (A wr.heap.size 5)=some (N 0):=(by rw[jb D];rfl);have y6:y.cell? (A wr.heap.size 6)=some (S m1):=(by rw[jb D];rfl);have y7:y.cell? (A wr.heap.size 7)=some (S m2):=(by rw[jb D];rfl);clear D;obtain⟨fa,fz,fr,fv⟩:=QB y #[S [77],N a,N c,N 0,S m1,S m2] 113 #[R g1 s c1,R y.heap.size 1 1] 259;have eq:=I C;have bv:=I (C.trans (fa.mono C.size));have hN:wr.heap.size<y.heap.size:=ci;clear C ci;go_wp2_with fail;clear y1 y2 y3 y4 y5 y6 y7;have eM:=I fr;have dT:=I fv;clear fa fr fv;generalize (y.alloc _).alloc _=w4 at *;have fe:g1<w4.heap.size:=aC fd bv.o.size;refine(Sj (y.heap.size+1) g1 s c1 y.heap.size PC [S [77],N a,N c,N 0,S m1,S m2] w4 hG fw fz (by rw[jb dT.o];rfl) (by rw[jb dT.o];rfl) e0.o rfl fe (by omega)
    (fun j ac w=>by
     have F:=Nj eS.o j ac w;rw[show((A g1 0):Addr).add j=(A g1 j) by simp[Addr.add];omega]at F;exact(bv.o.cell (p:=A g1 j) fd).trans F)
    (fun j ac w=>by rw[jb eM.o];simpa using w) eR.o (by intro ac w;simp at w;rcases w with rfl|rfl|rfl|rfl|rfl|rfl<;>simp[Value.oneCell'])).mono ?_
   rintro H w5 ⟨ik,rfl,d1,fb⟩;obtain⟨pa,hO,rfl⟩:=jt d1;have eP:=I d1;have cs:=I (bv.o.trans (fb.mono bv.o.size));have gw:=I (jy V.o cs.o);have f7:=I (jd cs.o am.o);have f8:=I (B.o.trans (cs.o.mono B.o.size));have hA:b.heap.size<w5.heap.size:=aC hz cs.o.size;clear d1 fb eM dT eS e0 eR V am B eq bv fz fe hN;generalize he:Ju pre h key c i o a=L at *;clear he;generalize hf:PC++[S [77],N a,N c,N 0,S m1,S m2]=MX at *;clear hf;go_wp2;go_loopw [9,32] (fun v x wq=>∃k:Nat,k<=s+1/\x=N k/\wq.ownsRow b.heap.size 40 4 v (L++z.take k).length (qg (L++z.take k))/\wq.heap[b.heap.size]?=some (.cells M 120 (0,0))/\b.heap.size<wq.heap.size/\Below b.heap.size b wq/\wq.ownsRow w4.heap.size 113 6 (.slice pa (s+1) hO) (s+1) MX) (fun _ x _=>s+1-(intOf x).toNat)
   case atStart=>exact⟨0,aG _,rfl,by rw[fE,aT];exact gw.o,f7.o,hA,f8.o,eP.o⟩
   case round=>
    obtain⟨k,h5,rfl,Z,Y,hv,hB,fs⟩:=hrel;have V:=I Z;have bX:=I fs;have B:=I hB;have am:=I Y;obtain⟨d5,d6,rfl⟩:=jt Z;clear Z fs hB Y eP;by_cases hx:k<s+1
    ·have h7:(k:Int)<((s+1:Nat):Int):=(by omega);obtain⟨r,p,l,m,fc,d3,hC⟩:=gZ.o k hx;obtain⟨K,rfl⟩:∃K,pa=some (A K 0):=by
      rcases bX.o.2 with⟨_,h0⟩|⟨g,e4,hd,F,_⟩
      ·omega
      ·simp only[cx]at F;exact⟨g,F.1⟩
     have h4:=(bX.o.lt K rfl).2;have q:∀j,j<6->wr.cell? (A K (k*6+j))=[S [r],N a,N c,N p,S l,S m][j]?:=fun j hj=>by rw[bX.o.cellAt _ (by omega)];exact fc j hj
     have q0:wr.cell? (A K (k*6))=some (S [r]):=q 0 (by omega);have q1:wr.cell? (A K (k*6+1))=some (N a):=q 1 (by omega);have q2:wr.cell? (A K (k*6+2))=some (N c):=q 2 (by omega);have q3:wr.cell? (A K (k*6+3))=some (N p):=q 3 (by omega);have q4:wr.cell? (A K (k*6+4))=some (S l):=q 4 (by omega);have q5:wr.cell? (A K (k*6+5))=some (S m):=q 5 (by omega);have g7:J (z.take (k+1)=z.take k++[⟨jh h key,l,jz pre r a c p,m⟩]):=by
      have hy:=(aV.1 d3).1;show z.take (k+1)=_;rw[aH hy,(aV.1 d3).2]
     clear fc d3 q;go_upto_region 8 with fail;clear q0 q1 q2 q3 q4 q5;obtain⟨C,ci,_,D⟩:=jJ wr #[S [r],N a,N c,N p,S l,S m] 113;generalize wr.alloc (.cells #[.string ⟨#[r]⟩,N a,N c,N p,.string ⟨l.toArray⟩,.string ⟨m.toArray⟩] 113)=w6 at *;have cd:J (∀d,d.heap[wr.heap.size]?=some (.cells #[S [r],N a,N c,N p,S l,S m] 113 (0,0))->d.heap[b.heap.size]?=some (.cells M 120 (0,0))->Below b.heap.size b d->d.cell? (A wr.heap.size 0)=some (S [r])/\d.cell? (A wr.heap.size 1)=some (N a)/\d.cell? (A wr.heap.size 2)=some (N c)/\d.cell? (A wr.heap.size 3)=some (N p)/\d.cell? (A wr.heap.size 4)=some (S l)/\d.cell? (A wr.heap.size 5)=some (S m)/\d.cell? (A b.heap.size 15)=some (R cb n cc)/\d.cell? (A cb (c*4+2))=some (N key)):=fun d hh Y hm=>
      ⟨by rw[jb hh];rfl,by rw[jb hh];rfl,by rw[jb hh];rfl,by rw[jb hh];rfl,by rw[jb hh];rfl,by rw[jb hh];rfl,by rw[jb Y];exact er.o,(hm.cell (p:=A cb (c*4+2)) hn).trans ge.o⟩
     have d7:=I (jd C am.o);have g3:=I (cd.o w6 D d7.o (B.o.trans (C.mono B.o.size)));have gb:=I D;have eq:=I C;have gA:=I (jy V.o C);have gt:=I (jy bX.o C);have ii:wr.heap.size<w6.heap.size:=ci;have f9:J (∀d:W,C' 171 #[.agg #[S [r],N a,N c,N p],S pre,.slice none 0 0] d fun H w2=>H=.returned (S (jz pre r a c p))/\Below d.heap.size d w2):=by
      intro d;have:=Kp r a c p pre (.slice none 0 0) [] d (by omega) (by omega) hC hE (by decide) (UV d);rw[aT]at this;exact this
     have g0:=I (fun(E:B8) (d:W) (hb:Below b.heap.size b d)=>Yz [r] (a:Int) (c:Int) (p:Int) l m ra d4 h key E d hH g4.o (HR.o.j hb));have eg:=I (B.o.trans (C.mono B.o.size));have ib:(L++z.take k).length<=3660:=(by rw[aB,aM];omega);clear C D ci V bX am;generalize hF:wr.heap.size=T at *;clear hF;generalize jz pre r a c p=E at *;generalize e6:L++z.take k=SQ at *;have g5:=I e6;clear e6;refine k9 (S:=fun d=>d.cell? (A T 0)=some (S [r])/\d.cell? (A T 1)=some (N a)/\d.cell? (A T 2)=some (N c)/\d.cell? (A T 3)=some (N p)/\d.cell? (A T 4)=some (S l)/\d.cell? (A T 5)=some (S m)/\d.cell? (A b.heap.size 15)=some (R cb n cc)/\d.cell? (A cb (c*4+2))=some (N key)) (by kernel_rfl) g3.o (fun ce=>?_);refine tk 0 (.slice d5 SQ.length d6) ?_;refine tk 1 (.agg #[S [r],N a,N c,N p,S l,S m]) ?_;refine tk 2 (.slice ra h.length d4) ?_;refine tk 3 (Q b.heap.size 10) ?_;refine tk 4 (Q b.heap.size 15) ?_;refine tk 5 (R cb n cc) ?_;refine tk 6 (N c) ?_;refine tk 7 (Q cb (c*4)) ?_;refine tk 8 (Q cb (c*4+2)) ?_;refine tk 9 (N key) ?_;refine tk 10 (Q T 0) ?_;refine tk 11 (.agg #[S [r],N a,N c,N p]) ?_;refine tk 12 (S pre) ?_;simp only[jA,jB,jC,Act.put,jD,jE,jF];refine rd 13 (fun X G=>?_);simp only[jA,jB,jC];go_simp;go_at_call 171
     refine(f9.o _).mono ?_;rintro H w7 ⟨rfl,O⟩;replace O:=jg O;have ev:=I (jd O gb.o);have d8:=I (jd O d7.o);have da:=I (eg.o.trans (O.mono eg.o.size));have gi:=I (jy gA.o O);have gT:=I (jy gt.o O);have f:=cd.o w7 ev.o d8.o da.o;clear O;(try go_wp2_with fail);refine G.out _ _ f (fun ce=>?_);clear G X f;(try simp only[jA,jB,jC,Act.put,jD,jE,jF]);refine rd 14 (fun X G=>?_);simp only[jA,jB,jC];go_simp;go_at_call 168
     refine(g0.o E _ da.o).mono ?_;rintro H w8 ⟨rfl,ap⟩;have eC:=I (jd ap ev.o);have ea:=I (jd ap d8.o);have dr:=I (da.o.trans (ap.mono da.o.size));have go:=I (jy gi.o ap);have gU:=I (jy gT.o ap);have f:=cd.o w8 eC.o ea.o dr.o;clear ap;generalize f2:jh h key=U at *;have hR:=I f2;clear f2;(try go_wp2_with fail);refine G.out _ _ f (fun ce=>?_);clear G X f;(try simp only[jA,jB,jC,Act.put,jD,jE,jF]);refine rd 15 (fun X G=>?_);simp only[jA,jB,jC];go_simp;(try go_wp2_with fail);have dd:=I (jo (.cells #[S U,S l,S E,S m] 40) eC.o);have co:=I (jo (.cells #[S U,S l,S E,S m] 40) ea.o);have ds:=I (dr.o.alloc dr.o.size (.cells #[S U,S l,S E,S m] 40));have b4:=I (go.o.alloc (.cells #[S U,S l,S E,S m] 40));have e1:=I (gU.o.alloc (.cells #[S U,S l,S E,S m] 40));have f:=cd.o _ dd.o co.o ds.o;have f3:b.heap.size<=(w8.alloc (.cells #[S U,S l,S E,S m] 40)).heap.size:=ds.o.size;refine G.out _ _ f (fun ce=>?_);clear G X f;(try simp only[jA,jB,jC,Act.put,jD,jE,jF]);refine rd 16 (fun X G=>?_);simp only[jA,jB,jC];rw[aQ (by simp[Region.wanted])];refine kQ _ (.tmp 36) (.tmp 51) 28 rfl b.heap.size 40 i0 _ 4 64 Tryz.underlying28 hi hJ hL hM rfl (by decide) (.slice d5 SQ.length d6) SQ.length (qg SQ) rfl b4.o (A w8.heap.size 0) 1 1 [S U,S l,S E,S m] rfl rfl (qr w8 #[S U,S l,S E,S m] 40) (by intro ac w;simp at w;rcases w with rfl|rfl|rfl|rfl<;>simp[Value.oneCell']) (by unfold maxLen;omega) (by omega) f3 ?_;intro v2 w9 d2 be _;obtain⟨f4,f5,rfl⟩:=jt d2;have ht:=(aF.1 dd.o).1;have fn:=(aF.1 co.o).1;have gc:=I ((be.block T ht (fun H=>SH b4.o dd.o (by decide) H.symm)).trans dd.o);have ec:=I ((be.block b.heap.size fn (fun H=>SH b4.o co.o (by decide) H.symm)).trans co.o);have em:=I (ds.o.grown be f3 (fun a hk=>(b4.o.lt a hk).1));have gX:=I (e1.o.kept be (qd e1.o b4.o (by decide)));have gr:J (w9.ownsRow b.heap.size 40 4 (.slice f4 (SQ.length+1) f5) (L++z.take (k+1)).length (qg (L++z.take (k+1)))):=by
      rw[g7.o,<-aD,g5.o,Ve,Tp,aB];exact d2
     have hw:b.heap.size<w9.heap.size:=aC fn be.size;have f:=cd.o w9 gc.o ec.o em.o;clear be d2;refine G.out _ _ f (fun ce=>?_);clear G X f;(try simp only[jA,jB,jC,Act.put,jD,jE,jF]);refine tk 17 (.slice f4 (SQ.length+1) f5) ?_;simp only[jA,jB,jC,Act.put,jD,jE,jF];refine kp (by kernel_rfl) ?_ _;clear ce;go_wp2;go_roundw
     ·exact⟨k+1,by omega,by go_num,gr.o,ec.o,hw,em.o,gX.o⟩
     ·simp[intOf];omega
    ·have ho:k=s+1:=(by omega);subst ho;have ga:J (L++z.take (s+1)=L++z):=by
      show _=_;rw[aU (by rw[es.o];exact aA _)]
     have gs:J (wr.ownsRow b.heap.size 40 4 (.slice d5 (L++z.take (s+1)).length d6) (Ju pre h key c i o (a+1)).length (qg (Ju pre h key c i o (a+1)))):=by
      rw[e2.o,<-ga.o];exact V.o
     have gg:J ((Ju pre h key c i o (a+1)).length<=61*(a+1)):=by
      show(Ju pre h key c i o (a+1)).length<=_;rw[e2.o,aB,es.o];omega
     have hY:decide (((s+1:Nat):Int)<(s:Int)+1)=false:=(by simp);have hZ:¬(((s+1:Nat):Int)<(s:Int)+1):=(by omega);go_wp2;go_roundw
     ·exact⟨a+1,by omega,by go_num,gs.o,gg.o,am.o,hv,B.o⟩
     ·simp[intOf];omega
  ·have hp:a=CN:=(by omega);subst hp;go_wp2;go_ret;exact⟨_,rfl,V.o,by omega,B.o⟩
def SF(t a2:O')(T U:Nat)(a d:List Z9)(h:W)(hm:a.length<=maxLen)(am:d.length<=maxLen)(w:T3 h t a)(x:T3 h a2 d):C' 166 #[.slice t a.length T,.slice a2 d.length U] h fun f w'=>f=.returned (.bool (Kg a d))/\Below h.heap.size h w':=by
 have O:=I w;have P:=I x;clear w x;unfold maxLen at hm am;by_cases l:a.length=d.length
 ·have B:((a.length:Int)!=(d.length:Int))=false:=by simp;omega
  have r:=I l;clear l;go_enter Tryz.func166,Tryz.ntmps166;go_wp2;go_loopw [13] (fun q wr=>∃b:Nat,b<=a.length/\q=N b/\a.take b=d.take b/\Below h.heap.size h wr) (fun q _=>a.length-(intOf q).toNat)
  case atStart=>exact⟨0,aG _,rfl,rfl,k8 _ _⟩
  case round=>
   obtain⟨b,hk,rfl,C,g⟩:=hrel;have s:=I C;clear C B;by_cases y:b<a.length
   ·have z:b<d.length:=by have:=r.o;omega
    obtain⟨ap,b4,rfl,be,u⟩:=(O.o.j g).at_ (aE (by omega));obtain⟨g1,X,Y⟩:=u b y;obtain⟨b',cd,rfl,bi,v⟩:=(P.o.j g).at_ (aE (by omega));obtain⟨E,F,G⟩:=v b z;clear u v;have bv:(b:Int)<(a.length:Int):=(by omega);have bX:(b:Int)<(d.length:Int):=(by omega);by_cases e:a[b]=d[b]
    ·have M:=I (GA y z s.o e);rw[<-e]at E F G;clear e;generalize a[b]=c at *;go_wp2_with fail;go_quiet(fail);go_wp2_with fail;go_roundw
     ·exact⟨b+1,by omega,by go_num,M.o,below_drewN g nq⟩
     ·simp[intOf];omega
    ·have i:J (Kg a d=false):=by
      show Kg a d=false;rw[E9];intro f;subst f;exact e rfl
     generalize a[b]=c at *;generalize d[b]=V at *;obtain⟨c1,c2,c3⟩:=c;obtain⟨m,n,o⟩:=V;simp only at g1 X Y E F G;by_cases j:c1=m
     ·subst j;by_cases k:c2=n
      ·subst k;have p:¬c3=o:=fun f=>e (by rw[f]);have H:(c3==o)=false:=(by simpa using p);have K:(c3 !=o)=true:=(by simpa using p);clear e p;go_wp2_with fail;go_quiet(fail);go_wp2;go_ret;exact⟨by rw[i.o];rfl,below_drewN g nq⟩
      ·have H:(c2==n)=false:=(by simpa using k);have K:(c2 !=n)=true:=(by simpa using k);clear e k;go_wp2_with fail;go_quiet(fail);go_wp2;go_ret;exact⟨by rw[i.o];rfl,below_drewN g nq⟩
     ·have H:(c1==m)=false:=(by simpa using j);have K:(c1 !=m)=true:=(by simpa using j);clear e j;go_wp2_with fail;go_quiet(fail);go_wp2;go_ret;exact⟨by rw[i.o];rfl,below_drewN g nq⟩
   ·have L:J (Kg a d=true):=by
     show Kg a d=true;rw[D4];have D:=s.o;have Z:b=a.length:=(by omega);have ac:=r.o;rw[Z,aS,ac,aS]at D;exact D
    go_wp2;go_ret;exact⟨by rw[L.o];rfl,g⟩
 ·have B:((a.length:Int)!=(d.length:Int))=true:=by simp;omega
  have i:J (Kg a d=false):=by
   show Kg a d=false;rw[E9];intro f;subst f;exact l rfl
  clear l;go_enter Tryz.func166,Tryz.ntmps166;go_wp2;go_ret;exact⟨by rw[i.o];rfl,k8 _ _⟩
def Iw(a:U1)(cv:Value)(h:W):C' 109 #[.agg #[S a.name,N a.kind,N a.key,N a.state,cv]] h fun n r=>n=.returned (.bool (xM a))/\Below h.heap.size h r:=by
 obtain⟨m,s,_,o⟩:=jJ h #[S a.name,N a.kind,N a.key,N a.state,cv] 91;have i:=I m;have b:J (xM a=(decide (a.key≠0)&&decide (a.state=0))):=rfl;clear m o;obtain⟨l,k,e,f,j⟩:=a;simp only at b ⊢;by_cases c:e=0
 ·have g:J (xM ⟨l,k,e,f,j⟩=false):=by show xM _=false;rw[b.o];simp[c]
  have q:(e !=0)=false:=by simp[c]
  clear c b;go_enter Tryz.func109,Tryz.ntmps109;go_wp2;go_ret;exact⟨by rw[g.o];rfl,i.o⟩
 ·have q:(e !=0)=true:=by simpa using c
  by_cases d:f=0
  ·have g:J (xM ⟨l,k,e,f,j⟩=true):=by show xM _=true;rw[b.o];simp[c,d]
   have p:(f==0)=true:=(by simp[d]);clear c d b;go_enter Tryz.func109,Tryz.ntmps109;go_wp2;go_ret;exact⟨by rw[g.o];rfl,i.o⟩
  ·have g:J (xM ⟨l,k,e,f,j⟩=false):=by show xM _=false;rw[b.o];simp[d]
   have p:(f==0)=false:=(by simpa using d);clear c d b;go_enter Tryz.func109,Tryz.ntmps109;go_wp2;go_ret;exact⟨by rw[g.o];rfl,i.o⟩
def Ri(a:W)(o b:Obj):Below a.heap.size a ((a.alloc o).alloc b):=((k8 _ _).alloc (aA _) _).alloc (by simp) _
def KE(a:U1)(c:W8):Bool:=decide (a.name=c.name)&&decide (a.kind=c.kind)&&decide (a.key=c.key)&&(!xM a||Kg a.cells c.cells)
def SN(a:U1)(c:W8)(ca l:O')(cc t:Nat)(b:W)(T:a.cells.length<=maxLen)(U:c.cells.length<=maxLen)(O:T3 b ca a.cells)(P:T3 b l c.cells):C' 106 #[.agg #[S a.name,N a.kind,N a.key,N a.state,.slice ca a.cells.length cc],.agg #[S c.name,N c.kind,N c.key,.slice l c.cells.length t]] b fun z q=>z=.returned (.bool (KE a c))/\Below b.heap.size b q:=by
 obtain⟨B,D,_,M⟩:=jJ b #[S a.name,N a.kind,N a.key,N a.state,.slice ca a.cells.length cc] 91;have s:=I (fun q=>Iw a (.slice ca a.cells.length cc) q);have k:=I (fun q (K:Below b.heap.size b q)=>SF ca l cc t a.cells c.cells q T U (O.j K) (P.j K));have e:J (KE a c=(decide (a.name=c.name)&&decide (a.kind=c.kind)&&decide (a.key=c.key)&&(!xM a||Kg a.cells c.cells))):=rfl;clear O P T U;generalize hn:a.cells.length=n at *;generalize be:c.cells.length=E at *;generalize Kg a.cells c.cells=ac at *;generalize xM a=H at *;generalize KE a c=g at *;generalize a.name=d at *;generalize a.kind=h at *;generalize a.key=i at *;generalize a.state=y at *;generalize c.name=F at *;generalize c.kind=Y at *;generalize c.key=Z at *;clear hn be;by_cases j:d=F
 ·by_cases m:h=Y
  ·by_cases u:i=Z
   ·have f:J (g=(!H||ac)):=by show g=_;rw[e.o];simp[j,m,u]
    subst j;subst m;subst u;clear e;go_enter Tryz.func106,Tryz.ntmps106;go_upto_region 3 with fail;obtain⟨w,V,_,C⟩:=jJ (b.alloc (.cells #[S d,N h,N i,N y,.slice ca n cc] 91)) #[S d,N h,N i,.slice l E t] 61;have X:(b.alloc (.cells #[S d,N h,N i,N y,.slice ca n cc] 91)).heap.size=b.heap.size+1:=(by simp);have o:=(w.block b.heap.size D).trans M;have G:=I (B.trans (w.mono B.size));have ap:=aC D w.size;rw[X]at V C;generalize (b.alloc (.cells #[S d,N h,N i,N y,.slice ca n cc] 91)).alloc (.cells #[S d,N h,N i,.slice l E t] 61)=r at *;clear w X B D M;have x0:r.cell? (A b.heap.size 0)=some (S d):=(by rw[jb o];rfl);have x1:r.cell? (A b.heap.size 1)=some (N h):=(by rw[jb o];rfl);have x2:r.cell? (A b.heap.size 2)=some (N i):=(by rw[jb o];rfl);have x3:r.cell? (A b.heap.size 3)=some (N y):=(by rw[jb o];rfl);have x4:r.cell? (A b.heap.size 4)=some (.slice ca n cc):=(by rw[jb o];rfl);have y3:r.cell? (A (b.heap.size+1) 3)=some (.slice l E t):=(by rw[jb C];rfl);clear C o;go_wp2_with fail;refine(s.o _).mono ?_;clear s;rintro z w3 ⟨rfl,x⟩;have v:=I (G.o.trans (x.mono G.o.size));have z4:=(x.cell (p:=A b.heap.size 4) ap).trans x4;have t3:=(x.cell (p:=A (b.heap.size+1) 3) V).trans y3;clear x0 x1 x2 x3 x4 y3 x;cases H with
    | false=>
     clear k z4 t3;go_wp2;go_ret;exact⟨by rw[f.o];rfl,v.o⟩
    | true=>
     go_wp2_with fail;refine(k.o _ v.o).mono ?_;clear k;rintro z w4 ⟨rfl,L⟩;have am:=I (v.o.trans (L.mono v.o.size));clear z4 t3 L;go_wp2;go_ret;exact⟨by rw[f.o];rfl,am.o⟩
   ·have f:J (g=false):=by show g=_;rw[e.o];simp[u]
    have q1:(i !=Z)=true:=(by simpa using u);subst j;subst m;clear e k s u;go_enter Tryz.func106,Tryz.ntmps106;go_wp2;go_ret;exact⟨by rw[f.o];rfl,Ri b _ _⟩
  ·have f:J (g=false):=by show g=_;rw[e.o];simp[m]
   have q1:(h !=Y)=true:=(by simpa using m);subst j;clear e k s m;go_enter Tryz.func106,Tryz.ntmps106;go_wp2;go_ret;exact⟨by rw[f.o];rfl,Ri b _ _⟩
 ·have f:J (g=false):=by show g=_;rw[e.o];simp[j]
  have q1:(d !=F)=true:=by simpa using j
  have q2:(d==F)=false:=by simpa using j
  clear e k s;go_enter Tryz.func106,Tryz.ntmps106;go_wp2;go_ret;exact⟨by rw[f.o];rfl,Ri b _ _⟩
def XC(b:Nat->U1)(c:List W8):Nat->Bool
 | 0=>true
 | a+1=>XC b c a&&KE (b a) (ji c a)
def Jo(b:Nat->U1)(n:Nat)(a:List W8):Bool:=decide (n=a.length)&&XC b a n
variable{Y:Nat->U1}
def OQ(g:m<n)(e:KE (Y m) (ji B m)=false):XC Y B n=false:=by
 induction n with
 | zero=>omega
 | succ n f=>
  by_cases d:m=n
  ·subst d;simp only[XC,e,gm]
  ·simp only[XC,f (by omega),eY]
def C7{b:Nat->U1}{c:List W8}:∀{n:Nat},XC b c n=true↔∀a,a<n->KE (b a) (ji c a)=true:=by
 intro n
 induction n with
 | zero=>exact⟨fun _ a e=>by omega,fun _=>rfl⟩
 | succ n i=>
  simp only[XC,aK];rw[i];refine⟨fun⟨g,h⟩ a e=>?_,fun d=>⟨fun a e=>d a (by omega),d n (by omega)⟩⟩;by_cases f:a=n
  ·subst f;exact h
  ·exact g a (by omega)
def SP(U a2:O')(ci co:Nat)(c:Nat->U1)(n:Nat)(b:List W8)(e:W)(hm:n<=1000)(dl:b.length<=maxLen)(hl:E2 e U c n)(ap:P3 e a2 b):C' 105 #[.slice U n ci,.slice a2 b.length co,V4 106] e fun V s=>V=.returned (.bool (Jo c n b))/\Below e.heap.size e s:=by
 have Hl:=I hl;have cd:=I ap;clear hl ap;unfold maxLen at dl;by_cases h:n=b.length
 ·have bv:((n:Int)!=(b.length:Int))=false:=by simp;omega
  have o:J (Jo c n b=XC c b n):=by show Jo c n b=_;simp[Jo,h]
  have ce:=I h;clear h;go_enter Tryz.func105,Tryz.ntmps105;go_wp2;go_loopw [17] (fun E wr=>∃a:Nat,a<=n/\E=N a/\XC c b a=true/\Below e.heap.size e wr) (fun E _=>n-(intOf E).toNat)
  case atStart=>exact⟨0,aG _,rfl,rfl,k8 _ _⟩
  case round=>
   obtain⟨a,hk,rfl,ht,r⟩:=hrel;have T:=I ht;have t:=I r;clear ht bv;by_cases bi:a<n
   ·have D:a<b.length:=by have:=ce.o;omega
    obtain⟨dr,rfl,ds,Z⟩:=(Hl.o.j r).at_ (by omega);obtain⟨ca,cc,g1,g2,g3,g4,g5,g6,g7⟩:=Z a bi;obtain⟨b',d0,rfl,dv,ac⟩:=(cd.o.j r).at_ (aE (by omega));obtain⟨k1,k2,k3,v,k4,p,q,rfl,cs,be,da⟩:=ac a D;have dT:(a:Int)<(n:Int):=(by omega);have dW:(a:Int)<(b.length:Int):=(by omega);have O:=I (fun s (X:Below wr.heap.size wr s)=>SN (c a) b[a] ca p cc q s (by unfold maxLen;omega) (by unfold maxLen;omega) (g6.j X) (be.j X));have x:J (KE (c a) b[a]=true->XC c b (a+1)=true):=by
     intro y;simp only[XC,T.o,ep];rw[xP D];exact y
    have u:J (KE (c a) b[a]=false->XC c b n=false):=fun y=>OQ bi (by rw[xP D];exact y);clear Z ac r g6 g7 be da cs;generalize KE (c a) b[a]=X8 at *;generalize (c a).cells.length=k at *;generalize (c a).name=l at *;generalize (c a).kind=i at *;generalize (c a).key=j at *;generalize (c a).state=m at *;generalize (b[a]).name=K at *;generalize (b[a]).kind=F at *;generalize (b[a]).key=G at *;generalize (b[a]).cells.length=H at *;go_upto_region 7 with fail;clear g1 g2 g3 g4 g5 k1 k2 k3 k4;obtain⟨z,bX,_,am⟩:=jJ wr #[S l,N i,N j,N m,.slice ca k cc] 91;obtain⟨B,b4,_,f⟩:=jJ (wr.alloc (.cells #[S l,N i,N j,N m,.slice ca k cc] 91)) #[S K,N F,N G,.slice p H q] 61;have hz:(wr.alloc (.cells #[S l,N i,N j,N m,.slice ca k cc] 91)).heap.size=wr.heap.size+1:=(by simp);have g:=(B.block wr.heap.size bX).trans am;have C:=z.trans (B.mono z.size);have L:=I (t.o.trans (C.mono t.o.size));rw[hz]at b4 f;generalize (wr.alloc (.cells #[.string ⟨l.toArray⟩,N i,N j,N m,.slice ca k cc] 91)).alloc (.cells #[.string ⟨K.toArray⟩,N F,N G,.slice p H q] 61)=d at *;have x0:d.cell? (A wr.heap.size 0)=some (S l):=(by rw[jb g];rfl);have x1:d.cell? (A wr.heap.size 1)=some (N i):=(by rw[jb g];rfl);have x2:d.cell? (A wr.heap.size 2)=some (N j):=(by rw[jb g];rfl);have x3:d.cell? (A wr.heap.size 3)=some (N m):=(by rw[jb g];rfl);have x4:d.cell? (A wr.heap.size 4)=some (.slice ca k cc):=(by rw[jb g];rfl);have y0:d.cell? (A (wr.heap.size+1) 0)=some (S K):=(by rw[jb f];rfl);have y1:d.cell? (A (wr.heap.size+1) 1)=some (N F):=(by rw[jb f];rfl);have y2:d.cell? (A (wr.heap.size+1) 2)=some (N G):=(by rw[jb f];rfl);have y3:d.cell? (A (wr.heap.size+1) 3)=some (.slice p H q):=(by rw[jb f];rfl);have P:=I (O.o d C);clear f g B hz z bX am C O b4;go_wp2_with fail;refine P.o.mono ?_;clear P x0 x1 x2 x3 x4 y0 y1 y2 y3;rintro V w3 ⟨rfl,Y⟩;have M:=I (L.o.trans (Y.mono L.o.size));clear Y;cases X8 with
    | true=>
     have w:=I (x.o rfl);clear x u;go_wp2;go_roundw
     ·exact⟨a+1,by omega,by go_num,w.o,M.o⟩
     ·simp[intOf];omega
    | false=>
     have w:=I (u.o rfl);clear x u;go_wp2;go_ret;exact⟨by rw[o.o,w.o];rfl,M.o⟩
   ·have dd:a=n:=(by omega);subst dd;go_wp2;go_ret;exact⟨by rw[o.o,T.o];rfl,t.o⟩
 ·have bv:((n:Int)!=(b.length:Int))=true:=by simp;omega
  have o:J (Jo c n b=false):=by show Jo c n b=_;simp[Jo,h]
  clear h;go_enter Tryz.func105,Tryz.ntmps105;go_wp2;go_ret;exact⟨by rw[o.o];rfl,k8 _ _⟩
def zZ(c:Nat->U1)(n:Nat)(pre:B8)(a:List V6):Prop:=∃b,∃d:b<a.length,(a[b]).pre=pre/\(∀j∈a.take b,j.pre≠pre)/\Jo c n (a[b]).table=true
def IM(o:O')(z:Nat)(c:Nat->U1)(n:Nat)(pre:B8)(t:O')(H:Nat)(a:List V6)(h:W)(T:n<=1000)(G:a.length<=maxLen)(F:E2 h o c n)(E:P0 h t a):C' 44 #[.slice o n z,S pre,.slice t a.length H] h fun d X=>((d=.returned (.bool true)/\zZ c n pre a)\/(d=.returned (.bool false)/\¬zZ c n pre a))/\Below h.heap.size h X:=by
 have K:=I F;have y:=I E;clear F E;have L:=I G;unfold maxLen at G;go_enter Tryz.func44,Tryz.ntmps44;go_wp2_with fail;refine(Ih pre _).mono ?_;rintro d Y ⟨rfl,C,bi,q⟩;have j:=I q;have x:=I (EV t H a pre h.heap.size Y L.o (y.o.j q) C);clear q C;go_wp2_with fail;refine x.o.mono ?_;clear x;rintro d Z ⟨⟨bX,rfl,⟨b,m,rfl,g,r⟩|⟨rfl,g⟩⟩,l⟩
 ·have f:=I (j.o.trans (l.mono j.o.size));have be:(b:Int)<(a.length:Int):=by omega
  obtain⟨ac,bv,rfl,am,D⟩:=(y.o.j f.o).at_ (aE (by omega));obtain⟨U,V,c0,_,_,_,_,_,_,s⟩:=D b m;have w:=I (SP o U z V c n (a[b]).table Z T s.len (K.o.j f.o) s.table);have k:J (zZ c n pre a↔Jo c n (a[b]).table=true):=by
   refine⟨fun⟨u,ap,p,O,P⟩=>?_,fun e=>⟨b,m,g,r,e⟩⟩;have d:u=b:=by
    rcases gI u b with e|e|e
    ·exact absurd p (r _ (di.2 ⟨u,by omega,rfl⟩))
    ·exact e
    ·exact absurd g (O _ (di.2 ⟨b,by omega,rfl⟩))
   subst d;exact P
  clear g r D s l;generalize Jo c n (a[b]).table=M at *;generalize (a[b]).table.length=tl at *;go_wp2_with fail;refine w.o.mono ?_;clear w c0;rintro d w3 ⟨rfl,B⟩;have v:=I (f.o.trans (B.mono f.o.size));clear B;cases M with
  | true=>
   have i:=I (k.o.2 rfl);clear k;go_wp2;go_ret;exact⟨.inl ⟨rfl,i.o⟩,v.o⟩
  | false=>
   have i:J (¬zZ c n pre a):=fun e=>by have:=k.o.1 e;simp at this
   clear k;go_wp2;go_ret;exact⟨.inr ⟨rfl,i.o⟩,v.o⟩
 ·have i:J (¬zZ c n pre a):=fun⟨b,m,p,_⟩=>g _ (aJ m) p;have f:=I (j.o.trans (l.mono j.o.size));clear g l;go_wp2;go_ret;exact⟨.inr ⟨rfl,i.o⟩,f.o⟩
end Go.Proofs.YthhpbhpfagoapaaGreat
