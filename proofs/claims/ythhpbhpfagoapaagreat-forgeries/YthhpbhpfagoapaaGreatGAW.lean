import Derived.Test.YthhpbhpfagoapaaGreatGAT
import Derived.Test.YthhpbhpfagoapaaGreatGAV
namespace Go.Proofs.YthhpbhpfagoapaaGreat
set_option linter.all false
set_option maxRecDepth 100000
set_option maxHeartbeats 16000000
open Go.RowKit
def If(key:Int)(g c b:Nat)(a:W6):List Value:=[S [80],N g,N c,N b,S (jX key a).1,S (jX key a).2]
def zt(key:Int)(g c:Nat)(a:List W6):List Value:=(a.mapIdx (If key g c)).flatten
abbrev C9(rows g c:Nat)(key:Int)(b:Value)(a:W6):Value:=.agg #[N rows,b,S [77],N g,N c,N 0,S (jX key a).1,S (jX key a).2]
theorem Dr(key:Int)(g c:Nat)(b:List W6)(a:W6):zt key g c (b++[a])=zt key g c b++[S [80],N g,N c,N b.length,S (jX key a).1,S (jX key a).2]:=by
 unfold zt;rw[gF];simp[If]
theorem Tryz.a7:(Tryz.prog.info? 113).map (fun a=>(a.zero,a.size,a.bytes))=some (some (.agg #[.string ⟨#[]⟩,N 0,N 0,N 0,.string ⟨#[]⟩,.string ⟨#[]⟩]),6,72):=by kernel_rfl
variable{B:List W8}{L:List V1}{l r s:B8}
theorem AV{d:V1}{k:List V1}{t l:List W6}(o:V2 B L t)(w:V2 B (L++(d::k)) l)(m:jw B L t++s=jw B (L++(d::k)) l++r):∃p j,zJ (ji B d.c).key p/\s=qR (ji B d.c).key p++j:=by
 obtain⟨D,u,rfl,n,v⟩:=Il w;rw[Qi _ _ _ _ (xj n),aD]at m;have G:=xj o;obtain⟨E,F,_⟩:∃j,j=u/\True:=⟨_,rfl,trivial⟩;have key:∀{L:List V1} {e b:List W6} {h i:B8},V2 B L e->V2 B L b->jw B L e++h=jw B L b++i->h=i:=by
  intro L e b h i x
  induction x using V2.ind generalizing b with
  | nil=>intro f c;cases f using V2.ind;simpa[jw]using c
  | cons g _ C =>
   intro f c;cases f using V2.ind with
   | cons z y =>
    simp only[jw,aD]at c;exact C y (Ze g z c).2
 have a:=key o n m;cases v using V2.ind with
 | cons g _ =>
  rw[a];simp only[jw,aD];exact⟨_,_,g,rfl⟩
variable{c g h i k m n p:Nat}
theorem Oj(P:c<qc (jv n m i) k):∃f,jl n m k i g=jr k i g (i*m) (jv n m i) c++(⟨80,i,g,c,i*m+c*k,jv (jv n m i) k c⟩::f):=by
 unfold jl;obtain⟨e,h⟩:∃e,qc (jv n m i) k=c+1+e:=⟨qc (jv n m i) k-(c+1),by omega⟩;have:jr k i g (i*m) (jv n m i) (qc (jv n m i) k)=jr k i g (i*m) (jv n m i) (c+1)++((List.range e).map (c+1+·)).map (fun p=>(⟨80,i,g,p,i*m+p*k,jv (jv n m i) k p⟩:V1)):=by
  rw[h];unfold jr;rw[gl,eb]
 rw[this,Xv,aD,aD];exact⟨_,rfl⟩
def LF(t:List W8)(b a P g c:Nat)(p:Nat)(m rest:B8)(l:W)(i:Ending)(f:W):Prop :=
 l.grownBy f (some p)/\((i=T8/\∀(h:List W6) (q:B8),V2 t (jl b a P g c) h->rest≠jw t (jl b a P g c) h++q) \/
  ∃(d:List W6) (e:W6) (j:Value) (k:B8),V2 t (jl b a P g c) (d++[e])/\d.length=qc (jv b a g) P/\i=.returned (C9 (jv b a g) g c (ji t c).key j e)/\f.ownsRow l.heap.size 113 6 j d.length (zt (ji t c).key g c d)/\qU f p m k/\rest=jw t (jl b a P g c) (d++[e])++k)
variable{K:Int}{u v w:W}
theorem Oi{val:W6->Value}{d:Ending}{a:W6}(h:GL (zJ K) (qR K) val n s r w d v)(e:zJ K a)(b:r=qR K a++l):d=.returned (val a)/\qU v n s l/\w.grownBy v (some n):=by
 obtain⟨k,⟨_,m⟩|⟨c,g,rest,rfl,o,key⟩⟩:=h
 ·exact absurd b (m a l e)
 ·rw[key]at b;obtain⟨i,j⟩:=Ze rest e b;subst i j;exact⟨rfl,o,k⟩
theorem jcj{val:W6->Value}{a:Ending}(e:GL (zJ K) (qR K) val n s r w a v)(i:∀b q,zJ K b->r≠qR K b++q):a=T8/\w.grownBy v (some n):=by
 obtain⟨g,⟨f,_⟩|⟨k,l,h,rfl,m,j⟩⟩:=e
 ·exact⟨f,g⟩
 ·exact absurd j (i k l h)
variable{F:TypeId}
theorem Zv{c0 c1 c2 c3 c4 c5 c6 c7:Value}(b:w.heap[n]?=some (.cells #[c0,c1,c2,c3,c4,c5,c6,c7] F (0,0))) :
  (w.cell? (A n 0)=some c0/\w.cell? (A n 1)=some c1/\w.cell? (A n 2)=some c2/\w.cell? (A n 3)=some c3/\w.cell? (A n 4)=some c4/\w.cell? (A n 5)=some c5/\w.cell? (A n 6)=some c6/\w.cell? (A n 7)=some c7)/\(∀j,w.frozen? (A n j)=false) :=
 ⟨⟨by rw[jb b];rfl,by rw[jb b];rfl,by rw[jb b];rfl,by rw[jb b];rfl,by rw[jb b];rfl,by rw[jb b];rfl,by rw[jb b];rfl,by rw[jb b];rfl⟩,fun j=>kh w n j _ F b⟩
theorem jed{c0 c1 c2 c3 c4 c5 c6 c7 v:Value}(b:w.heap[n]?=some (.cells #[c0,c1,c2,c3,c4,c5,c6,c7] F (0,0))):(w.setCell (A n 1) v).heap[n]?=some (.cells #[c0,v,c2,c3,c4,c5,c6,c7] F (0,0)):=by
 rw[kj w n 1 _ F v b];rfl
theorem jdp{c0 c1 c2 c3 c4 c5 c6 c7 v2 v3 v4 v5 v6 v7:Value}(b:v.heap[n]?=some (.cells #[c0,c1,c2,c3,c4,c5,c6,c7] F (0,0))):(v.setCells n 2 [v2,v3,v4,v5,v6,v7]).heap[n]?=some (.cells #[c0,c1,v2,v3,v4,v5,v6,v7] F (0,0)) :=
 Uf (w:=v) [v2,v3,v4,v5,v6,v7] [c0,c1] [] [c2,c3,c4,c5,c6,c7] rfl b
theorem Af(h:List W8)(e d P g c:Nat)(X7 p cb n cc:Nat)(u rest:B8)(f:W)(hs:u.length<=maxLen)(hp:qU f p u rest)(hR:jv e d g<=60)(d8:1<=P)(hP:P<=60)(hz:c<n)(hn:n<=6)
  (eg:f.cell? (A X7 15)=some (R cb n cc))(eq:f.cell? (A cb (c*4+2))=some (N (ji h c).key))(ec:f.cell? (A X7 12)=some (N P)) :
  C' 271 #[(Q X7 0),(Q p 0),N g,N c,N ((jv e d g:Nat):Int)] f (LF h e d P g c p u rest f):=by
 obtain⟨i0,hi,g9,ha,hb⟩:=ks Tryz.a7;have Hs:=I hs;have Hp:=I hp;have g8:=zh hp;have dv:J (∀a,a<qc (jv e d g) P->∃L2,jl e d P g c=jr P g c (g*d) (jv e d g) a++(⟨80,g,c,a,g*d+a*P,jv (jv e d g) P a⟩::L2)):=fun a o=>Oj o;have ds:J (jl e d P g c=jr P g c (g*d) (jv e d g) (qc (jv e d g) P)++[⟨77,g,c,0,g*d,jv e d g⟩]):=rfl;have hy:(c:Int)<(n:Int):=by omega
 clear hs hp;have fd:J (qc (jv e d g) P<=jv e d g):=QP d8;generalize be:(ji h c).key=key at *;have E:=I be;have fn:J (∀(k:List W6) (D q:B8) (a:Nat) (i:List W6),a<qc (jv e d g) P->V2 h (jr P g c (g*d) (jv e d g) a) i->V2 h (jl e d P g c) k->jw h (jr P g c (g*d) (jv e d g) a) i++D=jw h (jl e d P g c) k++q->∃b j,zJ key b/\D=qR key b++j):=by
  intro k D q a i o L r m;obtain⟨L2,g0⟩:=dv.o a o;rw[g0]at r m;obtain⟨b,j,z,B⟩:=AV L r m;rw[<-be];exact⟨b,j,z,B⟩
 have fs:J (∀(k:List W6) (D q:B8) (i:List W6),V2 h (jr P g c (g*d) (jv e d g) (qc (jv e d g) P)) i->V2 h (jl e d P g c) k->jw h (jr P g c (g*d) (jv e d g) (qc (jv e d g) P)) i++D=jw h (jl e d P g c) k++q->∃b j,zJ key b/\D=qR key b++j):=by
  intro k D q i L r m;rw[ds.o]at r m;obtain⟨b,j,z,B⟩:=AV L r m;rw[<-be];exact⟨b,j,z,B⟩
 clear be dv;generalize e5:jv e d g=rows at *;have d3:=I e5;clear e5;generalize ci:qc rows P=y at *;have fe:=I ci;have hv:y<=60:=by have:=fd.o;omega
 have dT:=I (fun w':W=>Gn rows P w' (by omega) d8 (by omega));rw[ci]at dT;clear ci;have gA:=jf (.cells #[N 0,.slice none 0 0,S [],N 0,N 0,N 0,S [],S []] 261) eg;have ak:=jf (.cells #[N 0,.slice none 0 0,S [],N 0,N 0,N 0,S [],S []] 261) eq;have gw:=jf (.cells #[N rows,.slice none 0 0,S [],N 0,N 0,N 0,S [],S []] 261) (jf (.cells #[N 0,.slice none 0 0,S [],N 0,N 0,N 0,S [],S []] 261) ec);obtain⟨ea,hB,es,eR⟩:=QB f #[N 0,.slice none 0 0,S [],N 0,N 0,N 0,S [],S []] 261 #[N rows,.slice none 0 0,S [],N 0,N 0,N 0,S [],S []] 261;go_enter Tryz.func271,Tryz.ntmps271;go_wp2_with fail;clear gA ak gw eg eq ec;generalize (f.alloc _).alloc _=W0 at *;have dl:=I ea;have ga:=I es;have go:=I eR;clear ea es eR;refine(dT.o _).mono ?_;rintro ce w1 ⟨sv,rfl,e6,T⟩;obtain⟨sa,sc,rfl⟩:=jt e6;have dr:=I (dl.o.trans (T.mono dl.o.size));have gb:=I (jd T ga.o);have gp:=I (jd T go.o);have hC:=T.size;clear T e6;have gi:=I (xf Hp.o dr.o g8);go_wp2;go_loopw [34] (fun dd wr=>∃(a:Nat) (i:List W6) (l:B8) (v:Value),a<=y/\dd=N a/\i.length=a/\V2 h (jr P g c (g*d) rows a) i/\wr.heap[f.heap.size+1]?=some (.cells #[N rows,v,S [],N 0,N 0,N 0,S [],S []] 261 (0,0))/\wr.ownsRow f.heap.size 113 6 v a (zt key g c i)/\qU wr p u l/\f.grownBy wr (some p)/\wr.heap[f.heap.size]?=some (.cells #[N 0,.slice none 0 0,S [],N 0,N 0,N 0,S [],S []] 261 (0,0))/\rest=jw h (jr P g c (g*d) rows a) i++l) (fun dd _=>y-(intOf dd).toNat)
 case atStart=>exact⟨0,[],rest,.slice none 0 0,aG _,rfl,rfl,.nil,gp.o,kg _ _ _ _,gi.o,jU (qb f _) dr.o,gb.o,rfl⟩
 case round =>
  obtain⟨a,i,l,v,hA,rfl,L,eM,hq,co,e2,hg,ho,e4⟩:=hrel;have am:=I L;have F:=I eM;have Hq:=I hq;have Z:=I hg;have Ho:=I ho;have ap:=I e4;have O:=I e2;have d2:=I co;have hG:=hg.size;have hF:=(aF.1 hq).1;clear L eM hq hg ho e4 e2;obtain⟨w,x,rfl⟩:=jt co;clear co;by_cases g5:a<y
  ·have g3:(a:Int)<(y:Int):=(by omega);by_cases X:¬∃(b:W6) (j:B8),zJ key b/\l=qR key b++j
   ·have HN:J (∀(k:List W6) (q:B8),V2 h (jl e d P g c) k->rest≠jw h (jl e d P g c) k++q):=fun k q r m=>by
     rw[ap.o]at m;exact X (fn.o k l q a i g5 F.o r m)
    have ft:J (∀b j,zJ key b->l≠qR key b++j):=fun b j z B=>X ⟨b,j,z,B⟩;clear X;go_wp2_with fail;have fc:J (wr.cell? (A (f.heap.size+1) 1)=some (.slice w a x)):=(Zv Hq.o).1.2.1;refine k9 (S:=fun w'=>w'.cell? (A (f.heap.size+1) 1)=some (.slice w a x)) (by kernel_rfl) ?_ (fun hw=>?_)
    ·exact fc.o
    refine tk 0 (Q (f.heap.size+1) 1) ?_;refine tk 1 (.slice w a x) ?_;refine tk 2 (Q p 0) ?_;refine tk 3 (N key) ?_;refine tk 4 (N g) ?_;refine tk 5 (N c) ?_;refine tk 6 (N a) ?_;refine tk 7 (D3 [80] g c a) ?_;simp only[jA,jB,jC,Act.put,jD,jE,jF];refine rd 8 (fun hu hK=>?_);simp only[jA,jB,jC];go_simp;go_at_call 274
    refine(Us p g c a key [80] u l _ Hs.o (show qU wr.drew p u l from O.o)).mono ?_;intro ce Y gZ;obtain⟨rfl,s⟩:=jcj gZ ft.o;exact⟨rfl,je Z.o (jS s),.inl ⟨rfl,HN.o⟩⟩
   ·obtain⟨b,j,e7,fa⟩:=eG.1 X;have d4:=I e7;have d5:=I fa;clear X e7 fa;go_wp2_with fail;have eS:wr.drew.heap[f.heap.size+1]?=some (.cells #[N rows,.slice w a x,S [],N 0,N 0,N 0,S [],S []] 261 (0,0)):=Hq.o;have c6:=(Zv eS).1.2.1;go_region_law (first
     | (refine step_append_lies _ (by rfl) _ _ _ (by rfl) f.heap.size 113 i0 _ 6 72 Tryz.underlying259 hi g9 ha hb rfl (by omega) _ a (zt key g c i) (by rfl) (M.alloc _) (A fb.heap.size 0) 1 1 [S [80],N g,N c,N a,S (jX key b).1,S (jX key b).2] (by rfl) (by rfl) (World.news_of_block (cs:=#[S [80],N g,N c,N a,S (jX key b).1,S (jX key b).2]) (t:=113) (fr:=(0,0)) (kH fb _)) (by simp[Value.oneCell']) (by omega) (by unfold maxLen;omega) (by omega) (by simp;omega) _ rfl ?_;intro H G bv eP U g2 hE;have V:=jq U (M.alloc _) (jo _ bi) (by decide);have gX:=(Zv V).1.2.1;have gY:=(Zv V).2 1)
     | (go_simp;go_at_call 274;refine(Us p g c a key [80] u l _ Hs.o (show qU wr.drew p u l from O.o)).mono ?_;intro ce fb d6;obtain⟨rfl,da,em⟩:=Oi d6 d4.o d5.o;have K:=jS em;have bi:=jm K Hq.o (by omega);have gT:=(Zv bi).1.2.1;have gU:=(Zv (jo (.cells #[S [80],N g,N c,N a,S (jX key b).1,S (jX key b).2] 113) bi)).1.2.1;have M:=qM d2.o K (zU O.o) (by decide);have hD:=K.size;clear d6))
    all_goals
     have fz:=I (qM eP (qQ bv (f.heap.size+1) 1 (R H (a+1) G)) V (by decide));have ev:=jm K Ho.o (by omega);have eC:=jq U (M.alloc _) (jo _ ev) (by decide);have fv:=I (jm (qQ bv (f.heap.size+1) 1 (R H (a+1) G)) eC (by omega));have e1:=jq U (M.alloc _) (jo _ (zU da)) (by decide);have f9:=I (JL (KY da e1) (qQ bv (f.heap.size+1) 1 (R H (a+1) G)) (by omega));have d7:=Jt (zW (je Z.o K) (.cells #[S [80],N g,N c,N a,S (jX key b).1,S (jX key b).2] 113)) U (fun a o=>(M.lt a o).1);have bX:=I (Jt d7 (qQ bv (f.heap.size+1) 1 (R H (a+1) G)) (by rintro a o;cases o;omega));have f8:=I (jed (v:=(R H (a+1) G)) V);clear ev eC e1 d7 V bi c6 gT gU gX gY eP U M da em K eS g2;go_wp2;go_roundw
     ·
      refine⟨a+1,i++[b],j,(R H (a+1) G),by omega,by go_num,by simp[am.o],?_,f8.o,by rw[Dr,am.o];exact fz.o,f9.o,bX.o,fv.o,?_⟩
      ·rw[Xv];refine F.o.append (.cons ?_ .nil);show zJ (ji h c).key b;rw[E.o];exact d4.o
      ·rw[Xv,Qi _ _ _ _ (xj F.o),ap.o,d5.o];simp only[jw,E.o,aT,aD]
     ·simp[intOf];omega
  ·have g3:¬(a:Int)<(y:Int):=(by omega);have g4:a=y:=(by omega);subst g4;go_wp2_with fail;refine(Us p g c 0 key [77] u l wr Hs.o O.o).mono ?_;rintro ce Y ⟨s,⟨rfl,er⟩|⟨b,j,hm,rfl,e3,e0⟩⟩
   ·have HN:J (∀(k:List W6) (q:B8),V2 h (jl e d P g c) k->rest≠jw h (jl e d P g c) k++q):=fun k q r m=>by
     rw[ap.o]at m;obtain⟨b,j,z,B⟩:=fs.o k l q i F.o r m;exact er b j z B
    have bX:=I (je Z.o s);clear er s;go_wp2;exact⟨rfl,bX.o,.inl ⟨rfl,HN.o⟩⟩
   have ff:=I (je Z.o s);have d0:=I (jm s Ho.o (by omega));have cd:=I (jm s Hq.o (by omega));have ge:=I (qM d2.o s (zU O.o) (by decide));have gr:=I e3;have dW:J (V2 h (jl e d P g c) (i++[b])/\rest=jw h (jl e d P g c) (i++[b])++j):=by
    have g7:V2 h [⟨77,g,c,0,g*d,rows⟩] [b]:=.cons (by show zJ (ji h c).key b;rw[E.o];exact hm) .nil;rw[ds.o];refine⟨F.o.append g7,?_⟩;rw[Qi _ _ _ _ (xj F.o),ap.o,e0];simp only[jw,E.o,aT,aD]
   clear s e3 e0;obtain⟨⟨q0,q1,q2,q3,q4,q5,q6,q7⟩,C⟩:=Zv cd.o;have f2:=C 2;have f3:=C 3;have f4:=C 4;have f5:=C 5;have f6:=C 6;have f7:=C 7;clear C;have ht:=I (jdp (v2:=S [77]) (v3:=N g) (v4:=N c) (v5:=N 0) (v6:=S (jX key b).1) (v7:=S (jX key b).2) cd.o);have ac:=I (zu (f.heap.size+1) [S [77],N g,N c,N 0,S (jX key b).1,S (jX key b).2] Y 2);have d1:=I (jm ac.o d0.o (by omega));have gd:=I (Xk [N rows,.slice w a x,S [77],N g,N c,N 0,S (jX key b).1,S (jX key b).2] (by rfl) d1.o);have b4:=I (zu f.heap.size [N rows,.slice w a x,S [77],N g,N c,N 0,S (jX key b).1,S (jX key b).2] (Y.setCells (f.heap.size+1) 2 [S [77],N g,N c,N 0,S (jX key b).1,S (jX key b).2]) 0);obtain⟨⟨o0,o1,o2,o3,o4,o5,o6,o7⟩,t⟩:=Zv d0.o;have hc:=t 0;have hd:=t 1;have he:=t 2;have hf:=t 3;have hh:=t 4;have hj:=t 5;have hl:=t 6;have hr:=t 7;clear t;have fw:=I (qM ge.o ac.o cd.o (by decide));have f1:=I (qM fw.o b4.o d1.o (by decide));have gs:=I (JL gr.o ac.o (by omega));have gt:=I (JL gs.o b4.o (by omega));have fk:=I (Jt ff.o ac.o (by rintro a o;cases o;omega));have fl:=I (Jt fk.o b4.o (by rintro a o;cases o;omega));go_wp2;show bodyPost _ _ _ _ _ ((Y.setCells (f.heap.size+1) 2 [S [77],N g,N c,N 0,S (jX key b).1,S (jX key b).2]).setCells f.heap.size 0 [N rows,.slice w a x,S [77],N g,N c,N 0,S (jX key b).1,S (jX key b).2]);clear q0 q1 q2 q3 q4 q5 q6 q7 f2 f3 f4 f5 f6 f7 o0 o1 o2 o3 o4 o5 o6 o7 hc hd he hf hh hj hl hr;generalize (Y.setCells _ _ _).setCells _ _ _=WF at *;obtain⟨⟨q0,q1,q2,q3,q4,q5,q6,q7⟩,_⟩:=Zv gd.o;refine kk (v:=C9 rows g c key (.slice w a x) b) (by simp[results,Tryz.results271,go_sem,q0,q1,q2,q3,q4,q5,q6,q7]) rfl ⟨fl.o,.inr ⟨i,b,.slice w a x,j,dW.o.1,?_,?_,?_,gt.o,dW.o.2⟩⟩
   ·rw[d3.o,fe.o];exact am.o
   ·rw[d3.o,E.o]
   ·rw[E.o,am.o];exact f1.o
structure P2 (w w':W) (p q:Nat):Prop where
 os:w'.os=w.os
 tape:w'.tape=w.tape
 output:w'.output=w.output
 size:w.heap.size<=w'.heap.size
 block:∀k,k<w.heap.size->k≠p->k≠q->w'.heap[k]?=w.heap[k]?
theorem P2.refl(a:W)(p q:Nat):P2 a a p q:=⟨rfl,rfl,rfl,aA _,fun _ _ _ _=>rfl⟩
variable{d:Option Nat}
theorem P2.grown(b:P2 w v n m)(c:v.grownBy u d)(l:∀a,d=some a->a=n\/a=m\/w.heap.size<=a):P2 w u n m:=by
 refine⟨c.os.trans b.os,c.tape.trans b.tape,c.output.trans b.output,aI b.size c.size,fun a g j k=>?_⟩;rw[c.block a (aC g b.size) ?_]
 ·exact b.block a g j k
 ·intro i;have:=l a i.symm;omega
theorem P2.drew{w b:W}(a:P2 w b n m):P2 w b.drew n m:=⟨a.os,a.tape,a.output,a.size,a.block⟩
theorem P2.j{c a b:W}{p q:Nat}(d:P2 c a p q)(e:Below a.heap.size a b):P2 c b p q:=d.grown (jU (qb a none) e) (fun g f=>by cases f)
theorem P2.below(a:P2 w v n m)(h:k<=n)(i:k<=m)(f:k<=w.heap.size):Below k w v:=⟨a.os,a.tape,a.output,a.size,fun e g=>a.block e (by omega) (by omega) (by omega)⟩
theorem P2.keeps{o:Obj}(e:P2 w v n m)(c:w.heap[k]?=some o)(f:k≠n)(g:k≠m):v.heap[k]?=some o :=
 (e.block k (aF.1 c).1 f g).trans c
variable{x:Value}{C:List Value}
theorem P2.owns{b o:V'}{j size:TypeId}(t:P2 w v n m)(f:w.ownsRow k i g x c C)(h:w.heap[n]?=some (.cells b j (0,0)))(l:w.heap[m]?=some (.cells o size (0,0)))(u:j≠i)(a:size≠i):v.ownsRow k i g x c C:=by
 refine⟨f.1,?_⟩;rcases f.2 with y|⟨d,r,s,rfl,e,q,rest⟩
 ·exact .inl y
 ·refine .inr ⟨d,r,s,rfl,e,t.keeps q ?_ ?_,rest⟩
  ·rintro rfl;rw[q]at h;cases h;exact u rfl
  ·rintro rfl;rw[q]at l;cases l;exact a rfl
def UN(e b:Nat)(key:Int)(c:Nat)(a:Nat->Nat->W6)(d:Nat->Nat->Value)(g:Nat):List Value:=[N ((jv e b g:Nat):Int),d g c,S [77],N g,N c,N 0,S (jX key (a g c)).1,S (jX key (a g c)).2]
def zM(e a:Nat)(key:Int)(c:Nat)(d:Nat->Nat->W6)(b:Nat->Nat->Value)(f:Nat):List Value:=(List.range f).flatMap (UN e a key c d b)
theorem KG(e a:Nat)(key:Int)(c:Nat)(d:Nat->Nat->W6)(b:Nat->Nat->Value)(f:Nat):zM e a key c d b (f+1)=zM e a key c d b f++UN e a key c d b f:=by
 unfold zM;rw[cI,cE];simp
theorem Vw{f h:Nat->Nat->W6}{d e:Nat->Nat->Value}(j:∀g,g<i->f g k=h g k)(b:∀g,g<i->d g k=e g k):zM n m K k f d i=zM n m K k h e i:=by
 induction i with
 | zero=>rfl
 | succ i key =>
  rw[KG,KG,key (fun g l=>j g (by omega)) (fun g l=>b g (by omega))];unfold UN;rw[j i (by omega),b i (by omega)]
structure F5 (t:List W8) (X8 G P base:Nat) (w:W) (c k:Nat) (v:Value) (Qp:Nat->Nat->List W6) (Qm:Nat->Nat->W6) (Pv:Nat->Nat->Value):Prop where
 row:w.ownsRow base 261 8 v k (zM X8 G (ji t c).key c Qm Pv k)
 bb:∀g,g<k->w.ownsRow base 113 6 (Pv g c) (Qp g c).length (zt (ji t c).key g c (Qp g c))
 ok:∀g,g<k->V2 t (jl X8 G P g c) (Qp g c++[Qm g c])/\(Qp g c).length=qc (jv X8 G g) P
theorem F5.congr{b l:Nat->Nat->List W6}{r j:Nat->Nat->W6}{f h:Nat->Nat->Value}(d:F5 B n m k i w g c x b r f)(o:∀P,P<c->r P g=j P g)(p:∀P,P<c->f P g=h P g)(q:∀P,P<c->b P g=l P g):F5 B n m k i w g c x l j h:=by
 refine⟨?_,fun P a=>?_,fun P a=>?_⟩
 ·rw[<-Vw o p];exact d.row
 ·rw[<-p P a,<-q P a];exact d.bb P a
 ·rw[<-o P a,<-q P a];exact d.ok P a
variable{G:Nat->Nat->List W6}{O:Nat->Nat->W6}{P:Nat->Nat->Value}
theorem F5.br(d:F5 B n m k i w g c x G O P)
  (p:∀t b,w.ownsRow i 261 8 x t b->v.ownsRow i 261 8 x t b)(q:∀o t b,w.ownsRow i 113 6 o t b->v.ownsRow i 113 6 o t b):F5 B n m k i v g c x G O P :=
 ⟨p _ _ d.row,fun f r=>q _ _ _ (d.bb f r),d.ok⟩
structure D5 (t:List W8) (X8 G P n X7 p Kb:Nat) (H:List Value) (w0 w:W) (g c:Nat) (V:Nat->Value) (Qp:Nat->Nat->List W6) (Qm:Nat->Nat->W6) (Pv:Nat->Nat->Value):Prop where
 touch:P2 w0 w p X7
 a6:w.heap[X7]?=some (.cells (H++[R Kb n n]).toArray 120 (0,0))
 new:w0.heap.size<=Kb
 kb:w.heap[Kb]?=some (.cells ((List.range n).map V).toArray 258 (0,0))
 U:∀i,i<n->F5 t X8 G P w0.heap.size w i (if i<c then g+1 else g) (V i) Qp Qm Pv
 apart:∀i j,i<n->j<n->i≠j->(V i).ownBlock=none\/(V i).ownBlock≠(V j).ownBlock
def H0{α:Type}(b:Nat->α)(c:Nat)(d:α):Nat->α:=fun a=>if a=c then d else b a
def ZO{α:Type}(b:Nat->Nat->α)(g c:Nat)(d:α):Nat->Nat->α:=fun a j=>if a=g/\j=c then d else b a j
variable{T:Nat->Value}
theorem jbt(h:m<n):((List.range n).map T).set m x=(List.range n).map (H0 T m x):=by
 apply dS
 ·simp
 ·intro e f g;rw[List.getElem_set];simp only[ey,eh,H0];by_cases a:m=e
  ·rw[aQ a,aQ a.symm]
  ·rw[aL a,aL (fun d=>a d.symm)]
variable{H:List W6}
theorem D5.step{d y w w2:W}{d6 q gg gc:Nat}{v:W6}{o:Obj}
  (e:D5 B n m k i g c p C d y d6 q T G O P)(Z:q<i)(d1:qU y c s r)(ea:c<d.heap.size)(d8:g<d.heap.size)(dW:c≠g)
  (Qp:y.grownBy w (some c))(d0:w.ownsRow y.heap.size 113 6 x H.length (zt (ji B q).key d6 q H))(dv:V2 B (jl n m k d6 q) (H++[v]))(ds:H.length=qc (jv n m d6) k)
  (dT:w2.ownsRow d.heap.size 261 8 (R gg (d6+1) gc) (d6+1) (zM n m (ji B q).key q O P d6++[N ((jv n m d6:Nat):Int),x,S [77],N d6,N q,N 0,S (jX (ji B q).key v).1,S (jX (ji B q).key v).2]))
  (F:(w.alloc o).grownBy w2 (T q).ownBlock)(bX:(T q).ownBlock=some gg\/gg=(w.alloc o).heap.size) :
  D5 B n m k i g c p C d (w2.setCell (A p q) (R gg (d6+1) gc)) d6 (q+1) (H0 T q (R gg (d6+1) gc)) (ZO G d6 q H) (ZO O d6 q v) (ZO P d6 q x):=by
 have l:=e.U q Z;rw[aL (by omega)]at l;have ci:=l.row;have ap:=zU d1;have d2:=qM ci Qp ap (by decide);have be:=d2.alloc o
 have dl:∀b,(T q).ownBlock=some b->d.heap.size<=b:=fun b f=>(ci.lt b f).1;have ce:∀(b:Nat) (X:V') (M:TypeId),(w.alloc o).heap[b]?=some (.cells X M (0,0))->M≠261->w2.heap[b]?=some (.cells X M (0,0)):=fun b X M f hT=>jq F be f hT;have d3:=e.touch.size;have ec:=Qp.size;have da:p≠c:=by have:=e.new;omega
 have cs:p≠g:=by have:=e.new;omega
 have dr:=jm Qp e.kb da;have K:=ce p _ _ (jo o dr) (by decide);have d4:=jm Qp e.a6 (eW dW);have d5:=ce g _ _ (jo o d4) (by decide);have L:=qQ w2 p q (R gg (d6+1) gc);have t1:P2 d w c g:=e.touch.grown Qp (fun b f=>by cases f;exact .inl rfl);have tA:P2 d (w.alloc o) c g:=t1.grown (kR w o none) (fun b f=>by cases f);have t2:P2 d w2 c g:=tA.grown F (fun b f=>.inr (.inr (dl b f)));have t3:=t2.grown L (fun b f=>by cases f;exact .inr (.inr e.new));have co:∀bi i V,y.ownsRow d.heap.size 113 6 bi i V->(w2.setCell (A p q) (R gg (d6+1) gc)).ownsRow d.heap.size 113 6 bi i V:=by
  intro bi i V hu;have a1:=(qM hu Qp ap (by decide)).alloc o;exact qM (a1.kept F (qd a1 be (by decide))) L K (by decide)
 refine⟨t3,jm L d5 cs.symm,e.new,?_,?_,?_⟩
 ·rw[kj w2 p q _ _ _ K]
  congr 2;rw[<-jbt Z];simp
 ·intro a h;by_cases t:a=q
  ·subst t;rw[aQ (by omega)];refine⟨?_,fun z ac=>?_,fun z ac=>?_⟩
   ·simp only[H0,db];rw[KG];have e1:zM n m (ji B a).key a (ZO O d6 a v) (ZO P d6 a x) d6=zM n m (ji B a).key a O P d6:=Vw (fun z ac=>by simp[ZO];omega) (fun z ac=>by simp[ZO];omega);rw[e1];have e2:UN n m (ji B a).key a (ZO O d6 a v) (ZO P d6 a x) d6=[N ((jv n m d6:Nat):Int),x,S [77],N d6,N a,N 0,S (jX (ji B a).key v).1,S (jX (ji B a).key v).2]:=(by simp[UN,ZO]);rw[e2];exact qM dT L K (by decide)
   ·by_cases bv:z=d6
    ·subst bv;simp only[ZO,and_self,db];have a1:=(jQ d0 (show d.heap.size<=y.heap.size from d3)).alloc o;exact qM (a1.kept F (qd a1 be (by decide))) L K (by decide)
    ·have u:=l.bb z (by omega);simp only[ZO,bv,gW,dz];exact co _ _ _ u
   ·by_cases bv:z=d6
    ·subst bv;simp only[ZO,and_self,db];exact⟨dv,ds⟩
    ·simp only[ZO,bv,gW,dz];exact l.ok z (by omega)
  ·have dd:=e.U a h;have f:(if a<q+1 then d6+1 else d6)=(if a<q then d6+1 else d6):=by
    by_cases u:a<q
    ·rw[aQ u,aQ (by omega)]
    ·rw[aL u,aL (by omega)]
   rw[f];have hV:H0 T q (R gg (d6+1) gc) a=T a:=(by simp[H0,t]);rw[hV];refine(dd.br (fun i V hu=>?_) co).congr (fun z _=>by simp[ZO,t]) (fun z _=>by simp[ZO,t]) (fun z _=>by simp[ZO,t]);have a1:=(qM hu Qp ap (by decide)).alloc o;exact qM (a1.kept F (e.apart a q h Z t)) L K (by decide)
 ·intro a j h U d7;have cd:∀a,a<i->∀b,(T a).ownBlock=some b->b<y.heap.size:=fun a h b f=>((e.U a h).row.lt b f).2;by_cases t:a=q
  ·subst t;have D:H0 T a (R gg (d6+1) gc) j=T j:=(by simp[H0,eW d7]);have am:H0 T a (R gg (d6+1) gc) a=R gg (d6+1) gc:=(by simp[H0]);rw[D,am]
   right;show some gg≠_;rcases bX with E|rfl
   ·rw[<-E];rcases e.apart a j h U d7 with u|u
    ·rw[u]at E;cases E
    ·exact u
   ·intro Y;have:=cd j U _ Y.symm;simp at this;omega
  ·have am:H0 T q (R gg (d6+1) gc) a=T a:=(by simp[H0,t]);rw[am];by_cases b4:j=q
   ·subst b4;have D:H0 T j (R gg (d6+1) gc) j=R gg (d6+1) gc:=(by simp[H0]);rw[D];show _\/_≠some gg;rcases bX with E|rfl
    ·rw[<-E];exact e.apart a j h U d7
    ·right;intro Y;have:=cd a h _ Y;simp at this;omega
   ·have D:H0 T q (R gg (d6+1) gc) j=T j:=(by simp[H0,b4]);rw[D];exact e.apart a j h U d7
theorem D5.next(a:D5 B n m k i g c p C w v h i T G O P):D5 B n m k i g c p C w v (h+1) 0 T G O P :=
 ⟨a.touch,a.a6,a.new,a.kb,fun q l=>by have:=a.U q l;rw[aQ l]at this;rw[aL (by omega)];exact this,a.apart⟩
theorem D5.j{t:List W8}{X8 G P n m p h:Nat}{q e o:W}{g c:Nat}{l:Nat->Value}{k:Nat->Nat->List W6}{j:Nat->Nat->W6}{i:Nat->Nat->Value}(a:D5 t X8 G P n m p h C q e g c l k j i)(b:Below e.heap.size e o):D5 t X8 G P n m p h C q o g c l k j i :=
 ⟨a.touch.j b,jd b a.a6,a.new,jd b a.kb,fun s r=>(a.U s r).br (fun n u d=>jy d b) (fun v n u d=>jy d b),a.apart⟩
theorem Vq{d:List V1}{rest q:B8}{a:List W6}(j:V2 B L H)(g:V2 B (L++d) a)(f:jw B L H++rest=jw B (L++d) a++q) :
  ∃b,a=H++b/\V2 B d b/\rest=jw B d b++q:=by
 induction j using V2.ind generalizing a with
 | nil=>exact⟨a,rfl,g,by simpa[jw]using f⟩
 | cons o _ r =>
  cases g using V2.ind with
  | cons p k =>
   simp only[bF,jw,aD]at f;obtain⟨h,i⟩:=Ze o p f;obtain⟨b,l,m,n⟩:=r k i;exact⟨b,by rw[h,l];rfl,m,n⟩
def LS(b a P n d c:Nat):List V1:=jM b n a P d++jp b a P d c
def MS(b:Nat->Nat->List W6)(a:Nat->Nat->W6)(n d c:Nat):List W6:=xH (fun g c=>b g c++[a g c]) n d++xU (fun g c=>b g c++[a g c]) d c
theorem EL{X8 G P n a c:Nat}(l:a<qc X8 G)(k:c<n):∃e,jR X8 n G P=LS X8 G P n a c++(jl X8 G P a c++e):=by
 obtain⟨b,i⟩:∃b,qc X8 G=a+1+b:=⟨qc X8 G-(a+1),by omega⟩;obtain⟨d,j⟩:∃d,n=c+1+d:=⟨n-(c+1),by omega⟩;have f:jR X8 n G P=jM X8 n G P (a+1)++((List.range b).map (a+1+·)).flatMap (fun g=>jp X8 G P g n):=by
  unfold jR;rw[i];unfold jM;rw[gl,cE]
 have h:jp X8 G P a n=jp X8 G P a (c+1)++((List.range d).map (c+1+·)).flatMap (fun c=>jl X8 G P a c):=by
  rw[j];unfold jp;rw[gl,cE]
 rw[f,JU,h,JA];unfold LS;simp only[aD];exact⟨_,rfl⟩
theorem LZ(b a P n d c:Nat):LS b a P n d (c+1)=LS b a P n d c++jl b a P d c:=by
 unfold LS;rw[JA,aD]
theorem Dp(b a P n c:Nat):LS b a P n c n=LS b a P n (c+1) 0:=by
 unfold LS;rw[JU];simp[jp]
theorem LO(b:Nat->Nat->List W6)(a:Nat->Nat->W6)(n c:Nat):MS b a n c n=MS b a n (c+1) 0:=by
 unfold MS;rw[XS];simp[xU]
theorem LW(b a P n:Nat):LS b a P n 0 0=[]:=by simp[LS,jM,jp]
theorem Bo(b:Nat->Nat->List W6)(a:Nat->Nat->W6)(n:Nat):MS b a n 0 0=[]:=by simp[MS,xH,xU]
theorem jey(b a P n:Nat):LS b a P n (qc b a) 0=jR b n a P:=by simp[LS,jR,jp]
theorem jds(b:Nat->Nat->List W6)(a:Nat->Nat->W6)(n d:Nat):MS b a n d 0=xH (fun g c=>b g c++[a g c]) n d:=by simp[MS,xU]
theorem Vv{d b:Nat->Nat->List W6}{g:Nat}:∀{c:Nat},(∀a,a<c->d g a=b g a)->xU d g c=xU b g c:=by
 intro c
 induction c with
 | zero=>intro _;rfl
 | succ c f=>intro e;rw[Qg,Qg,f (fun a h=>e a (by omega)),e c (by omega)]
theorem DS{d c:Nat->Nat->List W6}{n:Nat}:∀{a:Nat},(∀g,g<a->∀b,b<n->d g b=c g b)->xH d n a=xH c n a:=by
 intro a
 induction a with
 | zero=>intro _;rfl
 | succ a f=>intro e;rw[XS,XS,f (fun g h=>e g (by omega)),Vv (e a (by omega))]
theorem WH{d:Nat->Nat->List W6}{b:Nat->Nat->W6}{n a c:Nat}{h:List W6}{f:W6}:MS (ZO d a c h) (ZO b a c f) n a (c+1)=MS d b n a c++(h++[f]):=by
 unfold MS;rw[Qg,<-aD];have j:xH (fun g e=>ZO d a c h g e++[ZO b a c f g e]) n a=xH (fun g c=>d g c++[b g c]) n a:=DS (fun g l i _=>by
  have:¬(g=a/\i=c):=by omega
  simp only[ZO,aL this])
 have k:xU (fun g e=>ZO d a c h g e++[ZO b a c f g e]) a c=xU (fun g c=>d g c++[b g c]) a c:=Vv (fun i m=>by
  have:i≠c:=by omega
  simp[ZO,this])
 rw[j,k];simp[ZO]
theorem jdg(b:c<=i)(j:∀a,a<i->∀P,P<(if a<c then g+1 else g)->V2 B (jl n m k P a) (G P a++[O P a])):V2 B (LS n m k i g c) (MS G O i g c):=by
 refine(Rz (fun P l a d=>j a d P ?_)).append (Kh (fun a d=>j a (by omega) g ?_))
 ·split<;>omega
 ·rw[aQ d];omega
theorem jbi(b a P n d c:Nat):qS true (LS b a P n d c)=true:=by
 unfold LS;rw[JI,Ui,Zf]
theorem Fj(f:V2 B (LS n m k i g c) H):(jK B 4 true (LS n m k i g c) H).length=g*i+c:=by
 rw[KD ⟨[],⟨0,0,0,false⟩,[],0⟩ [] _ _ _ _ ⟨[],[]⟩ (xj f)];unfold LS;rw[Jz,aB,QL,Ui,Zr]
theorem Ez{e f:List W6}(P:V2 B (LS n m k i g c) e)(h:f.length=(jl n m k g c).length) :
  jK B 4 true (LS n m k i g c++jl n m k g c) (e++f)=jK B 4 true (LS n m k i g c) e++[4+(jw B (LS n m k i g c) e).length]:=by
 rw[QV _ _ _ _ _ _ (xj P),jbi,RG h]
theorem WK{rk:B8}(r:g<qc n m)(p:c<i)(l:V2 B (LS n m k i g c) H)(s:∀H q,V2 B (jl n m k g c) H->rk≠jw B (jl n m k g c) H++q) :
  ∀f q,V2 B (jR n i m k) f->jw B (LS n m k i g c) H++rk≠jw B (jR n i m k) f++q:=by
 intro f q j b;obtain⟨u,o⟩:=EL (X8:=n) (P:=k) r p;rw[o]at j b;obtain⟨v,rfl,P,h⟩:=Vq l j b;obtain⟨d,w,rfl,t,x⟩:=Il P;rw[Qi _ _ _ _ (xj t),aD]at h;exact s d _ t h
theorem Oy{rk:B8}{pl:List Nat}(p:g<qc n m)(o:c<i)(f:V2 B (LS n m k i g c) H)(d:g*i+c<pl.length)(s:pl[g*i+c]≠4+(jw B (LS n m k i g c) H).length) :
  ∀e q,V2 B (jR n i m k) e->jw B (LS n m k i g c) H++rk=jw B (jR n i m k) e++q->pl≠jK B 4 true (jR n i m k) e:=by
 intro e q b t h;obtain⟨u,P⟩:=EL (X8:=n) (P:=k) p o;rw[P]at b t h;obtain⟨v,rfl,l,y⟩:=Vq f b t;obtain⟨w,x,rfl,j,z⟩:=Il l;rw[<-aD,<-aD,QV _ _ _ _ _ _ (xj (f.append j)),Ez f (xj j),aD]at h;apply s;have r:=Fj f;subst h;rw[dA (by omega)];simp[r]
end Go.Proofs.YthhpbhpfagoapaaGreat
