import Derived.Test.YthhpbhpfagoapaaGreatGAH
import Derived.Laws.EntriesVeiled
import Derived.Deep.AppendLies
namespace Go.Proofs.YthhpbhpfagoapaaGreat
set_option linter.all false
set_option maxRecDepth 100000
set_option maxHeartbeats 16000000
open Go.RowKit
abbrev V4(a:Nat):Value:=.func (.func a) #[] #[]
abbrev G6(g:Nat):Value:=.agg #[R g 3 3,V4 187,V4 188,V4 189,V4 190,V4 191,V4 192]
abbrev K9(g:Nat):Value:=.agg #[R g 3 3,V4 202,V4 203,V4 204,V4 205,V4 206,V4 207]
def E7(a:W)(g:Nat):Prop:=a.heap[g]?=some (.cells #[.int .u8 0,V4 181,V4 182,.int .u8 1,V4 183,V4 184,.int .u8 2,V4 185,V4 186] 274 (0,0))
def D7(a:W)(g:Nat):Prop:=a.heap[g]?=some (.cells #[.int .u8 0,V4 196,V4 197,.int .u8 3,V4 198,V4 199,.int .u8 4,V4 200,V4 201] 281 (0,0))
variable{u v w:W}
theorem E7.j{g:Nat}(c:E7 w g)(e:g<w.heap.size)(d:Below w.heap.size w v):E7 v g:=(d.block g e).trans c
theorem D7.j{g:Nat}(c:D7 w g)(e:g<w.heap.size)(d:Below w.heap.size w v):D7 v g:=(d.block g e).trans c
theorem Ye(a:W) :
  C' 125 #[] a fun c b=>∃g,c=.returned (G6 g)/\g<b.heap.size/\E7 b g/\Below a.heap.size a b:=by
 go_enter Tryz.func125,Tryz.ntmps125;go_wp2;refine kk (v:=G6 (a.heap.size+1)) (by simp[results,Tryz.results125,go_sem]) rfl ⟨a.heap.size+1,rfl,by simp,?_,((k8 _ _).alloc (aA _) _).alloc (by simp) _⟩;have:=kH (a.alloc (Obj.cells #[R (a.heap.size+1) 3 3,V4 187,V4 188,V4 189,V4 190,V4 191,V4 192] 215)) (Obj.cells #[.int .u8 0,V4 181,V4 182,.int .u8 1,V4 183,V4 184,.int .u8 2,V4 185,V4 186] 274);simpa[E7]using this
theorem AP(a:W) :
  C' 127 #[] a fun c b=>∃g,c=.returned (K9 g)/\g<b.heap.size/\D7 b g/\Below a.heap.size a b:=by
 go_enter Tryz.func127,Tryz.ntmps127;go_wp2;refine kk (v:=K9 (a.heap.size+1)) (by simp[results,Tryz.results127,go_sem]) rfl ⟨a.heap.size+1,rfl,by simp,?_,((k8 _ _).alloc (aA _) _).alloc (by simp) _⟩;have:=kH (a.alloc (Obj.cells #[R (a.heap.size+1) 3 3,V4 202,V4 203,V4 204,V4 205,V4 206,V4 207] 225)) (Obj.cells #[.int .u8 0,V4 196,V4 197,.int .u8 3,V4 198,V4 199,.int .u8 4,V4 200,V4 201] 281);simpa[D7]using this
structure Small (l:List Z9):Prop where
 small:∀c∈l,qI c
 ao:l.length<=60
 some_:l≠[]
structure T7 (w:W) (b:Nat) (l:List Z9):Prop where
 lt:b<w.heap.size
 cell:∀j (h:j<l.length),w.cell? (A b j)=some (N (l[j]).int)
structure U7 (w:W) (b:Nat) (l:List Z9):Prop where
 lt:b<w.heap.size
 cell:∀j (h:j<l.length),w.cell? (A b j)=some (S (l[j]).text)
variable{c g i k m n:Nat}
theorem T7.j{c e:W}{l:List Z9}(b:T7 c n l)(d:Below c.heap.size c e):T7 e n l :=
 ⟨aC b.lt d.size,fun j f=>(d.cell (p:=A n j) b.lt).trans (b.cell j f)⟩
theorem U7.j{c e:W}{l:List Z9}(b:U7 c n l)(d:Below c.heap.size c e):U7 e n l :=
 ⟨aC b.lt d.size,fun j f=>(d.cell (p:=A n j) b.lt).trans (b.cell j f)⟩
theorem Qr(a:W)(b:V')(t:TypeId):Below a.heap.size a (a.alloc (.cells b t))/\(a.alloc (.cells b t)).heap.size=a.heap.size+1/\∀j,(a.alloc (.cells b t)).cell? (A a.heap.size j)=b[j]? :=
 ⟨(k8 _ _).alloc (aA _) _,by simp,fun j=>kF ..⟩
theorem Vg(a t:B8):jY a t=jY t a:=by
 induction a generalizing t with
 | nil=>cases t<;>rfl
 | cons c a f =>
  cases t with
  | nil=>rfl
  | cons d t =>
   simp only[jY];rw[f t];by_cases b:c=d
   ·simp[b]
   ·rw[aL b,aL (fun e=>b e.symm)]
theorem jfq(g x Y:Nat)(a:List Z9)(d:W)(s:Small a)(E:T7 d x a) :
  C' 181 #[G6 g,R x a.length Y] d fun k w'=>k=.returned (S (qT 0 a))/\Below d.heap.size d w':=by
 obtain⟨i0,hi,bX,b4,cd⟩:=ks Tryz.ar;have j:=I s;have U:=I E;have hn:=s.ao;clear s E;go_enter Tryz.func181,Tryz.ntmps181;go_wp2;obtain⟨m,H,B⟩:=Qr d #[R g 3 3,V4 187,V4 188,V4 189,V4 190,V4 191,V4 192] 215;have z:_=some (V4 189):=B 3;have V:=I (U.o.j m);have w:=I m;have T:=I z;have bv:=bE (bG d.heap.size) H.symm;clear B z m H;generalize d.alloc _=h at *;go_loopw [5,10] (fun v t wr=>∃(c:List (B8)) (b:Nat),b<=a.length/\t=N b/\c.length=b/\wr.ownsRow h.heap.size 9 1 v b (Jk c)/\c.flatten=jN 0 a b/\Below h.heap.size h wr)
  (fun _ t _=>a.length-(intOf t).toNat)
 case atStart=>exact⟨[],0,aG _,rfl,rfl,kg _ _ _ _,rfl,k8 _ _⟩
 case round =>
  obtain⟨c,b,ce,rfl,bi,o,C,e⟩:=hrel;have i:=I C;clear C;have ci:=xS 0 a j.o.small hn b;by_cases n:b<a.length
  ·have am:=(V.o.j e).cell b n;have ac:=(e.cell (p:=A d.heap.size 3) bv).trans T.o;have K:=j.o.small a[b] (aJ n);have P:J (xi 0 a b=bB (a[b]).int):=by
    show xi 0 a b=_;simp only[xi,qy a b n]
   go_wp2_with fail;refine(Fs (a[b]).int _ K.1 K.2.1).mono ?_;rintro k M ⟨rfl,f⟩;have r:=ju o f;have l:=e.trans (f.mono e.size);clear o f e am ac;generalize bB (a[b]).int=q at *;go_wp2_with(at_builtin;refine ko _ rfl (.tmp 14) (.tmp 19) 71 rfl h.heap.size 9 i0 (.string ⟨#[]⟩) 1 16 Tryz.underlying71 hi bX b4 cd rfl (by decide) _ _ _ rfl (r.alloc _) (A _ 0) 1 1 [S q] rfl rfl ?c1 ?c2 ?c3 ?c4 ?c5 ?_)
   case c1=>exact qr M #[S q] 9
   case c2=>intro u L;simp at L;subst L;rfl
   case c3=>unfold maxLen;omega
   case c4=>omega
   case c5=>have:=l.size;simp;omega
   intro v3 w3 F D _;have u:=I (XR (qs:=[q]) _ rfl l r F D);clear r F D l;go_wp2;go_roundw
   ·exact⟨c++[q],b+1,by omega,by go_num,by simp;omega,u.o.1,by rw[cT,i.o,jN,P.o];simp,u.o.2⟩
   ·simp[intOf];omega
  ·have be:b=a.length:=(by omega);subst be;have G:c≠[]:=by
    intro Z;subst Z;exact j.o.some_ (aO bi.symm)
   have O:J (c.flatten=qT 0 a):=by
    show c.flatten=qT 0 a;rw[i.o];simp[qT]
   have ap:c.flatten.length<=1000000:=(by rw[i.o];omega);have X:=I G;clear G;go_wp2_with fail;refine(ZQ c h.heap.size a.length _ _ o X.o (by omega) ap).mono ?_;rintro k M ⟨rfl,f⟩;go_wp2;go_ret;have hz:=w.o.size;have y:=w.o.trans (e.mono hz);exact⟨qH O.o,y.trans (f.mono y.size)⟩
theorem jdi(g x X:Nat)(a:List Z9)(d:W)(s:Small a)(E:U7 d x a) :
  C' 196 #[K9 g,R x a.length X] d fun k w'=>k=.returned (S (qT 5 a))/\Below d.heap.size d w':=by
 obtain⟨i0,hi,bX,b4,cd⟩:=ks Tryz.ar;have j:=I s;have T:=I E;have hn:=s.ao;clear s E;go_enter Tryz.func196,Tryz.ntmps196;go_wp2;obtain⟨m,H,B⟩:=Qr d #[R g 3 3,V4 202,V4 203,V4 204,V4 205,V4 206,V4 207] 225;have z:_=some (V4 204):=B 3;have U:=I (T.o.j m);have w:=I m;have P:=I z;have bi:=bE (bG d.heap.size) H.symm;clear B z m H;generalize d.alloc _=h at *;go_loopw [5,10] (fun v t wr=>∃(c:List (B8)) (b:Nat),b<=a.length/\t=N b/\c.length=b/\wr.ownsRow h.heap.size 9 1 v b (Jk c)/\c.flatten=jN 5 a b/\Below h.heap.size h wr)
  (fun _ t _=>a.length-(intOf t).toNat)
 case atStart=>exact⟨[],0,aG _,rfl,rfl,kg _ _ _ _,rfl,k8 _ _⟩
 case round =>
  obtain⟨c,b,ce,rfl,be,o,C,e⟩:=hrel;have i:=I C;clear C;have ci:=xS 5 a j.o.small hn b;by_cases n:b<a.length
  ·have ac:=(U.o.j e).cell b n;have Z:=(e.cell (p:=A d.heap.size 3) bi).trans P.o;have bv:=j.o.small a[b] (aJ n);have O:J (xi 5 a b=xB (a[b]).text):=by
    show xi 5 a b=_;simp only[xi,qy a b n]
   go_wp2_with fail;refine(Np (a[b]).text _ (by have:=bv.2.2;omega)).mono ?_;rintro k L ⟨rfl,f⟩;have r:=ju o f;have l:=e.trans (f.mono e.size);clear o f e ac Z;generalize xB (a[b]).text=q at *;go_wp2_with(at_builtin;refine ko _ rfl (.tmp 14) (.tmp 19) 71 rfl h.heap.size 9 i0 (.string ⟨#[]⟩) 1 16 Tryz.underlying71 hi bX b4 cd rfl (by decide) _ _ _ rfl (r.alloc _) (A _ 0) 1 1 [S q] rfl rfl ?c1 ?c2 ?c3 ?c4 ?c5 ?_)
   case c1=>exact qr L #[S q] 9
   case c2=>intro u K;simp at K;subst K;rfl
   case c3=>unfold maxLen;omega
   case c4=>omega
   case c5=>have:=l.size;simp;omega
   intro v3 w3 F D _;have u:=I (XR (qs:=[q]) _ rfl l r F D);clear r F D l;go_wp2;go_roundw
   ·exact⟨c++[q],b+1,by omega,by go_num,by simp;omega,u.o.1,by rw[cT,i.o,jN,O.o];simp,u.o.2⟩
   ·simp[intOf];omega
  ·have ap:b=a.length:=(by omega);subst ap;have G:c≠[]:=by
    intro Y;subst Y;exact j.o.some_ (aO be.symm)
   have M:J (c.flatten=qT 5 a):=by
    show c.flatten=qT 5 a;rw[i.o];simp[qT]
   have am:c.flatten.length<=1000000:=(by rw[i.o];omega);have V:=I G;clear G;go_wp2_with fail;refine(ZQ c h.heap.size a.length _ _ o V.o (by omega) am).mono ?_;rintro k L ⟨rfl,f⟩;go_wp2;go_ret;have hz:=w.o.size;have y:=w.o.trans (e.mono hz);exact⟨qH M.o,y.trans (f.mono y.size)⟩
theorem jel(g x am:Nat)(a:List Z9)(d:W)(s:Small a)(E:T7 d x a) :
  C' 183 #[G6 g,R x a.length am] d fun l w'=>l=.returned (S (qT 1 a))/\Below d.heap.size d w':=by
 obtain⟨i0,hi,cd,ce,ci⟩:=ks Tryz.ar;have i:=I s;have Y:=I E;have hn:=s.ao;clear s E;go_enter Tryz.func183,Tryz.ntmps183;go_wp2;obtain⟨n,K,B⟩:=Qr d #[R g 3 3,V4 187,V4 188,V4 189,V4 190,V4 191,V4 192] 215;have z:_=some (V4 191):=B 5;have Z:=I (Y.o.j n);have w:=I n;have X:=I z;have b4:=bE (bG d.heap.size) K.symm;clear B z n K;generalize d.alloc _=h at *;go_loopw [5,6,11] (fun v O t wr=>∃(c:List (B8)) (b:Nat),b<=a.length/\t=N b/\O=N (qm a b).int/\c.length=b/\wr.ownsRow h.heap.size 9 1 v b (Jk c)/\c.flatten=jN 1 a b/\Below h.heap.size h wr)
  (fun _ _ t _=>a.length-(intOf t).toNat)
 case atStart=>exact⟨[],0,aG _,rfl,rfl,rfl,kg _ _ _ _,rfl,k8 _ _⟩
 case round =>
  obtain⟨c,b,co,rfl,rfl,bX,o,C,e⟩:=hrel;have k:=I C;clear C;have cs:=xS 1 a i.o.small hn b;by_cases j:b<a.length
  ·have be:=(Z.o.j e).cell b j;have ap:=(e.cell (p:=A d.heap.size 5) b4).trans X.o;have L:=i.o.small a[b] (aJ j);have G:=QF a i.o.small b;have U:J (qm a (b+1)=a[b]):=by
    show qm a (b+1)=a[b];unfold qm;rw[aL (by omega)];exact qy a b j
   have V:J (xi 1 a b=zB (wrap64 ((a[b]).int-(qm a b).int))):=by
    show xi 1 a b=_;simp only[xi,qy a b j]
   go_wp2_with fail;refine(RV (qm a b).int (a[b]).int _ G.1 G.2.1 L.1 L.2.1).mono ?_;rintro l P ⟨rfl,f⟩;have r:=ju o f;have m:=e.trans (f.mono e.size);clear o f e be ap;generalize zB (wrap64 ((a[b]).int-(qm a b).int))=q at *;go_wp2_with(at_builtin;refine ko _ rfl (.tmp 15) (.tmp 21) 71 rfl h.heap.size 9 i0 (.string ⟨#[]⟩) 1 16 Tryz.underlying71 hi cd ce ci rfl (by decide) _ _ _ rfl (r.alloc _) (A _ 0) 1 1 [S q] rfl rfl ?c1 ?c2 ?c3 ?c4 ?c5 ?_)
   case c1=>exact qr P #[S q] 9
   case c2=>intro O M;simp at M;subst M;rfl
   case c3=>unfold maxLen;omega
   case c4=>omega
   case c5=>have:=m.size;simp;omega
   intro v3 w3 F D _;have u:=I (XR (qs:=[q]) _ rfl m r F D);clear r F D m;go_wp2;go_roundw
   ·exact⟨c++[q],b+1,by omega,by go_num,by rw[U.o],by simp;omega,u.o.1,by rw[cT,k.o,jN,V.o];simp,u.o.2⟩
   ·simp[intOf];omega
  ·have bv:b=a.length:=(by omega);subst bv;have H:c≠[]:=by
    intro h;subst h;exact i.o.some_ (aO bX.symm)
   have T:J (c.flatten=qT 1 a):=by
    show c.flatten=qT 1 a;rw[k.o];simp[qT]
   have bi:c.flatten.length<=1000000:=(by rw[k.o];omega);have ac:=I H;clear H;go_wp2_with fail;refine(ZQ c h.heap.size a.length _ _ o ac.o (by omega) bi).mono ?_;rintro l P ⟨rfl,f⟩;go_wp2;go_ret;have hz:=w.o.size;have y:=w.o.trans (e.mono hz);exact⟨qH T.o,y.trans (f.mono y.size)⟩
theorem jea(g x Z:Nat)(a:List Z9)(d:W)(s:Small a)(E:U7 d x a) :
  C' 200 #[K9 g,R x a.length Z] d fun l w'=>l=.returned (S (qT 4 a))/\Below d.heap.size d w':=by
 obtain⟨i0,hi,cd,ce,ci⟩:=ks Tryz.ar;have i:=I s;have V:=I E;have hn:=s.ao;clear s E;go_enter Tryz.func200,Tryz.ntmps200;go_wp2;obtain⟨n,H,B⟩:=Qr d #[R g 3 3,V4 202,V4 203,V4 204,V4 205,V4 206,V4 207] 225;have z:_=some (V4 206):=B 5;have X:=I (V.o.j n);have w:=I n;have U:=I z;have bX:=bE (bG d.heap.size) H.symm;clear B z n H;generalize d.alloc _=h at *;go_loopw [5,6,11] (fun v L t wr=>∃(c:List (B8)) (b:Nat),b<=a.length/\t=N b/\L=S (qm a b).text/\c.length=b/\wr.ownsRow h.heap.size 9 1 v b (Jk c)/\c.flatten=jN 4 a b/\Below h.heap.size h wr)
  (fun _ _ t _=>a.length-(intOf t).toNat)
 case atStart=>exact⟨[],0,aG _,rfl,rfl,rfl,kg _ _ _ _,rfl,k8 _ _⟩
 case round =>
  obtain⟨c,b,co,rfl,rfl,bi,o,C,e⟩:=hrel;have k:=I C;clear C;have cs:=xS 4 a i.o.small hn b;by_cases j:b<a.length
  ·have am:=(X.o.j e).cell b j;have ac:=(e.cell (p:=A d.heap.size 5) bX).trans U.o;have b4:=i.o.small a[b] (aJ j);have bv:=QF a i.o.small b;have P:J (qm a (b+1)=a[b]):=by
    show qm a (b+1)=a[b];unfold qm;rw[aL (by omega)];exact qy a b j
   have T:J (xi 4 a b=uB (jY (qm a b).text (a[b]).text)++xB ((a[b]).text.drop (jY (qm a b).text (a[b]).text))):=by
    show xi 4 a b=_;simp only[xi,qy a b j,Vg (qm a b).text]
   go_wp2_with fail;refine(Ma (qm a b).text (a[b]).text _ bv.2.2 b4.2.2).mono ?_;rintro l M ⟨rfl,f⟩;have r:=ju o f;have m:=e.trans (f.mono e.size);clear o f e am ac;generalize uB (jY (qm a b).text (a[b]).text)++xB ((a[b]).text.drop (jY (qm a b).text (a[b]).text))=q at *;go_wp2_with(at_builtin;refine ko _ rfl (.tmp 15) (.tmp 21) 71 rfl h.heap.size 9 i0 (.string ⟨#[]⟩) 1 16 Tryz.underlying71 hi cd ce ci rfl (by decide) _ _ _ rfl (r.alloc _) (A _ 0) 1 1 [S q] rfl rfl ?c1 ?c2 ?c3 ?c4 ?c5 ?_)
   case c1=>exact qr M #[S q] 9
   case c2=>intro L K;simp at K;subst K;rfl
   case c3=>unfold maxLen;omega
   case c4=>omega
   case c5=>have:=m.size;simp;omega
   intro v3 w3 F D _;have u:=I (XR (qs:=[q]) _ rfl m r F D);clear r F D m;go_wp2;go_roundw
   ·exact⟨c++[q],b+1,by omega,by go_num,by rw[P.o],by simp;omega,u.o.1,by rw[cT,k.o,jN,T.o];simp,u.o.2⟩
   ·simp[intOf];omega
  ·have be:b=a.length:=(by omega);subst be;have G:c≠[]:=by
    intro h;subst h;exact i.o.some_ (aO bi.symm)
   have O:J (c.flatten=qT 4 a):=by
    show c.flatten=qT 4 a;rw[k.o];simp[qT]
   have ap:c.flatten.length<=1000000:=(by rw[k.o];omega);have Y:=I G;clear G;go_wp2_with fail;refine(ZQ c h.heap.size a.length _ _ o Y.o (by omega) ap).mono ?_;rintro l M ⟨rfl,f⟩;go_wp2;go_ret;have hz:=w.o.size;have y:=w.o.trans (e.mono hz);exact⟨qH O.o,y.trans (f.mono y.size)⟩
def Ci(b:List Z9)(a:Nat):Prop:=a=0\/b.length<=a\/(zP b a).int≠(qm b a).int
theorem YX(b:List Z9)(a:Nat)(c:a<b.length):QC (b[a]).int (b.drop a)=QC (b[a]).int (b.drop (a+1))+1:=by
 rw[bK c];simp[QC]
theorem YY(b:List Z9)(a j:Nat)(f:a<b.length)(e:j<QC (b[a]).int (b.drop a)):(zP b (a+j)).int=(b[a]).int:=by
 obtain⟨d,c⟩:=YW _ _ j e;rw[bZ]at c;rw[aP]at d;rw[qy b (a+j) (by omega)];exact c
theorem Ir(b:List Z9)(a:Nat)(c:a<b.length)(k:Ci b a):∀j,0<j->j<=QC (b[a]).int (b.drop a) ->
  jN 2 b (a+j)=jN 2 b a++(uB (QC (b[a]).int (b.drop a))++zB (b[a]).int):=by
 intro j
 induction j with
 | zero=>intro d;omega
 | succ j l =>
  intro _ m;rcases dH j with d|d
  ·subst d;rw[dh,jN]
   congr 1;have:a=0\/(zP b a).int≠(qm b a).int:=by
    rcases k with e|e|e
    ·exact .inl e
    ·omega
    ·exact .inr e
   simp only[xi];rw[aQ this,qy b a c,YX b a c]
  ·have g:=YY b a j c (by omega);have h:=YY b a (j-1) c (by omega);have i:qm b (a+j)=zP b (a+(j-1)):=by
    unfold qm;rw[aL (by omega)]
    congr 1;omega
   rw[<-dq,jN,l d (by omega)];have:xi 2 b (a+j)=[]:=by
    simp only[xi];rw[aL];intro f;rcases f with f|f
    ·omega
    ·apply f;rw[g,i,h]
   rw[this,aT]
theorem Ti(a:List Z9)(b:Nat)(c:b<a.length):Ci a (b+QC (a[b]).int (a.drop b)):=by
 by_cases g:a.length<=b+QC (a[b]).int (a.drop b)
 ·exact .inr (.inl g)
 ·have d:=Nc (a[b]).int (a.drop b) (by rw[aP];omega);rw[bZ]at d;have h:=YX a b c;have e:=YY a b (QC (a[b]).int (a.drop b)-1) c (by omega);refine .inr (.inr ?_);have f:qm a (b+QC (a[b]).int (a.drop b))=zP a (b+(QC (a[b]).int (a.drop b)-1)):=by
   unfold qm;rw[aL (by omega)]
   congr 1;omega
  rw[f,e,qy a _ (by omega)];exact d
theorem RH(n:Int)(a:-9223372036854775808<=n)(b:n<=9223372036854775807):wrap64 (n-0)=n:=by
 unfold wrap64;omega
theorem Oe(v:Int)(a:W)(b:-9223372036854775808<=v)(c:v<=9223372036854775807) :
  C' 191 #[N 0,N v] a fun d e=>d=.returned (S (zB v))/\Below a.heap.size a e:=by
 have:=RV 0 v a (by decide) (by decide) b c;rw[RH v b c]at this;exact this
variable{x y:Value}
theorem jf{b:Addr}(o:Obj)(c:w.cell? b=some x):(w.alloc o).cell? b=some x:=by
 exact(World.cell?_alloc_lt w o b (aZ w _ c)).trans c
variable{C:List Value}
theorem Je{a:Addr}(c:w.grownBy v x.ownBlock)(b:w.ownsRow n m k x i C)(e:w.cell? a=some y)(g:a.block<n):v.cell? a=some y:=by
 have j:some a.block≠x.ownBlock:=by
  intro h;have:=(b.lt a.block h.symm).1;omega
 exact(c.cell_far a (aZ w _ e) j).trans e
theorem jfp(g h d5:Nat)(b:List Z9)(e:W)(Y:Small b)(hl:T7 e h b) :
  C' 185 #[G6 g,R h b.length d5] e fun z E=>z=.returned (S (qT 2 b))/\Below e.heap.size e E:=by
 obtain⟨i0,hi,e1,e2,e3⟩:=ks Tryz.ar;have K:=I Y;have Hl:=I hl;have hn:=Y.ao;clear Y hl;go_enter Tryz.func185,Tryz.ntmps185;go_wp2;obtain⟨M,dl,bv⟩:=Qr e #[R g 3 3,V4 187,V4 188,V4 189,V4 190,V4 191,V4 192] 215;have hc:_=some (V4 191):=bv 5;have y:=I (Hl.o.j M);have ac:=I M;have Hc:=I hc;have D:=bE (bG e.heap.size) dl.symm;clear bv hc M dl;generalize e.alloc _=x at *;go_loopw [5,7] (fun v n wr=>∃(d:List (B8)) (a:Nat),a<=b.length/\n=N a/\d.length<=2*a/\(0<a->d≠[])/\wr.ownsRow x.heap.size 9 1 v d.length (Jk d)/\d.flatten=jN 2 b a/\Ci b a/\Below x.heap.size x wr)
  (fun _ n _=>b.length-(intOf n).toNat)
 case atStart=>exact⟨[],0,aG _,rfl,aG _,fun h=>absurd h (Nat.lt_irrefl _),kg _ _ _ _,rfl,.inl rfl,k8 _ _⟩
 case round =>
  obtain⟨d,a,e6,rfl,e7,da,X,b4,dd,i⟩:=hrel;have H:=I b4;have d3:=I da;have d4:=I dd;clear b4 da dd;have fa:=xS 2 b K.o.small hn a;by_cases u:a<b.length
  ·obtain⟨o,rfl⟩:∃o,o=wr:=⟨_,rfl⟩;have em:(a:Int)<(b.length:Int):=(by omega);have am:=I (y.o.j i).cell;have T:=(y.o.j i).cell a u;have s:=(y.o.j i).lt;have d0:=I y.o.lt;have bX:=(i.cell (p:=A e.heap.size 5) D).trans Hc.o;have eR:=K.o.small b[a] (aJ u);obtain⟨eS,e0,_⟩:=eR;have dW:=I (Ir b a u d4.o);have ds:=I (Ti b a u);have dv:=I (YW (b[a]).int (b.drop a));have dT:=I (Nc (b[a]).int (b.drop a));have eM:=YX b a u;have eP:0<QC (b[a]).int (b.drop a):=(by omega);have eC:=NF (b[a]).int (b.drop a);rw[aP]at eC;clear eM;generalize QC (b[a]).int (b.drop a)=Z at *;generalize (b[a]).int=f at *;go_wp2_with fail;go_loopw [8] (fun n wi=>∃c:Nat,c<=Z/\n=N ((a+c:Nat):Int)/\Below o.heap.size o wi) (fun n _=>100-(intOf n).toNat)
   case atStart=>exact⟨0,aG _,rfl,k8 _ _⟩
   case round =>
    obtain⟨c,hm,rfl,l⟩:=hrel;have d8:=(l.cell (p:=A h a) s).trans T;by_cases es:c<Z
    ·have eq:a+c<b.length:=(by omega);have g1:=(l.cell (p:=A h (a+c)) s).trans (am.o (a+c) eq);have V:(b[a+c]).int=f:=by
      obtain⟨_,r⟩:=dv.o c es;rw[bZ]at r;exact r
     rw[V]at g1;have ce:((a+c:Nat):Int)<(b.length:Int):=(by omega);generalize cd:a+c=q at *;have d1:=I cd;clear cd V;have e4:(f==f)=true:=(by simp);go_wp2_with fail;go_quiet(fail);go_wp2;go_roundw
     ·exact⟨c+1,by omega,by rw[<-dq,d1.o];go_num,below_drewN l nq⟩
     ·simp[intOf];omega
    ·have ev:c=Z:=(by omega);subst ev;go_upto_region 6 with fail;go_cut [28] (fun t wd=>t=.bool false/\Below o.heap.size o wd)
     case first =>
      by_cases ea:a+c<b.length
      ·have g1:=(l.cell (p:=A h (a+c)) s).trans (am.o (a+c) ea);have V:((b[a+c]).int==f)=false:=by
        have r:=dT.o (by rw[aP];omega);rw[bZ]at r;simpa using r
       have ce:((a+c:Nat):Int)<(b.length:Int):=(by omega);generalize (b[a+c]).int=v2 at *;generalize a+c=q at *;go_quiet(fail);go_wp2_with fail;go_meet
       ·exact⟨rfl,below_drewN l nq⟩
      ·have ce:decide (((a+c:Nat):Int)<(b.length:Int))=false:=(by simp;omega);generalize a+c=q at *;go_quiet(fail);go_wp2_with fail;go_meet
       ·exact⟨rfl,below_drewN l nq⟩
     case rest =>
      obtain⟨rfl,m⟩:=hcut;have U:=(m.cell (p:=A h a) s).trans T;have P:=(m.cell (p:=A e.heap.size 5) (aC D i.size)).trans bX;have w:=ju X m;have B:=i.trans (m.mono i.size);have bi:h<wc.heap.size:=aC s m.size;have dr:e.heap.size<wc.heap.size:=aC (aC D i.size) m.size;have HX:J (d.flatten++(uB c++zB f)=jN 2 b (a+c)):=by
       show _=_;rw[H.o];exact(dW.o c eP (aA _)).symm
      clear T bX d8 X m l i;have e5:(0:Int)<=(a:Int):=(by omega);go_wp2_with fail;go_region_held3 (fun E=>E.cell? (A e.heap.size 5)=some (V4 191)/\E.cell? (A h a)=some (N f)) (first|(exact⟨P,U⟩)|(exact⟨x1,y1⟩)|(exact⟨F,G⟩)|(exact⟨jf _ F,jf _ G⟩)|(exact⟨x3,y3⟩))
       (first
        | (go_at_call 241;refine(Tx _ c _ ?_ ?_).mono ?_;(rw[kE];omega);omega;rintro z w5 ⟨rfl,j⟩;have x1:=(j.cell (p:=A e.heap.size 5) dr).trans P;have y1:=(j.cell (p:=A h a) bi).trans U)
        | (go_at_call 191;refine(Oe f _ eS e0).mono ?_;rintro z w6 ⟨rfl,k⟩;have F:=(k.cell (p:=A e.heap.size 5) (aC dr j.size)).trans x1;have G:=(k.cell (p:=A h a) (aC bi j.size)).trans y1)
        | (refine step_append_lies _ (by rfl) _ _ _ (by rfl) x.heap.size 9 i0 _ 1 16 Tryz.underlying71 hi e1 e2 e3 rfl (by omega) _ d.length (Jk d) (by rfl) ((ju (ju w (jg j)) k).alloc _) (A w6.heap.size 0) 2 2 [S (uB c),S (zB f)] (by rfl) (by rfl) (World.news_of_block (cs:=#[S (uB c),S (zB f)]) (t:=9) (fr:=(0,0)) (kH w6 _)) (by simp[Value.oneCell']) (by omega) (by unfold maxLen;omega) (by omega) (by have:=B.size;have:=j.size;have:=k.size;simp at *;omega) _ rfl ?_;intro gg cc w7 ci C d6 er;have x3:=Je C ((ju (ju w (jg j)) k).alloc _) (jf _ F) D;have y3:=Je C ((ju (ju w (jg j)) k).alloc _) (jf _ G) d0.o))
      have O:=jg j;have L:=B.trans (O.mono B.size);have ap:=L.trans (k.mono L.size);have HR:=I (XR (qs:=[uB c,zB f]) _ rfl ap (ju (ju w O) k) ci C);clear x1 F x3 y1 G y3 P U w B j O k L ap ci C d6 er;go_wp2;go_roundw
      ·exact⟨d++[uB c,zB f],a+c,by omega,rfl,by simp;omega,fun _=>by simp,by simpa using HR.o.1,by rw[cT,<-HX.o];simp,ds.o,HR.o.2⟩
      ·simp[intOf];omega
  ·have eg:a=b.length:=(by omega);subst eg;have co:d≠[]:=d3.o (dO.2 K.o.some_);have HF:J (d.flatten=qT 2 b):=by
    show d.flatten=qT 2 b;rw[H.o];simp[qT]
   have ec:d.flatten.length<=1000000:=(by rw[H.o];omega);have d2:=I co;clear co;have em:decide ((b.length:Int)<(b.length:Int))=false:=(by simp);go_wp2_with fail;refine(ZQ d x.heap.size d.length _ _ X d2.o (by omega) ec).mono ?_;rintro z w2 ⟨rfl,d7⟩;go_wp2;go_ret;have hz:=ac.o.size;have be:=ac.o.trans (i.mono hz);exact⟨qH HF.o,be.trans (d7.mono be.size)⟩
def KF(a:List Z9):List (B8):=a.map (·.text)
theorem GE(a b:List Z9)(t:B8):qj (a++b) t=if qj a t<a.length then qj a t else a.length+qj b t:=by
 induction a with
 | nil=>simp
 | cons c a f =>
  simp only[bF,qj,bC];by_cases d:c.text=t
  ·simp[d]
  ·simp only[aL d,f];by_cases e:qj a t<a.length
   ·simp[e]
   ·simp[e];omega
theorem UZ(a:List Z9)(t:B8):qj a t<a.length↔∃c∈a,c.text=t:=by
 constructor
 ·intro b
  induction a with
  | nil=>simp at b
  | cons c a h =>
   by_cases d:c.text=t
   ·exact⟨c,by simp,d⟩
   ·simp only[qj,aL d,bC]at b;obtain⟨e,f,g⟩:=h (by omega);exact⟨e,by simp[f],g⟩
 ·intro b;exact(Zx a t b).1
theorem Pd(d:List Z9)(b:Nat)(i:b<=d.length):∀c∈qz d b,∃j,∃e:j<d.length,j<b/\c=d[j]:=by
 induction b with
 | zero=>intro c a;simp[qz]at a
 | succ b g =>
  intro c a;simp only[qz,aX]at a;rcases a with a|a
  ·obtain⟨j,e,h,f⟩:=g (by omega) c a;exact⟨j,e,by omega,f⟩
  ·split at a
   ·simp only[bD,bH,dm]at a;exact⟨b,by omega,by omega,by rw[a,qy d b (by omega)]⟩
   ·cases a
theorem Ph(a:List Z9)(b:Nat)(e:b<a.length):qj (qz a b) (a[b]).text<(qz a b).length↔qj a (a[b]).text≠b:=by
 rw[UZ];constructor
 ·rintro⟨c,g,k⟩ h;obtain⟨j,i,l,rfl⟩:=Pd a b (by omega) c g;have:=RL a j i;rw[k,h]at this;omega
 ·intro n;have m:=RL a b e;obtain⟨f,d⟩:=Zx a (a[b]).text ⟨a[b],aJ e,rfl⟩;exact⟨_,ER a _ f (by rw[d]) b (by omega) (by omega),d⟩
theorem Yf(b:List Z9)(a:Nat)(e:a<b.length):qz b (a+1)=if qj (qz b a) (b[a]).text<(qz b a).length then qz b a else qz b a++[b[a]]:=by
 have d:=Ph b a e;simp only[qz,qy b a e];by_cases c:qj b (b[a]).text=a
 ·rw[aQ c,aL (fun f=>d.1 f c)]
 ·rw[aL c,aQ (d.2 c),aT]
theorem Ah(c:List Z9)(b j:Nat):∃a,qz c (b+j)=qz c b++a:=by
 induction j with
 | zero=>exact⟨[],by simp⟩
 | succ j e =>
  obtain⟨a,d⟩:=e;rw[<-dq,qz,d];exact⟨_,by rw[aD]⟩
theorem Ob(a:List Z9)(b:Nat)(e:b<a.length):qj (qA a) (a[b]).text=if qj (qz a b) (a[b]).text<(qz a b).length then qj (qz a b) (a[b]).text else(qz a b).length:=by
 obtain⟨f,d⟩:=Ah a (b+1) (a.length-(b+1));rw[show b+1+(a.length-(b+1))=a.length by omega]at d;unfold qA;rw[d,Yf a b e];by_cases c:qj (qz a b) (a[b]).text<(qz a b).length
 ·rw[aQ c,aQ c,GE,aQ c]
 ·have g:qj (qz a b) (a[b]).text=(qz a b).length:=by have:=Vj (qz a b) (a[b]).text;omega
  rw[aL c,aL c,aD,GE,aL c];simp[qj]
theorem Yp(b:List Z9)(a:Nat):JK b a=uB b.length++jN 5 b a:=by
 induction a with
 | zero=>simp[JK,jN]
 | succ a c=>simp only[JK,jN,c,xi,aD]
theorem Wb(a:List Z9)(t:B8)(l:Nat)(v:Value)(e:W)(E:a.length<=1000)(c:e.ownsRow l 9 1 v a.length (Jk (KF a))) :
  C' 246 #[v,S t] e fun m w=>m=.returned (N (if qj a t<a.length then(qj a t:Int)else -1))/\w=e:=by
 have k:=I (Rq a t);have x:=I (UZ a t);have D:=Vj a t;have i:J (∀c:qj a t<a.length,(a[qj a t]).text=t):=by
  intro c;exact(Zx a t ((UZ a t).1 c)).2
 generalize qj a t=q at *;rcases c.2 with⟨rfl,B⟩|⟨n,y,z,rfl,_⟩
 ·have u:¬q<a.length:=by omega
  rw[aL u];go_enter Tryz.func246,Tryz.ntmps246;go_wp2;go_loopw [8] (fun d wr=>d=N 0/\wr=e) (fun d _=>0)
  case atStart=>exact⟨rfl,rfl⟩
  case round =>
   obtain⟨rfl,rfl⟩:=hrel;go_wp2;go_ret;exact⟨rfl,rfl⟩
 ·have g:J (∀j (c:j<a.length),e.cell? (A n j)=some (S (a[j]).text)):=by
   intro j p;rw[c.cellAt j (by omega)];simp[Jk,KF,p]
  clear c;go_enter Tryz.func246,Tryz.ntmps246;go_wp2;go_loopw [8] (fun d wr=>∃b:Nat,b<=q/\d=N b/\wr=e) (fun d _=>q-(intOf d).toNat)
  case atStart=>exact⟨0,aG _,rfl,rfl⟩
  case round =>
   obtain⟨b,C,rfl,rfl⟩:=hrel;by_cases s:b<q
   ·have f:b<a.length:=(by omega);have h:=g.o b f;have F:(t==(a[b]).text)=false:=by
     simpa using fun o:t=(a[b]).text=>k.o b s f o.symm
    go_wp2;go_roundw
    ·exact⟨b+1,by omega,by go_num,trivial⟩
    ·simp[intOf];omega
   ·have r:b=q:=(by omega);subst r;by_cases f:b<a.length
    ·have h:=g.o b f;rw[i.o f]at h;go_wp2;go_ret;exact⟨rfl,rfl⟩
    ·go_wp2;go_ret;exact⟨rfl,rfl⟩
theorem My(c:w.ownsRow n 9 1 x m C)(a:W) :
  Sem.run Tryz.prog (Builtin.len_ #[71] 3 #[x]) a=.ok (N m) a:=by
 rcases c.2 with⟨rfl,rfl⟩|⟨g,f,h,rfl,_⟩
 ·exact eU (P:=Tryz.prog) a 71 3 _ _ _ (by rw[Tryz.underlying71];rfl)
 ·exact eU (P:=Tryz.prog) a 71 3 _ _ _ (by rw[Tryz.underlying71];rfl)
def C8(b p:Value):Prop:=∀a,b.ownBlock=some a->p.ownBlock≠some a
theorem Ex{f qs r:List (B8)}(o:Obj)(D:c=v.heap.size+1)(e:Below w.heap.size w v)(cc:v.ownsRow w.heap.size 9 1 x n (Jk f))
  (l:v.ownsRow w.heap.size 9 1 y m (Jk r))(j:C8 x y)(s:u.ownsRow w.heap.size 9 1 (R k g i) g (Jk f++Jk qs))
  (d:(v.alloc o).grownBy u x.ownBlock)(t:x.ownBlock=some k\/k=c) :
  u.ownsRow w.heap.size 9 1 (R k g i) g (Jk (f++qs))/\u.ownsRow w.heap.size 9 1 y m (Jk r)/\C8 (R k g i) y/\Below w.heap.size w u:=by
 refine⟨by rw[Yw];exact s,(l.alloc o).kept d ?_,?_,(e.alloc e.size o).grown d (by have:=e.size;simp;omega) (fun g q=>(cc.lt g q).1)⟩
 ·cases z:y.ownBlock with
  | none=>exact .inl rfl
  | some C=>exact .inr fun wr=>j C wr.symm z
 ·intro B p b;have h:k=B:=by simpa[Value.ownBlock]using p
  subst h;rcases t with a|a
  ·exact j k a b
  ·have:=(l.lt k b).2;omega
theorem C8.symm{a p:Value}(b:C8 a p):C8 p a:=fun e d c=>b e c d
abbrev E1(b:W)(g a:Nat):Prop:=b.cell? (A a 0)=some (R g 3 3)/\b.cell? (A a 1)=some (V4 202)/\b.cell? (A a 2)=some (V4 203)/\b.cell? (A a 3)=some (V4 204)/\b.cell? (A a 4)=some (V4 205)/\b.cell? (A a 5)=some (V4 206)/\b.cell? (A a 6)=some (V4 207)
abbrev D6(b:W)(g a:Nat):Prop:=b.cell? (A a 0)=some (R g 3 3)/\b.cell? (A a 1)=some (V4 187)/\b.cell? (A a 2)=some (V4 188)/\b.cell? (A a 3)=some (V4 189)/\b.cell? (A a 4)=some (V4 190)/\b.cell? (A a 5)=some (V4 191)/\b.cell? (A a 6)=some (V4 192)
theorem xJ(h:E1 w n m)(b:Below k w v)(c:m<k):E1 v n m:=by
 obtain⟨i,j,a,l,g,e,o⟩:=h;exact⟨(b.cell (p:=A m 0) c).trans i,(b.cell (p:=A m 1) c).trans j,(b.cell (p:=A m 2) c).trans a,(b.cell (p:=A m 3) c).trans l,(b.cell (p:=A m 4) c).trans g,(b.cell (p:=A m 5) c).trans e,(b.cell (p:=A m 6) c).trans o⟩
theorem Jh(h:D6 w n m)(b:Below k w v)(c:m<k):D6 v n m:=by
 obtain⟨i,j,a,l,g,e,o⟩:=h;exact⟨(b.cell (p:=A m 0) c).trans i,(b.cell (p:=A m 1) c).trans j,(b.cell (p:=A m 2) c).trans a,(b.cell (p:=A m 3) c).trans l,(b.cell (p:=A m 4) c).trans g,(b.cell (p:=A m 5) c).trans e,(b.cell (p:=A m 6) c).trans o⟩
theorem Na(o:Obj)(c:E1 w n m):E1 (w.alloc o) n m:=by
 obtain⟨d,e,f,h,i,j,k⟩:=c;exact⟨jf o d,jf o e,jf o f,jf o h,jf o i,jf o j,jf o k⟩
theorem En(o:Obj)(c:D6 w n m):D6 (w.alloc o) n m:=by
 obtain⟨d,e,f,h,i,j,k⟩:=c;exact⟨jf o d,jf o e,jf o f,jf o h,jf o i,jf o j,jf o k⟩
variable{D:List Z9}
theorem Rs(b:w.ownsRow n 9 1 x m (Jk (KF D)))(i:D≠[]):∃d c,x=R d D.length c/\U7 w d D:=by
 have e:D.length=m:=by simpa[Jk,KF]using b.1
 rcases b.2 with⟨rfl,rfl⟩|⟨g,c,l,rfl,_⟩
 ·exact absurd (aO e) i
 ·refine⟨g,c,by rw[e],(b.lt g rfl).2,fun j k=>?_⟩;rw[b.cellAt j (by omega)];simp[Jk,KF,k]
theorem IP{a b c d e g:W}(h:Below a.heap.size a b)(i:Below b.drew.heap.size b.drew c)(j:Below c.heap.size c d)(k:Below d.heap.size d e)(l:Below e.heap.size e g):Below a.heap.size a g:=by
 have f:=Gz h i j k;exact f.trans (l.mono f.size)
theorem jcd(g b eS:Nat)(a:List Z9)(i:W)(hs:Small a)(hl:U7 i b a) :
  C' 198 #[K9 g,R b a.length eS] i fun j d=>j=.returned (S (qT 3 a))/\Below i.heap.size i d:=by
 obtain⟨i0,hi,bX,b4,ce⟩:=ks Tryz.ar;have K:=I hs;have Hl:=I hl;have hn:=hs.ao;clear hs hl;go_enter Tryz.func198,Tryz.ntmps198;go_wp2;obtain⟨ap,ec,p⟩:=Qr i #[R g 3 3,V4 202,V4 203,V4 204,V4 205,V4 206,V4 207] 225;have Hc:J (E1 _ g i.heap.size):=⟨p 0,p 1,p 2,p 3,p 4,p 5,p 6⟩;have eM:=I (Hl.o.j ap);have co:=I ap;have eg:=bE (bG i.heap.size) ec.symm;clear p ap ec;generalize i.alloc _=m at *;go_loopw [5,6,12] (fun d v i wr=>∃(f:List (B8)) (b:Nat),b<=a.length/\i=N b/\f.length=b/\wr.ownsRow m.heap.size 9 1 d (qz a b).length (Jk (KF (qz a b)))/\wr.ownsRow m.heap.size 9 1 v f.length (Jk f)/\C8 d v/\f.flatten=jN 3 a b/\Below m.heap.size m wr)
  (fun _ _ i _=>a.length-(intOf i).toNat)
 case atStart=>exact⟨[],0,aG _,rfl,rfl,kg _ _ _ _,kg _ _ _ _,fun b r=>by simp[Value.ownBlock]at r,rfl,k8 _ _⟩
 case round =>
  obtain⟨f,b,e5,rfl,bv,k,y,dd,dW,l⟩:=hrel;have B:=I dW;have ci:=I dd;clear dW dd;have fa:=xS 3 a K.o.small hn b;have e3:=Jw a b;by_cases M:b<a.length
  ·have dv:=(eM.o.j l).cell b M;have HT:J (xi 3 a b=uB (qj (qA a) (a[b]).text)):=by
    show xi 3 a b=_;simp only[xi,qy a b M]
   have V:=I (Ob a b M);have P:=I (Yf a b M);have e7:f.length<=60:=(by omega);go_wp2_with fail;refine(Wb (qz a b) (a[b]).text m.heap.size _ _ (by omega) k).mono ?_;rintro j w ⟨rfl,rfl⟩;by_cases t:qj (qz a b) (a[b]).text<(qz a b).length
   ·have X:J (qj (qA a) (a[b]).text=qj (qz a b) (a[b]).text):=by
     have:=V.o;rw[aQ t]at this;exact this
    have T:J (qz a (b+1)=qz a b):=by
     have:=P.o;rw[aQ t]at this;exact this
    rw[aQ t];generalize qz a b=e at *;generalize qj e (a[b]).text=q at *;go_wp2_with fail;refine(JJ q _ (by omega)).mono ?_;rintro j z ⟨rfl,h⟩;have E:=ju k h;have u:=ju y h;have s:=l.trans (h.mono l.size);clear k y l h dv;go_wp2_with(at_builtin;refine wpList_append_lies _ rfl (.tmp 27) (.tmp 30) 71 rfl m.heap.size 9 i0 (.string ⟨#[]⟩) 1 16 Tryz.underlying71 hi bX b4 ce rfl (by decide) _ _ _ rfl (u.alloc _) (A _ 0) 1 1 [S (uB q)] rfl rfl ?c1 ?c2 (by decide) ?c3 ?c4 ?c5 (z.heap.size+1) ?c6 ?_)
    case c1=>exact qr z #[S (uB q)] 9
    case c2=>intro u o;simp at o;subst o;rfl
    case c3=>unfold maxLen;omega
    case c4=>omega
    case c5=>have:=s.size;simp;omega
    case c6=>simp
    intro gg cc w4 G F C bi;have n:=I (Ex (qs:=[uB q]) _ rfl s u E ci.o.symm G F C);clear E u s G F C bi;go_wp2;go_roundw
    ·exact⟨f++[uB q],b+1,by omega,by go_num,by simp;omega,by rw[T.o];exact n.o.2.1,by rw[show(f++[uB q]).length=b+1 by simp[bv]];exact n.o.1,n.o.2.2.1.symm,by rw[cT,B.o,jN,HT.o,X.o];simp,n.o.2.2.2⟩
    ·simp[intOf];omega
   ·have X:J (qj (qA a) (a[b]).text=(qz a b).length):=by
     have:=V.o;rw[aL t]at this;exact this
    have T:J (qz a (b+1)=qz a b++[a[b]]):=by
     have:=P.o;rw[aL t]at this;exact this
    rw[aL t];clear t V P;generalize qz a b=e at *;generalize d6:a[b]=c at *;have e2:=I d6;clear d6;have e6:=My k w;go_wp2_with(at_builtin;refine wpList_append_lies _ rfl (.tmp 23) (.tmp 25) 71 rfl m.heap.size 9 i0 (.string ⟨#[]⟩) 1 16 Tryz.underlying71 hi bX b4 ce rfl (by decide) _ _ _ rfl (k.alloc _) (A _ 0) 1 1 [S c.text] rfl rfl ?d1 ?d2 (by decide) ?d3 ?d4 ?d5 _ rfl ?_)
    case d1=>exact qr _ #[S c.text] 9
    case d2=>intro u o;simp at o;subst o;rfl
    case d3=>unfold maxLen;omega
    case d4=>omega
    case d5=>have:=l.size;simp;omega
    intro gd cd w5 d7 d0 dr e1;obtain⟨dT,d8,dl,ac⟩:=Ex (qs:=[c.text]) _ (by simp) l k y ci.o d7 d0 dr;have eC:=I dl;clear k y l d7 d0 dr e1 dl dv;go_wp2_with fail;refine(JJ e.length _ (by omega)).mono ?_;rintro j z ⟨rfl,h⟩;have E:=ju dT h;have u:=ju d8 h;have s:=ac.trans (h.mono ac.size);clear dT d8 ac h;go_wp2_with(at_builtin;refine wpList_append_lies _ rfl (.tmp 27) (.tmp 30) 71 rfl m.heap.size 9 i0 (.string ⟨#[]⟩) 1 16 Tryz.underlying71 hi bX b4 ce rfl (by decide) _ _ _ rfl (u.alloc _) (A _ 0) 1 1 [S (uB e.length)] rfl rfl ?c1 ?c2 (by decide) ?c3 ?c4 ?c5 (z.heap.size+1) ?c6 ?_)
    case c1=>exact qr z #[S (uB e.length)] 9
    case c2=>intro u o;simp at o;subst o;rfl
    case c3=>unfold maxLen;omega
    case c4=>omega
    case c5=>have:=s.size;simp;omega
    case c6=>simp
    intro gg cc w4 G F C bi;have n:=I (Ex (qs:=[uB e.length]) _ rfl s u E eC.o.symm G F C);clear E u s G F C bi;have es:J (KF (e++[c])=KF e++[c.text]):=(by simp[J,KF]);go_wp2;go_roundw
    ·exact⟨f++[uB e.length],b+1,by omega,by go_num,by simp;omega,by rw[T.o,es.o,show(e++[c]).length=e.length+1 by simp];exact n.o.2.1,by rw[show(f++[uB e.length]).length=b+1 by simp[bv]];exact n.o.1,n.o.2.2.1.symm,by rw[cT,B.o,jN,HT.o,X.o];simp,n.o.2.2.2⟩
    ·simp[intOf];omega
  ·have e0:b=a.length:=(by omega);subst e0;have am:qz a a.length≠[]:=by
    intro h0;have h1:=K.o.some_;cases a with
    | nil=>exact h1 rfl
    | cons c a =>
     obtain⟨d,k,_⟩:=UJ (c::a) 0 (by simp);unfold qA at k;rw[h0]at k;cases k
   have HW:J (qT 3 a=uB (qz a a.length).length++(qT 5 (qz a a.length)++jN 3 a a.length)):=by
    show qT 3 a=_;simp only[qT,qA,db,Yp];simp
   have H:J (Small (qz a a.length)):=⟨fun c hc=>K.o.small c (XG a a.length (aA _) c hc),by omega,am⟩;have fb:=VZ 5 (qz a a.length) H.o.small H.o.ao;have ds:=xJ Hc.o l eg;have O:i.heap.size<wr.heap.size:=aC eg l.size;obtain⟨bd,cd,rfl,em⟩:=Rs k am;have eR:=I em;have cs:=I ds;obtain⟨x0,x1,x2,x3,x4,x5,x6⟩:=ds;have ea:f≠[]:=by
    intro r;subst r;exact K.o.some_ (aO bv.symm)
   have e4:f.flatten.length<=10000:=(by rw[B.o];omega);have eP:=I ea;have o:=jO (qz a a.length).length (by omega);have ev:J (∀d,C' 241 #[N ((qz a a.length).length:Int)] d fun j w=>j=.returned (S (uB (qz a a.length).length))/\Below d.heap.size d w):=fun d=>JJ _ d (by omega);clear k em ea am;generalize qz a a.length=e at *;have HE:J (∀d,U7 d bd e->C' 196 #[K9 g,R bd e.length cd] d fun j w=>j=.returned (S (qT 5 e))/\Below d.heap.size d w):=fun d r=>jdi g bd cd e d H.o r;have HJ:J (∀d,d.ownsRow m.heap.size 9 1 u6 f.length (Jk f)->C' 194 #[u6] d fun j w=>j=.returned (S f.flatten)/\Below d.heap.size d w):=fun d r=>ZQ f m.heap.size f.length u6 d r eP.o (by omega) (by omega);have er:J (uB e.length++(qT 5 e++f.flatten)=qT 3 a):=by
    show _=_;rw[HW.o,B.o]
   clear HW B H;generalize qT 5 e=W5 at *;generalize f.flatten=F at *;generalize uB e.length=U at *;have HU:=I (ev);go_wp2_with fail;go_region_held3 (fun d=>d.cell? (A i.heap.size 0)=some (R g 3 3)/\d.cell? (A i.heap.size 1)=some (V4 202)/\d.cell? (A i.heap.size 2)=some (V4 203)/\d.cell? (A i.heap.size 3)=some (V4 204)/\d.cell? (A i.heap.size 4)=some (V4 205)/\d.cell? (A i.heap.size 5)=some (V4 206)/\d.cell? (A i.heap.size 6)=some (V4 207)) (first|exact cs.o|exact Y|exact Z|exact L|exact Na _ L|exact X4)
    (first
     | (go_at_call 241;refine(HU.o _).mono ?_;rintro j z ⟨rfl,h⟩;have Y:=xJ cs.o (jg h) O)
     | (go_at_call 196;refine(HE.o _ (eR.o.j (jg h))).mono ?_;rintro j w4 ⟨rfl,x⟩;have Z:=xJ Y x (aC O h.size))
     | (go_at_call 194;have Z5:=D.size;refine(XZ [U,W5,F] #[S U,S W5,S F] 3 _ rfl rfl ?_ ?_).mono ?_;decide;(simp;omega);rintro j w6 ⟨rfl,be⟩;have X4:=xJ L be (aC O (aI h.size (aI x.size D.size))))
     | (go_at_call 194;refine(HJ.o _ (ju (ju y (jg h)) x)).mono ?_;rintro j w5 ⟨rfl,D⟩;have L:=xJ Z D (aC O (aI h.size x.size))))
   have hz:=co.o.size;have da:=co.o.trans (l.mono hz);have eq:=I (IP da h x D be);clear Y Z L X4 x0 x1 x2 x3 x4 x5 x6 h x D be l y hz da;go_wp2;go_ret;exact⟨qH er.o,eq.o⟩
variable{F:TypeId}
theorem qt{a:V'}(c:w.heap[n]?=some (.cells a F (0,0)))(j:Nat)(d:a[j]?=some x):w.cell? (A n j)=some x:=by
 rw[kC w n j a F (0,0) c];exact d
theorem Wl(b:W)(q:Nat)(a:Int)(d:0<=a)(e:a<=255)(c:b.cell? (A q 0)=some (.int .u8 a)) :
  Sem.run Tryz.prog (convert 149 9 (R q 1 1)) b=.ok (S [T4 a]) b:=by
 refine kS (P:=Tryz.prog) _ 149 9 5 (A q 0) 1 [T4 a] Tryz.underlying149 Tryz.underlying5 Tryz.underlying9 ?_;intro j f
 match j,f with
 | 0,_=>simpa[Addr.add,zC a d e]using c
theorem Qb(a:Int)(b:W)(d:0<=a)(e:a<=255) :
  C' 214 #[.int .u8 a] b fun c f=>c=.returned (S [T4 a])/\Below b.heap.size b f:=by
 have g:=Wl (b.alloc (.cells #[.int .u8 a] 5)) b.heap.size a d e (kF ..);go_enter Tryz.func214,Tryz.ntmps214;go_wp2;go_ret;exact⟨rfl,(k8 _ _).alloc (aA _) _⟩
theorem ZJ(a:List (B8))(c:V')(n:Nat)(b:W)(d:Nat)(g:b.heap.size=d)(f:c=(Jk a).toArray)(h:a.length=n)(i:n<=1000)(j:a.flatten.length<=1000000) :
  C' 194 #[R d n n] (b.alloc (.cells c 9)) fun e k=>e=.returned (S a.flatten)/\Below b.heap.size b k:=by
 subst g;exact XZ a c n b f h i j
theorem Gf(kind:Int)(c:List Z9)(a:Nat):jV kind c (a+1)≠[]:=by
 induction a with
 | zero=>simp[jV,JP]
 | succ a b =>
  rw[jV];split
  ·simp[JP]
  ·exact b
theorem XB(a:W):Below a.heap.size a a.drew:=jg (k8 _ _)
theorem T7.drew{w:W}(c:T7 w n D):T7 w.drew n D:=c.j (XB w)
theorem U7.drew{w:W}(c:U7 w n D):U7 w.drew n D:=c.j (XB w)
theorem T7.alloc(d:T7 w n D)(o:Obj):T7 (w.alloc o) n D:=d.j ((k8 _ _).alloc (aA _) _)
theorem U7.alloc(d:U7 w n D)(o:Obj):U7 (w.alloc o) n D:=d.j ((k8 _ _).alloc (aA _) _)
theorem zl{o:Obj}(c:Below (w.alloc o).heap.size (w.alloc o) v):Below w.heap.size w v :=
 ((k8 _ _).alloc (aA _) _).trans (c.mono (by simp))
abbrev SI(a:W)(b:Nat)(e:Int)(d g c:Nat):Prop:=a.cell? (A b 0)=some (.int .u8 e)/\a.cell? (A b 1)=some (V4 d)/\D6 a g c
abbrev ST(a:W)(b:Nat)(e:Int)(d g c:Nat):Prop:=a.cell? (A b 0)=some (.int .u8 e)/\a.cell? (A b 1)=some (V4 d)/\E1 a g c
variable{K:Int}
theorem Zm(d:SI w n K m k i)(e:Below g w v)(b:n<g)(l:i<g):SI v n K m k i :=
 ⟨(e.cell (p:=A n 0) b).trans d.1,(e.cell (p:=A n 1) b).trans d.2.1,Jh d.2.2 e l⟩
theorem Zh(d:ST w n K m k i)(e:Below g w v)(b:n<g)(l:i<g):ST v n K m k i :=
 ⟨(e.cell (p:=A n 0) b).trans d.1,(e.cell (p:=A n 1) b).trans d.2.1,xJ d.2.2 e l⟩
theorem EB(o:Obj)(a:SI w n K m k i):SI (w.alloc o) n K m k i:=⟨jf o a.1,jf o a.2.1,En o a.2.2⟩
theorem It(o:Obj)(a:ST w n K m k i):ST (w.alloc o) n K m k i:=⟨jf o a.1,jf o a.2.1,Na o a.2.2⟩
end Go.Proofs.YthhpbhpfagoapaaGreat
