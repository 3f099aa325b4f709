import Derived.Test.YthhpbhpfagoapaaGreatGAK
import Derived.Test.YthhpbhpfagoapaaGreatGAL
namespace Go.Proofs.YthhpbhpfagoapaaGreat
set_option linter.all false
set_option maxRecDepth 100000
set_option maxHeartbeats 16000000
open Go.RowKit
theorem Tryz.ay:(Tryz.prog.info? 3).map (fun a=>(a.zero,a.size,a.bytes))=some (some (N 0),1,8):=by kernel_rfl
theorem jdo(c:Z9)(a:W) :
  C' 187 #[C6 c] a fun b d=>b=.returned (N c.int)/\Below a.heap.size a d:=by
 go_enter Tryz.func187,Tryz.ntmps187;go_wp2;go_ret;exact⟨rfl,(k8 _ _).alloc (aA _) _⟩
theorem jev(c:Z9)(a:W) :
  C' 202 #[C6 c] a fun b d=>b=.returned (S c.text)/\Below a.heap.size a d:=by
 go_enter Tryz.func202,Tryz.ntmps202;go_wp2;go_ret;exact⟨rfl,(k8 _ _).alloc (aA _) _⟩
def Zs(a:List Z9):List Value:=a.map fun c=>N c.int
def QX(a:List Z9):List Value:=Jk (KF a)
theorem Uc(a:List Z9):(jk a).length<=a.length:=du _ _
theorem Xp(b:List Z9)(a:Nat)(c:a<b.length):jk (b.take (a+1))=jk (b.take a)++(if(b[a]).null=true then[]else[b[a]]):=by
 rw[aH c];unfold jk;rw[dI]
 congr 1;cases d:(b[a]).null<;>simp[d]
variable{u v w:W}{m n:Nat}{x y:Value}{C:List Value}
theorem Ig(c:w.ownsRow n 3 1 x m C)(a:W) :
  Sem.run Tryz.prog (Builtin.len_ #[82] 3 #[x]) a=.ok (N m) a:=by
 rcases c.2 with⟨rfl,rfl⟩|⟨g,f,h,rfl,_⟩
 ·exact eU (P:=Tryz.prog) a 82 3 _ _ _ (by rw[Tryz.underlying82];rfl)
 ·exact eU (P:=Tryz.prog) a 82 3 _ _ _ (by rw[Tryz.underlying82];rfl)
theorem BT(c:w.ownsRow n 9 1 x m C)(a:W) :
  Sem.run Tryz.prog (Builtin.len_ #[71] 3 #[x]) a=.ok (N m) a:=My c a
variable{D:List Z9}
theorem Tq(b:w.ownsRow n 3 1 x m (Zs D))(i:D≠[]):∃d c,x=R d D.length c/\T7 w d D:=by
 have e:D.length=m:=by simpa[Zs]using b.1
 rcases b.2 with⟨rfl,rfl⟩|⟨g,c,l,rfl,_⟩
 ·exact absurd (aO e) i
 ·refine⟨g,c,by rw[e],(b.lt g rfl).2,fun j k=>?_⟩;rw[b.cellAt j (by omega)];simp[Zs,k]
theorem FW(f:w.ownsRow n 9 1 x m (QX D))(g:D≠[]):∃b e,x=R b D.length e/\U7 w b D:=Rs f g
theorem jdl(g:Nat)(m:O')(B:Nat)(a:List Z9)(e:W)(Y:a.length<=60)(dr:∀c∈a,qI c)(hl:T3 e m a)(hg:g<e.heap.size)(hw:E7 e g) :
  C' 126 #[G6 g,.slice m a.length B] e fun h d=>h=.returned (S (xy 0 a))/\Below e.heap.size e d:=by
 obtain⟨i0,hi,eg,em,eq⟩:=ks Tryz.ay;have d4:=I dr;have Hl:=I hl;have Hw:=I hw;have eM:(a.length:Int)<=60:=by omega
 clear dr hl hw;go_enter Tryz.func126,Tryz.ntmps126;go_wp2;obtain⟨t,dl,k⟩:=Qr e #[R g 3 3,V4 187,V4 188,V4 189,V4 190,V4 191,V4 192] 215;have Hc:J (D6 _ g e.heap.size):=⟨k 0,k 1,k 2,k 3,k 4,k 5,k 6⟩;have be:=I (Hl.o.j t);have d6:=I (Hw.o.j hg t);have y:=I t;have D:=bE (bG e.heap.size) dl.symm;have ci:=aC hg t.size;clear k t dl;generalize e.alloc _=G at *;go_loopw [5,10] (fun v ac wr=>∃b:Nat,b<=a.length/\ac=N b/\wr.ownsRow G.heap.size 3 1 v (jk (a.take b)).length (Zs (jk (a.take b)))/\Below G.heap.size G wr)
  (fun _ ac _=>a.length-(intOf ac).toNat)
 case atStart=>exact⟨0,aG _,rfl,kg _ _ _ _,k8 _ _⟩
 case round =>
  obtain⟨b,eC,rfl,i,f⟩:=hrel;have dv:=Uc (a.take b);rw[aM]at dv;by_cases X:b<a.length
  ·obtain⟨er,eR,rfl,ev,cd⟩:=(be.o.j f).at_ (aE (by omega));obtain⟨g1,g2,g3⟩:=cd b X;clear cd;have ce:=(f.cell (p:=A e.heap.size 1) D).trans Hc.o.2.1;have E:e.heap.size<wr.heap.size:=aC D f.size;cases o:(a[b]).null with
   | true =>
    have K:J (jk (a.take (b+1))=jk (a.take b)):=by
     show jk (a.take (b+1))=_;rw[Xp a b X,o];simp
    rw[o]at g1;clear o;have d3:=I (i.alloc (Obj.cells #[.bool true,N (a[b]).int,S (a[b]).text] 58));have dW:=I (f.alloc f.size (Obj.cells #[.bool true,N (a[b]).int,S (a[b]).text] 58));clear i f;go_wp2;go_roundw
    ·exact⟨b+1,by omega,by go_num,by rw[K.o];exact d3.o,dW.o⟩
    ·simp[intOf];omega
   | false =>
    have K:J (jk (a.take (b+1))=jk (a.take b)++[a[b]]):=by
     show jk (a.take (b+1))=_;rw[Xp a b X,o];simp
    rw[o]at g1;clear o;generalize jk (a.take b)=r at *;have da:=i.alloc (Obj.cells #[.bool false,N (a[b]).int,S (a[b]).text] 58);have P:=f.alloc f.size (Obj.cells #[.bool false,N (a[b]).int,S (a[b]).text] 58);have d8:=jf (Obj.cells #[.bool false,N (a[b]).int,S (a[b]).text] 58) ce;clear i f;go_wp2_with fail;refine(jdo ⟨false,(a[b]).int,(a[b]).text⟩ _).mono ?_;rintro h q ⟨rfl,u⟩;have Z:=ju da u;have s:=P.trans (u.mono P.size);clear da u P g1 g2 g3 ce d8;go_wp2_with(at_builtin;refine ko _ rfl (.tmp 17) (.tmp 22) 82 rfl G.heap.size 3 i0 (N 0) 1 8 Tryz.underlying82 hi eg em eq rfl (by decide) _ _ _ rfl (Z.alloc _) (A _ 0) 1 1 [N (a[b]).int] rfl rfl ?c1 ?c2 ?c3 ?c4 ?c5 ?_)
    case c1=>exact qr q #[N (a[b]).int] 3
    case c2=>intro eS hu;simp at hu;subst hu;rfl
    case c3=>unfold maxLen;omega
    case c4=>omega
    case c5=>have:=s.size;simp;omega
    intro v3 w3 dd cs _;have d2:=I dd;have d0:=I ((s.alloc s.size _).grown cs (by have:=s.size;simp;omega) (fun b hk=>(Z.lt b hk).1));clear Z dd cs s;go_wp2;go_roundw
    ·exact⟨b+1,by omega,by go_num,by rw[K.o,show(r++[a[b]]).length=r.length+1 by simp,show Zs (r++[a[b]])=Zs r++[N (a[b]).int] by simp[Zs]];exact d2.o,d0.o⟩
    ·simp[intOf];omega
  ·have ea:b=a.length:=(by omega);subst ea;rw[aS]at i dv;have w:=Ig i;have bi:=I (be.o.j f);by_cases l:jk a=[]
   ·have H:J (xy 0 a=JC a):=by
     show xy 0 a=_;rw[xy,aQ l]
    have ds:(jk a).length=0:=(by rw[l];rfl);rw[ds]at w;have ec:=w wr;clear w l ds i;go_wp2_with fail;refine(NM m B a _ Y bi.o).mono ?_;rintro h q ⟨rfl,u⟩;go_wp2;go_ret;have F:=y.o.size;have n:=y.o.trans (f.mono F);exact⟨qH H.o.symm,n.trans (u.mono n.size)⟩
   ·have H:J (JC a++jV 0 (jk a) 3=xy 0 a):=by
     show _=xy 0 a;rw[xy,aL l]
    have ec:=w wr;have eP:(((jk a).length:Int)==0)=false:=by
     have:=dO.2 l;simp;omega
    have x:J (Small (jk a)):=⟨fun c hc=>d4.o c (dn.1 hc).1,by omega,l⟩;obtain⟨M,cv,rfl,dT⟩:=Tq i l;have d5:=I dT;have b4:=Jh Hc.o f D;have ap:=I b4;have E:e.heap.size<wr.heap.size:=aC D f.size;have co:g<wr.heap.size:=aC ci f.size;have d7:=I (d6.o.j ci f);have hh:=Ku a Y;have es:=Kv 0 (jk a) x.o.small x.o.ao 3;have HU:J (∀d,T3 d m a->C' 193 #[.slice m a.length B] d fun h q=>h=.returned (S (JC a))/\Below d.heap.size d q):=fun d O=>NM m B a d Y O;have HE:J (∀d,T7 d M (jk a)->g<d.heap.size->E7 d g->C' 195 #[G6 g,R M (jk a).length cv] d fun h q=>h=.returned (S (jV 0 (jk a) 3))/\Below d.heap.size d q):=fun d O h1 h2=>jdv g M cv (jk a) d x.o O h1 h2;clear w l i dT x;generalize JC a=am at *;generalize jV 0 (jk a) 3=S3 at *;generalize (jk a)=r at *;obtain⟨x0,x1,x2,x3,x4,x5,x6⟩:=b4;go_wp2_with fail;go_region_held3 (fun d=>d.cell? (A e.heap.size 0)=some (R g 3 3)/\d.cell? (A e.heap.size 1)=some (V4 187)/\d.cell? (A e.heap.size 2)=some (V4 188)/\d.cell? (A e.heap.size 3)=some (V4 189)/\d.cell? (A e.heap.size 4)=some (V4 190)/\d.cell? (A e.heap.size 5)=some (V4 191)/\d.cell? (A e.heap.size 6)=some (V4 192))
     (first|exact En _ z|exact X6|exact z|exact L|exact ap.o)
     (first
      | (go_at_call 193;refine(HU.o _ (bi.o.j (XB _))).mono ?_;rintro h w3 ⟨rfl,bX⟩;have j:=jg bX;have L:=Jh ap.o j E)
      | (go_at_call 195;refine(HE.o _ (d5.o.j j) (aC co j.size) (d7.o.j co j)).mono ?_;rintro h w4 ⟨rfl,C⟩;have z:=Jh L C (aC E j.size))
      | (go_at_call 194;refine(ZJ [am,S3] #[S am,S S3] 2 _ _ ?_ rfl rfl ?_ ?_).mono ?_;(first|rfl|simp);decide;(simp;omega);rintro h w6 ⟨rfl,V⟩;have X6:=Jh z V (aC E (aI j.size C.size))))
    have F:=y.o.size;have n:=y.o.trans (f.mono F);have T:=n.trans (j.mono n.size);have U:=T.trans (C.mono T.size);have d1:=I (U.trans (V.mono U.size));clear L z X6 x0 x1 x2 x3 x4 x5 x6 bX j C V f F n T U;go_wp2;go_ret;exact⟨qH H.o,d1.o⟩
theorem jdj(g:Nat)(m:O')(B:Nat)(a:List Z9)(e:W)(Y:a.length<=60)(dr:∀c∈a,qI c)(hl:T3 e m a)(hg:g<e.heap.size)(hw:D7 e g) :
  C' 128 #[K9 g,.slice m a.length B] e fun h d=>h=.returned (S (xy 1 a))/\Below e.heap.size e d:=by
 obtain⟨i0,hi,eg,em,eq⟩:=ks Tryz.ar;have d4:=I dr;have Hl:=I hl;have Hw:=I hw;have eM:(a.length:Int)<=60:=by omega
 clear dr hl hw;go_enter Tryz.func128,Tryz.ntmps128;go_wp2;obtain⟨t,dl,k⟩:=Qr e #[R g 3 3,V4 202,V4 203,V4 204,V4 205,V4 206,V4 207] 225;have Hc:J (E1 _ g e.heap.size):=⟨k 0,k 1,k 2,k 3,k 4,k 5,k 6⟩;have be:=I (Hl.o.j t);have d6:=I (Hw.o.j hg t);have y:=I t;have D:=bE (bG e.heap.size) dl.symm;have ci:=aC hg t.size;clear k t dl;generalize e.alloc _=G at *;go_loopw [5,10] (fun v ac wr=>∃b:Nat,b<=a.length/\ac=N b/\wr.ownsRow G.heap.size 9 1 v (jk (a.take b)).length (QX (jk (a.take b)))/\Below G.heap.size G wr)
  (fun _ ac _=>a.length-(intOf ac).toNat)
 case atStart=>exact⟨0,aG _,rfl,kg _ _ _ _,k8 _ _⟩
 case round =>
  obtain⟨b,eC,rfl,i,f⟩:=hrel;have dv:=Uc (a.take b);rw[aM]at dv;by_cases X:b<a.length
  ·obtain⟨er,eR,rfl,ev,cd⟩:=(be.o.j f).at_ (aE (by omega));obtain⟨g1,g2,g3⟩:=cd b X;clear cd;have ce:=(f.cell (p:=A e.heap.size 1) D).trans Hc.o.2.1;have E:e.heap.size<wr.heap.size:=aC D f.size;cases o:(a[b]).null with
   | true =>
    have K:J (jk (a.take (b+1))=jk (a.take b)):=by
     show jk (a.take (b+1))=_;rw[Xp a b X,o];simp
    rw[o]at g1;clear o;have d3:=I (i.alloc (Obj.cells #[.bool true,N (a[b]).int,S (a[b]).text] 58));have dW:=I (f.alloc f.size (Obj.cells #[.bool true,N (a[b]).int,S (a[b]).text] 58));clear i f;go_wp2;go_roundw
    ·exact⟨b+1,by omega,by go_num,by rw[K.o];exact d3.o,dW.o⟩
    ·simp[intOf];omega
   | false =>
    have K:J (jk (a.take (b+1))=jk (a.take b)++[a[b]]):=by
     show jk (a.take (b+1))=_;rw[Xp a b X,o];simp
    rw[o]at g1;clear o;generalize jk (a.take b)=r at *;have da:=i.alloc (Obj.cells #[.bool false,N (a[b]).int,S (a[b]).text] 58);have P:=f.alloc f.size (Obj.cells #[.bool false,N (a[b]).int,S (a[b]).text] 58);have d8:=jf (Obj.cells #[.bool false,N (a[b]).int,S (a[b]).text] 58) ce;clear i f;go_wp2_with fail;refine(jev ⟨false,(a[b]).int,(a[b]).text⟩ _).mono ?_;rintro h q ⟨rfl,u⟩;have Z:=ju da u;have s:=P.trans (u.mono P.size);clear da u P g1 g2 g3 ce d8;go_wp2_with(at_builtin;refine ko _ rfl (.tmp 17) (.tmp 22) 71 rfl G.heap.size 9 i0 (.string ⟨#[]⟩) 1 16 Tryz.underlying71 hi eg em eq rfl (by decide) _ _ _ rfl (Z.alloc _) (A _ 0) 1 1 [S (a[b]).text] rfl rfl ?c1 ?c2 ?c3 ?c4 ?c5 ?_)
    case c1=>exact qr q #[S (a[b]).text] 9
    case c2=>intro eS hu;simp at hu;subst hu;rfl
    case c3=>unfold maxLen;omega
    case c4=>omega
    case c5=>have:=s.size;simp;omega
    intro v3 w3 dd cs _;have d2:=I dd;have d0:=I ((s.alloc s.size _).grown cs (by have:=s.size;simp;omega) (fun b hk=>(Z.lt b hk).1));clear Z dd cs s;go_wp2;go_roundw
    ·exact⟨b+1,by omega,by go_num,by rw[K.o,show(r++[a[b]]).length=r.length+1 by simp,show QX (r++[a[b]])=QX r++[S (a[b]).text] by simp[QX,Jk,KF]];exact d2.o,d0.o⟩
    ·simp[intOf];omega
  ·have ea:b=a.length:=(by omega);subst ea;rw[aS]at i dv;have w:=BT i;have bi:=I (be.o.j f);by_cases l:jk a=[]
   ·have H:J (xy 1 a=JC a):=by
     show xy 1 a=_;rw[xy,aQ l]
    have ds:(jk a).length=0:=(by rw[l];rfl);rw[ds]at w;have ec:=w wr;clear w l ds i;go_wp2_with fail;refine(NM m B a _ Y bi.o).mono ?_;rintro h q ⟨rfl,u⟩;go_wp2;go_ret;have F:=y.o.size;have n:=y.o.trans (f.mono F);exact⟨qH H.o.symm,n.trans (u.mono n.size)⟩
   ·have H:J (JC a++jV 1 (jk a) 3=xy 1 a):=by
     show _=xy 1 a;rw[xy,aL l]
    have ec:=w wr;have eP:(((jk a).length:Int)==0)=false:=by
     have:=dO.2 l;simp;omega
    have x:J (Small (jk a)):=⟨fun c hc=>d4.o c (dn.1 hc).1,by omega,l⟩;obtain⟨M,cv,rfl,dT⟩:=FW i l;have d5:=I dT;have b4:=xJ Hc.o f D;have ap:=I b4;have E:e.heap.size<wr.heap.size:=aC D f.size;have co:g<wr.heap.size:=aC ci f.size;have d7:=I (d6.o.j ci f);have hh:=Ku a Y;have es:=Kv 1 (jk a) x.o.small x.o.ao 3;have HU:J (∀d,T3 d m a->C' 193 #[.slice m a.length B] d fun h q=>h=.returned (S (JC a))/\Below d.heap.size d q):=fun d O=>NM m B a d Y O;have HE:J (∀d,U7 d M (jk a)->g<d.heap.size->D7 d g->C' 208 #[K9 g,R M (jk a).length cv] d fun h q=>h=.returned (S (jV 1 (jk a) 3))/\Below d.heap.size d q):=fun d O h1 h2=>jeo g M cv (jk a) d x.o O h1 h2;clear w l i dT x;generalize JC a=am at *;generalize jV 1 (jk a) 3=S3 at *;generalize (jk a)=r at *;obtain⟨x0,x1,x2,x3,x4,x5,x6⟩:=b4;go_wp2_with fail;go_region_held3 (fun d=>d.cell? (A e.heap.size 0)=some (R g 3 3)/\d.cell? (A e.heap.size 1)=some (V4 202)/\d.cell? (A e.heap.size 2)=some (V4 203)/\d.cell? (A e.heap.size 3)=some (V4 204)/\d.cell? (A e.heap.size 4)=some (V4 205)/\d.cell? (A e.heap.size 5)=some (V4 206)/\d.cell? (A e.heap.size 6)=some (V4 207))
     (first|exact Na _ z|exact X6|exact z|exact L|exact ap.o)
     (first
      | (go_at_call 193;refine(HU.o _ (bi.o.j (XB _))).mono ?_;rintro h w3 ⟨rfl,bX⟩;have j:=jg bX;have L:=xJ ap.o j E)
      | (go_at_call 208;refine(HE.o _ (d5.o.j j) (aC co j.size) (d7.o.j co j)).mono ?_;rintro h w4 ⟨rfl,C⟩;have z:=xJ L C (aC E j.size))
      | (go_at_call 194;refine(ZJ [am,S3] #[S am,S S3] 2 _ _ ?_ rfl rfl ?_ ?_).mono ?_;(first|rfl|simp);decide;(simp;omega);rintro h w6 ⟨rfl,V⟩;have X6:=xJ z V (aC E (aI j.size C.size))))
    have F:=y.o.size;have n:=y.o.trans (f.mono F);have T:=n.trans (j.mono n.size);have U:=T.trans (C.mono T.size);have d1:=I (U.trans (V.mono U.size));clear L z X6 x0 x1 x2 x3 x4 x5 x6 bX j C V f F n T U;go_wp2;go_ret;exact⟨qH H.o,d1.o⟩
theorem Wv(kind:Int)(h:O')(j:Nat)(b:List Z9)(d:W)(r:kind=0\/kind=1)(p:b.length<=60)(q:∀c∈b,qI c)(o:T3 d h b) :
  C' 67 #[N kind,.slice h b.length j] d fun e s=>e=.returned (S (xy kind b))/\Below d.heap.size d s:=by
 have n:=I q;have m:=I o;clear q o;rcases r with rfl|rfl
 ·go_enter Tryz.func67,Tryz.ntmps67;go_wp2_with fail;refine(Ye d).mono ?_;rintro e t ⟨g,rfl,l,f,a⟩;have i:=I f;clear f;go_wp2_with fail;refine(jdl g h j b _ p n.o (m.o.j a) l i.o).mono ?_;rintro e u ⟨rfl,k⟩;go_wp2;go_ret;exact⟨rfl,a.trans (k.mono a.size)⟩
 ·go_enter Tryz.func67,Tryz.ntmps67;go_wp2_with fail;refine(AP d).mono ?_;rintro e t ⟨g,rfl,l,f,a⟩;have i:=I f;clear f;go_wp2_with fail;refine(jdj g h j b _ p n.o (m.o.j a) l i.o).mono ?_;rintro e u ⟨rfl,k⟩;go_wp2;go_ret;exact⟨rfl,a.trans (k.mono a.size)⟩
def qU(b:W)(p:Nat)(a rest:B8):Prop :=
 ∃at_:Nat,b.heap[p]?=some (.cells #[S a,N at_] 296 (0,0))/\at_<=a.length/\rest=a.drop at_
abbrev T8:Ending:=.panicked [{ v:=.iface 9 (.string ⟨#[119,105,114,101,58,32,103,97,118,101,32,117,112]⟩),recovered:=false}]
theorem qx(a:W):C' 155 #[.bool true] a fun b c=>b=.returned (.tuple #[])/\c=a:=by
 go_enter Tryz.func155,Tryz.ntmps155;go_wp2;go_end0
 exact⟨rfl,rfl⟩
theorem xu(a:W):C' 155 #[.bool false] a fun b c=>b=T8/\c=a:=by
 go_enter Tryz.func155,Tryz.ntmps155;go_wp2;exact⟨rfl,rfl,rfl⟩
variable{F:TypeId}
theorem RD(b:w.heap[n]?=some (.cells #[x,y] F (0,0))) :
  (w.cell? (A n 0)=some x/\w.cell? (A n 1)=some y)/\(∀j,w.frozen? (A n j)=false):=by
 refine⟨⟨?_,?_⟩,fun j=>kh w n j _ F b⟩
 ·rw[kC w n 0 _ F (0,0) b];rfl
 ·rw[kC w n 1 _ F (0,0) b];rfl
theorem jfr{b g v:Value}(d:w.heap[n]?=some (.cells #[b,g] F (0,0))):(w.setCell (A n 1) v).heap[n]?=some (.cells #[b,v] F (0,0))/\w.grownBy (w.setCell (A n 1) v) (some n):=by
 refine⟨?_,⟨rfl,rfl,rfl,by simp,fun f _ e=>kA w (A n 1) f v (fun c=>e (by simp[c]))⟩⟩;rw[kj w n 1 _ F v d];rfl
theorem Kz(p:Nat)(a rest:B8)(g:W)(x:a.length<=maxLen)(w:qU g p a rest) :
  C' 225 #[(Q p 0)] g fun e b=>g.grownBy b (some p) /\
   ((rest=[]/\e=T8)\/∃c l,rest=c::l/\e=.returned (.int .u8 (c.toNat:Int))/\qU b p a l):=by
 obtain⟨at_,i,E,rfl⟩:=w;obtain⟨⟨c0,c1⟩,cf⟩:=RD i;have t:=cf 1;have q:=I i;unfold maxLen at x;clear i cf;have H:=jT a;by_cases f:at_<a.length
 ·have u:(at_:Int)<(a.length:Int):=by omega
  go_enter Tryz.func225,Tryz.ntmps225;go_wp2_with fail;go_region_held3 (fun b=>b.cell? (A p 0)=some (S a)/\b.cell? (A p 1)=some (N at_)) (exact⟨c0,c1⟩)
   (first|(go_at_call 155;refine(qx _).mono ?_;rintro e b ⟨rfl,rfl⟩))
  go_wp2_with fail;obtain⟨h,j⟩:=jfr (v:=N ((at_:Int)+1)) q.o;have k:=h;obtain⟨⟨r,s⟩,_⟩:=RD k;clear k c0 c1 t;generalize g.setCell _ _=m at *;have n:=I h;have d:=I j;clear h j;have F:at_<(⟨a.toArray⟩:ByteArray).size:=by rw[jT];exact f
  have G:IntKind.i64.wrap ((at_:Int)+1-1)=(at_:Int):=by rw[kE];omega
  have z:m.drew.cell? (A p 0)=some (S a):=r;have B:m.drew.cell? (A p 1)=some (N ((at_:Int)+1)):=s;go_quiet(fail);go_wp2;go_ret;refine⟨?_,.inr ⟨a[at_],a.drop (at_+1),bK f,?_,at_+1,n.o,f,rfl⟩⟩
  ·exact⟨d.o.os,d.o.tape,d.o.output,d.o.size,d.o.block⟩
  ·exact qX (by rw[Ko a at_ f])
 ·have u:decide ((at_:Int)<(a.length:Int))=false:=by simp;omega
  go_enter Tryz.func225,Tryz.ntmps225;go_wp2_with fail;have o:J (a.drop at_=[]):=fh (by omega);refine k9 (S:=fun b=>b.cell? (A p 0)=some (S a)/\b.cell? (A p 1)=some (N at_)) (by kernel_rfl) ?_ (fun C=>?_)
  ·exact⟨c0,c1⟩
  refine tk 0 (Q p 0) ?_;refine tk 1 (Q p 0) ?_;refine tk 2 (Q p 1) ?_;refine tk 3 (N at_) ?_;refine tk 4 (Q p 0) ?_;refine tk 5 (Q p 0) ?_;refine tk 6 (Q p 0) ?_;refine tk 7 (S a) ?_;refine tk 8 (N a.length) ?_;refine tk 9 (.bool false) ?_;simp only[jA,jB,jC,Act.put,jD,jE,jF];refine rd 10 (fun y D=>?_);simp only[jA,jB,jC];go_simp;go_at_call 155
  refine(xu _).mono ?_;rintro e b ⟨rfl,rfl⟩;exact⟨rfl,⟨rfl,rfl,rfl,aA _,fun _ _ _=>rfl⟩,.inl ⟨o.o,rfl⟩⟩
theorem Wh(a:Int)(c:0<=a)(d:a<=255):bits .andNot .u8 a 128=a%128:=by
 obtain⟨b,rfl⟩:=cL c;have key:∀b:Fin 256,bits .andNot .u8 ((b.val:Nat):Int) 128=((b.val:Nat):Int)%128:=by decide
 exact key ⟨b,by omega⟩
theorem Du(a:Nat)(d:B8)(c:UInt8)(rest:B8)(b:c::rest=uB a++d) :
  (128<=c.toNat/\127<a/\a%128+128=c.toNat/\rest=uB (a/128)++d)\/(c.toNat<128/\a=c.toNat/\rest=d):=by
 by_cases f:a<=127
 ·rw[Qe f]at b;simp only[bF,bW,bT]at b;obtain⟨rfl,rfl⟩:=b
  right;rw[Xl a (by omega)];exact⟨by omega,rfl,rfl⟩
 ·rw[KJ (by omega)]at b;simp only[bF,bT]at b;obtain⟨rfl,rfl⟩:=b
  left;have:=Xl (a%128+128) (by omega);have e:((a%128+128:Nat):Int)=(a:Int)%128+128:=by omega
  rw[e]at this;rw[this];exact⟨by omega,by omega,rfl,rfl⟩
theorem jfi(a:Nat)(d:B8):uB a++d≠[]:=by
 intro b;have e:=jex a;have c:=bN List.length b;rw[aB,bJ]at c;omega
def GI(e:B8)(j b:Nat)(rest:B8):Prop :=
 b<128^j/\∀c d,e=uB c++d↔∃a,c=b+128^j*a/\(0<j->0<a)/\rest=uB a++d
theorem Mo(rest:B8):GI rest 0 0 rest:=by
 refine⟨by simp,fun b f=>⟨fun a=>⟨b,by simp,fun a=>by omega,a⟩,?_⟩⟩;rintro⟨e,c,_,d⟩;have:b=e:=by simpa using c
 subst this;exact d
variable{r s:B8}
theorem Te{c:UInt8}(l:GI s n m (c::r))(rest:128<=c.toNat):GI s (n+1) (m+128^n*(c.toNat%128)) r:=by
 obtain⟨q,j⟩:=l;have g:=c.toNat_lt;refine⟨?_,fun p f=>?_⟩
 ·have:128^n*(c.toNat%128)<=128^n*127:=Nat.mul_le_mul_left _ (by omega);rw[eL];omega
 ·rw[j p f];constructor
  ·rintro⟨a,rfl,b,d⟩;rcases Du a f c r d with⟨_,e,t,o⟩|⟨e,_,_⟩
   ·refine⟨a/128,?_,fun _=>by omega,o⟩;have h:c.toNat%128=a%128:=(by omega);rw[h,eL,fM,dq,<-gj]
    congr 2;omega
   ·omega
  ·rintro⟨a,rfl,b,d⟩;have b:=b (by omega);refine⟨c.toNat%128+128*a,?_,fun _=>by omega,?_⟩
   ·rw[eL,fM,dq,<-gj]
   ·rw[KJ (by omega),d];have i:(c.toNat%128+128*a)/128=a:=(by omega);have k:(((c.toNat%128+128*a:Nat):Int)%128+128)=(c.toNat:Int):=(by omega);rw[i,k,Cy];rfl
theorem RO{c:UInt8}(g:GI s n m (c::r))(j:c.toNat<128)(d:Nat)(a:B8) :
  s=uB d++a↔(d=m+128^n*c.toNat/\(0<n->0<c.toNat)/\a=r):=by
 rw[g.2 d a];constructor
 ·rintro⟨l,rfl,b,h⟩;rcases Du l a c r h with⟨e,_,_,_⟩|⟨_,i,k⟩
  ·omega
  ·subst i;exact⟨rfl,b,k.symm⟩
 ·rintro⟨rfl,b,rfl⟩;refine⟨c.toNat,rfl,b,?_⟩;rw[Qe (by omega),Cy];rfl
theorem Lc(e:GI s n m [])(b:Nat)(a:B8):s≠uB b++a:=by
 intro f;obtain⟨h,_,_,g⟩:=(e.2 b a).1 f;exact jfi h a g.symm
theorem Pb:128^9=9223372036854775808:=by decide
theorem LE{c:UInt8}(f:GI s 9 n (c::r))(k:2<=c.toNat)(a:Nat)(b:B8)(i:a<18446744073709551616):s≠uB a++b:=by
 intro g;obtain⟨j,rfl,_,h⟩:=(f.2 a b).1 g;rw[Pb]at i;rcases Du j b c r h with⟨_,l,_,_⟩|⟨_,m,_⟩<;>omega
theorem Ox(a c j:Nat)(d:a<128^j)(e:128^j*(c%128)<18446744073709551616)(g:a<18446744073709551616) :
  bits .or .u64 (a:Int) (IntKind.u64.wrap ((c:Int)%128*2^(7*j)))=((a+128^j*(c%128):Nat):Int):=by
 have b:128^j=2^(7*j):=by rw[show 128=2^7 from rfl,<-Nat.pow_mul]
 have h:IntKind.u64.wrap ((c:Int)%128*2^(7*j))=((2^(7*j)*(c%128):Nat):Int):=by
  rw[kJ];have f:((c:Int)%128*2^(7*j))=((2^(7*j)*(c%128):Nat):Int):=by
   rw[gG];simp
  rw[f];rw[b]at e;generalize 2^(7*j)*(c%128)=q at *;omega
 rw[h,u64_or_nat _ _ g (by rw[<-b];exact e),b];rw[b]at d;rw[gO,<-eH d]
 congr 1;omega
theorem Hy(j:Nat)(a:j<=8):128^j<=72057594037927936:=by
 have:=eK (n:=128) (by decide) a;exact aI this (by decide)
theorem El(p:Nat)(r rest:B8)(y:W)(U:r.length<=maxLen)(O:qU y p r rest) :
  C' 266 #[(Q p 0)] y fun d V=>y.grownBy V (some p) /\
   ((d=T8/\∀f a,f<18446744073709551616->rest≠uB f++a)\/∃n a,n<18446744073709551616/\rest=uB n++a/\d=.returned (.int .u64 (n:Int))/\qU V p r a):=by
 have Hs:=I U;have Z:=I O;clear U O;go_enter Tryz.func266,Tryz.ntmps266;go_wp2;go_loopw [3,4] (fun n G wr=>∃(j b:Nat) (x:B8),j<=9/\n=.int .u64 (b:Int)/\G=N ((7*j:Nat):Int)/\GI rest j b x/\qU wr p r x/\y.grownBy wr (some p)) (fun _ G _=>100-(intOf G).toNat)
 case atStart=>exact⟨0,0,rest,by omega,rfl,rfl,Mo rest,Z.o,⟨rfl,rfl,rfl,aA _,fun _ _ _=>rfl⟩⟩
 case round =>
  obtain⟨j,b,x,hj,rfl,rfl,D,P,K⟩:=hrel;have h:=I D;have H:=I K;have ac:b<128^9:=aC D.1 (eK (by decide) hj);rw[Pb]at ac;clear D K;go_wp2_with fail;refine(Kz p r x _ Hs.o P).mono ?_;rintro d w2 ⟨C,⟨rfl,rfl⟩|⟨c,a,rfl,rfl,T⟩⟩
  ·go_wp2;exact⟨rfl,je H.o C,.inl ⟨rfl,fun f a _=>Lc h.o f a⟩⟩
  ·have g:=I (je H.o C);have s:=I T;have bi:=c.toNat_lt;have ha:=Wh (c.toNat:Int) (by omega) (by omega);clear P T C;by_cases b4:j<9
   ·have bX:((7*j:Nat):Int)<63:=(by omega);have am:=Hy j (by omega);have w:128^j*(c.toNat%128)<=72057594037927936*127:=cS am (by omega);have E:=Ox b c.toNat j h.o.1 (by omega) (by omega);by_cases z:c.toNat<128
    ·have B:(c.toNat:Int)<128:=(by omega);have i:c.toNat%128=c.toNat:=(by omega);have k:=I (RO h.o z);rw[i]at E w;have l:J (b+128^j*c.toNat<18446744073709551616):=by show _<_;omega
     clear w i;by_cases o:0<c.toNat
     ·have F:(0:Int)<(c.toNat:Int):=(by omega);generalize m:128^j*c.toNat=q at *;clear m;go_wp2_with fail;refine(qx _).mono ?_;rintro d e ⟨rfl,rfl⟩;go_wp2_with fail;refine(qx _).mono ?_;rintro d e ⟨rfl,rfl⟩;go_wp2;go_ret;exact⟨g.o,.inr ⟨b+q,a,l.o,(k.o (b+q) a).2 ⟨rfl,fun _=>o,rfl⟩,rfl,s.o⟩⟩
     ·have F:decide ((0:Int)<(c.toNat:Int))=false:=(by simp;omega);by_cases L:j=0
      ·have M:(7*(j:Int)==0)=true:=(by simp;omega);have X:=I L;clear L;generalize m:128^j*c.toNat=q at *;clear m;go_wp2_with fail;refine(qx _).mono ?_;rintro d e ⟨rfl,rfl⟩;go_wp2_with fail;refine(qx _).mono ?_;rintro d e ⟨rfl,rfl⟩;go_wp2;go_ret;exact⟨g.o,.inr ⟨b+q,a,l.o,(k.o (b+q) a).2 ⟨rfl,fun t=>by have:=X.o;omega,rfl⟩,rfl,s.o⟩⟩
      ·have M:(7*(j:Int)==0)=false:=(by simp;omega);go_wp2_with fail;refine(qx _).mono ?_;rintro d e ⟨rfl,rfl⟩;go_wp2_with fail;refine(xu _).mono ?_;rintro d e ⟨rfl,rfl⟩;go_wp2;exact⟨rfl,g.o,.inl ⟨rfl,fun f a _ t=>absurd (((k.o f a).1 t).2.1 (by omega)) o⟩⟩
    ·have B:decide ((c.toNat:Int)<128)=false:=(by simp;omega);have l:=I w;clear w;go_wp2_with fail;refine(qx _).mono ?_;rintro d e ⟨rfl,rfl⟩;go_wp2_with fail;go_roundw
     ·exact⟨j+1,b+128^j*(c.toNat%128),a,by omega,rfl,by go_num,Te h.o (by omega),s.o,g.o⟩
     ·simp[intOf];omega
   ·have cd:decide (7*(j:Int)<63)=false:=(by simp;omega);have u:j=9:=(by omega);have v:128^j=9223372036854775808:=(by rw[u]);by_cases ap:c.toNat<=1
    ·have be:(c.toNat:Int)<=1:=(by omega);have B:(c.toNat:Int)<128:=(by omega);have i:c.toNat%128=c.toNat:=(by omega);have z:c.toNat<128:=(by omega);have E:=Ox b c.toNat j h.o.1 (by rw[v];omega) (by omega);have k:=I (RO h.o z);rw[i]at E;have l:J (b+128^j*c.toNat<18446744073709551616):=by show _<_;rw[v];omega
     have bv:0<j:=(by omega);clear i v u;by_cases o:0<c.toNat
     ·have F:(0:Int)<(c.toNat:Int):=(by omega);generalize m:128^j*c.toNat=q at *;clear m;go_wp2_with fail;refine(qx _).mono ?_;rintro d e ⟨rfl,rfl⟩;go_wp2_with fail;refine(qx _).mono ?_;rintro d e ⟨rfl,rfl⟩;go_wp2;go_ret;exact⟨g.o,.inr ⟨b+q,a,l.o,(k.o (b+q) a).2 ⟨rfl,fun _=>o,rfl⟩,rfl,s.o⟩⟩
     ·have F:decide ((0:Int)<(c.toNat:Int))=false:=(by simp;omega);have M:(7*(j:Int)==0)=false:=(by simp;omega);go_wp2_with fail;refine(qx _).mono ?_;rintro d e ⟨rfl,rfl⟩;go_wp2_with fail;refine(xu _).mono ?_;rintro d e ⟨rfl,rfl⟩;go_wp2;exact⟨rfl,g.o,.inl ⟨rfl,fun f a _ t=>absurd (((k.o f a).1 t).2.1 (by omega)) o⟩⟩
    ·have B:decide ((c.toNat:Int)<=1)=false:=(by simp;omega);clear v;have Y:=I u;clear u;go_wp2_with fail;refine(xu _).mono ?_;rintro d e ⟨rfl,rfl⟩;go_wp2;exact⟨rfl,g.o,.inl ⟨rfl,fun f a i=>LE (by rw[<-Y.o];exact h.o) (by omega) f a i⟩⟩
def RX{α:Type}(c:α->Prop)(e:α->B8)(val:α->Value)(p:Nat)(h rest:B8)(i:W)(d:Ending)(g:W):Prop :=
 i.grownBy g (some p)/\((d=T8/\∀a q,c a->rest≠e a++q)\/∃a f,c a/\d=.returned (val a)/\qU g p h f/\∀b q,c b->rest=e b++q->b=a/\q=f)
theorem Io(g:n<18446744073709551616)(f:m<18446744073709551616)(d:uB n++s=uB m++r):n=m/\s=r:=by
 have a:=LV n s g;have e:=LV m r f;rw[d,e]at a;simp only[cX,aW]at a;exact⟨a.1.symm,a.2.symm⟩
theorem qb(a:W)(q:Option Nat):a.grownBy a q:=⟨rfl,rfl,rfl,aA _,fun _ _ _=>rfl⟩
theorem UY(p:Nat)(b rest:B8)(a:Nat)(d:W)(l:b.length<=maxLen)(D:a<=1000000)(i:qU d p b rest) :
  C' 242 #[(Q p 0),N a] d (RX (fun n:Nat=>n<=a) uB (fun n=>N n) p b rest d):=by
 have r:=I l;have m:=I i;clear l i;have E:IntKind.u64.wrap (a:Int)=(a:Int):=Qw (by omega) (by omega);go_enter Tryz.func242,Tryz.ntmps242;go_wp2_with fail;refine(El p b rest _ r.o m.o).mono ?_;rintro g G ⟨c,⟨rfl,x⟩|⟨n,y,h,j,rfl,k⟩⟩
 ·go_wp2;exact⟨rfl,c,.inl ⟨rfl,fun f q s=>x f q (by omega)⟩⟩
 ·have e:=I j;have o:=I k;clear j k;by_cases w:n<=a
  ·have v:(n:Int)<=(a:Int):=(by omega);have F:IntKind.i64.wrap (n:Int)=(n:Int):=Ge (by omega) (by omega);go_wp2_with fail;refine(qx _).mono ?_;rintro g z ⟨rfl,rfl⟩;go_wp2;go_ret;exact⟨c,.inr ⟨n,y,w,rfl,o.o,fun B q C u=>by
    have:=Io h (by omega) (e.o.symm.trans u);exact⟨this.1.symm,this.2.symm⟩⟩⟩
  ·have v:decide ((n:Int)<=(a:Int))=false:=(by simp;omega);go_wp2_with fail;refine(xu _).mono ?_;rintro g z ⟨rfl,rfl⟩;go_wp2;exact⟨rfl,c,.inl ⟨rfl,fun f q s t=>by
    have:=(Io h (by omega) (e.o.symm.trans t)).1;omega⟩⟩
def B9(a:Int):Prop:=-9223372036854775808<=a/\a<=9223372036854775807
theorem WO(n:Nat)(a:n<18446744073709551616):B9 (F9 n):=by
 unfold F9 B9;split<;>omega
theorem MW(p:Nat)(s rest:B8)(w:W)(hs:s.length<=maxLen)(hp:qU w p s rest) :
  C' 245 #[(Q p 0)] w (RX B9 zB (fun z=>N z) p s rest w):=by
 have Hs:=I hs;have Hp:=I hp;clear hs hp;go_enter Tryz.func245,Tryz.ntmps245;go_wp2_with fail;refine(El p s rest _ Hs.o Hp.o).mono ?_;rintro e w1 ⟨hg,⟨rfl,hno⟩|⟨n,r,hn,hr,rfl,hrd⟩⟩
 ·go_wp2;exact⟨rfl,hg,.inl ⟨rfl,fun a q ha=>hno (zN a) q (TH a ha.1 ha.2)⟩⟩
 ·have Hr:=I hr;have Hrd:=I hrd;clear hr hrd;have HU:J (∀(b:Int) (q:B8),B9 b->rest=zB b++q->b=F9 n/\q=r):=by
   intro b q hb hbq;have:=Io hn (TH b hb.1 hb.2) (Hr.o.symm.trans hbq);exact⟨by rw[this.1,Sc],this.2.symm⟩
  by_cases hev:n%2=0
  ·have HZ:J (F9 n=(n:Int)/2):=(by simp[J,F9,hev]);have hb:((n:Int)%2==0)=true:=(by simp;omega);have hw2:IntKind.i64.wrap ((n:Int)/2)=(n:Int)/2:=Ge (by omega) (by omega);clear hev;go_wp2;go_ret;exact⟨hg,.inr ⟨F9 n,r,WO n hn,qX HZ.o.symm,Hrd.o,HU.o⟩⟩
  ·have HZ:J (F9 n=-((n:Int)/2)-1):=(by simp[J,F9,hev]);have hb:((n:Int)%2==0)=false:=(by simp;omega);have hx:=Bt ((n:Int)/2) (by omega) (by omega);have hw2:IntKind.i64.wrap (18446744073709551615-(n:Int)/2)=-((n:Int)/2)-1:=(by rw[kE];omega);clear hev;go_wp2;go_ret;exact⟨hg,.inr ⟨F9 n,r,WO n hn,qX (by rw[HZ.o];unfold wrap64;omega),Hrd.o,HU.o⟩⟩
theorem Nv(c:B8)(a b:Nat):(⟨c.toArray⟩:ByteArray).extract a b=⟨((c.drop a).take (b-a)).toArray⟩:=by
 rw[lu]
 first|done|simp
theorem Ck(b:List (B8))(d:V')(n:Nat)(a:W)(c:Nat)(e:a.heap[c]?=some (.cells d 9 (0,0)))(h:d=(Jk b).toArray)(k:b.length=n)(l:n<=1000)(m:b.flatten.length<=1000000) :
  C' 194 #[R c n n] a fun g o=>g=.returned (S b.flatten)/\Below a.heap.size a o:=by
 subst k;refine Uy b c b.length a l m ?_ ?_
 ·rcases eA c a.heap.size with f|f
  ·exact f
  ·rw[fi f]at e;cases e
 ·intro j i;rw[kC a c j d _ (0,0) e,h];simp[Jk,i]
theorem xf(e:qU w n s r)(i:Below m w v)(j:n<m):qU v n s r:=by
 obtain⟨at_,f,g,h⟩:=e;exact⟨at_,(i.block n j).trans f,g,h⟩
theorem zh(d:qU w n s r):n<w.heap.size:=by
 obtain⟨at_,c,_⟩:=d;rcases eA n w.heap.size with a|a
 ·exact a
 ·rw[fi a]at c;cases c
variable{d:Option Nat}
theorem jU(a:w.grownBy v d)(b:Below v.heap.size v u):w.grownBy u d :=
 ⟨b.os.trans a.os,b.tape.trans a.tape,b.output.trans a.output,aI a.size b.size,fun g f h=>(b.block g (aC f a.size)).trans (a.block g f h)⟩
theorem QJ(p:Nat)(a rest:B8)(n:Nat)(c:W)(P:a.length<=maxLen)(hn:n<=100000)(L:qU c p a rest) :
  C' 224 #[(Q p 0),N n] c fun e b=>c.grownBy b (some p) /\
   ((rest.length<n/\e=T8)\/(n<=rest.length/\e=.returned (S (rest.take n))/\qU b p a (rest.drop n))):=by
 obtain⟨at_,k,Y,rfl⟩:=L;obtain⟨⟨c0,c1⟩,cf⟩:=RD k;have G:=cf 1;have F:=I k;unfold maxLen at P;clear k cf;have hz:=jT a;have Z:(a.drop at_).length=a.length-at_:=aP;have b4:IntKind.i64.wrap ((a.length:Int)-(at_:Int))=(a.length:Int)-(at_:Int):=Ge (by omega) (by omega);by_cases be:n<=a.length-at_
 ·have H:(n:Int)<=(a.length:Int)-(at_:Int):=by omega
  go_enter Tryz.func224,Tryz.ntmps224;go_wp2_with fail;go_region_held3 (fun b=>b.cell? (A p 0)=some (S a)/\b.cell? (A p 1)=some (N at_)) (exact⟨c0,c1⟩)
   (first|(go_at_call 155;refine(qx _).mono ?_;rintro e b ⟨rfl,rfl⟩))
  go_wp2_with fail;obtain⟨i,m⟩:=jfr (v:=N ((at_:Int)+(n:Int))) F.o;have M:p<c.heap.size:=aZ c _ c0;have o:=i;obtain⟨⟨g,d⟩,_⟩:=RD o;have u:(c.setCell (A p 1) (N ((at_:Int)+(n:Int)))).heap.size=c.heap.size:=by simp
  have j:p<(c.setCell (A p 1) (N ((at_:Int)+(n:Int)))).heap.size:=by rw[u];exact M
  clear o c0 c1 G u;generalize c.setCell _ _=h at *;have C:J (qU h p a ((a.drop at_).drop n)):=⟨at_+n,by simpa using i,by omega,by rw[cZ]⟩;have y:=I m;clear i m;have t:(at_:Int)+(n:Int)=((at_+n:Nat):Int):=by omega
  rw[t]at d;have K:=Nv a at_ (at_+n);rw[fS]at K;have bi:at_+n<=a.length:=by omega
  have O:((at_+n:Nat):Int)-(n:Int)=(at_:Int):=by omega
  have bv:at_<=at_+n:=by omega
  clear t;generalize at_+n=q at *;have bX:IntKind.i64.wrap ((q:Int)-(n:Int))=(at_:Int):=by rw[kE];omega
  clear O;have ac:(0:Int)<=(at_:Int):=by omega
  have am:(at_:Int)<=(q:Int):=by omega
  have ap:(q:Int)<=(a.length:Int):=by omega
  have E:J (((a.drop at_).take n).length<=100000):=by show _<=_;rw[aM];omega
  generalize r:(a.drop at_).take n=l at *;have D:=I r;clear r;go_region_held3 (fun b=>b.cell? (A p 0)=some (S a)/\b.cell? (A p 1)=some (N q)) (first|exact⟨jf _ g,jf _ d⟩|exact⟨w,x⟩|exact⟨g,d⟩)
   (first|(go_at_call 194;refine(Ck [l] #[S l] 1 _ _ ?_ rfl rfl ?_ ?_).mono ?_;exact kH h _;decide;(have:=E.o;simp;omega);rintro e T ⟨rfl,s⟩;have f:Below h.heap.size h T:=zl (jg (jg s));have w:=(f.cell (p:=A p 0) j).trans g;have x:=(f.cell (p:=A p 1) j).trans d))
  have z:=I (xf C.o f j);have B:=I (jU y.o f);clear w x g d s f;go_wp2;go_ret;exact⟨B.o,.inr ⟨by omega,qH D.o.symm,z.o⟩⟩
 ·have H:decide ((n:Int)<=(a.length:Int)-(at_:Int))=false:=by simp;omega
  go_enter Tryz.func224,Tryz.ntmps224;go_wp2_with fail;refine k9 (S:=fun b=>b.cell? (A p 0)=some (S a)/\b.cell? (A p 1)=some (N at_)) (by kernel_rfl) ?_ (fun V=>?_)
  ·exact⟨c0,c1⟩
  refine tk 0 (N n) ?_;refine tk 1 (Q p 0) ?_;refine tk 2 (Q p 0) ?_;refine tk 3 (Q p 0) ?_;refine tk 4 (S a) ?_;refine tk 5 (N a.length) ?_;refine tk 6 (Q p 0) ?_;refine tk 7 (Q p 0) ?_;refine tk 8 (Q p 1) ?_;refine tk 9 (N at_) ?_;refine tk 10 (N ((a.length:Int)-(at_:Int))) ?_;refine tk 11 (.bool false) ?_;simp only[jA,jB,jC,Act.put,jD,jE,jF];refine rd 12 (fun U X=>?_);simp only[jA,jB,jC];go_simp;go_at_call 155
  refine(xu _).mono ?_;rintro e b ⟨rfl,rfl⟩;exact⟨rfl,⟨rfl,rfl,rfl,aA _,fun _ _ _=>rfl⟩,.inl ⟨by omega,rfl⟩⟩
theorem At(p:Nat)(d rest:B8)(c:Nat)(i:W)(u:d.length<=maxLen)(D:c<=12)(s:qU i p d rest) :
  C' 247 #[(Q p 0),N c] i (RX (fun t:B8=>t.length<=c) xB S p d rest i):=by
 have j:=I u;have w:=I s;clear u s;go_enter Tryz.func247,Tryz.ntmps247;go_wp2_with fail;refine(UY p d rest c _ j.o (by omega) w.o).mono ?_;rintro x F ⟨h,⟨rfl,z⟩|⟨n,e,E,rfl,B,v⟩⟩
 ·go_wp2;exact⟨rfl,h,.inl ⟨rfl,fun a q g b=>z a.length (a++q) g (by rw[b,xB,aD])⟩⟩
 ·have k:=I v;clear v;go_wp2_with fail;refine(QJ p d e n _ j.o (by omega) B).mono ?_;rintro x G ⟨o,⟨r,rfl⟩|⟨r,rfl,C⟩⟩
  ·go_wp2;refine⟨rfl,je h o,.inl ⟨rfl,fun a q g b=>?_⟩⟩;obtain⟨m,f⟩:=k.o a.length (a++q) g (by rw[b,xB,aD]);rw[<-f,aB]at r;omega
  ·go_wp2;go_ret;refine⟨je h o,.inr ⟨e.take n,e.drop n,by show(e.take n).length<=c;rw[aM];omega,rfl,C,fun l q y b=>?_⟩⟩;obtain⟨m,f⟩:=k.o l.length (l++q) y (by rw[b,xB,aD]);subst m f;simp
theorem DA(p:Nat)(a rest:B8)(b:W)(e:a.length<=maxLen)(d:qU b p a rest) :
  C' 205 #[(Q p 0)] b (RX (fun t:B8=>t.length<=12) xB S p a rest b):=by
 have h:=I e;have g:=I d;clear e d;go_enter Tryz.func205,Tryz.ntmps205;go_wp2_with fail;refine(At p a rest 12 _ h.o (by omega) g.o).mono ?_;rintro n o ⟨c,⟨rfl,k⟩|⟨t,m,j,rfl,l,f⟩⟩
 ·go_wp2;exact⟨rfl,c,.inl ⟨rfl,k⟩⟩
 ·have i:=I f;clear f;go_wp2;go_ret;exact⟨c,.inr ⟨t,m,j,rfl,l,i.o⟩⟩
theorem jcx(a v:Int)(b:B9 a)(c:B9 v):wrap64 (a+wrap64 (v-a))=v:=by
 obtain⟨d,e⟩:=b;obtain⟨f,g⟩:=c;unfold wrap64;omega
theorem Ea(n:Int):B9 (wrap64 n):=Jn n
theorem Vx(p:Nat)(b rest:B8)(a:Int)(d:W)(h:b.length<=maxLen)(e:B9 a)(g:qU d p b rest) :
  C' 192 #[(Q p 0),N a] d (RX B9 (fun v=>zB (wrap64 (v-a))) (fun v=>N v) p b rest d):=by
 have m:=I h;have l:=I g;have k:=I e;clear h g e;go_enter Tryz.func192,Tryz.ntmps192;go_wp2_with fail;refine(MW p b rest _ m.o l.o).mono ?_;rintro x z ⟨f,⟨rfl,s⟩|⟨w,u,y,rfl,t,i⟩⟩
 ·go_wp2;exact⟨rfl,f,.inl ⟨rfl,fun v q j c=>s _ q (Ea _) c⟩⟩
 ·have n:=I i;clear i;go_wp2;go_ret;refine⟨f,.inr ⟨wrap64 (a+w),u,Ea _,rfl,t,fun v q j c=>?_⟩⟩;obtain⟨o,r⟩:=n.o _ q (Ea _) c;exact⟨by rw[<-o,jcx a v k.o j],r⟩
end Go.Proofs.YthhpbhpfagoapaaGreat
