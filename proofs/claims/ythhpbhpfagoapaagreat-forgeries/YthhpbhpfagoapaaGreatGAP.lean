import Derived.Test.YthhpbhpfagoapaaGreatGAO
import Derived.Test.YthhpbhpfagoapaaGreatGAJ
namespace Go.Proofs.YthhpbhpfagoapaaGreat
set_option linter.all false
set_option maxRecDepth 100000
set_option maxHeartbeats 16000000
open Go.RowKit
theorem Zt(l:O')(v:Nat)(a:List W9)(n:Int)(d:W)(x:a.length<=maxLen)(p:U2 d l a) :
  C' 162 #[.slice l a.length v,N n] d fun w y=>w=.returned (.tuple #[S (jh a n),.bool (jG a n)])/\Below d.heap.size d y:=by
 have u:=I p;clear p;unfold maxLen at x;go_enter Tryz.func162,Tryz.ntmps162;go_wp2;go_loopw [10] (fun i wr=>∃b:Nat,b<=a.length/\i=N b/\jG (a.take b) n=false/\Below d.heap.size d wr) (fun i _=>a.length-(intOf i).toNat)
 case atStart=>exact⟨0,aG _,rfl,rfl,k8 _ _⟩
 case round =>
  obtain⟨b,E,rfl,q,f⟩:=hrel;have h:=I q;clear q;by_cases e:b<a.length
  ·obtain⟨z,G,rfl,C,o⟩:=(u.o.j f).at_ (aE (by omega));obtain⟨g1,B⟩:=o b e;clear o;have D:(b:Int)<(a.length:Int):=(by omega);have g:=I (f.alloc f.size (Obj.cells #[N (a[b]).number,S (a[b]).ab] 63));by_cases c:(a[b]).number=n
   ·have r:=I (LM e h.o c);have s:J (jG a n=true):=by
     simp only[J,jG,ez];exact⟨a[b],aJ e,by simp[c]⟩
    rw[c]at g1 g;clear c;go_wp2;go_ret2;exact⟨by rw[jh,r.o,s.o];rfl,g.o⟩
   ·have F:((a[b]).number==n)=false:=(by simpa using c);have t:=I c;have k:=I (Ul (r:=a) (k:=a.length) (m:=b) e e n);rw[aS]at k;clear c;go_wp2;go_roundw
    ·exact⟨b+1,by omega,by go_num,by rw[k.o,h.o];simp[t.o],g.o⟩
    ·simp[intOf];omega
  ·have j:J (jG a n=false):=by have:=h.o;rw[aU (by omega)]at this;exact this
   go_wp2;go_ret2;exact⟨by rw[jh,Rl j.o,j.o];rfl,f⟩
variable{K:Int}
theorem DJ(a:List Z9)(b:K=0\/K=1):qi K a=(decide (a.length<=60)&&a.all (qV K)):=by
 unfold qi;rcases b with rfl|rfl<;>simp
theorem MV(o:O')(p:Nat)(t:List W8)(b:W)(hm:t.length<=maxLen)(Y:t.length<=p)(L:P3 b o t) :
  C' 134 #[.slice o t.length p] b fun q w'=>q=.returned (.bool (xk t))/\Below b.heap.size b w':=by
 have m:=I L;clear L;go_enter Tryz.func134,Tryz.ntmps134;go_wp2_with fail;refine(Yd o p t b hm Y m.o).mono ?_;rintro q w1 ⟨rfl,h⟩;cases d:jW t with
 | false =>
  have O:J (xk t=false):=by show xk t=false;rw[xk,d,eY]
  clear d;go_wp2;go_ret;exact⟨jI O.o.symm,h⟩
 | true =>
  have D:1<=t.length/\t.length<=6:=by
   simp only[jW,aK,aN]at d;exact d.2
  have z:=I d;obtain⟨r,D⟩:=D;clear d;obtain⟨V,am,rfl,H,f⟩:=(m.o.j h).at_ (aE (by omega));obtain⟨_,_,_,v0,C,ap,be,rfl,bX,Z,cd⟩:=f 0 (by omega);simp only[eX,dD]at C;have bi:(0:Int)<(t.length:Int):=by omega
  have x:=I (NZ (t:=t) (by omega));clear f Z;go_wp2;go_loopw [16] (fun u wr=>∃a:Nat,a<=t.length/\u=N a/\((t.take a).all fun c=>qi c.kind c.cells&&decide (c.cells.length=qv t))=true/\Below b.heap.size b wr) (fun u _=>t.length-(intOf u).toNat)
  case atStart=>exact⟨0,aG _,rfl,rfl,h⟩
  case round =>
   clear h C H;obtain⟨a,ci,rfl,G,e⟩:=hrel;have y:=I G;clear G;by_cases i:a<t.length
   ·obtain⟨V,am,F,H,f⟩:=(m.o.j e).at_ (aE (by omega));simp only[aW,cG,de]at F;obtain⟨rfl,rfl⟩:=F;obtain⟨g1,g2,g3,v,g4,ca,B,rfl,bv,K,b4⟩:=f a i;clear f;have T:J (((t.take (a+1)).all fun c=>qi c.kind c.cells&&decide (c.cells.length=qv t))=(qi (t[a]).kind (t[a]).cells&&decide ((t[a]).cells.length=qv t))):=by
     show _=_;rw[aH i,ek,y.o];simp
    have w:=I (TV (t:=t) i);have ce:(a:Int)<(t.length:Int):=(by omega);have P:J (qi (t[a]).kind (t[a]).cells=(decide ((t[a]).cells.length<=60)&&(t[a]).cells.all (qV (t[a]).kind))):=by
     refine DJ _ ?_;have r:=z.o;simp only[jW,aK]at r;exact(QA (QE r.1 (aA _) a i).1).2.1
    have s:=(k8 wr.heap.size wr).alloc (aA _) (.cells #[S (t[a]).name,N (t[a]).kind,N (t[a]).key,.slice ca (t[a]).cells.length B] 61);have k:=I (e.trans (s.mono e.size));have U:=I (K.j s);clear s K e;by_cases g:(t[a]).cells.length=(t[0]'(by omega)).cells.length
    ·have ac:(((t[a]).cells.length:Int) != ((t[0]'(by omega)).cells.length:Int))=false:=(by simp[g]);have l:=I g;clear g;go_wp2_with fail;refine(Ml (t[a]).kind ca B (t[a]).cells _ (by omega) U.o).mono ?_;rintro q w3 ⟨rfl,X⟩;have E:=k.o.trans (X.mono k.o.size);rw[<-P.o];cases j:qi (t[a]).kind (t[a]).cells with
     | false =>
      have n:=I j;clear j;go_wp2;go_ret;exact⟨jI (w.o (by rw[n.o];rfl)).symm,E⟩
     | true =>
      have n:=I j;clear j;go_wp2;go_roundw
      ·exact⟨a+1,by omega,by go_num,by rw[T.o,n.o,x.o];simp[l.o],E⟩
      ·simp[intOf];omega
    ·have ac:(((t[a]).cells.length:Int) != ((t[0]'(by omega)).cells.length:Int))=true:=(by simp;omega);have l:=I g;clear g;go_wp2;go_ret;exact⟨jI (w.o (by rw[x.o];simp[l.o])).symm,k.o⟩
   ·have M:J (xk t=true):=by
     show xk t=true;have:=y.o;rw[aU (by omega)]at this;rw[xk,z.o,this];rfl
    go_wp2;go_ret;exact⟨jI M.o.symm,e⟩
def Nn(a:List W9):List Value:=(List.range 10).map fun(n:Nat)=>Value.bool (jG a (n:Int))
theorem Rm(a:List W9):(Nn a).length=10:=by simp[Nn]
theorem Ix(b:List W9)(a:Nat)(c:a<10):(Nn b)[a]?=some (.bool (jG b (a:Int))):=by simp[Nn,c]
theorem Fr{r:List W9}{k m:Nat}(c:k<r.length)(i:(r[k]).number=(m:Int))(g:m<10):(Nn (r.take k)).set m (.bool true)=Nn (r.take (k+1)):=by
 apply eF;intro a;have e:∀n:Int,jG (r.take (k+1)) n=(jG (r.take k) n||decide ((r[k]).number=n)):=by
  intro n;have:=Ul (r:=r) (k:=r.length) (m:=k) c c n;rw[aS]at this;exact this
 rw[List.getElem?_set];by_cases b:a<10
 ·rw[Ix _ a b,Ix _ a b,Rm,e,i];by_cases d:m=a
  ·subst d;simp[g]
  ·have:¬((m:Int)=(a:Int)):=by omega
   simp[d,this]
 ·have f:(Nn (r.take k))[a]?=none:=cN (by rw[Rm];omega);have h:(Nn (r.take (k+1)))[a]?=none:=cN (by rw[Rm];omega);rw[f,h,aL (by omega)]
theorem EP(G:O')(Y:Nat)(a:List W9)(f:W)(hm:a.length<=maxLen)(L:U2 f G a) :
  C' 95 #[.slice G a.length Y] f fun o w'=>o=.returned (.bool (xD a))/\Below f.heap.size f w':=by
 have F:=I L;clear L;unfold maxLen at hm;go_enter Tryz.func95,Tryz.ntmps95;go_wp2;generalize e:f.heap.size=g at *;go_loopw [8] (fun x wr=>∃b:Nat,b<=a.length/\x=N b/\Ka a b=true/\wr.ownsRow g 247 1 (R g 10 10) 10 (Nn (a.take b))/\Below g f wr/\g<wr.heap.size) (fun x _=>a.length-(intOf x).toNat)
 case atStart =>
  refine⟨0,aG _,rfl,rfl,?_,?_,?_⟩
  ·have:=lz (base:=f.heap.size) (e:=247) (size:=1) f #[.bool false,.bool false,.bool false,.bool false,.bool false,.bool false,.bool false,.bool false,.bool false,.bool false] 10 (aA _) (by decide) rfl;rw[e]at this;exact this
  ·rw[<-e];exact(k8 _ _).alloc (aA _) _
  ·rw[<-e];simp
 case round =>
  obtain⟨b,cd,rfl,H,w,l,Z⟩:=hrel;have E:=I H;clear H;by_cases m:b<a.length
  ·obtain⟨bv,ci,rfl,bX,K⟩:=(F.o.j (by rw[e];exact l)).at_ (aE (by omega));obtain⟨g1,g2⟩:=K b m;clear K;obtain⟨ap,be⟩:=F.o.ok a[b] (aJ m);unfold maxLen at ap;have j:=I (Yg m E.o);have i:=I (AI (r:=a) m);have z:=I (jal (c:=a[b]));have b4:(b:Int)<(a.length:Int):=(by omega);have C:=I (fun(d:Nat)=>Fr (r:=a) (k:=b) (m:=d) m);have h:J (Kc a[b]=((decide (1<=(a[b]).number)&&decide ((a[b]).number<=9))&&decide ((a[b]).ab.length=8))):=rfl;have t:=w.alloc (.cells #[N (a[b]).number,S (a[b]).ab] 63);have n:=I (l.alloc (eN Z) (.cells #[N (a[b]).number,S (a[b]).ab] 63));have X:=I w;have T:=I l;clear w l;by_cases P:1<=(a[b]).number/\(a[b]).number<=9
   ·obtain⟨d,s⟩:∃d:Nat,(a[b]).number=(d:Int):=⟨(a[b]).number.toNat,by omega⟩;have M:d<10:=(by omega);have ce:(d:Int)<10:=(by omega);have r:=t.cellAt d (by omega);rw[Ix _ d M]at r;have ac:=t.frozenAt d;have D:=I ((X.o.stored d (.bool true)).1.alloc (.cells #[N (a[b]).number,S (a[b]).ab] 63));have y:=I ((T.o.setCell (p:=A g d) (aA _) (.bool true)).alloc (by simp;omega) (.cells #[N (a[b]).number,S (a[b]).ab] 63));rw[s]at g1 n D r ac h y;have U:=I (C.o d s M);have B:J (jG (a.take b) (a[b]).number=jG (a.take b) (d:Int)):=(by rw[s];rfl);rw[B.o]at j i;have k:(decide ((1:Int)<=(d:Int))&&decide ((d:Int)<=9))=true:=(by simp;omega);clear P z C s t B be;go_wp2_with fail;refine(UP (d:Int) _).mono ?_;rintro o w5 ⟨rfl,rfl⟩;rw[k];cases u:jG (a.take b) (d:Int)with
    | true =>
     rw[u]at i r;clear u;go_wp2;go_ret;exact⟨jI (i.o (by simp)).symm,by rw[e];exact n.o⟩
    | false =>
     rw[u]at i r j;clear u;by_cases q:(a[b]).ab.length=8
     ·have q3:(((a[b]).ab.length:Int) != 8)=false:=(by simp;omega);have V:J (Ka a (b+1)=true):=by
       show _=_;rw[j.o,h.o,k,dK q];rfl
      clear q j h i;go_wp2;go_roundw
      ·exact⟨b+1,by omega,by go_num,V.o,by rw[<-U.o];exact D.o,y.o,by simp;omega⟩
      ·simp[intOf];omega
     ·have q3:(((a[b]).ab.length:Int) != 8)=true:=(by simp;omega);have v:J (Kc a[b]=false):=by show _=_;rw[h.o,bS q,gm]
      clear q j h;go_wp2;go_ret;exact⟨jI (i.o (by rw[v.o];rfl)).symm,by rw[e];exact n.o⟩
   ·have k:(decide (1<=(a[b]).number)&&decide ((a[b]).number<=9))=false:=by
     simp only[ej,cW];omega
    have v:J (Kc a[b]=false):=by show _=_;rw[h.o,k];rfl
    clear P h j z t;generalize O:(a[b]).number=nn at *;have bi:=I O;clear O;go_wp2_with fail;refine(UP nn _).mono ?_;rintro o w5 ⟨rfl,rfl⟩;rw[k];clear k;go_wp2;go_ret;exact⟨jI (i.o (by rw[v.o];rfl)).symm,by rw[e];exact n.o⟩
  ·have am:b=a.length:=(by omega);subst am;go_wp2;go_ret;exact⟨jI E.o.symm,by rw[e];exact l⟩
def Vy(t:List W8)(b:List W9)(a:Nat):Bool:=(t.take a).all fun c=>decide (c.key=0)||jG b c.key
variable{B:List W8}{g i k m n:Nat}
theorem Sp{r:List W9}(b:n<B.length):Vy B r (n+1)=(Vy B r n&&(decide ((B[n]).key=0)||jG r (B[n]).key)):=by
 unfold Vy;rw[aH b,ek];simp
theorem Sa{j:V6}{r:List W9}(b:xk j.table=true):(Vy j.table r j.table.length&&jG r j.J.R)=!XU j r:=by
 have g:∀c∈j.table,0<=c.key:=by
  intro c a;obtain⟨i,g,rfl⟩:=cA.1 a;simp only[xk,jW,aK]at b;exact(QA (QE b.1.1 (aA _) i g).1).2.2.1
 apply Eb;simp only[Vy,XU,aS,aK,cY,dp,aN,Bool.not_or,Bool.not_not,fL,fK,Bool.not_eq_true];constructor
 ·rintro⟨e,f⟩;refine⟨f,fun c a d=>?_⟩;rcases e c a with b|b
  ·omega
  ·rw[b]at d;simp at d
 ·rintro⟨e,f⟩;refine⟨fun c a=>?_,e⟩;have:=f c a;have k:=g c a;by_cases h:c.key=0
  ·exact .inl h
  ·right;cases d:jG r c.key with
   | true=>rfl
   | false=>exact absurd ⟨by omega,d⟩ this
theorem FX(p:L8)(e:W)(m:1<=p.R)(n:p.R<=9) :
  C' 139 #[zah p] e fun a i=>a=.returned (S (Jy p))/\Below e.heap.size e i:=by
 have g:J (Jy p=[67,70]++[if p.told=true then 79 else 69]++[T4 p.R]):=rfl;have o:IntKind.u8.wrap p.R=p.R:=by simp only[ll];omega
 obtain⟨k,l,c,h⟩:=p;simp only at *;cases h with
 | true =>
  go_enter Tryz.func139,Tryz.ntmps139;go_wp2_with fail;refine(Qb c _ (by omega) (by omega)).mono ?_;rintro a f ⟨rfl,b⟩;go_wp2_with fail;refine(XZ [[67,70],[79],[T4 c]] _ 3 f rfl rfl (by decide) (by simp)).mono ?_;rintro a j ⟨rfl,d⟩;go_wp2;go_ret;exact⟨qH (by rw[g.o];simp),(zl b).trans (d.mono (zl b).size)⟩
 | false =>
  go_enter Tryz.func139,Tryz.ntmps139;go_wp2_with fail;refine(Qb c _ (by omega) (by omega)).mono ?_;rintro a f ⟨rfl,b⟩;go_wp2_with fail;refine(XZ [[67,70],[69],[T4 c]] _ 3 f rfl rfl (by decide) (by simp)).mono ?_;rintro a j ⟨rfl,d⟩;go_wp2;go_ret;exact⟨qH (by rw[g.o];simp),(zl b).trans (d.mono (zl b).size)⟩
theorem BG(a:W):C' 194 #[.slice none 0 0] a fun f n=>f=.returned (S [])/\Below a.heap.size a n:=by
 obtain⟨m,i,j,k,l⟩:=ks Tryz.a4;go_enter Tryz.func194,Tryz.ntmps194;go_wp2;go_loop [3,11] (fun t c=>c=N 0/\t=N 0) (fun _ _=>0)
 case atStart=>exact⟨rfl,rfl⟩
 case round =>
  obtain⟨rfl,rfl⟩:=hrel;go_wp2_with(at_make;refine l7 _ rfl (.const (N 0)) (.tmp 20) 149 rfl a.heap.size 5 m (.int .u8 0) 1 Tryz.underlying149 i j k .i64 .i64 _ 0 rfl rfl rfl (by rw[l];omega) (by unfold maxLen;omega) (aA _) ?_;intro o b e);have d:Below a.heap.size a o:=(k8 _ _).grown e (aA _) (fun _ g=>by cases g);clear e;go_loopw [6,24] (fun v c wr=>c=N 0/\wr.ownsRow a.heap.size 5 1 v 0 (qW [])/\Below a.heap.size a wr) (fun _ _ _=>0)
  case atStart=>exact⟨rfl,b,d⟩
  case round =>
   clear b d;obtain⟨rfl,b,h⟩:=hrel;have p:=VO b;go_wp2;go_ret;exact⟨rfl,h⟩
abbrev zan(sort:UInt8)(g c p:Nat):Value:=.agg #[S [sort],N g,N c,N p]
def BoxM(a:W)(q:Nat)(sort:UInt8)(g c p:Nat):Prop :=
 a.cell? (A q 0)=some (S [sort])/\a.cell? (A q 1)=some (N g)/\a.cell? (A q 2)=some (N c)/\a.cell? (A q 3)=some (N p)
theorem BoxM.j{d e:W}{q g c p:Nat}{sort:UInt8}(f:BoxM d q sort g c p)(a:Below d.heap.size d e)(b:q<d.heap.size):BoxM e q sort g c p:=by
 obtain⟨h,i,j,k⟩:=f;exact⟨(a.cell (p:=A q _) b).trans h,(a.cell (p:=A q _) b).trans i,(a.cell (p:=A q _) b).trans j,(a.cell (p:=A q _) b).trans k⟩
variable{v w:W}
theorem BoxM.alloc{q g c p:Nat}{sort:UInt8}(b:BoxM w q sort g c p)(o:Obj):BoxM (w.alloc o) q sort g c p:=by
 obtain⟨d,e,f,h⟩:=b;exact⟨jf o d,jf o e,jf o f,jf o h⟩
theorem BoxM.drew{w:W}{sort:UInt8}(a:BoxM w n sort m k i):BoxM w.drew n sort m k i:=a
def zad(b:W)(v:Value)(d:B8):Prop:=∀a,Below b.heap.size b a->C' 194 #[v] a fun c e=>c=.returned (S d)/\Below a.heap.size a e
theorem UV(a:W):zad a (.slice none 0 0) []:=fun b _=>BG b
theorem Kp(sort:UInt8)(g c p:Nat)(pre:B8)(y:Value)(i:B8)(d:W)(hg:g<=65535)(hc:c<=65535)(hp:p<=65535)(bX:pre.length<=20)(hf:i.length<=5000)(M:zad d y i) :
  C' 171 #[zan sort g c p,S pre,y] d fun b a=>b=.returned (S (jz pre sort g c p++i))/\Below d.heap.size d a:=by
 have HJ:=I M;clear M;have HE:J ([xB pre,[sort],qh (g:Int),qh (c:Int),qh (p:Int),i].flatten=jz pre sort g c p++i):=by simp[J,jz]
 have b4:(xB pre).length<=40:=by have:=jO pre.length (by omega);simp only[xB,aB];omega
 go_enter Tryz.func171,Tryz.ntmps171;go_wp2_with fail;obtain⟨T,U,m,_⟩:=jJ d #[S [sort],N g,N c,N p] 111;have t:BoxM _ d.heap.size sort g c p:=⟨m 0,m 1,m 2,m 3⟩;have h:=I T;clear m T;generalize d.alloc _=wb at *;generalize O:xB pre=s at *;generalize G:qh (g:Int)=o at *;generalize F:qh (c:Int)=n at *;generalize H:qh (p:Int)=P at *;have HT:J (∀a,C' 204 #[S pre] a fun b f=>b=.returned (S s)/\Below a.heap.size a f):=by
  intro a;rw[<-O];exact Np pre a (by omega)
 have HG:J (∀a,C' 220 #[N g] a fun b f=>b=.returned (S o)/\Below a.heap.size a f):=by
  intro a;rw[<-G];exact XD _ a (by omega) (by omega)
 have HC:J (∀a,C' 220 #[N c] a fun b f=>b=.returned (S n)/\Below a.heap.size a f):=by
  intro a;rw[<-F];exact XD _ a (by omega) (by omega)
 have HP:J (∀a,C' 220 #[N p] a fun b f=>b=.returned (S P)/\Below a.heap.size a f):=by
  intro a;rw[<-H];exact XD _ a (by omega) (by omega)
 have be:o.length=2:=by rw[<-G];rfl
 have ap:n.length=2:=by rw[<-F];rfl
 have bi:P.length=2:=by rw[<-H];rfl
 clear O G F H;go_region_held3 (fun a=>a.cell? (A d.heap.size 0)=some (S [sort])/\a.cell? (A d.heap.size 1)=some (N g)/\a.cell? (A d.heap.size 2)=some (N c)/\a.cell? (A d.heap.size 3)=some (N p))
  (first|exact L|exact q.alloc _|exact q|exact x|exact w|exact v|exact u|exact t)
  (first
   | (go_at_call 204;refine(HT.o _).mono ?_;rintro b w1 ⟨rfl,e⟩;replace e:=jg e;have u:=t.j e U;have V:=aC U e.size)
   | (go_at_call_of 220 (N g);refine(HG.o _).mono ?_;rintro b f ⟨rfl,j⟩;have v:=u.j j V;have X:=aC V j.size)
   | (go_at_call_of 220 (N c);refine(HC.o _).mono ?_;rintro b w3 ⟨rfl,k⟩;have w:=v.j k X;have Y:=aC X k.size)
   | (go_at_call_of 220 (N p);refine(HP.o _).mono ?_;rintro b w4 ⟨rfl,l⟩;have x:=w.j l Y;have Z:=aC Y l.size)
   | (go_at_call_of 194 y;refine(HJ.o _ ?_).mono ?_;exact(((h.o.trans (e.mono h.o.size)).trans (j.mono (aI h.o.size e.size))).trans (k.mono (aI (aI h.o.size e.size) j.size))).trans (l.mono (aI (aI (aI h.o.size e.size) j.size) k.size));rintro b w5 ⟨rfl,r⟩;have q:=x.j r Z;have am:=aC Z r.size)
   | (go_at_call 194;refine(ZJ [s,[sort],o,n,P,i] #[S s,S [sort],S o,S n,S P,S i] 6 _ _ ?_ rfl rfl ?_ ?_).mono ?_;(first|rfl|simp);decide;(simp;omega);rintro b w6 ⟨rfl,K⟩;have L:=q.j K am))
 have z:=h.o.trans (e.mono h.o.size);have B:=z.trans (j.mono z.size);have C:=B.trans (k.mono B.size);have D:=C.trans (l.mono C.size);have E:=D.trans (r.mono D.size);have ac:=I (E.trans (K.mono E.size));clear t u v w x q L e j k l r K z B C D E;go_wp2;go_ret;exact⟨qH (by rw[<-HE.o];simp),ac.o⟩
def xA(a:List Nat):List Value:=a.map fun(n:Nat)=>N n
variable{q x y z:Value}{C:List Value}{F:TypeId}
theorem jq{d:V'}(q:w.grownBy v x.ownBlock)(l:w.ownsRow n m k x i C)(a:w.heap[g]?=some (.cells d F (0,0)))(o:F≠m) :
  v.heap[g]?=some (.cells d F (0,0)):=by
 rw[q.block g (aF.1 a).1 ?_]
 ·exact a
 ·intro b;rcases l.2 with⟨rfl,_⟩|⟨c,p,r,rfl,_,f,_⟩
  ·simp[Value.ownBlock]at b
  ·simp[Value.ownBlock]at b;subst b;rw[a]at f;cases f;exact o rfl
theorem jd{o:Obj}(d:Below w.heap.size w v)(b:w.heap[n]?=some o):v.heap[n]?=some o :=
 (d.block n (aF.1 b).1).trans b
theorem jo{w:W}{o:Obj}(b:Obj)(a:w.heap[n]?=some o):(w.alloc b).heap[n]?=some o :=
 (kR w b none).block n (aF.1 a).1 (by simp) |>.trans a
theorem YP(b:w.heap[n]?=some (.cells #[x,y,z,q] F (0,0))):w.cell? (A n 0)=some x/\w.cell? (A n 1)=some y/\w.cell? (A n 2)=some z :=
 ⟨by rw[jb b];rfl,by rw[jb b];rfl,by rw[jb b];rfl⟩
theorem DO{d e c f i h g:Value}(b:w.heap[n]?=some (.cells #[d,e,c,f,i,h,g] F (0,0))) :
  w.cell? (A n 0)=some d/\w.cell? (A n 1)=some e/\w.cell? (A n 2)=some c/\w.cell? (A n 3)=some f/\w.cell? (A n 5)=some h/\w.cell? (A n 6)=some g :=
 ⟨by rw[jb b];rfl,by rw[jb b];rfl,by rw[jb b];rfl,by rw[jb b];rfl,by rw[jb b];rfl,by rw[jb b];rfl⟩
theorem Ki{α:Type}(c:α->B8)(b:List α)(a:Nat)(d:a<b.length):(b.take (a+1)).flatMap c=(b.take a).flatMap c++c b[a]:=by
 rw[aH d,cE];simp
theorem De(a b c d e:B8):[a,b,c,d,e].flatten=a++b++c++d++e:=by simp
theorem UB{a:List Nat}(b:w.ownsRow n 3 1 x a.length (xA a)) :
  ∃e l,x=.slice e a.length l/\∀j (c:j<a.length),∃g,e=some (A g 0)/\g<w.heap.size/\w.cell? (A g j)=some (N ((a[j]:Nat):Int)):=by
 rcases b.2 with⟨rfl,k⟩|⟨g,i,m,rfl,_⟩
 ·exact⟨none,0,by rw[k],fun j c=>by omega⟩
 ·refine⟨some (A g 0),i,rfl,fun j c=>⟨g,rfl,(b.lt g rfl).2,?_⟩⟩;rw[b.cellAt j (by omega)];simp[xA,c]
theorem Fq(rows k P i:Nat)(told:Bool)(E:O')(U:Nat)(a:List W8)(pv:Value)(places:List Nat)(ec:Nat)(b:W)
  (hr:rows<=60)(hG:k<=60)(hP:P<=60)(hF:i<=9)(ht:a.length<=6)(g5:places.length<=360)(e2:∀ac∈places,ac<=80000000)
  (eR:∀c∈a,c.name.length<=8/\(0<=c.kind/\c.kind<=9)/\(0<=c.key/\c.key<=9))(hl:P3 b E a)(Z:b.ownsRow ec 3 1 pv places.length (xA places)) :
  C' 217 #[.agg #[N rows,N k,N P,N i,.bool told,.slice E a.length U,pv]] b
   fun f e=>f=.returned (S (uB rows++uB k++uB P++uB i++uB a.length++a.flatMap jZ++places.flatMap uB))/\Below b.heap.size b e:=by
 obtain⟨i0,hi,fa,fb,fc⟩:=ks Tryz.ar;have Hl:=I hl;have fw:=I Z;have d6:=I eR;have d7:=I e2;clear hl Z eR e2;have gc:=jO rows (by omega);have gd:=jO k (by omega);have ge:=jO P (by omega);have gi:=jO i (by omega);have go:=jO a.length (by omega);go_enter Tryz.func217,Tryz.ntmps217;go_wp2_with fail;obtain⟨ev,g8,f2,ds⟩:=jJ b #[N rows,N k,N P,N i,.bool told,.slice E a.length U,pv] 117;have X0:=DO ds;have d5:=I ev;have ft:=I ds;clear f2 ev ds;generalize b.alloc _=wb at *;have z:J (∀(n:Nat) e,n<=1000->C' 241 #[N n] e fun f D=>f=.returned (S (uB n))/\Below e.heap.size e D):=fun n e em=>JJ n e (by omega);go_region_held3 (fun e=>e.cell? (A b.heap.size 0)=some (N rows)/\e.cell? (A b.heap.size 1)=some (N k)/\e.cell? (A b.heap.size 2)=some (N P)/\e.cell? (A b.heap.size 3)=some (N i)/\e.cell? (A b.heap.size 5)=some (.slice E a.length U)/\e.cell? (A b.heap.size 6)=some pv)
  (first|exact DO (jo _ O)|exact DO O|exact DO Y4|exact DO Y3|exact DO Y2|exact DO Y1|exact X0)
  (first
   | (go_at_call_of 241 (N rows);refine(z.o rows _ (by omega)).mono ?_;rintro f w1 ⟨rfl,K⟩;replace K:=jg K;have Y1:=jd K ft.o)
   | (go_at_call_of 241 (N k);refine(z.o k _ (by omega)).mono ?_;rintro f D ⟨rfl,co⟩;have Y2:=jd co Y1)
   | (go_at_call_of 241 (N P);refine(z.o P _ (by omega)).mono ?_;rintro f w3 ⟨rfl,da⟩;have Y3:=jd da Y2)
   | (go_at_call_of 241 (N i);refine(z.o i _ (by omega)).mono ?_;rintro f w4 ⟨rfl,dd⟩;have Y4:=jd dd Y3)
   | (go_at_call 241;refine(z.o a.length _ (by omega)).mono ?_;rintro f w5 ⟨rfl,dl⟩;have O:=jd dl Y4))
 have bX:=d5.o.trans (K.mono d5.o.size);have b4:=bX.trans (co.mono bX.size);have cd:=b4.trans (da.mono b4.size);have ce:=cd.trans (dd.mono cd.size);have V:=ce.trans (dl.mono ce.size);have d3:=I (V.alloc V.size (.cells #[S (uB rows),S (uB k),S (uB P),S (uB i),S (uB a.length)] 9));have d4:=I (lz (base:=b.heap.size) (e:=9) (size:=1) w5 #[S (uB rows),S (uB k),S (uB P),S (uB i),S (uB a.length)] 5 V.size (by decide) rfl);have be:=I (jo (.cells #[S (uB rows),S (uB k),S (uB P),S (uB i),S (uB a.length)] 9) O);have ff:=I (De (uB rows) (uB k) (uB P) (uB i) (uB a.length));have gs:(uB rows++uB k++uB P++uB i++uB a.length).length<=50:=by simp only[aB];omega
 obtain⟨pa,pc,rfl,e3⟩:=UB fw.o;have d8:=I e3;clear X0 Y1 Y2 Y3 Y4 O K co da dd dl bX b4 cd ce V gc gd ge gi go e3;generalize er:uB rows++uB k++uB P++uB i++uB a.length=HD at *;have fk:=I er;clear er;have x5:=(DO be.o).2.2.2.2.1;go_wp2_with fail;clear x5;go_loopw [3,31] (fun v C wr=>∃(u:List (B8)) (d:Nat),d<=a.length/\C=N d/\u.length=5+3*d/\wr.ownsRow b.heap.size 9 1 v u.length (Jk u)/\u.flatten=HD++(a.take d).flatMap jZ/\wr.heap[b.heap.size]?=some (.cells #[N rows,N k,N P,N i,.bool told,.slice E a.length U,.slice pa places.length pc] 117 (0,0))/\Below b.heap.size b wr)
  (fun _ C _=>a.length-(intOf C).toNat)
 case atStart=>exact⟨[uB rows,uB k,uB P,uB i,uB a.length],0,aG _,rfl,rfl,d4.o,by rw[ff.o];simp,be.o,d3.o⟩
 case round =>
  clear d4 be d3;obtain⟨u,d,gU,rfl,Z,y,L,eC,m⟩:=hrel;have bv:=I L;have bi:=I eC;clear L eC;by_cases d1:d<a.length
  ·obtain⟨fz,hb,rfl,gt,eM⟩:=(Hl.o.j m).at_ (aE (by omega));obtain⟨g1,g2,g3,v4,g4,ca,eg,rfl,_⟩:=eM d d1;clear eM;have gT:(d:Int)<(a.length:Int):=(by omega);obtain⟨gw,⟨f4,f5⟩,f6,f7⟩:=d6.o a[d] (aJ d1);have ap:=I (Ki jZ a d d1);have am:J (jZ a[d]=xB (a[d]).name++uB (a[d]).kind.toNat++uB (a[d]).key.toNat):=rfl;obtain⟨r,dT⟩:∃r:Nat,(a[d]).kind=(r:Int):=⟨(a[d]).kind.toNat,by omega⟩;obtain⟨s,dW⟩:∃s:Nat,(a[d]).key=(s:Int):=⟨(a[d]).key.toNat,by omega⟩;rw[dT,dW]at am;rw[dT]at g2;rw[dW]at g3;have gA:r<=9:=(by omega);have gX:s<=9:=(by omega);simp only[bY]at am;clear f4 f5 f6 f7 dT dW;generalize (a[d]).name=t at *;go_wp2_with fail;obtain⟨dr,g9,f3,dv⟩:=jJ wr #[S t,N r,N s,.slice ca (a[d]).cells.length eg] 61;have X:=m.trans (dr.mono m.size);have M:=y.alloc (.cells #[S t,N r,N s,.slice ca (a[d]).cells.length eg] 61);have fs:=I (jd dr bi.o);clear g1 g2 g3 g4 f3 dr m y bi;generalize wr.alloc _=wc at *;generalize hq:wr.heap.size=q at *;clear hq;have ha:(xB t).length<=20:=by have:=jO t.length (by omega);simp only[xB,aB];omega
   have HT:J (∀e,C' 204 #[S t] e fun f D=>f=.returned (S (xB t))/\Below e.heap.size e D):=fun e=>Np t e (by omega);go_region_held3 (fun e=>e.cell? (A q 0)=some (S t)/\e.cell? (A q 1)=some (N r)/\e.cell? (A q 2)=some (N s))
    (first|exact YP Z4|exact YP (jo _ T)|exact YP T|exact YP Z2|exact YP Z1|exact YP dv)
    (first
     | (go_at_call 204;refine(HT.o _).mono ?_;rintro f w6 ⟨rfl,h⟩;replace h:=jg h;have Z1:=jd h dv)
     | (go_at_call_of 241 (N r);refine(z.o r _ (by omega)).mono ?_;rintro f w7 ⟨rfl,w⟩;have Z2:=jd w Z1)
     | (go_at_call_of 241 (N s);refine(z.o s _ (by omega)).mono ?_;rintro f w8 ⟨rfl,x⟩;have T:=jd x Z2)
     | (refine step_append_lies _ (by rfl) _ _ _ (by rfl) b.heap.size 9 i0 _ 1 16 Tryz.underlying71 hi fa fb fc rfl (by omega) _ u.length (Jk u) (by rfl) ((ju (ju (ju M h) w) x).alloc _) (A w8.heap.size 0) 3 3 [S (xB t),S (uB r),S (uB s)] (by rfl) (by rfl) (World.news_of_block (cs:=#[S (xB t),S (uB r),S (uB s)]) (t:=9) (fr:=(0,0)) (kH w8 _)) (by simp[Value.oneCell']) (by omega) (by unfold maxLen;omega) (by omega) (by have:=X.size;have:=h.size;have:=w.size;have:=x.size;simp at *;omega) _ rfl ?_;intro gg cc w9 e1 Y f1 ga;have Z4:=jq Y ((ju (ju (ju M h) w) x).alloc _) (jo _ T) (by decide)))
   have B:=X.trans (h.mono X.size);have ci:=B.trans (w.mono B.size);have eq:=ci.trans (x.mono ci.size);have G:=I (XR (qs:=[xB t,uB r,uB s]) _ rfl eq (ju (ju (ju M h) w) x) e1 Y);have fn:=I (jq Y ((ju (ju (ju M h) w) x).alloc _) (jo _ (jd x (jd w (jd h fs.o)))) (by decide));clear Z1 Z2 T Z4 M h w x e1 Y f1 ga B ci eq dv X;go_wp2;go_roundw
   ·
    refine⟨u++[xB t,uB r,uB s],d+1,by omega,by go_num,by simp;omega,?_,by rw[ap.o,<-aD,<-bv.o,am.o,cT];simp,fn.o,G.o.2⟩;have:=G.o.1;simp only[aB,bC,bJ];rw[<-Z];exact this
   ·simp[intOf];omega
  ·have f9:d=a.length:=(by omega);subst f9;rw[aS]at bv;have x6:=(DO bi.o).2.2.2.2.2;have fv:J (∀j (hj:j<places.length),∃g,pa=some (A g 0)/\wr.cell? (A g j)=some (N ((places[j]:Nat):Int))/\g<b.heap.size):=by
    intro j hj;obtain⟨g,h1,h2,h3⟩:=d8.o j hj;exact⟨g,h1,(m.cell (p:=A g j) h2).trans h3,h2⟩
   have gr:(HD++a.flatMap jZ).length<=300:=by
    have:=KQ jZ 38 a (fun c hc=>by
     obtain⟨h1,h2,h3⟩:=d6.o c hc;have E:=jO c.name.length (by omega);have fz:=jO c.kind.toNat (by omega);have gp:=jO c.key.toNat (by omega);simp only[jZ,xB,aB];omega)
    rw[aB];omega
   have HO:=I y;have HB:=I m;clear y m;generalize es:HD++a.flatMap jZ=fe at *;have fl:=I es;clear es;generalize e4:u.length=pn at *;have ea:=I e4;clear e4;go_wp2_with fail;clear x6;go_loopw [3,51] (fun v C D=>∃(o:List (B8)) (l:Nat),l<=places.length/\C=N l/\o.length=pn+l/\D.ownsRow b.heap.size 9 1 v o.length (Jk o)/\o.flatten=fe++(places.take l).flatMap uB/\Below b.heap.size b D)
    (fun _ C _=>places.length-(intOf C).toNat)
   case atStart=>exact⟨u,0,aG _,rfl,by rw[ea.o];rfl,by rw[ea.o];exact HO.o,by rw[bv.o];simp,HB.o⟩
   case round =>
    clear HO HB fv;obtain⟨o,l,gZ,rfl,e6,y,L,m⟩:=hrel;have H:=I L;clear L;by_cases d0:l<places.length
    ·obtain⟨g,rfl,f8,eP⟩:=d8.o l d0;have cm:=(m.cell (p:=A g l) f8).trans eP;have gY:(l:Int)<(places.length:Int):=(by omega);have g7:=d7.o places[l] (aJ d0);have ap:=I (Ki uB places l d0);generalize places[l]=F at *;clear eP;go_wp2_with fail;refine(JJ F _ (by omega)).mono ?_;rintro f w6 ⟨rfl,h⟩;have d2:=ju y h;have B:=m.trans (h.mono m.size);clear y m h cm;go_wp2_with(at_builtin;refine ko _ rfl (.tmp 55) (.tmp 58) 71 rfl b.heap.size 9 i0 (.string ⟨#[]⟩) 1 16 Tryz.underlying71 hi fa fb fc rfl (by decide) _ _ _ rfl (d2.alloc _) (A _ 0) 1 1 [S (uB F)] rfl rfl ?c1 ?c2 ?c3 ?c4 ?c5 ?_)
     case c1=>exact qr w6 #[S (uB F)] 9
     case c2=>intro hd hu;simp at hu;subst hu;rfl
     case c3=>unfold maxLen;omega
     case c4=>omega
     case c5=>have:=B.size;simp;omega
     intro v3 w7 e0 eS _;have G:=I (XR (qs:=[uB F]) (k:=5+3*a.length+l+1) _ (by simp;omega) B d2 e0 eS);clear d2 B e0 eS;go_wp2;go_roundw
     ·
      refine⟨o++[uB F],l+1,by omega,by go_num,by simp;omega,?_,by rw[ap.o,<-aD,<-H.o,cT];simp,G.o.2⟩;have f:(o++[uB F]).length=5+3*a.length+l+1:=(by simp;omega);rw[f];exact G.o.1
     ·simp[intOf];omega
    ·have gb:l=places.length:=(by omega);subst gb;rw[aS]at H;have g0:=KQ uB 10 places (fun ac hx=>jO ac (by have:=d7.o ac hx;omega));have e5:o.flatten.length<=1000000:=(by rw[H.o,aB];omega);have e7:o≠[]:=(by intro em;rw[em]at e6;simp at e6;omega);have HJ:=I (ZQ o b.heap.size o.length _ wr y e7 (by omega) e5);clear e5 e7 y;go_wp2_with fail;refine HJ.o.mono ?_;rintro f w6 ⟨rfl,h⟩;rw[H.o];have fd:=I (m.trans (h.mono m.size));clear m h H HJ;go_wp2;go_ret;exact⟨qH (by rw[<-fl.o,<-fk.o]),fd.o⟩
end Go.Proofs.YthhpbhpfagoapaaGreat
