import Derived.Test.YthhpbhpfagoapaaGreatGAX
import Derived.Lib.AppendZeros
namespace Go.Proofs.YthhpbhpfagoapaaGreat
set_option linter.all false
set_option maxRecDepth 100000
set_option maxHeartbeats 16000000
open Go.RowKit
def Ke(a:Bool):Z9:=⟨a,0,[]⟩
def Nr(a:List Bool):B8:=uB a.length++xw false (a.map Ke)
def PE(b:List Z9):∀(a:Bool) (n:Nat),UH a n b=UH a n ((b.map (·.null)).map Ke):=by
 induction b with
 | nil=>intro a n;rfl
 | cons c b d=>
  intro a n;simp only[eo,UH,Ke];rw[d,d]
def Ov(a:List Z9):JC a=Nr (a.map (·.null)):=by
 unfold JC Nr xw;rw[cJ]
 congr 1;cases a with
 | nil=>rfl
 | cons c a=>
  rw[aL (by simp),aL (by simp),PE]
def DC(b:Bool)(a:List Bool)(j:Nat)(d:j<rowB b (a.map Ke)):∃f:j<a.length,a[j]=b:=by
 obtain⟨c,e⟩:=Ei b (a.map Ke) j d;rw[cJ]at c;exact⟨c,by simpa[Ke]using e⟩
def IV(b:Bool)(a:List Bool)(c:rowB b (a.map Ke)<a.length):a[rowB b (a.map Ke)]=!b:=by
 have:=ES b (a.map Ke) (by simpa using c);simpa[Ke]using this
def Og(rest:B8)(d:Nat)(b:List Bool)(c:Bool)(e:B8):Prop:=∀a q,a.length<=60->rest=Nr a++q->a.length=d/\a.take b.length=b/\e=xw c ((a.drop b.length).map Ke)++q/\((b=[]/\c=false)\/∀f:b.length<a.length,a[b.length]=c)
variable{r s:B8}{g i k m n:Nat}
def XI{c:List Bool}{b:Bool}(i:Og s n c b r)(D:c.length<n)(a:List Bool)(q:B8)(w:a.length<=60)(z:s=Nr a++q):∃(d:Nat) (g:B8),d<=n-c.length/\r=uB d++g/\(d=0->c=[]/\b=false)/\a.length=n/\a.take (c.length+d)=c++List.replicate d b/\g=xw (!b) ((a.drop (c.length+d)).map Ke)++q/\((∀i:c.length+d<a.length,a[c.length+d]=!b)):=by
 obtain⟨rest,o,t,u⟩:=i a q w z;have v:c.length<a.length:=by omega
 generalize C:c.length=f at *;have x:=Vc b ((a.drop f).map Ke);rw[cJ,aP]at x;have y:=DC b (a.drop f);have k:=IV b (a.drop f);have m:=ZK b ((a.drop f).map Ke) (by simp;omega);generalize E:rowB b ((a.drop f).map Ke)=d at *;rw[<-List.map_drop,cZ]at m;refine⟨d,xw (!b) ((a.drop (f+d)).map Ke)++q,by omega,by rw[t,m,aD],?_,rest,?_,rfl,?_⟩
 ·intro p;rcases u with h|h
  ·exact h
  ·exfalso;have e:=k (by rw[aP];omega);rw[bZ]at e;simp only[p,dD]at e;rw[h v]at e;cases b<;>simp at e
 ·rw[fN,o]
  congr 1;apply dS
  ·rw[aM,aP,bf];omega
  ·intro j B l;rw[bf]at l;obtain⟨_,e⟩:=y j l;rw[dL,cH];exact e
 ·intro h;have e:=k (by rw[aP];omega);rw[bZ]at e;exact e
def Zq(a:List Bool):List Value:=a.map .bool
variable{v w:W}{x:Value}{C:List Value}
def BR(c:w.ownsRow n 4 1 x m C)(a:W):Sem.run Tryz.prog (Builtin.len_ #[282] 3 #[x]) a=.ok (N m) a:=by
 rcases c.2 with⟨rfl,rfl⟩|⟨g,f,h,rfl,_⟩
 ·exact eU (P:=Tryz.prog) a 282 3 _ _ _ (by rw[Tryz.underlying282];rfl)
 ·exact eU (P:=Tryz.prog) a 282 3 _ _ _ (by rw[Tryz.underlying282];rfl)
def Pm(p:Nat)(g rest:B8)(f:W)(d:Ending)(c:W):Prop:=f.grownBy c (some p)/\((d=T8/\∀a q,a.length<=60->rest≠Nr a++q)\/∃a e v,a.length<=60/\d=.returned v/\c.ownsRow f.heap.size 4 1 v a.length (Zq a)/\qU c p g e/\∀b q,b.length<=60->rest=Nr b++q->b=a/\q=e)
def Nm(p:Nat)(ap rest:B8)(dT:W)(hs:ap.length<=maxLen)(hp:qU dT p ap rest):C' 209 #[(Q p 0)] dT (Pm p ap rest dT):=by
 obtain⟨i0,hi,bv,bX,b4⟩:=ks Tryz.bt;have Hs:=I hs;have Hp:=I hp;have e0:=zh hp;clear hs hp;go_enter Tryz.func209,Tryz.ntmps209;go_wp2_with fail;refine(Gp p ap rest _ 60 _ rfl Hs.o (by omega) Hp.o).mono ?_;rintro y K ⟨dl,⟨rfl,ds⟩|⟨f,r1,hn,rfl,dv,d8⟩⟩
 ·go_wp2;refine⟨rfl,dl,.inl ⟨rfl,fun g q e b=>?_⟩⟩;rw[Nr,aD]at b;exact ds _ _ e b
 ·have er:=I d8;have eP:f<=60:=hn;have be:=I dl;have am:=zh dv;clear d8 dl hn;have ec:J (Og rest f [] false r1):=by
   intro g q e b;rw[Nr,aD]at b;obtain⟨m,l⟩:=er.o _ _ e b;exact⟨m,rfl,l.symm,.inl ⟨rfl,rfl⟩⟩
  go_wp2_with(at_make;refine l7 _ rfl (.const (N 0)) (.tmp 10) 282 rfl K.heap.size 4 i0 (.bool false) 1 Tryz.underlying282 hi bv bX .i64 .i64 _ f rfl rfl rfl (by rw[b4];omega) (by unfold maxLen;omega) (aA _) ?_;intro w3 d6 d2);have dd:Below K.heap.size K w3:=(k8 _ _).grown d2 (aA _) (fun _ b=>by cases b);have d7:=xf dv dd am;have d0:=jU (qb K (some p)) dd;clear d2 dd dv;go_loopg [4,5] (2*f+1) (fun gk v es wr=>∃(a:List Bool) (nb:Bool) (cd:B8),es=.bool nb/\2*(f-a.length)+(if nb=true then 0 else 1)<=gk/\a.length<=f/\wr.ownsRow K.heap.size 4 1 v a.length (Zq a)/\qU wr p ap cd/\K.grownBy wr (some p)/\Og rest f a nb cd)
  case atStart=>exact⟨[],false,r1,rfl,by simp,aG _,d6,d7,d0,ec.o⟩
  case round=>
   clear d6 d7 d0;obtain⟨a,nb,cd,rfl,d1,eM,bi,da,hg,d4⟩:=hrel;have ce:=I d1;have M:=I d4;have Hg:=I hg;have co:=BR bi;clear d4 d1;by_cases X:a.length<f
   ·have ev:(a.length:Int)<(f:Int):=(by omega);have d5:=co wr;go_wp2_with fail;refine(Gp p ap cd _ (f-a.length) _ (by omega) Hs.o (by omega) da).mono ?_;rintro y w2 ⟨ci,⟨rfl,ds⟩|⟨n,r2,hn,rfl,u,ea⟩⟩
    ·go_wp2;refine⟨rfl,je be.o (je Hg.o ci),.inl ⟨rfl,fun g q e b=>?_⟩⟩;obtain⟨t,s,o,r,_⟩:=XI M.o X g q e b;exact ds t s o r
    ·have eS:n<=f-a.length:=hn;have ac:=I ea;have O:=xI bi am ci;have H:=je Hg.o ci;have cs:=co w2;clear bi da ea ci hg d5 hn;by_cases eR:0<n
     ·have eC:(0:Int)<(n:Int):=(by omega);cases nb with
      | true=>
       go_upto_region 8 with go_in
       go_wp2_with fail;refine(qx _).mono ?_;rintro y h ⟨rfl,rfl⟩;go_wp2_with fail;refine(Ed true h.heap.size 1 n _ (by omega) (kF ..)).mono ?_;rintro y w4 ⟨U,rfl,B,z⟩;have d:Below h.heap.size h w4:=zl z;have k:=ju O d;have E:=xf u d (zh u);have i:=jU H d;have w:=I (World.news_of_block B);clear z d O u H B cs;go_wp2_with(at_builtin;refine ko _ rfl (.tmp 37) (.tmp 41) 282 rfl K.heap.size 4 i0 (.bool false) 1 1 Tryz.underlying282 hi bv bX b4 rfl (by decide) _ _ _ rfl k (A U 0) n n (List.replicate n (.bool true)) rfl ?c0 ?c1 ?c2 ?c3 ?c4 ?c5 ?_)
       case c0=>simp
       case c1=>intro j G V;exact w.o j G (by simpa using V)
       case c2=>intro G F;rw[dk]at F;rw[F.2];rfl
       case c3=>unfold maxLen;omega
       case c4=>omega
       case c5=>have:=i.size;omega
       intro v5 w5 D C _;have x:=I (KK E am i k C);have P:=I D;have T:J (Zq (a++List.replicate n true)=Zq a++List.replicate n (.bool true)):=(by simp[J,Zq]);have c:J ((a++List.replicate n true).length=a.length+n):=(by simp[J]);clear k D C i E w;go_wp2;go_roundg (2*(f-(a.length+n))+(if(!true)=true then 0 else 1))
       case measure=>have b:=ce.o;simp only[fy,eJ,cD,db,dz,reduceIte]at b ⊢;omega
       case rel=>
        refine⟨a++List.replicate n true,!true,r2,rfl,?_,?_,?_,x.o.1,x.o.2,?_⟩
        ·rw[c.o];exact aA _
        ·rw[c.o];omega
        ·rw[T.o,c.o];exact P.o
        ·intro g q e b;obtain⟨t,s,o,r,Y,Z,k5,k6,k7⟩:=XI M.o X g q e b;obtain⟨m,l⟩:=ac.o t s o r;subst m l;rw[c.o];exact⟨Z,k5,k6,.inr k7⟩
      | false=>
       by_cases L:a.length=0
       ·have dr:((a.length:Int)==0)=true:=(by simp[L]);have eg:=I L;clear L;go_upto_region 8 with go_in
        go_wp2_with fail;refine(qx _).mono ?_;rintro y h ⟨rfl,rfl⟩;go_wp2_with fail;refine(Ed false h.heap.size 1 n _ (by omega) (kF ..)).mono ?_;rintro y w4 ⟨U,rfl,B,z⟩;have d:Below h.heap.size h w4:=zl z;have k:=ju O d;have E:=xf u d (zh u);have i:=jU H d;have w:=I (World.news_of_block B);clear z d O u H B cs;go_wp2_with(at_builtin;refine ko _ rfl (.tmp 37) (.tmp 41) 282 rfl K.heap.size 4 i0 (.bool false) 1 1 Tryz.underlying282 hi bv bX b4 rfl (by decide) _ _ _ rfl k (A U 0) n n (List.replicate n (.bool false)) rfl ?c0 ?c1 ?c2 ?c3 ?c4 ?c5 ?_)
        case c0=>simp
        case c1=>intro j G V;exact w.o j G (by simpa using V)
        case c2=>intro G F;rw[dk]at F;rw[F.2];rfl
        case c3=>unfold maxLen;omega
        case c4=>omega
        case c5=>have:=i.size;omega
        intro v5 w5 D C _;have x:=I (KK E am i k C);have P:=I D;have T:J (Zq (a++List.replicate n false)=Zq a++List.replicate n (.bool false)):=(by simp[J,Zq]);have c:J ((a++List.replicate n false).length=a.length+n):=(by simp[J]);clear k D C i E w;go_wp2;go_roundg (2*(f-(a.length+n))+(if(!false)=true then 0 else 1))
        case measure=>have b:=ce.o;simp only[fy,eJ,cD,db,dz,reduceIte]at b ⊢;omega
        case rel=>
         refine⟨a++List.replicate n false,!false,r2,rfl,?_,?_,?_,x.o.1,x.o.2,?_⟩
         ·rw[c.o];exact aA _
         ·rw[c.o];omega
         ·rw[T.o,c.o];exact P.o
         ·intro g q e b;obtain⟨t,s,o,r,Y,Z,k5,k6,k7⟩:=XI M.o X g q e b;obtain⟨m,l⟩:=ac.o t s o r;subst m l;rw[c.o];exact⟨Z,k5,k6,.inr k7⟩
       ·have dr:((a.length:Int)==0)=false:=(by rw[bQ];omega);go_upto_region 8 with go_in
        go_wp2_with fail;refine(qx _).mono ?_;rintro y h ⟨rfl,rfl⟩;go_wp2_with fail;refine(Ed false h.heap.size 1 n _ (by omega) (kF ..)).mono ?_;rintro y w4 ⟨U,rfl,B,z⟩;have d:Below h.heap.size h w4:=zl z;have k:=ju O d;have E:=xf u d (zh u);have i:=jU H d;have w:=I (World.news_of_block B);clear z d O u H B cs;go_wp2_with(at_builtin;refine ko _ rfl (.tmp 37) (.tmp 41) 282 rfl K.heap.size 4 i0 (.bool false) 1 1 Tryz.underlying282 hi bv bX b4 rfl (by decide) _ _ _ rfl k (A U 0) n n (List.replicate n (.bool false)) rfl ?c0 ?c1 ?c2 ?c3 ?c4 ?c5 ?_)
        case c0=>simp
        case c1=>intro j G V;exact w.o j G (by simpa using V)
        case c2=>intro G F;rw[dk]at F;rw[F.2];rfl
        case c3=>unfold maxLen;omega
        case c4=>omega
        case c5=>have:=i.size;omega
        intro v5 w5 D C _;have x:=I (KK E am i k C);have P:=I D;have T:J (Zq (a++List.replicate n false)=Zq a++List.replicate n (.bool false)):=(by simp[J,Zq]);have c:J ((a++List.replicate n false).length=a.length+n):=(by simp[J]);clear k D C i E w;go_wp2;go_roundg (2*(f-(a.length+n))+(if(!false)=true then 0 else 1))
        case measure=>have b:=ce.o;simp only[fy,eJ,cD,db,dz,reduceIte]at b ⊢;omega
        case rel=>
         refine⟨a++List.replicate n false,!false,r2,rfl,?_,?_,?_,x.o.1,x.o.2,?_⟩
         ·rw[c.o];exact aA _
         ·rw[c.o];omega
         ·rw[T.o,c.o];exact P.o
         ·intro g q e b;obtain⟨t,s,o,r,Y,Z,k5,k6,k7⟩:=XI M.o X g q e b;obtain⟨m,l⟩:=ac.o t s o r;subst m l;rw[c.o];exact⟨Z,k5,k6,.inr k7⟩
     ·have eC:decide ((0:Int)<(n:Int))=false:=(by simp;omega);cases nb with
      | true=>
       go_upto_region 8 with go_in
       go_wp2_with fail;refine(xu _).mono ?_;rintro y h ⟨rfl,rfl⟩;go_wp2;refine⟨rfl,je be.o H,.inl ⟨rfl,fun g q e b=>?_⟩⟩;obtain⟨t,s,o,r,Y,_⟩:=XI M.o X g q e b;obtain⟨m,l⟩:=ac.o t s o r;obtain⟨f1,f2⟩:=Y (by omega);cases f2
      | false=>
       by_cases L:a.length=0
       ·have dr:((a.length:Int)==0)=true:=(by simp[L]);have eg:=I L;clear L;go_upto_region 8 with go_in
        go_wp2_with fail;refine(qx _).mono ?_;rintro y h ⟨rfl,rfl⟩;go_wp2_with fail;refine(Ed false h.heap.size 1 n _ (by omega) (kF ..)).mono ?_;rintro y w4 ⟨U,rfl,B,z⟩;have d:Below h.heap.size h w4:=zl z;have k:=ju O d;have E:=xf u d (zh u);have i:=jU H d;have w:=I (World.news_of_block B);clear z d O u H B cs;go_wp2_with(at_builtin;refine ko _ rfl (.tmp 37) (.tmp 41) 282 rfl K.heap.size 4 i0 (.bool false) 1 1 Tryz.underlying282 hi bv bX b4 rfl (by decide) _ _ _ rfl k (A U 0) n n (List.replicate n (.bool false)) rfl ?c0 ?c1 ?c2 ?c3 ?c4 ?c5 ?_)
        case c0=>simp
        case c1=>intro j G V;exact w.o j G (by simpa using V)
        case c2=>intro G F;rw[dk]at F;rw[F.2];rfl
        case c3=>unfold maxLen;omega
        case c4=>omega
        case c5=>have:=i.size;omega
        intro v5 w5 D C _;have x:=I (KK E am i k C);have P:=I D;have T:J (Zq (a++List.replicate n false)=Zq a++List.replicate n (.bool false)):=(by simp[J,Zq]);have c:J ((a++List.replicate n false).length=a.length+n):=(by simp[J]);clear k D C i E w;go_wp2;go_roundg (2*(f-(a.length+n))+(if(!false)=true then 0 else 1))
        case measure=>have b:=ce.o;simp only[fy,eJ,cD,db,dz,reduceIte]at b ⊢;omega
        case rel=>
         refine⟨a++List.replicate n false,!false,r2,rfl,?_,?_,?_,x.o.1,x.o.2,?_⟩
         ·rw[c.o];exact aA _
         ·rw[c.o];omega
         ·rw[T.o,c.o];exact P.o
         ·intro g q e b;obtain⟨t,s,o,r,Y,Z,k5,k6,k7⟩:=XI M.o X g q e b;obtain⟨m,l⟩:=ac.o t s o r;subst m l;rw[c.o];exact⟨Z,k5,k6,.inr k7⟩
       ·have dr:((a.length:Int)==0)=false:=(by rw[bQ];omega);go_upto_region 8 with go_in
        go_wp2_with fail;refine(xu _).mono ?_;rintro y h ⟨rfl,rfl⟩;go_wp2;refine⟨rfl,je be.o H,.inl ⟨rfl,fun g q e b=>?_⟩⟩;obtain⟨t,s,o,r,Y,_⟩:=XI M.o X g q e b;obtain⟨m,l⟩:=ac.o t s o r;obtain⟨f1,f2⟩:=Y (by omega);rw[f1]at L;exact absurd rfl L
   ·have d3:a.length=f:=(by omega);have dW:=I d3;have ev:decide ((a.length:Int)<(f:Int))=false:=(by simp;omega);have em:=I bi;have eq:=I da;have d5:=co wr;clear hg bi da d3 co;go_wp2;go_ret;refine⟨je be.o Hg.o,.inr ⟨a,cd,_,by have:=dW.o;omega,rfl,jQ em.o be.o.size,eq.o,fun g q e b=>?_⟩⟩;obtain⟨m,l,e3,_⟩:=M.o g q e b;rw[dW.o,<-m,aS]at l;subst l;refine⟨rfl,?_⟩;rw[fp]at e3;exact e3.symm
def Lu(c d:Int)(f h b:Nat)(a:W)(g:a.cell? (A b 0)=some (.int .u8 d)):C' 251 #[.agg #[.int .u8 c,V4 f,V4 h],(Q b 0)] a fun e i=>e=.returned (.bool (c==d))/\Below a.heap.size a i:=by
 have j:=aZ a _ g;go_enter Tryz.func251,Tryz.ntmps251;go_wp2;go_ret;exact⟨rfl,(k8 _ _).alloc (aA _) _⟩
def ZB(a:Int):Int:=if a=0 then 0 else if a=1 then 1 else if a=2 then 2 else -1
def jdz(g l:Nat)(b:Int)(i:W)(C:g<i.heap.size)(t:E7 i g)(c:i.cell? (A l 0)=some (.int .u8 b)):C' 250 #[R g 3 3,.func (.func 251) #[] #[(Q l 0)]] i fun q E=>q=.returned (N (ZB b))/\Below i.heap.size i E:=by
 have z:=I t;have y:=I c;have D:=aZ i _ c;clear t c;go_enter Tryz.func250,Tryz.ntmps250;go_wp2;go_loopw [8] (fun s wr=>∃h:Nat,h<=3/\s=N h/\(0<h->b≠0)/\(1<h->b≠1)/\(2<h->b≠2)/\Below i.heap.size i wr) (fun s _=>3-(intOf s).toNat)
 case atStart=>exact⟨0,by omega,rfl,fun c=>by omega,fun c=>by omega,fun c=>by omega,k8 _ _⟩
 case round=>
  obtain⟨h,F,rfl,u,v,w,d⟩:=hrel;have e:=z.o.j C d;have m:=(d.cell (p:=A l 0) D).trans y.o;have n:=I u;have r:=I v;have B:=I w;clear u v w;rcases(show h=0\/h=1\/h=2\/h=3 by omega)with rfl|rfl|rfl|rfl
  ·have c0:wr.cell? (A g 0)=some (.int .u8 0):=qt e 0 rfl;have c1:wr.cell? (A g 1)=some (V4 181):=qt e 1 rfl;have c2:wr.cell? (A g 2)=some (V4 182):=qt e 2 rfl;clear e;go_wp2_with fail;refine(Lu 0 b 181 182 l _ m).mono ?_;rintro q x ⟨rfl,k⟩;have j:=d.trans (k.mono d.size);clear d k c0 c1 c2 m;by_cases a:b=0
   ·have o:((0:Int)==b)=true:=(by simp[a]);have f:=I a;clear a;go_wp2;go_ret;exact⟨qX (by unfold ZB;rw[aQ f.o]),j⟩
   ·have o:((0:Int)==b)=false:=(by rw[bQ];exact fun c=>a c.symm);have f:=I a;clear a;go_wp2;go_roundw
    ·exact⟨1,by omega,by go_num,fun _=>f.o,fun c=>by omega,fun c=>by omega,j⟩
    ·simp[intOf]
  ·have c0:wr.cell? (A g 3)=some (.int .u8 1):=qt e 3 rfl;have c1:wr.cell? (A g 4)=some (V4 183):=qt e 4 rfl;have c2:wr.cell? (A g 5)=some (V4 184):=qt e 5 rfl;clear e;go_wp2_with fail;refine(Lu 1 b 183 184 l _ m).mono ?_;rintro q x ⟨rfl,k⟩;have j:=d.trans (k.mono d.size);clear d k c0 c1 c2 m;by_cases a:b=1
   ·have o:((1:Int)==b)=true:=(by simp[a]);have f:=I a;clear a;go_wp2;go_ret;exact⟨qX (by unfold ZB;rw[aL (n.o (by omega)),aQ f.o]),j⟩
   ·have o:((1:Int)==b)=false:=(by rw[bQ];exact fun c=>a c.symm);have f:=I a;clear a;go_wp2;go_roundw
    ·exact⟨2,by omega,by go_num,fun _=>n.o (by omega),fun _=>f.o,fun c=>by omega,j⟩
    ·simp[intOf]
  ·have c0:wr.cell? (A g 6)=some (.int .u8 2):=qt e 6 rfl;have c1:wr.cell? (A g 7)=some (V4 185):=qt e 7 rfl;have c2:wr.cell? (A g 8)=some (V4 186):=qt e 8 rfl;clear e;go_wp2_with fail;refine(Lu 2 b 185 186 l _ m).mono ?_;rintro q x ⟨rfl,k⟩;have j:=d.trans (k.mono d.size);clear d k c0 c1 c2 m;by_cases a:b=2
   ·have o:((2:Int)==b)=true:=(by simp[a]);have f:=I a;clear a;go_wp2;go_ret;exact⟨qX (by unfold ZB;rw[aL (n.o (by omega)),aL (r.o (by omega)),aQ f.o]),j⟩
   ·have o:((2:Int)==b)=false:=(by rw[bQ];exact fun c=>a c.symm);have f:=I a;clear a;go_wp2;go_roundw
    ·exact⟨3,by omega,by go_num,fun _=>n.o (by omega),fun _=>r.o (by omega),fun _=>f.o,j⟩
    ·simp[intOf]
  ·go_wp2;go_ret;exact⟨qX (by unfold ZB;rw[aL (n.o (by omega)),aL (r.o (by omega)),aL (B.o (by omega))]),d⟩
def PV(c d:Int)(f h b:Nat)(a:W)(g:a.cell? (A b 0)=some (.int .u8 d)):C' 253 #[.agg #[.int .u8 c,V4 f,V4 h],(Q b 0)] a fun e i=>e=.returned (.bool (c==d))/\Below a.heap.size a i:=by
 have j:=aZ a _ g;go_enter Tryz.func253,Tryz.ntmps253;go_wp2;go_ret;exact⟨rfl,(k8 _ _).alloc (aA _) _⟩
def Zw(a:Int):Int:=if a=0 then 0 else if a=3 then 1 else if a=4 then 2 else -1
def jdq(g l:Nat)(b:Int)(i:W)(C:g<i.heap.size)(t:D7 i g)(c:i.cell? (A l 0)=some (.int .u8 b)):C' 252 #[R g 3 3,.func (.func 253) #[] #[(Q l 0)]] i fun q E=>q=.returned (N (Zw b))/\Below i.heap.size i E:=by
 have z:=I t;have y:=I c;have D:=aZ i _ c;clear t c;go_enter Tryz.func252,Tryz.ntmps252;go_wp2;go_loopw [8] (fun s wr=>∃h:Nat,h<=3/\s=N h/\(0<h->b≠0)/\(1<h->b≠3)/\(2<h->b≠4)/\Below i.heap.size i wr) (fun s _=>3-(intOf s).toNat)
 case atStart=>exact⟨0,by omega,rfl,fun c=>by omega,fun c=>by omega,fun c=>by omega,k8 _ _⟩
 case round=>
  obtain⟨h,F,rfl,u,v,w,d⟩:=hrel;have e:=z.o.j C d;have m:=(d.cell (p:=A l 0) D).trans y.o;have n:=I u;have r:=I v;have B:=I w;clear u v w;rcases(show h=0\/h=1\/h=2\/h=3 by omega)with rfl|rfl|rfl|rfl
  ·have c0:wr.cell? (A g 0)=some (.int .u8 0):=qt e 0 rfl;have c1:wr.cell? (A g 1)=some (V4 196):=qt e 1 rfl;have c2:wr.cell? (A g 2)=some (V4 197):=qt e 2 rfl;clear e;go_wp2_with fail;refine(PV 0 b 196 197 l _ m).mono ?_;rintro q x ⟨rfl,k⟩;have j:=d.trans (k.mono d.size);clear d k c0 c1 c2 m;by_cases a:b=0
   ·have o:((0:Int)==b)=true:=(by simp[a]);have f:=I a;clear a;go_wp2;go_ret;exact⟨qX (by unfold Zw;rw[aQ f.o]),j⟩
   ·have o:((0:Int)==b)=false:=(by rw[bQ];exact fun c=>a c.symm);have f:=I a;clear a;go_wp2;go_roundw
    ·exact⟨1,by omega,by go_num,fun _=>f.o,fun c=>by omega,fun c=>by omega,j⟩
    ·simp[intOf]
  ·have c0:wr.cell? (A g 3)=some (.int .u8 3):=qt e 3 rfl;have c1:wr.cell? (A g 4)=some (V4 198):=qt e 4 rfl;have c2:wr.cell? (A g 5)=some (V4 199):=qt e 5 rfl;clear e;go_wp2_with fail;refine(PV 3 b 198 199 l _ m).mono ?_;rintro q x ⟨rfl,k⟩;have j:=d.trans (k.mono d.size);clear d k c0 c1 c2 m;by_cases a:b=3
   ·have o:((3:Int)==b)=true:=(by simp[a]);have f:=I a;clear a;go_wp2;go_ret;exact⟨qX (by unfold Zw;rw[aL (n.o (by omega)),aQ f.o]),j⟩
   ·have o:((3:Int)==b)=false:=(by rw[bQ];exact fun c=>a c.symm);have f:=I a;clear a;go_wp2;go_roundw
    ·exact⟨2,by omega,by go_num,fun _=>n.o (by omega),fun _=>f.o,fun c=>by omega,j⟩
    ·simp[intOf]
  ·have c0:wr.cell? (A g 6)=some (.int .u8 4):=qt e 6 rfl;have c1:wr.cell? (A g 7)=some (V4 200):=qt e 7 rfl;have c2:wr.cell? (A g 8)=some (V4 201):=qt e 8 rfl;clear e;go_wp2_with fail;refine(PV 4 b 200 201 l _ m).mono ?_;rintro q x ⟨rfl,k⟩;have j:=d.trans (k.mono d.size);clear d k c0 c1 c2 m;by_cases a:b=4
   ·have o:((4:Int)==b)=true:=(by simp[a]);have f:=I a;clear a;go_wp2;go_ret;exact⟨qX (by unfold Zw;rw[aL (n.o (by omega)),aL (r.o (by omega)),aQ f.o]),j⟩
   ·have o:((4:Int)==b)=false:=(by rw[bQ];exact fun c=>a c.symm);have f:=I a;clear a;go_wp2;go_roundw
    ·exact⟨3,by omega,by go_num,fun _=>n.o (by omega),fun _=>r.o (by omega),fun _=>f.o,j⟩
    ·simp[intOf]
  ·go_wp2;go_ret;exact⟨qX (by unfold Zw;rw[aL (n.o (by omega)),aL (r.o (by omega)),aL (B.o (by omega))]),d⟩
def F1(b:List Bool):Nat:=(b.filter fun a=>!a).length
def YT(a:List Bool):F1 a<=a.length:=du _ _
def VS(a:List Bool)(b:Nat)(c:b<a.length):F1 (a.take (b+1))=F1 (a.take b)+(if a[b]=true then 0 else 1):=by
 rw[aH c];unfold F1;rw[dI,aB];cases d:a[b]<;>simp
def YJ(kind:Int)(a:List Z9):B8:=if a=[]then[]else jV kind a 3
def QN{kind:Int}{l:List Z9}{rest q:B8}(f:l≠[])(a:YJ kind l++q=rest):∃j c b,j<3/\(c=T4 ((XY kind j:Int)%5)/\b=qT (XY kind j) l++q)/\rest=c::b:=by
 unfold YJ at a;rw[aL f]at a;obtain⟨j,e,d⟩:=LR kind l;rw[d,JP]at a;exact⟨j,_,_,e,⟨rfl,rfl⟩,a.symm⟩
def ZE(c:D6 w n m)(q:w.grownBy v (some k))(o:m<w.heap.size)(r:m≠k):D6 v n m:=by
 have b:∀j,v.cell? (A m j)=w.cell? (A m j):=fun j=>q.cell_far (A m j) o (by intro c;simp at c;exact r c);obtain⟨f,h,i,a,l,g,e⟩:=c;exact⟨(b 0).trans f,(b 1).trans h,(b 2).trans i,(b 3).trans a,(b 4).trans l,(b 5).trans g,(b 6).trans e⟩
def E7.grown(a:E7 w n)(d:w.grownBy v (some m))(e:n<w.heap.size)(f:n≠m):E7 v n:=(d.block n e (by intro a;simp at a;exact f a)).trans a
def D7.grown(a:D7 w n)(d:w.grownBy v (some m))(e:n<w.heap.size)(f:n≠m):D7 v n:=(d.block n e (by intro a;simp at a;exact f a)).trans a
def zm{c:UInt8}{n:Nat}(a:c=T4 (n:Int))(b:n<=255):(c.toNat:Int)=(n:Int):=by
 rw[a,zC _ (by omega) (by omega)]
def KW{a:List Bool}(b:w.ownsRow n 4 1 x a.length (Zq a)):∃f d,x=.slice f a.length d/\(a≠[]->∃c,f=some (A c 0)/\c<w.heap.size/\∀j (b:j<a.length),w.cell? (A c j)=some (.bool a[j])):=by
 rcases b.2 with⟨rfl,h⟩|⟨g,d,m,rfl,_⟩
 ·exact⟨none,0,by rw[h],fun l=>absurd (aO h) l⟩
 ·refine⟨_,d,rfl,fun _=>⟨g,rfl,(b.lt g rfl).2,fun j k=>?_⟩⟩;rw[b.cellAt j (by omega)];simp[Zq,k]
def jci(g p:Nat)(k:List Bool)(v:Value)(eM:Nat)(F rest:B8)(b:W)(hs:F.length<=maxLen)(fc:k.length<=60)(hp:qU b p F rest)(hv:b.ownsRow eM 4 1 v k.length (Zq k))(hg:g<b.heap.size)(hw:E7 b g)(ci:g≠p):C' 210 #[G6 g,(Q p 0),v] b (ZN 3 Zs (Di (F1 k)) (YJ 0) p F rest b):=by
 have Hs:=I hs;have Hp:=I hp;have Hw:=I hw;have d8:=zh hp;obtain⟨a,e7,rfl,em⟩:=KW hv;have es:=I em;clear hs hp hw hv em;go_enter Tryz.func210,Tryz.ntmps210;go_wp2;obtain⟨ac,ea,o⟩:=Qr b #[R g 3 3,V4 187,V4 188,V4 189,V4 190,V4 191,V4 192] 215;have Hc:J (D6 _ g b.heap.size):=⟨o 0,o 1,o 2,o 3,o 4,o 5,o 6⟩;have d1:=I (xf Hp.o ac d8);have eC:=I (Hw.o.j hg ac);have cd:=I ac;have ec:=bE (bG b.heap.size) ea.symm;have fd:=aC d8 ac.size;have d7:=aC hg ac.size;have cs:b.heap.size≠p:=by omega
 have ev:J (k≠[]->∃Y,a=some (A Y 0)/\∀j (d:j<k.length),(b.alloc (.cells #[R g 3 3,V4 187,V4 188,V4 189,V4 190,V4 191,V4 192] 215)).cell? (A Y j)=some (.bool k[j])):=by
  intro e0;obtain⟨Y,hb,co,ce⟩:=es.o e0;exact⟨Y,hb,fun j hj=>(cd.o.cell (p:=A Y j) co).trans (ce j hj)⟩
 clear o ac ea;generalize b.alloc _=w0 at *;go_loopw [7,14] (fun c V wr=>∃r:Nat,r<=k.length/\V=N r/\c=N (F1 (k.take r):Int)/\wr=w0) (fun _ V _=>k.length-(intOf V).toNat)
 case atStart=>exact⟨0,aG _,rfl,rfl,rfl⟩
 case round=>
  obtain⟨r,hk,rfl,rfl,rfl⟩:=hrel;have eR:=YT (k.take r);rw[aM]at eR;by_cases co:r<k.length
  ·obtain⟨Y,rfl,ce⟩:=ev.o (aE (by omega));have d6:=ce r co;have b4:=I (VS k r co);clear ce;cases hb:k[r]with
   | true=>
    rw[hb]at d6 b4;clear hb;go_wp2;go_roundw
    ·exact⟨r+1,by omega,by go_num,by rw[b4.o];simp,trivial⟩
    ·simp[intOf];omega
   | false=>
    rw[hb]at d6 b4;clear hb;go_wp2;go_roundw
    ·exact⟨r+1,by omega,by go_num,by rw[b4.o];simp,trivial⟩
    ·simp[intOf];omega
  ·have eS:r=k.length:=(by omega);subst eS;rw[aS]at *;obtain⟨W0,rfl⟩:∃W0,W0=wr:=⟨_,rfl⟩;generalize d5:F1 k=l at *;have e6:=I d5;clear d5;have dr:l<=60:=(by omega);by_cases o:l=0
   ·have eP:((l:Int)==0)=true:=(by simp[o]);have d0:=I o;clear o;go_wp2;go_ret;refine⟨jU (qb b _) cd.o,.inr ⟨[],rest,_,⟨d0.o.symm,(fun c d=>Qt d)⟩,rfl,kg _ _ _ _,d1.o,fun a q e d=>?_⟩⟩;have h:a=[]:=aO (by rw[e.1];exact d0.o);subst h;exact⟨rfl,d.symm⟩
   ·have eP:((l:Int)==0)=false:=(by rw[bQ];omega);have fa:1<=l:=(by omega);clear o;go_wp2_with fail;refine(Kz p F rest _ Hs.o d1.o).mono ?_;rintro B w2 ⟨U,⟨rfl,rfl⟩|⟨c,s,rfl,rfl,dv⟩⟩
    ·go_wp2;refine⟨rfl,je (jU (qb b _) cd.o) U,.inl ⟨rfl,fun a q e d=>?_⟩⟩;obtain⟨_,_,_,_,_,B⟩:=QN (kind:=0) (l:=a) (q:=q) (by intro G;rw[G]at e;have:=e.1;simp at this;omega) d.symm;cases B
    ·have d3:=je (jU (qb b (some p)) cd.o) U;have eq:=I d3;have dl:=ZE Hc.o U ec cs;have d2:=I (eC.o.grown U d7 ci);have eg:=aC ec U.size;have ds:=aC d7 U.size;have e4:=zh dv;have fb:=c.toNat_lt;clear U d3;have e5:=jf (Obj.cells #[.int .u8 (c.toNat:Int)] 5) dl.1;have er:=I dl;clear dl;go_wp2_with fail;have dd:Below w2.heap.size w2 (w2.alloc (Obj.cells #[.int .u8 (c.toNat:Int)] 5)):=(k8 _ _).alloc (aA _) _;refine(jdz g w2.heap.size (c.toNat:Int) _ (aC ds dd.size) (d2.o.j ds dd) (kF ..)).mono ?_;rintro B w3 ⟨rfl,d4⟩;have am:Below w2.heap.size w2 w3:=zl d4;have dT:=xf dv am e4;have C:=jU eq.o am;have X:=I (Jh er.o am eg);have da:=I (d2.o.j ds am);have dW:=aC eg am.size;clear d4 am dd e5 dv;rcases(show(c.toNat=0\/c.toNat=1\/c.toNat=2)\/¬(c.toNat=0\/c.toNat=1\/c.toNat=2)from fD _)with(hc|hc|hc)|hc
     ·have D:ZB (c.toNat:Int)=0:=by
       unfold ZB;rw[aQ (by omega)]
      rw[D];clear D;have x:w3.cell? (A g 2)=some (V4 182):=qt da.o 2 rfl;have K:J (∀a q,Di l a->c::s=YJ 0 a++q->s=qT 0 a++q):=by
       intro a q e d;obtain⟨j,c',r',hj,⟨h,Z⟩,w⟩:=QN (kind:=0) (l:=a) (q:=q) (by intro G;rw[G]at e;have:=e.1;simp at this;omega) d.symm;simp only[bT]at w;obtain⟨rfl,rfl⟩:=w;rcases(show j=0\/j=1\/j=2 by omega)with rfl|rfl|rfl
       ·have:=zm (n:=0) h (by decide);exact Z
       ·have:=zm (n:=1) h (by decide);omega
       ·have:=zm (n:=2) h (by decide);omega
      go_wp2_with fail;refine(qx _).mono ?_;rintro B t ⟨rfl,rfl⟩;go_wp2_with fail;refine k9 (S:=fun f=>f.cell? (A g 2)=some (V4 182)/\f.cell? (A b.heap.size 0)=some (R g 3 3)/\f.cell? (A b.heap.size 1)=some (V4 187)/\f.cell? (A b.heap.size 2)=some (V4 188)/\f.cell? (A b.heap.size 3)=some (V4 189)/\f.cell? (A b.heap.size 4)=some (V4 190)/\f.cell? (A b.heap.size 5)=some (V4 191)/\f.cell? (A b.heap.size 6)=some (V4 192)) (by kernel_rfl) ⟨x,X.o⟩ (fun y=>?_);refine tk 0 (Q b.heap.size 0) ?_;refine tk 1 (R g 3 3) ?_;refine tk 2 (N 0) ?_;refine tk 3 (Q g 0) ?_;refine tk 4 (Q g 2) ?_;refine tk 5 (V4 182) ?_;refine tk 6 (G6 g) ?_;refine tk 7 (Q p 0) ?_;refine tk 8 (N l) ?_;simp only[jA,jB,jC,Act.put,jD,jE,jF];refine rd 9 (fun u i=>?_);simp only[jA,jB,jC];go_simp;go_at_call 182
      refine(FZ g p l F s t.drew Hs.o dr (show qU t.drew p F s from dT)).mono ?_;rintro B T ⟨z,⟨rfl,bX⟩|⟨E,r4,v4,L,rfl,M,O,P⟩⟩
      ·exact⟨rfl,je C (jS z),.inl ⟨rfl,fun a q e d=>bX a q e ((K.o a q e d).trans (bN (·++q) (Kj 0 (by decide) YV a (fun V hi=>rfl)).symm.symm))⟩⟩
      ·have m:=jS z;have ap:=I (je C m);have H:J (T.cell? (A g 2)=some (V4 182)/\D6 T g b.heap.size):=⟨(m.cell_far (A g 2) (aZ t _ x) (by intro d;simp at d;exact ci d)).trans x,ZE X.o m dW cs⟩;have Hl:=I L;have be:=I M;have bi:=I O;have bv:=I P;clear z m L M O P;(try go_wp2_with fail);refine i.out _ _ H.o (fun y=>?_);clear i u;(try simp only[jA,jB,jC,Act.put,jD,jE,jF]);refine rd 10 (fun u i=>?_);simp only[jA,jB,jC];go_simp;(try go_wp2_with fail);refine i.out _ _ H.o (fun y=>?_);clear i u;(try simp only[jA,jB,jC,Act.put,jD,jE,jF]);refine kp (by kernel_rfl) ?_ _;clear y;go_wp2;go_ret;refine⟨ap.o,.inr ⟨E,r4,_,Hl.o,rfl,jQ be.o C.size,bi.o,fun a q e d=>bv.o a q e ((K.o a q e d).trans (bN (·++q) (Kj 0 (by decide) YV a (fun V hi=>rfl)).symm.symm))⟩⟩
     ·have D:ZB (c.toNat:Int)=1:=by
       unfold ZB;rw[aL (by omega),aQ (by omega)]
      rw[D];clear D;have x:w3.cell? (A g 5)=some (V4 184):=qt da.o 5 rfl;have K:J (∀a q,Di l a->c::s=YJ 0 a++q->s=qT 1 a++q):=by
       intro a q e d;obtain⟨j,c',r',hj,⟨h,Z⟩,w⟩:=QN (kind:=0) (l:=a) (q:=q) (by intro G;rw[G]at e;have:=e.1;simp at this;omega) d.symm;simp only[bT]at w;obtain⟨rfl,rfl⟩:=w;rcases(show j=0\/j=1\/j=2 by omega)with rfl|rfl|rfl
       ·have:=zm (n:=0) h (by decide);omega
       ·have:=zm (n:=1) h (by decide);exact Z
       ·have:=zm (n:=2) h (by decide);omega
      go_wp2_with fail;refine(qx _).mono ?_;rintro B t ⟨rfl,rfl⟩;go_wp2_with fail;refine k9 (S:=fun f=>f.cell? (A g 5)=some (V4 184)/\f.cell? (A b.heap.size 0)=some (R g 3 3)/\f.cell? (A b.heap.size 1)=some (V4 187)/\f.cell? (A b.heap.size 2)=some (V4 188)/\f.cell? (A b.heap.size 3)=some (V4 189)/\f.cell? (A b.heap.size 4)=some (V4 190)/\f.cell? (A b.heap.size 5)=some (V4 191)/\f.cell? (A b.heap.size 6)=some (V4 192)) (by kernel_rfl) ⟨x,X.o⟩ (fun y=>?_);refine tk 0 (Q b.heap.size 0) ?_;refine tk 1 (R g 3 3) ?_;refine tk 2 (N 1) ?_;refine tk 3 (Q g 3) ?_;refine tk 4 (Q g 5) ?_;refine tk 5 (V4 184) ?_;refine tk 6 (G6 g) ?_;refine tk 7 (Q p 0) ?_;refine tk 8 (N l) ?_;simp only[jA,jB,jC,Act.put,jD,jE,jF];refine rd 9 (fun u i=>?_);simp only[jA,jB,jC];go_simp;go_at_call 184
      refine(Sy g p l F s t.drew Hs.o dr (show qU t.drew p F s from dT)).mono ?_;rintro B T ⟨z,⟨rfl,bX⟩|⟨E,r4,v4,L,rfl,M,O,P⟩⟩
      ·exact⟨rfl,je C (jS z),.inl ⟨rfl,fun a q e d=>bX a q e ((K.o a q e d).trans (bN (·++q) (Kj 1 (by decide) Eh a (fun V hi=>rfl)).symm.symm))⟩⟩
      ·have m:=jS z;have ap:=I (je C m);have H:J (T.cell? (A g 5)=some (V4 184)/\D6 T g b.heap.size):=⟨(m.cell_far (A g 5) (aZ t _ x) (by intro d;simp at d;exact ci d)).trans x,ZE X.o m dW cs⟩;have Hl:=I L;have be:=I M;have bi:=I O;have bv:=I P;clear z m L M O P;(try go_wp2_with fail);refine i.out _ _ H.o (fun y=>?_);clear i u;(try simp only[jA,jB,jC,Act.put,jD,jE,jF]);refine rd 10 (fun u i=>?_);simp only[jA,jB,jC];go_simp;(try go_wp2_with fail);refine i.out _ _ H.o (fun y=>?_);clear i u;(try simp only[jA,jB,jC,Act.put,jD,jE,jF]);refine kp (by kernel_rfl) ?_ _;clear y;go_wp2;go_ret;refine⟨ap.o,.inr ⟨E,r4,_,Hl.o,rfl,jQ be.o C.size,bi.o,fun a q e d=>bv.o a q e ((K.o a q e d).trans (bN (·++q) (Kj 1 (by decide) Eh a (fun V hi=>rfl)).symm.symm))⟩⟩
     ·have D:ZB (c.toNat:Int)=2:=by
       unfold ZB;rw[aL (by omega),aL (by omega),aQ (by omega)]
      rw[D];clear D;have x:w3.cell? (A g 8)=some (V4 186):=qt da.o 8 rfl;have K:J (∀a q,Di l a->c::s=YJ 0 a++q->s=qT 2 a++q):=by
       intro a q e d;obtain⟨j,c',r',hj,⟨h,Z⟩,w⟩:=QN (kind:=0) (l:=a) (q:=q) (by intro G;rw[G]at e;have:=e.1;simp at this;omega) d.symm;simp only[bT]at w;obtain⟨rfl,rfl⟩:=w;rcases(show j=0\/j=1\/j=2 by omega)with rfl|rfl|rfl
       ·have:=zm (n:=0) h (by decide);omega
       ·have:=zm (n:=1) h (by decide);omega
       ·have:=zm (n:=2) h (by decide);exact Z
      go_wp2_with fail;refine(qx _).mono ?_;rintro B t ⟨rfl,rfl⟩;go_wp2_with fail;refine k9 (S:=fun f=>f.cell? (A g 8)=some (V4 186)/\f.cell? (A b.heap.size 0)=some (R g 3 3)/\f.cell? (A b.heap.size 1)=some (V4 187)/\f.cell? (A b.heap.size 2)=some (V4 188)/\f.cell? (A b.heap.size 3)=some (V4 189)/\f.cell? (A b.heap.size 4)=some (V4 190)/\f.cell? (A b.heap.size 5)=some (V4 191)/\f.cell? (A b.heap.size 6)=some (V4 192)) (by kernel_rfl) ⟨x,X.o⟩ (fun y=>?_);refine tk 0 (Q b.heap.size 0) ?_;refine tk 1 (R g 3 3) ?_;refine tk 2 (N 2) ?_;refine tk 3 (Q g 6) ?_;refine tk 4 (Q g 8) ?_;refine tk 5 (V4 186) ?_;refine tk 6 (G6 g) ?_;refine tk 7 (Q p 0) ?_;refine tk 8 (N l) ?_;simp only[jA,jB,jC,Act.put,jD,jE,jF];refine rd 9 (fun u i=>?_);simp only[jA,jB,jC];go_simp;go_at_call 186
      refine(BA g p l F s t.drew Hs.o dr (show qU t.drew p F s from dT)).mono ?_;rintro B T ⟨z,⟨rfl,bX⟩|⟨E,r4,v4,L,rfl,M,O,P⟩⟩
      ·exact⟨rfl,je C (jS z),.inl ⟨rfl,fun a q e d=>bX a q e ((K.o a q e d).trans (bN (·++q) (show jN 2 a a.length=qT 2 a by simp[qT]).symm))⟩⟩
      ·have m:=jS z;have ap:=I (je C m);have H:J (T.cell? (A g 8)=some (V4 186)/\D6 T g b.heap.size):=⟨(m.cell_far (A g 8) (aZ t _ x) (by intro d;simp at d;exact ci d)).trans x,ZE X.o m dW cs⟩;have Hl:=I L;have be:=I M;have bi:=I O;have bv:=I P;clear z m L M O P;(try go_wp2_with fail);refine i.out _ _ H.o (fun y=>?_);clear i u;(try simp only[jA,jB,jC,Act.put,jD,jE,jF]);refine rd 10 (fun u i=>?_);simp only[jA,jB,jC];go_simp;(try go_wp2_with fail);refine i.out _ _ H.o (fun y=>?_);clear i u;(try simp only[jA,jB,jC,Act.put,jD,jE,jF]);refine kp (by kernel_rfl) ?_ _;clear y;go_wp2;go_ret;refine⟨ap.o,.inr ⟨E,r4,_,Hl.o,rfl,jQ be.o C.size,bi.o,fun a q e d=>bv.o a q e ((K.o a q e d).trans (bN (·++q) (show jN 2 a a.length=qT 2 a by simp[qT]).symm))⟩⟩
     ·have D:ZB (c.toNat:Int)=-1:=by
       unfold ZB;rw[aL (by omega),aL (by omega),aL (by omega)]
      rw[D];go_wp2_with fail;refine(xu _).mono ?_;rintro B t ⟨rfl,rfl⟩;go_wp2;refine⟨rfl,C,.inl ⟨rfl,fun a q e d=>?_⟩⟩;obtain⟨j,c',r',hj,⟨h,Z⟩,w⟩:=QN (kind:=0) (l:=a) (q:=q) (by intro G;rw[G]at e;have:=e.1;simp at this;omega) d.symm;simp only[bT]at w;obtain⟨rfl,rfl⟩:=w;rcases(show j=0\/j=1\/j=2 by omega)with rfl|rfl|rfl
      ·have:=zm (n:=0) h (by decide);omega
      ·have:=zm (n:=1) h (by decide);omega
      ·have:=zm (n:=2) h (by decide);omega
def jcf(g p:Nat)(k:List Bool)(v:Value)(eM:Nat)(F rest:B8)(b:W)(hs:F.length<=maxLen)(fc:k.length<=60)(hp:qU b p F rest)(hv:b.ownsRow eM 4 1 v k.length (Zq k))(hg:g<b.heap.size)(hw:D7 b g)(ci:g≠p):C' 211 #[K9 g,(Q p 0),v] b (ZN 9 QX (TI (F1 k)) (YJ 1) p F rest b):=by
 have Hs:=I hs;have Hp:=I hp;have Hw:=I hw;have d8:=zh hp;obtain⟨a,fa,rfl,em⟩:=KW hv;have es:=I em;clear hs hp hw hv em;go_enter Tryz.func211,Tryz.ntmps211;go_wp2;obtain⟨ac,ea,o⟩:=Qr b #[R g 3 3,V4 202,V4 203,V4 204,V4 205,V4 206,V4 207] 225;have Hc:J (E1 _ g b.heap.size):=⟨o 0,o 1,o 2,o 3,o 4,o 5,o 6⟩;have d1:=I (xf Hp.o ac d8);have eC:=I (Hw.o.j hg ac);have cd:=I ac;have ec:=bE (bG b.heap.size) ea.symm;have fd:=aC d8 ac.size;have d7:=aC hg ac.size;have cs:b.heap.size≠p:=by omega
 have ev:J (k≠[]->∃Y,a=some (A Y 0)/\∀j (d:j<k.length),(b.alloc (.cells #[R g 3 3,V4 202,V4 203,V4 204,V4 205,V4 206,V4 207] 225)).cell? (A Y j)=some (.bool k[j])):=by
  intro e4;obtain⟨Y,hb,co,ce⟩:=es.o e4;exact⟨Y,hb,fun j hj=>(cd.o.cell (p:=A Y j) co).trans (ce j hj)⟩
 clear o ac ea;generalize b.alloc _=w0 at *;go_loopw [7,14] (fun c V wr=>∃r:Nat,r<=k.length/\V=N r/\c=N (F1 (k.take r):Int)/\wr=w0) (fun _ V _=>k.length-(intOf V).toNat)
 case atStart=>exact⟨0,aG _,rfl,rfl,rfl⟩
 case round=>
  obtain⟨r,hk,rfl,rfl,rfl⟩:=hrel;have eS:=YT (k.take r);rw[aM]at eS;by_cases co:r<k.length
  ·obtain⟨Y,rfl,ce⟩:=ev.o (aE (by omega));have d6:=ce r co;have b4:=I (VS k r co);clear ce;cases hb:k[r]with
   | true=>
    rw[hb]at d6 b4;clear hb;go_wp2;go_roundw
    ·exact⟨r+1,by omega,by go_num,by rw[b4.o];simp,trivial⟩
    ·simp[intOf];omega
   | false=>
    rw[hb]at d6 b4;clear hb;go_wp2;go_roundw
    ·exact⟨r+1,by omega,by go_num,by rw[b4.o];simp,trivial⟩
    ·simp[intOf];omega
  ·have e0:r=k.length:=(by omega);subst e0;rw[aS]at *;obtain⟨W0,rfl⟩:∃W0,W0=wr:=⟨_,rfl⟩;generalize d5:F1 k=l at *;have e7:=I d5;clear d5;have dr:l<=60:=(by omega);by_cases o:l=0
   ·have eR:((l:Int)==0)=true:=(by simp[o]);have d0:=I o;clear o;go_wp2;go_ret;refine⟨jU (qb b _) cd.o,.inr ⟨[],rest,_,⟨d0.o.symm,(fun c d=>Qt d)⟩,rfl,kg _ _ _ _,d1.o,fun a q e d=>?_⟩⟩;have h:a=[]:=aO (by rw[e.1];exact d0.o);subst h;exact⟨rfl,d.symm⟩
   ·have eR:((l:Int)==0)=false:=(by rw[bQ];omega);have eP:1<=l:=(by omega);clear o;go_wp2_with fail;refine(Kz p F rest _ Hs.o d1.o).mono ?_;rintro B w2 ⟨U,⟨rfl,rfl⟩|⟨c,s,rfl,rfl,dv⟩⟩
    ·go_wp2;refine⟨rfl,je (jU (qb b _) cd.o) U,.inl ⟨rfl,fun a q e d=>?_⟩⟩;obtain⟨_,_,_,_,_,B⟩:=QN (kind:=1) (l:=a) (q:=q) (by intro G;rw[G]at e;have:=e.1;simp at this;omega) d.symm;cases B
    ·have d3:=je (jU (qb b (some p)) cd.o) U;have eq:=I d3;have dl:=Xf Hc.o U ec cs;have d2:=I (eC.o.grown U d7 ci);have eg:=aC ec U.size;have ds:=aC d7 U.size;have e5:=zh dv;have fb:=c.toNat_lt;clear U d3;have e6:=jf (Obj.cells #[.int .u8 (c.toNat:Int)] 5) dl.1;have er:=I dl;clear dl;go_wp2_with fail;have dd:Below w2.heap.size w2 (w2.alloc (Obj.cells #[.int .u8 (c.toNat:Int)] 5)):=(k8 _ _).alloc (aA _) _;refine(jdq g w2.heap.size (c.toNat:Int) _ (aC ds dd.size) (d2.o.j ds dd) (kF ..)).mono ?_;rintro B w3 ⟨rfl,d4⟩;have am:Below w2.heap.size w2 w3:=zl d4;have dT:=xf dv am e5;have C:=jU eq.o am;have X:=I (xJ er.o am eg);have da:=I (d2.o.j ds am);have dW:=aC eg am.size;clear d4 am dd e6 dv;rcases(show(c.toNat=0\/c.toNat=3\/c.toNat=4)\/¬(c.toNat=0\/c.toNat=3\/c.toNat=4)from fD _)with(hc|hc|hc)|hc
     ·have D:Zw (c.toNat:Int)=0:=by
       unfold Zw;rw[aQ (by omega)]
      rw[D];clear D;have x:w3.cell? (A g 2)=some (V4 197):=qt da.o 2 rfl;have K:J (∀a q,TI l a->c::s=YJ 1 a++q->s=qT 5 a++q):=by
       intro a q e d;obtain⟨j,c',r',hj,⟨h,Z⟩,w⟩:=QN (kind:=1) (l:=a) (q:=q) (by intro G;rw[G]at e;have:=e.1;simp at this;omega) d.symm;simp only[bT]at w;obtain⟨rfl,rfl⟩:=w;rcases(show j=0\/j=1\/j=2 by omega)with rfl|rfl|rfl
       ·have:=zm (n:=0) h (by decide);exact Z
       ·have:=zm (n:=3) h (by decide);omega
       ·have:=zm (n:=4) h (by decide);omega
      go_wp2_with fail;refine(qx _).mono ?_;rintro B t ⟨rfl,rfl⟩;go_wp2_with fail;refine k9 (S:=fun f=>f.cell? (A g 2)=some (V4 197)/\f.cell? (A b.heap.size 0)=some (R g 3 3)/\f.cell? (A b.heap.size 1)=some (V4 202)/\f.cell? (A b.heap.size 2)=some (V4 203)/\f.cell? (A b.heap.size 3)=some (V4 204)/\f.cell? (A b.heap.size 4)=some (V4 205)/\f.cell? (A b.heap.size 5)=some (V4 206)/\f.cell? (A b.heap.size 6)=some (V4 207)) (by kernel_rfl) ⟨x,X.o⟩ (fun y=>?_);refine tk 0 (Q b.heap.size 0) ?_;refine tk 1 (R g 3 3) ?_;refine tk 2 (N 0) ?_;refine tk 3 (Q g 0) ?_;refine tk 4 (Q g 2) ?_;refine tk 5 (V4 197) ?_;refine tk 6 (K9 g) ?_;refine tk 7 (Q p 0) ?_;refine tk 8 (N l) ?_;simp only[jA,jB,jC,Act.put,jD,jE,jF];refine rd 9 (fun u i=>?_);simp only[jA,jB,jC];go_simp;go_at_call 197
      refine(AW g p l F s t.drew Hs.o dr (show qU t.drew p F s from dT)).mono ?_;rintro B T ⟨z,⟨rfl,bX⟩|⟨E,r4,v4,L,rfl,M,O,P⟩⟩
      ·exact⟨rfl,je C (jS z),.inl ⟨rfl,fun a q e d=>bX a q e ((K.o a q e d).trans (bN (·++q) (Kj 5 (by decide) Ud a (fun V hi=>rfl)).symm.symm))⟩⟩
      ·have m:=jS z;have ap:=I (je C m);have H:J (T.cell? (A g 2)=some (V4 197)/\E1 T g b.heap.size):=⟨(m.cell_far (A g 2) (aZ t _ x) (by intro d;simp at d;exact ci d)).trans x,Xf X.o m dW cs⟩;have Hl:=I L;have be:=I M;have bi:=I O;have bv:=I P;clear z m L M O P;(try go_wp2_with fail);refine i.out _ _ H.o (fun y=>?_);clear i u;(try simp only[jA,jB,jC,Act.put,jD,jE,jF]);refine rd 10 (fun u i=>?_);simp only[jA,jB,jC];go_simp;(try go_wp2_with fail);refine i.out _ _ H.o (fun y=>?_);clear i u;(try simp only[jA,jB,jC,Act.put,jD,jE,jF]);refine kp (by kernel_rfl) ?_ _;clear y;go_wp2;go_ret;refine⟨ap.o,.inr ⟨E,r4,_,Hl.o,rfl,jQ be.o C.size,bi.o,fun a q e d=>bv.o a q e ((K.o a q e d).trans (bN (·++q) (Kj 5 (by decide) Ud a (fun V hi=>rfl)).symm.symm))⟩⟩
     ·have D:Zw (c.toNat:Int)=1:=by
       unfold Zw;rw[aL (by omega),aQ (by omega)]
      rw[D];clear D;have x:w3.cell? (A g 5)=some (V4 199):=qt da.o 5 rfl;have K:J (∀a q,TI l a->c::s=YJ 1 a++q->s=qT 3 a++q):=by
       intro a q e d;obtain⟨j,c',r',hj,⟨h,Z⟩,w⟩:=QN (kind:=1) (l:=a) (q:=q) (by intro G;rw[G]at e;have:=e.1;simp at this;omega) d.symm;simp only[bT]at w;obtain⟨rfl,rfl⟩:=w;rcases(show j=0\/j=1\/j=2 by omega)with rfl|rfl|rfl
       ·have:=zm (n:=0) h (by decide);omega
       ·have:=zm (n:=3) h (by decide);exact Z
       ·have:=zm (n:=4) h (by decide);omega
      go_wp2_with fail;refine(qx _).mono ?_;rintro B t ⟨rfl,rfl⟩;go_wp2_with fail;refine k9 (S:=fun f=>f.cell? (A g 5)=some (V4 199)/\f.cell? (A b.heap.size 0)=some (R g 3 3)/\f.cell? (A b.heap.size 1)=some (V4 202)/\f.cell? (A b.heap.size 2)=some (V4 203)/\f.cell? (A b.heap.size 3)=some (V4 204)/\f.cell? (A b.heap.size 4)=some (V4 205)/\f.cell? (A b.heap.size 5)=some (V4 206)/\f.cell? (A b.heap.size 6)=some (V4 207)) (by kernel_rfl) ⟨x,X.o⟩ (fun y=>?_);refine tk 0 (Q b.heap.size 0) ?_;refine tk 1 (R g 3 3) ?_;refine tk 2 (N 1) ?_;refine tk 3 (Q g 3) ?_;refine tk 4 (Q g 5) ?_;refine tk 5 (V4 199) ?_;refine tk 6 (K9 g) ?_;refine tk 7 (Q p 0) ?_;refine tk 8 (N l) ?_;simp only[jA,jB,jC,Act.put,jD,jE,jF];refine rd 9 (fun u i=>?_);simp only[jA,jB,jC];go_simp;go_at_call 199
      refine(MB g p l F s t.drew Hs.o dr eP (show qU t.drew p F s from dT)).mono ?_;rintro B T ⟨z,⟨rfl,bX⟩|⟨E,r4,v4,L,rfl,M,O,P⟩⟩
      ·exact⟨rfl,je C (jS z),.inl ⟨rfl,fun a q e d=>bX a q e ((K.o a q e d).trans (bN (·++q) rfl.symm))⟩⟩
      ·have m:=jS z;have ap:=I (je C m);have H:J (T.cell? (A g 5)=some (V4 199)/\E1 T g b.heap.size):=⟨(m.cell_far (A g 5) (aZ t _ x) (by intro d;simp at d;exact ci d)).trans x,Xf X.o m dW cs⟩;have Hl:=I L;have be:=I M;have bi:=I O;have bv:=I P;clear z m L M O P;(try go_wp2_with fail);refine i.out _ _ H.o (fun y=>?_);clear i u;(try simp only[jA,jB,jC,Act.put,jD,jE,jF]);refine rd 10 (fun u i=>?_);simp only[jA,jB,jC];go_simp;(try go_wp2_with fail);refine i.out _ _ H.o (fun y=>?_);clear i u;(try simp only[jA,jB,jC,Act.put,jD,jE,jF]);refine kp (by kernel_rfl) ?_ _;clear y;go_wp2;go_ret;refine⟨ap.o,.inr ⟨E,r4,_,Hl.o,rfl,jQ be.o C.size,bi.o,fun a q e d=>bv.o a q e ((K.o a q e d).trans (bN (·++q) rfl.symm))⟩⟩
     ·have D:Zw (c.toNat:Int)=2:=by
       unfold Zw;rw[aL (by omega),aL (by omega),aQ (by omega)]
      rw[D];clear D;have x:w3.cell? (A g 8)=some (V4 201):=qt da.o 8 rfl;have K:J (∀a q,TI l a->c::s=YJ 1 a++q->s=qT 4 a++q):=by
       intro a q e d;obtain⟨j,c',r',hj,⟨h,Z⟩,w⟩:=QN (kind:=1) (l:=a) (q:=q) (by intro G;rw[G]at e;have:=e.1;simp at this;omega) d.symm;simp only[bT]at w;obtain⟨rfl,rfl⟩:=w;rcases(show j=0\/j=1\/j=2 by omega)with rfl|rfl|rfl
       ·have:=zm (n:=0) h (by decide);omega
       ·have:=zm (n:=3) h (by decide);omega
       ·have:=zm (n:=4) h (by decide);exact Z
      go_wp2_with fail;refine(qx _).mono ?_;rintro B t ⟨rfl,rfl⟩;go_wp2_with fail;refine k9 (S:=fun f=>f.cell? (A g 8)=some (V4 201)/\f.cell? (A b.heap.size 0)=some (R g 3 3)/\f.cell? (A b.heap.size 1)=some (V4 202)/\f.cell? (A b.heap.size 2)=some (V4 203)/\f.cell? (A b.heap.size 3)=some (V4 204)/\f.cell? (A b.heap.size 4)=some (V4 205)/\f.cell? (A b.heap.size 5)=some (V4 206)/\f.cell? (A b.heap.size 6)=some (V4 207)) (by kernel_rfl) ⟨x,X.o⟩ (fun y=>?_);refine tk 0 (Q b.heap.size 0) ?_;refine tk 1 (R g 3 3) ?_;refine tk 2 (N 2) ?_;refine tk 3 (Q g 6) ?_;refine tk 4 (Q g 8) ?_;refine tk 5 (V4 201) ?_;refine tk 6 (K9 g) ?_;refine tk 7 (Q p 0) ?_;refine tk 8 (N l) ?_;simp only[jA,jB,jC,Act.put,jD,jE,jF];refine rd 9 (fun u i=>?_);simp only[jA,jB,jC];go_simp;go_at_call 201
      refine(Py g p l F s t.drew Hs.o dr (show qU t.drew p F s from dT)).mono ?_;rintro B T ⟨z,⟨rfl,bX⟩|⟨E,r4,v4,L,rfl,M,O,P⟩⟩
      ·exact⟨rfl,je C (jS z),.inl ⟨rfl,fun a q e d=>bX a q e ((K.o a q e d).trans (bN (·++q) (Kj 4 (by decide) Gi a (fun V hi=>by simp only[xi,Gi,EA,Vg])).symm.symm))⟩⟩
      ·have m:=jS z;have ap:=I (je C m);have H:J (T.cell? (A g 8)=some (V4 201)/\E1 T g b.heap.size):=⟨(m.cell_far (A g 8) (aZ t _ x) (by intro d;simp at d;exact ci d)).trans x,Xf X.o m dW cs⟩;have Hl:=I L;have be:=I M;have bi:=I O;have bv:=I P;clear z m L M O P;(try go_wp2_with fail);refine i.out _ _ H.o (fun y=>?_);clear i u;(try simp only[jA,jB,jC,Act.put,jD,jE,jF]);refine rd 10 (fun u i=>?_);simp only[jA,jB,jC];go_simp;(try go_wp2_with fail);refine i.out _ _ H.o (fun y=>?_);clear i u;(try simp only[jA,jB,jC,Act.put,jD,jE,jF]);refine kp (by kernel_rfl) ?_ _;clear y;go_wp2;go_ret;refine⟨ap.o,.inr ⟨E,r4,_,Hl.o,rfl,jQ be.o C.size,bi.o,fun a q e d=>bv.o a q e ((K.o a q e d).trans (bN (·++q) (Kj 4 (by decide) Gi a (fun V hi=>by simp only[xi,Gi,EA,Vg])).symm.symm))⟩⟩
     ·have D:Zw (c.toNat:Int)=-1:=by
       unfold Zw;rw[aL (by omega),aL (by omega),aL (by omega)]
      rw[D];go_wp2_with fail;refine(xu _).mono ?_;rintro B t ⟨rfl,rfl⟩;go_wp2;refine⟨rfl,C,.inl ⟨rfl,fun a q e d=>?_⟩⟩;obtain⟨j,c',r',hj,⟨h,Z⟩,w⟩:=QN (kind:=1) (l:=a) (q:=q) (by intro G;rw[G]at e;have:=e.1;simp at this;omega) d.symm;simp only[bT]at w;obtain⟨rfl,rfl⟩:=w;rcases(show j=0\/j=1\/j=2 by omega)with rfl|rfl|rfl
      ·have:=zm (n:=0) h (by decide);omega
      ·have:=zm (n:=3) h (by decide);omega
      ·have:=zm (n:=4) h (by decide);omega
def Av(b:B8)(a:W):C' 157 #[S b] a fun d c=>d=.returned (Q a.heap.size 0)/\qU c a.heap.size b b/\Below a.heap.size a c:=by
 go_enter Tryz.func157,Tryz.ntmps157;go_wp2;go_ret;exact⟨rfl,⟨0,kH a _,aG _,rfl⟩,(k8 _ _).alloc (aA _) _⟩
def jcg(b:Int)(a:W):C' 188 #[N b] a fun c d=>c=.returned (.agg #[.bool false,N b,.string ⟨#[]⟩])/\Below a.heap.size a d:=by
 go_enter Tryz.func188,Tryz.ntmps188;go_wp2;exact kk (v:=.agg #[.bool false,N b,.string ⟨#[]⟩]) (by simp[results,Tryz.results188,go_sem]) rfl ⟨rfl,(k8 _ _).alloc (aA _) _⟩
def jby(b:B8)(a:W):C' 203 #[S b] a fun c d=>c=.returned (.agg #[.bool false,N 0,S b])/\Below a.heap.size a d:=by
 go_enter Tryz.func203,Tryz.ntmps203;go_wp2;exact kk (v:=.agg #[.bool false,N 0,S b]) (by simp[results,Tryz.results203,go_sem]) rfl ⟨rfl,(k8 _ _).alloc (aA _) _⟩
def AU(kind:Int)(b:B8)(a:List Z9):Prop:=qi kind a=true/\xy kind a=b/\∀c∈a,Xi c
def Ee(kind:Int)(d:B8)(e:W)(c:Ending)(f:W):Prop:=Below e.heap.size e f/\((c=T8/\xO kind d=none)\/∃a b g,c=.returned (.slice b a.length g)/\xO kind d=some a/\T3 f b a)
variable{K:Int}
def XO(b:∀h,AU K s h->False):xO K s=none:=by
 cases f:xO K s with
 | none=>rfl
 | some g=>
  obtain⟨c,d,e⟩:=Uj f;exact(b g ⟨c,d,e⟩).elim
variable{D:List Z9}
def zw(e:AU K s D):(D.map (·.null)).length<=60/\s=Nr (D.map (·.null))++YJ K (jk D)/\∀c∈D,c.null=true->c=⟨true,0,[]⟩:=by
 obtain⟨b,f,j⟩:=e;unfold qi at b;simp only[aK,dp,aN,cY]at b;refine⟨by simpa using b.1.2,?_,fun c g h=>?_⟩
 ·rw[<-f,<-Ov];unfold xy YJ;split<;>simp_all
 ·have:=b.2 c g;unfold qV at this;rw[aQ h]at this;simp at this;obtain⟨cn,i,ct⟩:=c;simp_all
def Ap(h:AU 0 s D):Di (F1 (D.map (·.null))) (jk D):=by
 obtain⟨b,l,f⟩:=h;unfold qi at b;simp only[aK,dp,aN,cY]at b;refine⟨(Kl D).symm,fun c i=>?_⟩;obtain⟨e,j⟩:=dn.1 i;have d:=b.2 c e;have g:c.null=false:=by simpa using j
 unfold qV at d;rw[g,aL (by decide),aQ rfl]at d;exact⟨g,by simpa using d,(f c e).1,(f c e).2⟩
def Ak(f:AU 1 s D):TI (F1 (D.map (·.null))) (jk D):=by
 obtain⟨d,k,l⟩:=f;unfold qi at d;simp only[aK,dp,aN,cY]at d;refine⟨(Kl D).symm,fun c g=>?_⟩;obtain⟨h,i⟩:=dn.1 g;have a:=d.2 c h;have e:c.null=false:=by simpa using i
 unfold qV at a;rw[e,aL (by decide),aL (by decide)]at a;simp at a;exact⟨e,a.1,a.2⟩
def Ey(a:Bool)(b:List Bool):F1 (a::b)=(if a=true then 0 else 1)+F1 b:=by
 unfold F1;cases a<;>simp<;>omega
def Aq(c:List Bool):∀(b:List Z9) (a:Nat) (d:a<c.length),qF (c.take (a+1)) b=qF (c.take a) b++[if c[a]=true then⟨true,0,[]⟩else zP b (F1 (c.take a))]:=by
 induction c with
 | nil=>intro b a d;simp at d
 | cons g c f=>
  intro b a d;cases a with
  | zero=>
   cases g with
   | true=>simp[qF]
   | false=>cases b<;>simp[qF,zP,F1,qY]
  | succ a=>
   have e:a<c.length:=(by simpa using d);simp only[dN,dM];cases g with
   | true=>
    simp only[qF,bF];rw[f b a e,Ey];simp
   | false=>
    cases b with
    | nil=>
     simp only[qF,bF];rw[f [] a e];simp[zP]
    | cons h b=>
     simp only[qF,bF];rw[f b a e,Ey];simp[zP,Nat.add_comm 1]
def LT(a:List Bool)(b:Nat)(d:b<a.length):a[b]=false->F1 (a.take b)<F1 a:=by
 intro e;have f:F1 a=F1 (a.take (b+1))+F1 (a.drop (b+1)):=by
  unfold F1;rw[<-aB,<-dI,aY]
 have c:=VS a b d;rw[e]at c;simp at c;omega
def Zj(a:List Z9)(c:Z9):jL (a++[c])=jL a++[.bool c.null,N c.int,S c.text]:=by simp[jL]
def Gr(a:List Bool):∀(v:List Z9),(qF a v).length=a.length:=by
 induction a with
 | nil=>intro v;rfl
 | cons c a b=>
  intro v;cases c with
  | true=>simp[qF,b]
  | false=>cases v<;>simp[qF,b]
def LN{ok:Z9->Prop}(d:List Bool):∀(b:List Z9),(∀c∈b,ok c)->F1 d<=b.length->∀c∈qF d b,ok c\/c=⟨true,0,[]⟩:=by
 induction d with
 | nil=>intro b _ _ c a;simp[qF]at a
 | cons h d g=>
  intro b f e c a;rw[Ey]at e;cases h with
  | true=>
   simp only[qF,bD]at a;rcases a with rfl|a
   ·exact .inr rfl
   ·exact g b f (by simpa using e) c a
  | false=>
   cases b with
   | nil=>simp at e
   | cons k b=>
    simp only[qF,bD]at a;rcases a with rfl|a
    ·exact .inl (f _ (by simp))
    ·exact g b (fun j i=>f j (bA _ i)) (by simp at e;omega) c a
variable{f:Z9}
def Dz(e:okI f\/f=⟨true,0,[]⟩):D9 f/\Xi f/\qI f:=by
 rcases e with⟨_,d,a,b⟩|rfl
 ·exact⟨⟨a,b,by rw[d];simp⟩,⟨a,b⟩,a,b,by rw[d];simp⟩
 ·exact⟨⟨by decide,by decide,by simp⟩,⟨by decide,by decide⟩,by decide,by decide,by simp⟩
def Mu(b:H9 f\/f=⟨true,0,[]⟩):D9 f/\Xi f/\qI f:=by
 rcases b with⟨_,a,d⟩|rfl
 ·exact⟨⟨by rw[a];decide,by rw[a];decide,by unfold maxLen;omega⟩,⟨by rw[a];decide,by rw[a];decide⟩,by rw[a];decide,by rw[a];decide,d⟩
 ·exact⟨⟨by decide,by decide,by simp⟩,⟨by decide,by decide⟩,by decide,by decide,by simp⟩
def OW(g:D.length<=60)(b:∀c∈D,okI c\/c=⟨true,0,[]⟩):qi 0 D=true:=by
 unfold qi;simp only[aK,dp,aN,cY];refine⟨⟨.inl trivial,g⟩,fun c f=>?_⟩;rcases b c f with⟨d,e,_⟩|rfl
 ·simp[qV,d,e]
 ·rfl
def OP(h:D.length<=60)(b:∀c∈D,H9 c\/c=⟨true,0,[]⟩):qi 1 D=true:=by
 unfold qi;simp only[aK,dp,aN,cY];refine⟨⟨.inr trivial,h⟩,fun c g=>?_⟩;rcases b c g with⟨d,e,f⟩|rfl
 ·simp[qV,d,e,f]
 ·rfl
def AE(b:w.ownsRow n 58 3 x m (jL D))(s:D.length=m)(f:∀c∈D,D9 c):∃e d,x=.slice e m d/\T3 w e D:=by
 rcases b.2 with⟨rfl,k⟩|⟨g,d,r,rfl,_⟩
 ·exact⟨none,0,by rw[k],f,fun q=>absurd (aO (by omega)) q⟩
 ·refine⟨_,d,rfl,f,fun _=>⟨g,0,rfl,(b.lt g rfl).2,fun j p=>?_⟩⟩;obtain⟨l,a,o⟩:=ZA D j p;simp only[dh];exact⟨by rw[b.cellAt (j*3) (by omega)];exact l,by rw[b.cellAt (j*3+1) (by omega)];exact a,by rw[b.cellAt (j*3+2) (by omega)];exact o⟩
def Sv(c:w.ownsRow n 3 1 x D.length (Zs D)):∃f b,x=.slice f D.length b/\(D≠[]->D.length<=b/\∃d,f=some (A d 0)/\d<w.heap.size/\∀j (c:j<D.length),w.cell? (A d j)=some (N (D[j]).int)):=by
 rcases c.2 with⟨rfl,h⟩|⟨g,b,a,rfl,_,_,k,_⟩
 ·exact⟨none,0,by rw[h],fun m=>absurd (aO h) m⟩
 ·refine⟨_,b,rfl,fun _=>⟨k,g,rfl,(c.lt g rfl).2,fun j l=>?_⟩⟩;rw[c.cellAt j (by omega)];simp[Zs,l]
def Tw(c:w.ownsRow n 9 1 x D.length (QX D)):∃f b,x=.slice f D.length b/\(D≠[]->D.length<=b/\∃d,f=some (A d 0)/\d<w.heap.size/\∀j (c:j<D.length),w.cell? (A d j)=some (S (D[j]).text)):=by
 rcases c.2 with⟨rfl,h⟩|⟨g,b,a,rfl,_,_,k,_⟩
 ·exact⟨none,0,by rw[h],fun m=>absurd (aO h) m⟩
 ·refine⟨_,b,rfl,fun _=>⟨k,g,rfl,(c.lt g rfl).2,fun j l=>?_⟩⟩;rw[c.cellAt j (by omega)];simp[QX,Jk,KF,l]
def jdt(g:Nat)(l:B8)(h:W)(hs:l.length<=maxLen)(hg:g<h.heap.size)(hw:E7 h g):C' 130 #[G6 g,S l] h (Ee 0 l h):=by
 obtain⟨i1,dd,dv,dT,dW⟩:=ks Tryz.au;have Hs:=I hs;have Hw:=I hw;clear hs hw;go_enter Tryz.func130,Tryz.ntmps130;go_wp2_with fail;obtain⟨Y,fw,o⟩:=Qr h #[R g 3 3,V4 187,V4 188,V4 189,V4 190,V4 191,V4 192] 215;have Hc:J (D6 _ g h.heap.size):=⟨o 0,o 1,o 2,o 3,o 4,o 5,o 6⟩;have gr:=I (Hw.o.j hg Y);have bi:=I Y;have fz:=bE (bG h.heap.size) fw.symm;have e6:=aC hg Y.size;clear o Y fw;generalize h.alloc _=K at *;refine(Av l K).mono ?_;rintro x w1 ⟨rfl,ds,B⟩;have ev:=bi.o.trans (B.mono bi.o.size);have L:=I ev;have ap:h.heap.size<=K.heap.size:=bi.o.size;have g7:=zh ds;have ge:=I (Jh Hc.o B fz);have gs:=I (gr.o.j e6 B);have e7:=aC e6 B.size;have f1:=aC fz B.size;have ft:h.heap.size≠K.heap.size:=by omega
 have da:g≠K.heap.size:=by omega
 clear B ev;generalize g8:K.heap.size=p at *;clear g8;go_wp2_with fail;refine(Nm p l l _ Hs.o ds).mono ?_;rintro x w2 ⟨u,⟨rfl,dl⟩|⟨d,r2,v6,e5,rfl,dr,fv,f6⟩⟩
 ·go_wp2;exact⟨rfl,L.o.grown u L.o.size (fun a i=>by cases i;exact ap),.inl ⟨rfl,XO (fun m e=>(dl _ _ (zw e).1 (zw e).2.1))⟩⟩
 ·have er:=I f6;have M:=I (L.o.grown u L.o.size (fun a i=>by cases i;exact ap));have d8:=I (ZE ge.o u f1 ft);have es:=I (gs.o.grown u e7 da);have co:=aC e7 u.size;have f2:=aC f1 u.size;have cd:=d8.o;obtain⟨x0,x1,x2,x3,x4,x5,x6⟩:=cd;clear f6 u ds;go_wp2_with fail;refine(jci g p d v6 w1.heap.size l r2 _ Hs.o e5 fv dr co es.o da).mono ?_;rintro x r ⟨q,⟨rfl,dl⟩|⟨b,r3,v7,hl,rfl,H,g9,f7⟩⟩
  ·go_wp2;refine⟨rfl,M.o.grown q M.o.size (fun a i=>by cases i;exact ap),.inl ⟨rfl,XO (fun m e=>?_)⟩⟩;obtain⟨y,e2⟩:=er.o _ _ (zw e).1 (zw e).2.1;exact dl (jk m) [] (by rw[<-y];exact Ap e) (by rw[aT];exact e2.symm)
  ·have HU:J (∀m,AU 0 l m->m=qF d b):=by
    intro m e;obtain⟨y,e2⟩:=er.o _ _ (zw e).1 (zw e).2.1;obtain⟨e3,_⟩:=f7 (jk m) [] (by rw[<-y];exact Ap e) (by rw[aT];exact e2.symm);rw[<-y,<-e3];exact(Rt m (zw e).2.2).symm
   have d1:=I (M.o.grown q M.o.size (fun a i=>by cases i;exact ap));have ea:=I (ZE d8.o q f2 ft);have gt:=I (es.o.grown q co da);have fa:=aC co q.size;have be:=aC f2 q.size;have fs:=xI dr g7 q;obtain⟨a6,c6,rfl,f3⟩:=KW fs;obtain⟨a7,c7,rfl,f4⟩:=Sv H;have gp:=I f3;have em:=I f4;have Hl:=I hl;have bv:J (b.length=F1 d):=hl.1;have hh:=YT d;have hj:b.length<=60:=(by rw[bv.o];omega);clear f7 q dr fs H f3 f4 fv g9 x0 x1 x2 x3 x4 x5 x6 hl;go_wp2_with(at_make;refine l7 _ rfl (.const (N 0)) (.tmp 20) 59 rfl r.heap.size 58 i1 (.agg #[.bool false,N 0,.string ⟨#[]⟩]) 3 Tryz.underlying59 dd dv dT .i64 .i64 _ d.length rfl rfl rfl (by rw[dW];omega) (by unfold maxLen;omega) (aA _) ?_;intro w4 fk fb);have eC:Below r.heap.size r w4:=(k8 _ _).grown fb (aA _) (fun _ z=>by cases z);clear fb;go_loopw [7,8,24] (fun v7 v8 i wr=>∃(a:Nat) (U:O') (c:Nat),a<=d.length/\i=N a/\v7=.slice U (b.length-F1 (d.take a)) c/\(F1 (d.take a)<b.length->b.length-F1 (d.take a)<=c/\∃V,a7=some (A V 0)/\U=some (A V (F1 (d.take a))))/\wr.ownsRow r.heap.size 58 3 v8 a (jL (qF (d.take a) b))/\Below r.heap.size r wr)
    (fun _ _ i _=>d.length-(intOf i).toNat)
   case atStart=>
    refine⟨0,a7,c7,aG _,rfl,by simp[F1],fun z=>?_,fk,eC⟩;obtain⟨h1,V,e,_⟩:=em.o (aE (by omega));exact⟨by omega,V,e,e⟩
   case round=>
    clear fk eC;obtain⟨a,U,c0,i,rfl,rfl,f5,k,f⟩:=hrel;have eq:=I f5;clear f5;by_cases am:a<d.length
    ·have hi:(a:Int)<(d.length:Int):=(by omega);obtain⟨b6,rfl,gT,eS⟩:=gp.o (aE (by omega));have Z:=(f.cell (p:=A b6 a) gT).trans (eS a am);have T:=I (Aq d b a am);have n:=I (VS d a am);have ce:=LT d a am;clear eS;cases C:d[a]with
     | true=>
      rw[C]at Z T n;clear C ce;go_wp2_with(at_builtin;refine ko _ rfl (.tmp 29) (.tmp 31) 59 rfl r.heap.size 58 i1 (.agg #[.bool false,N 0,.string ⟨#[]⟩]) 3 32 Tryz.underlying59 dd dv dT dW rfl (by decide) _ _ _ rfl (k.alloc _) (A _ 0) 1 1 [.bool true,N 0,.string ⟨#[]⟩] rfl rfl ?c1 ?c2 ?c3 ?c4 ?c5 ?_)
      case c2=>exact⟨rfl,rfl,rfl⟩
      case c3=>unfold maxLen;omega
      case c4=>omega
      case c5=>have:=f.size;simp;omega
      intro v3 w5 fn fc _;have ga:=I fn;have O:=I ((f.alloc f.size _).grown fc (by have:=f.size;simp;omega) (fun a i=>(k.lt a i).1));clear k fn fc f Z;go_wp2;go_roundw
      ·
       refine⟨a+1,U,c0,by omega,by go_num,by rw[n.o];simp,by rw[n.o];simpa using eq.o,?_,O.o⟩;rw[T.o,Zj];exact ga.o
      ·simp[intOf];omega
     | false=>
      have gZ:=ce C;rw[C]at Z T n;clear C ce;have F:F1 (d.take a)<b.length:=(by rw[bv.o];exact gZ);obtain⟨he,b7,bX,rfl⟩:=eq.o F;obtain⟨_,s,X,b4,e0⟩:=em.o (aE (by omega));have gU:s=b7:=(by rw[bX]at X;simpa using X.symm);subst gU;generalize e4:F1 (d.take a)=c at *;have hv:=(f.cell (p:=A s c) b4).trans (e0 c F);have ci:=(f.cell (p:=A h.heap.size 2) be).trans ea.o.2.2.1;have d0:=f.size;have f9:J (zP b c=b[c]):=qy b c F;generalize ff:b.length-c=v at *;have eg:=I ff;have hn:0<v:=(by omega);have hm:(0:Int)<(v:Int):=(by omega);have hf:c<b.length:=F;clear ff;have eP:=Hl.o.2 b[c] (aJ F);have d7:=I eP;have gd:=I bX;have ha:=I X;clear e0 eP bX X;go_wp2_with fail;go_region_held3 (fun w'=>w'.cell? (A h.heap.size 2)=some (V4 188)/\w'.cell? (A s c)=some (N (b[c]).int)) (first|exact⟨jf _ k1,jf _ k2⟩|exact⟨m1,m2⟩|exact⟨k1,k2⟩|exact⟨ci,hv⟩)
       (first
        | (go_at_call 188;refine(jcg (b[c]).int _).mono ?_;rintro x w5 ⟨rfl,D⟩;have j:=jg D;have k1:=(j.cell (p:=A h.heap.size 2) (aC be d0)).trans ci;have k2:=(j.cell (p:=A s c) (aC b4 d0)).trans hv)
        | (refine step_append_lies _ (by rfl) _ _ _ (by rfl) r.heap.size 58 i1 _ 3 32 Tryz.underlying59 dd dv dT dW rfl (by omega) _ a (jL (qF (d.take a) b)) (by rfl) ((ju k j).alloc _) (A w5.heap.size 0) 1 1 [.bool false,N (b[c]).int,.string ⟨#[]⟩] (by rfl) (by rfl) (World.news_of_block (cs:=#[.bool false,N (b[c]).int,.string ⟨#[]⟩]) (t:=58) (fr:=(0,0)) (kH w5 _)) (by simp[Value.oneCell']) (by omega) (by unfold maxLen;omega) (by omega) (by have:=j.size;simp;omega) _ rfl ?_;intro gg cc w7 H ac gA g3;have m1:=Je ac ((ju k j).alloc _) (jf _ k1) be;have m2:=Je ac ((ju k j).alloc _) (jf _ k2) b4))
      have d2:=I (((f.trans (j.mono d0)).alloc (by have:=j.size;omega) _).grown ac (by have:=j.size;simp;omega) (fun a i=>((ju k j).lt a i).1));have d6:=I H;have d4:J (jL (qF (d.take (a+1)) b)=jL (qF (d.take a) b)++[.bool false,N (b[c]).int,.string ⟨#[]⟩]):=by
       show _=_;rw[T.o,aL (by decide),f9.o,Zj,d7.o.1,d7.o.2.1]
      have hd:=I e4;clear m1 m2 k1 k2 ci hv D j ac H k f gA g3 e4 Z;have ho:(1:Int)<=(v:Int):=(by omega);have hp:(1:Int)<=(c0:Int):=(by omega);have hq:(v:Int)<=(c0:Int):=(by omega);have hr:1<=v:=(by omega);by_cases gY:c0=1
      ·have g4:v=1:=(by omega);subst gY g4;go_wp2;go_roundw
       ·
        have g5:=eg.o;refine⟨a+1,some (A s c),0,by omega,by go_num,?_,fun z=>?_,by rw[d4.o];exact d6.o,d2.o⟩
        ·rw[n.o,aL (by decide),show b.length-(c+1)=0 by omega]
        ·rw[n.o,aL (by decide)]at z;omega
       ·simp[intOf];omega
      ·go_wp2;go_roundw
       ·
        have g5:=eg.o;refine⟨a+1,some (A s (c+1)),c0-1,by omega,by go_num,?_,fun z=>?_,by rw[d4.o];exact d6.o,d2.o⟩
        ·rw[n.o,aL (by decide),show b.length-(c+1)=v-1 by omega]
        ·rw[n.o,aL (by decide)]at z ⊢;exact⟨by omega,s,gd.o,rfl⟩
       ·simp[intOf];omega
    ·have g2:a=d.length:=(by omega);subst g2;rw[aS]at k;have d5:=I (Gr d b);have eR:∀c∈qF d b,okI c\/c=⟨true,0,[]⟩:=LN d b Hl.o.2 (by rw[<-bv.o];exact aA _);have P:=I eR;obtain⟨a8,c8,rfl,fe⟩:=AE k (Gr d b) (fun c E=>(Dz (P.o c E)).1);have ec:=I fe;have gi:=I (Jh ea.o f be);have cd:=gi.o;obtain⟨x0,x1,x2,x3,x4,x5,x6⟩:=cd;have gw:=I (gt.o.j fa f);have g0:=aC fa f.size;have d3:=I (d1.o.trans (f.mono d1.o.size));have eM:(qF d b).length<=60:=(by rw[d5.o];exact e5);have f8:=I (OW eM P.o);have gb:J (∀c∈qF d b,Xi c):=fun c E=>(Dz (P.o c E)).2.1;have gc:J (∀c∈qF d b,qI c):=fun c E=>(Dz (P.o c E)).2.2;have fd:=d5.o;rw[<-fd]at *;clear k fe eR fd f;generalize qF d b=w at *;go_wp2_with fail;refine(jdl g a8 c8 w _ eM gc.o ec.o g0 gw.o).mono ?_;rintro x w5 ⟨rfl,D⟩;have O:=I (d3.o.trans (D.mono d3.o.size));by_cases G:xy 0 w=l
     ·have gX:(xy 0 w==l)=true:=(by simp[G]);have go:=I G;clear G x0 x1 x2 x3 x4 x5 x6;go_wp2_with fail;refine(qx _).mono ?_;rintro x wN ⟨rfl,rfl⟩;go_wp2;go_ret;refine⟨O.o,.inr ⟨w,a8,c8,rfl,?_,ec.o.j D⟩⟩;rw[<-go.o];exact VM 0 w f8.o gb.o
     ·have gX:(xy 0 w==l)=false:=(by simpa using G);clear x0 x1 x2 x3 x4 x5 x6;go_wp2_with fail;refine(xu _).mono ?_;rintro x wN ⟨rfl,rfl⟩;go_wp2;refine⟨rfl,O.o,.inl ⟨rfl,XO (fun m e=>?_)⟩⟩;have y:=HU.o m e;rw[y]at e;exact G e.2.1
def jdw(g:Nat)(l:B8)(h:W)(hs:l.length<=maxLen)(hg:g<h.heap.size)(hw:D7 h g):C' 131 #[K9 g,S l] h (Ee 1 l h):=by
 obtain⟨i1,dd,dv,dT,dW⟩:=ks Tryz.au;have Hs:=I hs;have Hw:=I hw;clear hs hw;go_enter Tryz.func131,Tryz.ntmps131;go_wp2_with fail;obtain⟨Y,fw,o⟩:=Qr h #[R g 3 3,V4 202,V4 203,V4 204,V4 205,V4 206,V4 207] 225;have Hc:J (E1 _ g h.heap.size):=⟨o 0,o 1,o 2,o 3,o 4,o 5,o 6⟩;have gr:=I (Hw.o.j hg Y);have bi:=I Y;have fz:=bE (bG h.heap.size) fw.symm;have e6:=aC hg Y.size;clear o Y fw;generalize h.alloc _=K at *;refine(Av l K).mono ?_;rintro x w1 ⟨rfl,ds,B⟩;have ev:=bi.o.trans (B.mono bi.o.size);have L:=I ev;have ap:h.heap.size<=K.heap.size:=bi.o.size;have g7:=zh ds;have ge:=I (xJ Hc.o B fz);have gs:=I (gr.o.j e6 B);have e7:=aC e6 B.size;have f1:=aC fz B.size;have ft:h.heap.size≠K.heap.size:=by omega
 have da:g≠K.heap.size:=by omega
 clear B ev;generalize g8:K.heap.size=p at *;clear g8;go_wp2_with fail;refine(Nm p l l _ Hs.o ds).mono ?_;rintro x w2 ⟨u,⟨rfl,dl⟩|⟨d,r2,v6,e5,rfl,dr,fv,f6⟩⟩
 ·go_wp2;exact⟨rfl,L.o.grown u L.o.size (fun a i=>by cases i;exact ap),.inl ⟨rfl,XO (fun m e=>(dl _ _ (zw e).1 (zw e).2.1))⟩⟩
 ·have er:=I f6;have M:=I (L.o.grown u L.o.size (fun a i=>by cases i;exact ap));have d8:=I (Xf ge.o u f1 ft);have es:=I (gs.o.grown u e7 da);have co:=aC e7 u.size;have f2:=aC f1 u.size;have cd:=d8.o;obtain⟨x0,x1,x2,x3,x4,x5,x6⟩:=cd;clear f6 u ds;go_wp2_with fail;refine(jcf g p d v6 w1.heap.size l r2 _ Hs.o e5 fv dr co es.o da).mono ?_;rintro x r ⟨q,⟨rfl,dl⟩|⟨b,r3,v7,hl,rfl,H,g9,f7⟩⟩
  ·go_wp2;refine⟨rfl,M.o.grown q M.o.size (fun a i=>by cases i;exact ap),.inl ⟨rfl,XO (fun m e=>?_)⟩⟩;obtain⟨y,e2⟩:=er.o _ _ (zw e).1 (zw e).2.1;exact dl (jk m) [] (by rw[<-y];exact Ak e) (by rw[aT];exact e2.symm)
  ·have HU:J (∀m,AU 1 l m->m=qF d b):=by
    intro m e;obtain⟨y,e2⟩:=er.o _ _ (zw e).1 (zw e).2.1;obtain⟨e3,_⟩:=f7 (jk m) [] (by rw[<-y];exact Ak e) (by rw[aT];exact e2.symm);rw[<-y,<-e3];exact(Rt m (zw e).2.2).symm
   have d1:=I (M.o.grown q M.o.size (fun a i=>by cases i;exact ap));have ea:=I (Xf d8.o q f2 ft);have gt:=I (es.o.grown q co da);have fa:=aC co q.size;have be:=aC f2 q.size;have fs:=xI dr g7 q;obtain⟨a6,c6,rfl,f3⟩:=KW fs;obtain⟨a7,c7,rfl,f4⟩:=Tw H;have gp:=I f3;have em:=I f4;have Hl:=I hl;have bv:J (b.length=F1 d):=hl.1;have hh:=YT d;have hj:b.length<=60:=(by rw[bv.o];omega);clear f7 q dr fs H f3 f4 fv g9 x0 x1 x2 x3 x4 x5 x6 hl;go_wp2_with(at_make;refine l7 _ rfl (.const (N 0)) (.tmp 20) 59 rfl r.heap.size 58 i1 (.agg #[.bool false,N 0,.string ⟨#[]⟩]) 3 Tryz.underlying59 dd dv dT .i64 .i64 _ d.length rfl rfl rfl (by rw[dW];omega) (by unfold maxLen;omega) (aA _) ?_;intro w4 fk fb);have eC:Below r.heap.size r w4:=(k8 _ _).grown fb (aA _) (fun _ z=>by cases z);clear fb;go_loopw [7,8,24] (fun v7 v8 i wr=>∃(a:Nat) (U:O') (c:Nat),a<=d.length/\i=N a/\v7=.slice U (b.length-F1 (d.take a)) c/\(F1 (d.take a)<b.length->b.length-F1 (d.take a)<=c/\∃V,a7=some (A V 0)/\U=some (A V (F1 (d.take a))))/\wr.ownsRow r.heap.size 58 3 v8 a (jL (qF (d.take a) b))/\Below r.heap.size r wr)
    (fun _ _ i _=>d.length-(intOf i).toNat)
   case atStart=>
    refine⟨0,a7,c7,aG _,rfl,by simp[F1],fun z=>?_,fk,eC⟩;obtain⟨h1,V,e,_⟩:=em.o (aE (by omega));exact⟨by omega,V,e,e⟩
   case round=>
    clear fk eC;obtain⟨a,U,c0,i,rfl,rfl,f5,k,f⟩:=hrel;have eq:=I f5;clear f5;by_cases am:a<d.length
    ·have hi:(a:Int)<(d.length:Int):=(by omega);obtain⟨b6,rfl,gT,eS⟩:=gp.o (aE (by omega));have Z:=(f.cell (p:=A b6 a) gT).trans (eS a am);have T:=I (Aq d b a am);have n:=I (VS d a am);have ce:=LT d a am;clear eS;cases C:d[a]with
     | true=>
      rw[C]at Z T n;clear C ce;go_wp2_with(at_builtin;refine ko _ rfl (.tmp 29) (.tmp 31) 59 rfl r.heap.size 58 i1 (.agg #[.bool false,N 0,.string ⟨#[]⟩]) 3 32 Tryz.underlying59 dd dv dT dW rfl (by decide) _ _ _ rfl (k.alloc _) (A _ 0) 1 1 [.bool true,N 0,.string ⟨#[]⟩] rfl rfl ?c1 ?c2 ?c3 ?c4 ?c5 ?_)
      case c2=>exact⟨rfl,rfl,rfl⟩
      case c3=>unfold maxLen;omega
      case c4=>omega
      case c5=>have:=f.size;simp;omega
      intro v3 w5 fn fc _;have ga:=I fn;have O:=I ((f.alloc f.size _).grown fc (by have:=f.size;simp;omega) (fun a i=>(k.lt a i).1));clear k fn fc f Z;go_wp2;go_roundw
      ·
       refine⟨a+1,U,c0,by omega,by go_num,by rw[n.o];simp,by rw[n.o];simpa using eq.o,?_,O.o⟩;rw[T.o,Zj];exact ga.o
      ·simp[intOf];omega
     | false=>
      have gZ:=ce C;rw[C]at Z T n;clear C ce;have F:F1 (d.take a)<b.length:=(by rw[bv.o];exact gZ);obtain⟨he,b7,bX,rfl⟩:=eq.o F;obtain⟨_,s,X,b4,e0⟩:=em.o (aE (by omega));have gU:s=b7:=(by rw[bX]at X;simpa using X.symm);subst gU;generalize e4:F1 (d.take a)=c at *;have hv:=(f.cell (p:=A s c) b4).trans (e0 c F);have ci:=(f.cell (p:=A h.heap.size 2) be).trans ea.o.2.2.1;have d0:=f.size;have f9:J (zP b c=b[c]):=qy b c F;generalize ff:b.length-c=v at *;have eg:=I ff;have hn:0<v:=(by omega);have hm:(0:Int)<(v:Int):=(by omega);have hf:c<b.length:=F;clear ff;have eP:=Hl.o.2 b[c] (aJ F);have d7:=I eP;have gd:=I bX;have ha:=I X;clear e0 eP bX X;go_wp2_with fail;go_region_held3 (fun w'=>w'.cell? (A h.heap.size 2)=some (V4 203)/\w'.cell? (A s c)=some (S (b[c]).text)) (first|exact⟨jf _ k1,jf _ k2⟩|exact⟨m1,m2⟩|exact⟨k1,k2⟩|exact⟨ci,hv⟩)
       (first
        | (go_at_call 203;refine(jby (b[c]).text _).mono ?_;rintro x w5 ⟨rfl,D⟩;have j:=jg D;have k1:=(j.cell (p:=A h.heap.size 2) (aC be d0)).trans ci;have k2:=(j.cell (p:=A s c) (aC b4 d0)).trans hv)
        | (refine step_append_lies _ (by rfl) _ _ _ (by rfl) r.heap.size 58 i1 _ 3 32 Tryz.underlying59 dd dv dT dW rfl (by omega) _ a (jL (qF (d.take a) b)) (by rfl) ((ju k j).alloc _) (A w5.heap.size 0) 1 1 [.bool false,N 0,S (b[c]).text] (by rfl) (by rfl) (World.news_of_block (cs:=#[.bool false,N 0,S (b[c]).text]) (t:=58) (fr:=(0,0)) (kH w5 _)) (by simp[Value.oneCell']) (by omega) (by unfold maxLen;omega) (by omega) (by have:=j.size;simp;omega) _ rfl ?_;intro gg cc w7 H ac gA g3;have m1:=Je ac ((ju k j).alloc _) (jf _ k1) be;have m2:=Je ac ((ju k j).alloc _) (jf _ k2) b4))
      have d2:=I (((f.trans (j.mono d0)).alloc (by have:=j.size;omega) _).grown ac (by have:=j.size;simp;omega) (fun a i=>((ju k j).lt a i).1));have d6:=I H;have d4:J (jL (qF (d.take (a+1)) b)=jL (qF (d.take a) b)++[.bool false,N 0,S (b[c]).text]):=by
       show _=_;rw[T.o,aL (by decide),f9.o,Zj,d7.o.1,d7.o.2.1]
      have hd:=I e4;clear m1 m2 k1 k2 ci hv D j ac H k f gA g3 e4 Z;have ho:(1:Int)<=(v:Int):=(by omega);have hp:(1:Int)<=(c0:Int):=(by omega);have hq:(v:Int)<=(c0:Int):=(by omega);have hr:1<=v:=(by omega);by_cases gY:c0=1
      ·have g4:v=1:=(by omega);subst gY g4;go_wp2;go_roundw
       ·
        have g5:=eg.o;refine⟨a+1,some (A s c),0,by omega,by go_num,?_,fun z=>?_,by rw[d4.o];exact d6.o,d2.o⟩
        ·rw[n.o,aL (by decide),show b.length-(c+1)=0 by omega]
        ·rw[n.o,aL (by decide)]at z;omega
       ·simp[intOf];omega
      ·go_wp2;go_roundw
       ·
        have g5:=eg.o;refine⟨a+1,some (A s (c+1)),c0-1,by omega,by go_num,?_,fun z=>?_,by rw[d4.o];exact d6.o,d2.o⟩
        ·rw[n.o,aL (by decide),show b.length-(c+1)=v-1 by omega]
        ·rw[n.o,aL (by decide)]at z ⊢;exact⟨by omega,s,gd.o,rfl⟩
       ·simp[intOf];omega
    ·have g2:a=d.length:=(by omega);subst g2;rw[aS]at k;have d5:=I (Gr d b);have eR:∀c∈qF d b,H9 c\/c=⟨true,0,[]⟩:=LN d b Hl.o.2 (by rw[<-bv.o];exact aA _);have P:=I eR;obtain⟨a8,c8,rfl,fe⟩:=AE k (Gr d b) (fun c E=>(Mu (P.o c E)).1);have ec:=I fe;have gi:=I (xJ ea.o f be);have cd:=gi.o;obtain⟨x0,x1,x2,x3,x4,x5,x6⟩:=cd;have gw:=I (gt.o.j fa f);have g0:=aC fa f.size;have d3:=I (d1.o.trans (f.mono d1.o.size));have eM:(qF d b).length<=60:=(by rw[d5.o];exact e5);have f8:=I (OP eM P.o);have gb:J (∀c∈qF d b,Xi c):=fun c E=>(Mu (P.o c E)).2.1;have gc:J (∀c∈qF d b,qI c):=fun c E=>(Mu (P.o c E)).2.2;have fd:=d5.o;rw[<-fd]at *;clear k fe eR fd f;generalize qF d b=w at *;go_wp2_with fail;refine(jdj g a8 c8 w _ eM gc.o ec.o g0 gw.o).mono ?_;rintro x w5 ⟨rfl,D⟩;have O:=I (d3.o.trans (D.mono d3.o.size));by_cases G:xy 1 w=l
     ·have gX:(xy 1 w==l)=true:=(by simp[G]);have go:=I G;clear G x0 x1 x2 x3 x4 x5 x6;go_wp2_with fail;refine(qx _).mono ?_;rintro x wN ⟨rfl,rfl⟩;go_wp2;go_ret;refine⟨O.o,.inr ⟨w,a8,c8,rfl,?_,ec.o.j D⟩⟩;rw[<-go.o];exact VM 1 w f8.o gb.o
     ·have gX:(xy 1 w==l)=false:=(by simpa using G);clear x0 x1 x2 x3 x4 x5 x6;go_wp2_with fail;refine(xu _).mono ?_;rintro x wN ⟨rfl,rfl⟩;go_wp2;refine⟨rfl,O.o,.inl ⟨rfl,XO (fun m e=>?_)⟩⟩;have y:=HU.o m e;rw[y]at e;exact G e.2.1
def YR(p:Addr)(e:Bool)(d:TypeId)(c:Value)(b:List PanicEntry)(a:W)(g:a.cell? p=some (.bool e))(i:a.frozen? p=false):CallsD Tryz.prog 129 #[.pointer (some p)] (.panicking ({ v:=.iface d c,recovered:=false}::b)) a fun f j k=>
   f=.returned (.tuple #[])/\j=.panicking ({ v:=.iface d c,recovered:=true}::b)/\k=a.setCell p (.bool false):=by
 refine l6 Tryz.func129 rfl fun m l h=>?_;apply lb;simp[wpOpsS,go_sem,recoverD,h,Tryz.ntmps129,Exit.thenS,g,i,bodyPostS,results,Tryz.results129]
def SM(p:Addr)(b:Bool)(a:W)(e:a.cell? p=some (.bool b))(g:a.frozen? p=false):CallsD Tryz.prog 129 #[.pointer (some p)] .returning a fun d h i=>d=.returned (.tuple #[])/\h=.returning/\i=a.setCell p (.bool true):=by
 refine l6 Tryz.func129 rfl fun c j f=>?_;apply lb;simp[wpOpsS,go_sem,recoverD,f,Tryz.ntmps129,Exit.thenS,e,g,bodyPostS,results,Tryz.results129];cases c;simp_all
def Lh(kind:Int)(e:B8)(f:W)(s:kind=0\/kind=1)(r:e.length<=maxLen):C' 70 #[N kind,S e] f (Ee kind e f):=by
 have q:=I r;clear r;rcases s with rfl|rfl
 ·go_enter Tryz.func70,Tryz.ntmps70;go_wp2_with fail;refine(Ye f).mono ?_;rintro l t ⟨g,rfl,m,d,a⟩;have i:=I d;clear d;go_wp2_with fail;refine(jdt g e _ q.o m i.o).mono ?_;rintro l u ⟨b,⟨rfl,o⟩|⟨p,j,k,rfl,c,n⟩⟩
  ·go_wp2;exact⟨rfl,a.trans (b.mono a.size),.inl ⟨rfl,o⟩⟩
  ·have h:=I c;clear c;go_wp2;go_ret;exact⟨a.trans (b.mono a.size),.inr ⟨p,j,k,rfl,h.o,n⟩⟩
 ·go_enter Tryz.func70,Tryz.ntmps70;go_wp2_with fail;refine(AP f).mono ?_;rintro l t ⟨g,rfl,m,d,a⟩;have i:=I d;clear d;go_wp2_with fail;refine(jdw g e _ q.o m i.o).mono ?_;rintro l u ⟨b,⟨rfl,o⟩|⟨p,j,k,rfl,c,n⟩⟩
  ·go_wp2;exact⟨rfl,a.trans (b.mono a.size),.inl ⟨rfl,o⟩⟩
  ·have h:=I c;clear c;go_wp2;go_ret;exact⟨a.trans (b.mono a.size),.inr ⟨p,j,k,rfl,h.o,n⟩⟩
def XV(P:List (W8×Value)):List Value:=P.flatMap fun p=>[S p.1.name,N p.1.kind,N p.1.key,p.2]
def Kn(a:List (W8×Value)):(XV a).length=a.length*4:=Qn _ 4 (fun _=>rfl) a
def TE(a:List (W8×Value))(j:Nat)(b:j<a.length):(XV a)[j*4]?=some (S (a[j]).1.name)/\(XV a)[j*4+1]?=some (N (a[j]).1.kind)/\(XV a)[j*4+2]?=some (N (a[j]).1.key)/\(XV a)[j*4+3]?=some (a[j]).2:=⟨Jl _ 4 (fun _=>rfl) a j 0 b (by decide),Jl _ 4 (fun _=>rfl) a j 1 b (by decide),Jl _ 4 (fun _=>rfl) a j 2 b (by decide),Jl _ 4 (fun _=>rfl) a j 3 b (by decide)⟩
abbrev C4:W8:=⟨[109,97,114,107],-77,0,[]⟩
def VG:W8×Value:=(C4,.slice none 0 0)
def Zp:W8×Value:=(⟨[],0,0,[]⟩,.slice none 0 0)
def Tryz.b9:(Tryz.prog.info? 61).map (fun a=>(a.zero,a.size,a.bytes))=some (some (.agg #[.string ⟨#[]⟩,N 0,N 0,.slice none 0 0]),4,56):=by kernel_rfl
def PQ(n:Nat):XV (List.replicate n Zp)=(madeCells (Value.agg #[.string ⟨#[]⟩,N 0,N 0,.slice none 0 0]).cells (n*4)).toList:=by
 apply eF;intro a;by_cases f:a<n*4
 ·have e:a/4<(List.replicate n Zp).length:=by simp;omega
  obtain⟨c1,c2,c3,c4⟩:=TE (List.replicate n Zp) (a/4) e;simp only[cH]at c1 c2 c3 c4;have c:a%4=0\/a%4=1\/a%4=2\/a%4=3:=by omega
  have d:(Value.agg #[.string ⟨#[]⟩,N 0,N 0,.slice none 0 0]).cells=#[.string ⟨#[]⟩,N 0,N 0,.slice none 0 0]:=rfl;rcases c with c|c|c|c
  ·have b:a=a/4*4:=(by omega);rw[b,c1,d];simp[madeCells,show a/4*4<n*4 by omega,Zp]
  ·have b:a=a/4*4+1:=(by omega);rw[b,c2,d];simp[madeCells,show a/4*4+1<n*4 by omega,Zp,show(a/4*4+1)%4=1 by omega]
  ·have b:a=a/4*4+2:=(by omega);rw[b,c3,d];simp[madeCells,show a/4*4+2<n*4 by omega,Zp,show(a/4*4+2)%4=2 by omega]
  ·have b:a=a/4*4+3:=(by omega);rw[b,c4,d];simp[madeCells,show a/4*4+3<n*4 by omega,Zp,show(a/4*4+3)%4=3 by omega]
 ·rw[cN (by rw[Kn];simp;omega),cN (by rw[dP,lf];omega)]
def jfg(a c:List (W8×Value))(f p:W8×Value):((((XV (a++f::c)).set (a.length*4) (S p.1.name)).set (a.length*4+1) (N p.1.kind)).set (a.length*4+2) (N p.1.key)).set (a.length*4+3) p.2=XV (a++p::c):=by
 have e:=Kn a;have d:∀b:W8×Value,XV (a++b::c)=XV a++(S b.1.name::N b.1.kind::N b.1.key::b.2::XV c):=by intro b;simp[XV]
 rw[d,d,<-e];rw[bI _ _ (aA _),bI _ _ (by omega),bI _ _ (by omega),bI _ _ (by omega)];simp
def jgc(a d:List (W8×Value))(c:W8)(v f:Value):(XV (a++(c,v)::d)).set (a.length*4+3) f=XV (a++(c,f)::d):=by
 have g:=Kn a;have e:∀b:W8×Value,XV (a++b::d)=XV a++(S b.1.name::N b.1.kind::N b.1.key::b.2::XV d):=by intro b;simp[XV]
 rw[e,e,<-g];rw[bI _ _ (by omega)];simp
abbrev F8(a:W)(b g n:Nat)(P:List (W8×Value)):Prop:=a.ownsRow b 61 4 (R g n n) n (XV P)
def F8.heap{base g n:Nat}{P:List (W8×Value)}(d:F8 w base g n P):∃b,w.heap[g]?=some (.cells b 61 (0,0)):=by
 rcases d.2 with⟨a,_⟩|⟨h,f,b,a,_,e,_⟩
 ·simp at a
 ·simp only[cx,aW,cG,de,eu]at a;obtain⟨rfl,rfl⟩:=a;exact⟨b,e⟩
def F8.at_{c g n:Nat}{P:List (W8×Value)}(b:F8 w c g n P)(j:Nat)(i:j<P.length):w.cell? (A g (j*4))=some (S (P[j]).1.name)/\w.cell? (A g (j*4+1))=some (N (P[j]).1.kind)/\w.cell? (A g (j*4+2))=some (N (P[j]).1.key)/\w.cell? (A g (j*4+3))=some (P[j]).2:=by
 have k:=b.1;rw[Kn]at k;obtain⟨d,e,f,h⟩:=TE P j i;exact⟨by rw[b.cellAt _ (by omega)];exact d,by rw[b.cellAt _ (by omega)];exact e,by rw[b.cellAt _ (by omega)];exact f,by rw[b.cellAt _ (by omega)];exact h⟩
def F8.ct{d g n k:Nat}{a b:List (W8×Value)}{m:W8×Value}(f:F8 w d g n (a++m::b))(l:a.length=k)(p:W8×Value):F8 ((((w.setCell (A g (k*4)) (S p.1.name)).setCell (A g (k*4+1)) (N p.1.kind)).setCell (A g (k*4+2)) (N p.1.key)).setCell (A g (k*4+3)) p.2) d g n (a++p::b):=by
 subst l;have h:=(f.stored (a.length*4) (S p.1.name)).1;have i:=(h.stored (a.length*4+1) (N p.1.kind)).1;have j:=(i.stored (a.length*4+2) (N p.1.key)).1;have e:=(j.stored (a.length*4+3) p.2).1;rw[jfg]at e;exact e
def F8.c7{a d:List (W8×Value)}{c:W8}(j:F8 w n m k (a++(c,x)::d))(g:a.length=i)(b:Value):F8 (w.setCell (A m (i*4+3)) b) n m k (a++(c,b)::d):=by
 subst g;have h:=(j.stored (a.length*4+3) b).1;rw[jgc]at h;exact h
def M5(c:W)(b:Nat)(v:Value)(a:List Z9):Prop:=∃g,v=R g a.length (a.length+8)/\c.ownsRow b 58 3 (R g (a.length+8) (a.length+8)) (a.length+8) (jL (Xz a 8))
def M5.ag{T:List TypeId}(f:M5 w m x D)(i:V8 T n w v)(h:¬58∈T):M5 v m x D:=by
 obtain⟨g,k,j⟩:=f;exact⟨g,k,i.owns j h⟩
def ZC(f:w.ownsRow n m k x i C)(g:Below w.heap.size w v):v.ownsRow n m k x i C:=f.kept (Rj g) (fD _)
def M5.j{base:Nat}{a:Value}{l:List Z9}(c:M5 w base a l)(d:Below w.heap.size w v):M5 v base a l:=by
 obtain⟨g,f,e⟩:=c;exact⟨g,f,ZC e d⟩
def M5.bx(j:M5 w n x D)(l:m<=n):M5 w m x D:=by
 obtain⟨g,b,k,a⟩:=j;refine⟨g,b,k,?_⟩;rcases a with a|⟨g,h,i,b,e,rest⟩
 ·exact .inl a
 ·exact .inr ⟨g,h,i,b,aI l e,rest⟩
structure U9 (w:W) (base g:Nat) (t:List W8):Prop where
 ex:∃P:List (W8×Value),P.map Prod.fst=t/\(∀p∈P,M5 w base p.2 p.1.cells)/\F8 w base g (t.length+8) (P++List.replicate 8 VG)
def U9.j{a c:W}{base g:Nat}{t:List W8}(d:U9 a base g t)(b:Below a.heap.size a c):U9 c base g t:=by
 obtain⟨P,e,f,h⟩:=d.ex;exact⟨P,e,fun p i=>(f p i).j b,ZC h b⟩
variable{B:List W8}
def U9.ag{T:List TypeId}(f:U9 w m k B)(b:V8 T n w v)(t:¬58∈T)(l:¬61∈T):U9 v m k B:=by
 obtain⟨P,h,i,j⟩:=f.ex;exact⟨P,h,fun p g=>(i p g).ag b t,b.owns j l⟩
variable{a:O'}
def P3.parts{t:List W8}(b:P3 w a t):∀c∈t,(∀k∈c.cells,D9 k)/\c.cells.length*32<=140737488351232:=by
 intro c d;obtain⟨i,f,rfl⟩:=cA.1 d;obtain⟨l,n,_,_,e⟩:=b.at_ (aE (by omega));obtain⟨_,_,_,v,_,ca,m,_,_,g,h⟩:=e i f;exact⟨g.ok,h⟩
def U9.av(g:U9 w n m B)(f:P3 v a B):P3 w (some (A m 0)) B:=by
 obtain⟨P,c,t,d⟩:=g.ex;have o:=f.parts;have u:P.length=B.length:=by rw[<-c,cJ]
 refine⟨f.ok,fun i=>⟨m,0,rfl,(d.lt m rfl).2,fun j s=>?_⟩⟩;have e:j<P.length:=by omega
 obtain⟨c1,c2,c3,c4⟩:=d.at_ j (by rw[aB];omega);rw[dC e]at c1 c2 c3 c4;have b:P[j].1=B[j]:=by
  have:(P.map Prod.fst)[j]'(by rw[cJ];exact e)=B[j]:=by simp only[c]
  simpa using this
 rw[b]at c1 c2 c3;simp only[dh];refine⟨c1,c2,c3,_,c4,?_⟩;obtain⟨r,h,l⟩:=t P[j] (aJ _);rw[b]at h l;obtain⟨p1,p⟩:=o B[j] (aJ _);rw[VY]at l;exact⟨_,_,h,by omega,Em l p1,p⟩
def jau(n:Nat)(j:0<n)(p:n<=1000)(a:W):C' 235 #[.slice none 0 0,N n] a fun f d=>∃v,f=.returned v/\d.ownsRow a.heap.size 113 6 v 0 []/\Below a.heap.size a d:=by
 obtain⟨m,i,k,s,l⟩:=ks Tryz.a7;have q:¬((n:Int)<0):=by omega
 have r:(0:Int)<(n:Int):=by omega
 have e:=I (Lib.run_append_nil_zeros (P:=Tryz.prog) a 259 3 259 113 m _ .i64 .i64 Tryz.underlying259 Tryz.underlying3 i k n j (by omega) (by omega) (by rw[l];omega));have o:=grownCap_ge a n 0 113;have g:=grownCap_le_maxLen a n 0 113 (by unfold maxLen;omega);generalize h:grownCap a n 0 113=c at *;clear h;go_enter Tryz.func235,Tryz.ntmps235;go_wp2_with(at_builtin;refine Lib.wpList_append_run _ rfl _ _ _ _ rfl _ _ rfl rfl _ _ e.o ?_);go_ret;refine⟨_,rfl,kX (World.ownsRow_made a _ c (aA _) g ?_),?_⟩
 ·simp only[Array.size_append,size_zeroCells];have:(#[.string ⟨#[]⟩,N 0,N 0,N 0,.string ⟨#[]⟩,.string ⟨#[]⟩]:V').size=6:=rfl;rw[this];omega
 ·have b:=(k8 a.heap.size a).alloc (aA _) (.cells (Builtin.zeroCells #[.string ⟨#[]⟩,N 0,N 0,N 0,.string ⟨#[]⟩,.string ⟨#[]⟩] n++Builtin.zeroCells #[.string ⟨#[]⟩,N 0,N 0,N 0,.string ⟨#[]⟩,.string ⟨#[]⟩] (c-n)) 113);exact⟨b.os,b.tape,b.output,b.size,b.block⟩
def Lt(a:Nat):Nat->Nat
 | 0=>0
 | 1=>a
 | _=>a+1
def Sj(n g1 c c1 h:Nat)(g i:List Value)(a:W)(hn:0<c)(dl:c<=60)(M:n<a.heap.size)(P:a.cell? (A n 0)=some (R g1 c c1))(T:a.cell? (A n 1)=some (R h 1 1))
  (V:g.length=c*6)(X:i.length=6)(co:g1<a.heap.size)(cs:h<a.heap.size)(K:∀j d,g[j]?=some d->a.cell? (A g1 j)=some d)(L:∀j d,i[j]?=some d->a.cell? (A h j)=some d)(Z:∀d∈g,d.oneCell'=true)(ac:∀d∈i,d.oneCell'=true):C' 170 #[R n 2 2] a fun H f=>∃v,H=.returned v/\f.ownsRow a.heap.size 113 6 v (c+1) (g++i)/\Below a.heap.size a f:=by
 obtain⟨i0,U,am,ap,be⟩:=ks Tryz.a7;have b4:J (∀f,Below a.heap.size a f->∀j d,g[j]?=some d->f.cell? (((A g1 0):Addr).add j)=some d):=fun f z j d B=>by
  rw[show((A g1 0):Addr).add j=(A g1 j) by unfold Addr.add;split<;>simp_all];exact(z.cell (p:=A g1 j) co).trans (K j d B)
 have cd:J (∀f,Below a.heap.size a f->∀j d,i[j]?=some d->f.cell? (((A h 0):Addr).add j)=some d):=fun f z j d B=>by
  rw[show((A h 0):Addr).add j=(A h j) by unfold Addr.add;split<;>simp_all];exact(z.cell (p:=A h j) cs).trans (L j d B)
 have bv:=I V;have bX:J (i.length=1*6):=X;have ce:=I Z;have ci:=I ac;have D:=I P;have E:=I T;clear V X K L Z ac P T;go_enter Tryz.func170,Tryz.ntmps170;go_wp2;go_loopw [3,11] (fun C k wr=>∃b:Nat,b<=2/\k=N b/\C=N ((Lt c b:Nat):Int)/\a=wr) (fun _ k _=>2-(intOf k).toNat)
 case atStart=>exact⟨0,by omega,rfl,rfl,rfl⟩
 case round=>
  obtain⟨b,t,rfl,rfl,rfl⟩:=hrel;rcases(show b=0\/b=1\/b=2 by omega)with rfl|rfl|rfl
  ·have c0:=D.o;have o:((Lt c 0:Nat):Int)=0:=rfl;rw[o];go_wp2;go_roundw
   ·exact⟨1,by omega,by go_num,rfl,by simp⟩
   ·simp[intOf]
  ·have c0:=E.o;have o:((Lt c 1:Nat):Int)=(c:Int):=rfl;rw[o];have hw:IntKind.i64.wrap ((c:Int)+1)=(c:Int)+1:=(by rw[kE];omega);have dr:¬((c:Int)+1<0):=(by omega);go_wp2;go_roundw
   ·exact⟨2,by omega,by go_num,rfl,by simp⟩
   ·simp[intOf]
  ·have o:((Lt c 2:Nat):Int)=((c+1:Nat):Int):=rfl;rw[o];clear o;have F:=I (jau (c+1) (by omega) (by omega) a);generalize Y:c+1=da at *;have Hm:=I Y;have dd:da<=61:=(by omega);clear Y;go_wp2_with fail;refine F.o.mono ?_;clear F;rintro H w1 ⟨v,rfl,r,O⟩;obtain⟨va,vc,rfl⟩:=jt r;have G:=I r;have bi:=I O;clear r O;go_wp2;go_loopw [6,27] (fun C k wq=>∃b:Nat,b<=2/\k=N b/\wq.ownsRow a.heap.size 113 6 C (Lt c b) (if b=0 then[]else if b=1 then g else g++i)/\Below a.heap.size a wq) (fun _ k _=>2-(intOf k).toNat)
   case atStart=>exact⟨0,by omega,rfl,G.o,bi.o⟩
   case round=>
    obtain⟨b,t,rfl,r,q⟩:=hrel;have m:=I r;have l:=I q;clear r G;have w:=l.o.size;rcases(show b=0\/b=1\/b=2 by omega)with rfl|rfl|rfl
    ·have c0:=(q.cell (p:=A n 0) M).trans D.o;have e:=I m.o;clear q m;go_wp2_with(at_builtin;refine ko _ rfl (.tmp 31) (.tmp 32) 259 rfl a.heap.size 113 i0 _ 6 72 Tryz.underlying259 U am ap be rfl (by decide) _ 0 [] rfl e.o (A g1 0) c c1 g rfl bv.o (b4.o _ l.o) ce.o (by unfold maxLen;omega) (by omega) w ?_);intro v2 w5 u s _;have x:=I (l.o.grown s w (fun b t=>(e.o.lt b t).1));have y:=I u;clear u s e c0;go_wp2;go_roundw
     ·exact⟨1,by omega,by go_num,y.o,x.o⟩
     ·simp[intOf]
    ·have c0:=(q.cell (p:=A n 1) M).trans E.o;have e:=I m.o;clear q m;go_wp2_with(at_builtin;refine ko _ rfl (.tmp 31) (.tmp 32) 259 rfl a.heap.size 113 i0 _ 6 72 Tryz.underlying259 U am ap be rfl (by decide) _ c g rfl e.o (A h 0) 1 1 i rfl bX.o (cd.o _ l.o) ci.o (by unfold maxLen;omega) (by omega) w ?_);intro v2 w5 u s _;have x:=I (l.o.grown s w (fun b t=>(e.o.lt b t).1));have y:=I u;clear u s e c0;go_wp2;go_roundw
     ·exact⟨2,by omega,by go_num,y.o,x.o⟩
     ·simp[intOf]
    ·have e:=I m.o;clear q m;obtain⟨ua,uc,rfl⟩:=jt e.o;go_wp2;go_ret;exact⟨_,rfl,by rw[<-Hm.o];exact e.o,l.o⟩
def NG(f:w.ownsRow n k i x g C)(b:m<=n):w.ownsRow m k i x g C:=by
 obtain⟨l,a⟩:=f;refine⟨l,?_⟩;rcases a with a|⟨c,d,j,p,o,rest⟩
 ·exact .inl a
 ·exact .inr ⟨c,d,j,p,aI b o,rest⟩
def Gd(d:P3 w a B):∀c∈B,∀m∈c.cells,-9223372036854775808<=m.int/\m.int<=9223372036854775807:=by
 intro c g m k;obtain⟨l,i,rfl⟩:=cA.1 g;obtain⟨n,p,_,_,h⟩:=d.at_ (aE (by omega));obtain⟨_,_,_,v,_,ca,o,_,_,j,_⟩:=h l i;obtain⟨e,f,_⟩:=j.ok m k;exact⟨e,f⟩
def Uh{j:V6}{r:List W9}(a:xp j r=0)(h:∀c∈j.table,∀g∈c.cells,-9223372036854775808<=g.int/\g.int<=9223372036854775807):P6 j r:=by
 unfold xp at a;split at a
 ·omega
 ·rename_i d;split at a
  ·omega
  ·rename_i b;split at a
   ·omega
   ·rename_i e;split at a
    ·omega
    ·rename_i f;simp only[Bool.not_eq_false,aK,aN]at d b e f;exact⟨⟨d,h⟩,b.1,b.2.1,b.2.2,e,by simpa using f⟩
variable{X:V6}
def UW(c:w.heap[n]?=some (.cells #[x,N X.J.group,N X.J.aa,N X.J.R,.bool X.J.told,S X.pre,N X.draw] 26 (0,0))):w.cell? (A n 0)=some x/\w.cell? (A n 1)=some (N X.J.group)/\w.cell? (A n 2)=some (N X.J.aa)/\w.cell? (A n 3)=some (N X.J.R)/\w.cell? (A n 4)=some (.bool X.J.told):=⟨by rw[jb c];rfl,by rw[jb c];rfl,by rw[jb c];rfl,by rw[jb c];rfl,by rw[jb c];rfl⟩
def Sz(b:O')(c:Nat)(g:O')(h:Nat)(a:List W9)(j:V6)(e:W)(l:Laid e b c g h j a):C' 76 #[D0 (.slice b j.table.length c) j,.slice g a.length h] e
   fun k d=>∃T,k=.returned (.tuple #[S (Ga j a),T])/\d.ownsRow e.heap.size 40 4 T (Xu j a).length (qg (Xu j a))/\Below e.heap.size e d:=by
 have p:=I l;obtain⟨es,dT,eg⟩:=l.af.R;have ea:=I dT;obtain⟨F,E⟩:=l.af.body (xF j).length;rw[aS]at F E;have ce:=l.af.a3.2.2;have h1:=l.af.table.ao.1;have d2:J (Ga j a=(Jr j a (Xy j a) (zY j a)).o++(qh (((Jr j a (Xy j a) (zY j a)).o.length-(zY j a).o.length:Nat):Int)++[67,70])):=rfl;have d6:J (Xu j a=(Jr j a (Xy j a) (zY j a)).log):=rfl;clear l dT;go_enter Tryz.func76,Tryz.ntmps76;go_wp2_with fail;obtain⟨u,_,_,co⟩:=jJ e #[.slice b j.table.length c,N j.J.group,N j.J.aa,N j.J.R,.bool j.J.told,S j.pre,N j.draw] 26;have dW:(e.alloc (.cells #[.slice b j.table.length c,N j.J.group,N j.J.aa,N j.J.R,.bool j.J.told,S j.pre,N j.draw] 26)).heap.size=e.heap.size+1:=by simp
 generalize e.alloc (.cells #[.slice b j.table.length c,N j.J.group,N j.J.aa,N j.J.R,.bool j.J.told,S j.pre,N j.draw] 26)=f at *;obtain⟨D,_,_,cs⟩:=jJ f (F4 (.slice b j.table.length c) (.slice g a.length h) (.slice none 0 0) (.slice none 0 0) j) 231;have y:J (Laid f b c g h j a):=⟨p.o.table.j u,p.o.ring.j u,p.o.len,p.o.af,p.o.c5⟩;have Z:J (U3 (f.alloc (.cells (F4 (.slice b j.table.length c) (.slice g a.length h) (.slice none 0 0) (.slice none 0 0) j) 231)) f.heap.size f.heap.size (.slice b j.table.length c) (.slice g a.length h) j ⟨[],[]⟩):=⟨_,_,cs,aA _,kg _ _ _ _,kg _ _ _ _⟩
 have da:=jd D co;rw[<-dW];clear cs dW;generalize f.alloc _=wb at *;have z:=I u;have ac:=I D;have am:=I da;clear u D da co;generalize O:f.heap.size=q at *;have i:=I O;have M:q<=wb.heap.size:=by have:=ac.o.size;rw[O]at this;exact this
 clear O;refine(FX j.J wb ce.1 ce.2).mono ?_;rintro k x ⟨rfl,m⟩;have bv:Below q f x:=ac.o.trans (m.mono M);go_wp2_with fail;obtain⟨r,_,_,ci⟩:=jJ x #[S (Jy j.J)] 9;have bX:Below q f (x.alloc (.cells #[S (Jy j.J)] 9)):=bv.trans (r.mono (aI M m.size));refine(KV q q x.heap.size 1 (.slice b j.table.length c) (.slice g a.length h) j ⟨[],[]⟩ [Jy j.J] _ rfl (by decide) (by simp[Jy]) ?_ ((Z.o.j m).j r) ci).mono ?_
 ·exact aI M (aI m.size r.size)
 rintro k o ⟨rfl,dr,H⟩;have ds:U3 o q q (.slice b j.table.length c) (.slice g a.length h) j ⟨Jy j.J,[]⟩:=by simpa using dr
 have be:=I ds;have C:Below q f o:=bX.trans H.below;have Y:=I (H.row (jd r (jd m am.o)) (by decide));clear dr ds H ci r m bv bX am Z;go_wp2_with fail;have B:=MG q b c g h a j ⟨Jy j.J,[]⟩ f o y.o (by rw[i.o];exact C) (by simp[Jy]) rfl (by rw[i.o];exact be.o);rw[i.o]at B;refine B.mono ?_;clear B;rintro k X ⟨pv,rfl,dl,dv,K⟩;have ap:J (X.ownsRow o.heap.size 3 1 pv (zQ j a).length (xA (zQ j a))):=dl;have bi:J (U3 X q q (.slice b j.table.length c) (.slice g a.length h) j (zY j a)):=dv;have t:Below q f X:=C.trans K.below;have d4:=I (K.row Y.o (by decide));clear dl dv K Y C be;obtain⟨U,V,rfl,_⟩:=UB ap.o;go_wp2_with fail;have G:=d4.o;have d8:=I (fun d=>AT q b c (.slice g a.length h) j (zY j a) q d (by omega));have d1:J (∀d,Below q f d->d.ownsRow o.heap.size 3 1 (.slice U (zQ j a).length V) (zQ j a).length (xA (zQ j a))->U3 d q q (.slice b j.table.length c) (.slice g a.length h) j (zY j a) ->
   C' 141 #[(Q q 0),.agg #[N (qv j.table:Int),N j.J.group,N j.J.aa,N j.J.R,.bool j.J.told,.slice b j.table.length c,.slice U (zQ j a).length V]] d
    fun k w2=>k=.returned (.tuple #[])/\U3 w2 q q (.slice b j.table.length c) (.slice g a.length h) j ⟨Ga j a,Xu j a⟩/\V8 U6 q d w2):=by
  intro d ev em eq;have:=jav q b c g h a j (zY j a) (.slice U (zQ j a).length V) (zQ j a) o.heap.size f d y.o (by rw[i.o];exact ev) F (aI E (by decide)) es ea.o eg em (by rw[i.o];exact eq);rw[i.o]at this;exact this
 clear F E;generalize zY j a=eC at *;generalize zQ j a=eP at *;go_region_held3 (fun d=>d.cell? (A e.heap.size 0)=some (.slice b j.table.length c)/\d.cell? (A e.heap.size 1)=some (N j.J.group)/\d.cell? (A e.heap.size 2)=some (N j.J.aa)/\d.cell? (A e.heap.size 3)=some (N j.J.R)/\d.cell? (A e.heap.size 4)=some (.bool j.J.told))
  (first|exact UW Y6|exact UW G)
  (first
   | (go_at_call 142;refine(d8.o _ (y.o.table.j (by rw[i.o];exact t.drew)) (bi.o.j (Qj _))).mono ?_;rintro k w5 ⟨rfl,rfl⟩)
   | (go_at_call 141;refine(d1.o _ t.drew (ju ap.o (Qj _)) (bi.o.j (Qj _))).mono ?_;rintro k s ⟨rfl,er,L⟩;have Y6:=(V8.b3 L).row G (by decide)))
 have dd:=V8.b3 L;have d0:J (Below e.heap.size e s):=by
  have h6:Below q f s:=t.trans dd.below;exact z.o.trans (h6.mono (by rw[<-i.o];exact z.o.size))
 have ec:e.heap.size<=q:=by rw[<-i.o];exact z.o.size
 obtain⟨ov,T,P,_,w,v⟩:=er;simp only at w v;obtain⟨oa,oc,rfl⟩:=jt w;obtain⟨la,lc,rfl⟩:=jt v;have d5:=I (NG v ec);have c8:=(xg P).1.2.2.2.2.2.2.1;have c9:=(xg P).1.2.2.2.2.2.2.2;have eM:∀n,Sem.run Tryz.prog (convert 149 9 (.slice oa (Ga j a).length oc)) (s.drewN n)=.ok (S (Ga j a)) (s.drewN n):=fun n=>VO (K0:=s.drewN n) (base:=q) (n:=(Ga j a).length) w;clear Y6 G P w v L dd t d2 d6;generalize b4:Ga j a=FF at *;have d3:=I b4;generalize cd:Xu j a=LG at *;have d7:=I cd;clear b4 cd;go_wp2_with fail;go_quiet(fail);go_wp2;go_ret2;rw[d3.o,d7.o];exact⟨_,rfl,d5.o,below_drewN d0.o nq⟩
def Sk(d:O')(e:Nat)(l:O')(p:Nat)(a:List W9)(j:V6)(b:W)(o:F6 b d e j)(y:U2 b l a)(z:a.length<=maxLen):C' 33 #[D0 (.slice d j.table.length e) j,.slice l a.length p] b
   fun i B=>Below b.heap.size b B/\((xp j a≠0/\i=.returned (.tuple #[S [],.slice none 0 0,N (xp j a)])) \/
    (xp j a=0/\∃h,i=.returned (.tuple #[S (Ga j a),h,N 0])/\B.ownsRow b.heap.size 40 4 h (Xu j a).length (qg (Xu j a)))):=by
 have M:=I o;have O:=I y;have H:=I (fun U=>Uh (j:=j) (r:=a) U (Gd o.table));clear o y;go_enter Tryz.func33,Tryz.ntmps33;go_wp2_with fail;obtain⟨k,V,_,_⟩:=jJ b #[.slice d j.table.length e,N j.J.group,N j.J.aa,N j.J.R,.bool j.J.told,S j.pre,N j.draw] 26;have P:=I (UC b (.slice d j.table.length e) j 26);have m:=I (M.o.j k);have r:=I (O.o.j k);have q:=I k;clear k;generalize b.alloc _=X at *;refine(Mb d e j l p a X m.o r.o z).mono ?_;rintro i Y ⟨rfl,g⟩;have f:=q.o.trans (g.mono q.o.size);by_cases c:xp j a=0
 ·have G:=I (H.o c);have n:=I c;rw[c];clear c;obtain⟨Z,x1,x2,x3,x4,x5,x6⟩:=P.o.j V g;go_wp2_with fail;refine(Sz d e l p a j Y ⟨m.o.table.j g,r.o.j g,z,G.o,m.o.cap_⟩).mono ?_;rintro i w2 ⟨h,rfl,x,w⟩;have D:=I (f.trans (w.mono f.size));have L:=I (NG x f.size);clear Z x1 x2 x3 x4 x5 x6 x w g f;generalize t:Ga j a=C at *;have F:=I t;generalize u:Xu j a=LG at *;have K:=I u;clear t u;go_wp2;refine kk (v:=.tuple #[S C,h,N 0]) (by simp[results,Tryz.results33,go_sem]) rfl ?_;rw[F.o,K.o];exact⟨D.o,.inr ⟨n.o,h,rfl,L.o⟩⟩
 ·have ac:(xp j a !=0)=true:=by simpa using c
  have n:=I c;clear c;generalize s:xp j a=T at *;have E:=I s;clear s;go_wp2;refine kk (v:=.tuple #[S [],.slice none 0 0,N T]) (by simp[results,Tryz.results33,go_sem]) rfl ?_;rw[E.o];exact⟨f,.inl ⟨n.o,rfl⟩⟩
end Go.Proofs.YthhpbhpfagoapaaGreat
