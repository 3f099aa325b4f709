import Derived.Test.YthhpbhpfagoapaaGreatGAE
import Derived.Deep.DeepCutAuto
import Derived.Test.YthhpbhpfagoapaaGreatGAC
import Derived.BigQuiet
namespace Go.Proofs.YthhpbhpfagoapaaGreat
set_option linter.all false
set_option maxRecDepth 100000
set_option maxHeartbeats 16000000
open Go.RowKit
structure F2 (w:W) (a:O') (l:List Z9):Prop where
 av:T3 w a l
 small:∀c∈l,qI c
 ao:l.length<=60
theorem F2.j{b d:W}{c:O'}{l:List Z9}(a:F2 b c l)(e:Below b.heap.size b d):F2 d c l:=⟨a.av.j e,a.small,a.ao⟩
variable{f:Z9}
theorem ON(a:qI f):D9 f:=⟨a.1,a.2.1,by have:=a.2.2;unfold maxLen;omega⟩
def M7(a:W)(g:Nat)(c:Z9):Prop :=
 a.cell? (A g 0)=some (.bool c.null)/\a.cell? (A g 1)=some (N c.int)/\a.cell? (A g 2)=some (S c.text)
variable{v w:W}
theorem M7.j{g:Nat}{c:Z9}(b:M7 w g c)(e:g<w.heap.size)(d:Below w.heap.size w v):M7 v g c :=
 ⟨(d.cell (p:=A g _) e).trans b.1,(d.cell (p:=A g _) e).trans b.2.1,(d.cell (p:=A g _) e).trans b.2.2⟩
theorem Jf(wr:W)(c a:Z9) :
  M7 ((wr.alloc (.cells #[.bool c.null,N c.int,S c.text] 58)).alloc (.cells #[.bool a.null,N a.int,S a.text] 58)) wr.heap.size c /\
  M7 ((wr.alloc (.cells #[.bool c.null,N c.int,S c.text] 58)).alloc (.cells #[.bool a.null,N a.int,S a.text] 58)) (wr.heap.size+1) a /\
  Below wr.heap.size wr ((wr.alloc (.cells #[.bool c.null,N c.int,S c.text] 58)).alloc (.cells #[.bool a.null,N a.int,S a.text] 58)) /\
  ((wr.alloc (.cells #[.bool c.null,N c.int,S c.text] 58)).alloc (.cells #[.bool a.null,N a.int,S a.text] 58)).heap.size=wr.heap.size+2:=by
 refine⟨⟨?_,?_,?_⟩,⟨?_,?_,?_⟩,((k8 _ _).alloc (aA _) _).alloc (by simp) _,by simp⟩
 all_goals simp[go_sem]
theorem jgg(g:O')(n:Nat)(a:List Z9)(e:W)(l:F2 e g a) :
  C' 117 #[N 0,.slice g a.length n] e fun h X=>h=.returned (S (qT 0 a))/\Below e.heap.size e X:=by
 have d:=I l;have s:=l.ao;clear l;go_enter Tryz.func117,Tryz.ntmps117;go_wp2_with fail;refine(QM g n a _ (by omega) d.o.av).mono ?_;rintro h w1 ⟨dv,rfl,E,q⟩;clear E;go_wp2_with fail;go_loopw [5,8] (fun T m wr=>∃b:Nat,b<=a.length/\m=N b/\T=S (jN 0 a b)/\Below e.heap.size e wr) (fun _ m _=>a.length-(intOf m).toNat)
 case atStart=>exact⟨0,aG _,rfl,rfl,q⟩
 case round =>
  clear q;obtain⟨b,be,rfl,rfl,f⟩:=hrel;by_cases k:b<a.length
  ·have r:=(d.o.j f).av;have bi:=xS 0 a d.o.small s b;have bv:=ZD 0 a d.o.small s b;have u:J (jN 0 a (b+1)=jN 0 a b++xi 0 a b):=rfl;have M:=d.o.small a[b] (aJ k);have L:=QF a d.o.small b;have v:J (xi 0 a b=bB (a[b]).int):=by show bB (zP a b).int=_;rw[qy a b k]
   obtain⟨ac,b4,B,ap,j⟩:=r.at_ (aE (by omega));subst B;have w:=I j;clear r;obtain⟨g1,y,z⟩:=j b k;clear j;generalize jN 0 a b=Z at *;have O:=f.size;go_upto_if 47 with fail;go_cut [10] (fun p wc=>p=(Q (wr.heap.size+1) 0)/\M7 wc wr.heap.size a[b]/\M7 wc (wr.heap.size+1) (qm a b)/\Below wr.heap.size wr wc/\wc.heap.size=wr.heap.size+2)
   case first =>
    by_cases H:b=0
    ·subst H;go_wp2;go_meet
     ·exact⟨rfl,Jf wr a[0] qY⟩
    ·obtain⟨c,rfl⟩:∃c,b=c+1:=⟨b-1,by omega⟩;obtain⟨f1,f2,f3⟩:=w.o c (by omega);have t:qm a (c+1)=a[c]:=(by unfold qm;rw[aL (by omega)];exact qy a c (by omega));have x:=I t;clear t;go_wp2;go_meet
     ·exact⟨rfl,by rw[x.o];exact Jf wr a[c+1] a[c]⟩
   case rest =>
    obtain⟨rfl,F,G,i,bX⟩:=hcut;obtain⟨v1,v2,v3⟩:=F;obtain⟨q1,q2,q3⟩:=G;have o:=f.trans (i.mono O);have P:=o.size;obtain⟨U,V,s3⟩:=M;obtain⟨r1,r2,r3⟩:=L;have Y:=I i;clear g1 y z i f;go_wp2_with fail;refine(jfj _ _ U V).mono ?_;rintro h w4 ⟨rfl,C⟩;have D:=Ks a[b].int;have am:(bB a[b].int).length<=8:=(by omega);clear D;go_wp2;go_roundw
    ·exact⟨b+1,by omega,by go_num,by rw[u.o,v.o];rw[xh],o.trans (C.mono P)⟩
    ·simp[intOf];omega
  ·have K:b=a.length:=(by omega);subst K;go_wp2;go_ret;exact⟨qH (by simp[qT]),f⟩
theorem jgf(g:O')(n:Nat)(a:List Z9)(e:W)(l:F2 e g a) :
  C' 117 #[N 1,.slice g a.length n] e fun h V=>h=.returned (S (qT 1 a))/\Below e.heap.size e V:=by
 have d:=I l;have u:=l.ao;clear l;go_enter Tryz.func117,Tryz.ntmps117;go_wp2_with fail;refine(QM g n a _ (by omega) d.o.av).mono ?_;rintro h w1 ⟨dv,rfl,F,s⟩;clear F;go_wp2_with fail;go_loopw [5,8] (fun U m wr=>∃b:Nat,b<=a.length/\m=N b/\U=S (jN 1 a b)/\Below e.heap.size e wr) (fun _ m _=>a.length-(intOf m).toNat)
 case atStart=>exact⟨0,aG _,rfl,rfl,s⟩
 case round =>
  clear s;obtain⟨b,ap,rfl,rfl,f⟩:=hrel;by_cases k:b<a.length
  ·have t:=(d.o.j f).av;have be:=xS 1 a d.o.small u b;have bi:=ZD 1 a d.o.small u b;have w:J (jN 1 a (b+1)=jN 1 a b++xi 1 a b):=rfl;have O:=d.o.small a[b] (aJ k);have M:=QF a d.o.small b;have x:J (xi 1 a b=zB (wrap64 ((a[b]).int-(qm a b).int))):=by show zB (wrap64 ((zP a b).int-(qm a b).int))=_;rw[qy a b k]
   obtain⟨Z,bX,D,am,j⟩:=t.at_ (aE (by omega));subst D;have y:=I j;clear t;obtain⟨g1,B,C⟩:=j b k;clear j;generalize jN 1 a b=Y at *;have P:=f.size;go_upto_if 47 with fail;go_cut [10] (fun p wc=>p=(Q (wr.heap.size+1) 0)/\M7 wc wr.heap.size a[b]/\M7 wc (wr.heap.size+1) (qm a b)/\Below wr.heap.size wr wc/\wc.heap.size=wr.heap.size+2)
   case first =>
    by_cases K:b=0
    ·subst K;go_wp2;go_meet
     ·exact⟨rfl,Jf wr a[0] qY⟩
    ·obtain⟨c,rfl⟩:∃c,b=c+1:=⟨b-1,by omega⟩;obtain⟨f1,f2,f3⟩:=y.o c (by omega);have v:qm a (c+1)=a[c]:=(by unfold qm;rw[aL (by omega)];exact qy a c (by omega));have z:=I v;clear v;go_wp2;go_meet
     ·exact⟨rfl,by rw[z.o];exact Jf wr a[c+1] a[c]⟩
   case rest =>
    obtain⟨rfl,G,H,i,bv⟩:=hcut;obtain⟨v1,v2,v3⟩:=G;obtain⟨q1,q2,q3⟩:=H;have r:=f.trans (i.mono P);have T:=r.size;obtain⟨s1,s2,s3⟩:=O;obtain⟨r1,r2,r3⟩:=M;have X:=I i;clear g1 B C i f;obtain⟨o,q⟩:=Jn ((a[b]).int-(qm a b).int);go_wp2_with fail;refine(LH _ _ o q).mono ?_;rintro h w4 ⟨rfl,E⟩;have ac:=Uu _ o q;go_wp2;go_roundw
    ·exact⟨b+1,by omega,by go_num,by rw[w.o,x.o];rw[xh],r.trans (E.mono T)⟩
    ·simp[intOf];omega
  ·have L:b=a.length:=(by omega);subst L;go_wp2;go_ret;exact⟨qH (by simp[qT]),f⟩
theorem jgh(g:O')(n:Nat)(a:List Z9)(e:W)(l:F2 e g a) :
  C' 117 #[N 5,.slice g a.length n] e fun h U=>h=.returned (S (qT 5 a))/\Below e.heap.size e U:=by
 have d:=I l;have s:=l.ao;clear l;go_enter Tryz.func117,Tryz.ntmps117;go_wp2_with fail;refine(QM g n a _ (by omega) d.o.av).mono ?_;rintro h w1 ⟨Z,rfl,D,q⟩;clear D;go_wp2_with fail;go_loopw [5,8] (fun P m wr=>∃b:Nat,b<=a.length/\m=N b/\P=S (jN 5 a b)/\Below e.heap.size e wr) (fun _ m _=>a.length-(intOf m).toNat)
 case atStart=>exact⟨0,aG _,rfl,rfl,q⟩
 case round =>
  clear q;obtain⟨b,ap,rfl,rfl,f⟩:=hrel;by_cases k:b<a.length
  ·have r:=(d.o.j f).av;have be:=xS 5 a d.o.small s b;have bi:=ZD 5 a d.o.small s b;have u:J (jN 5 a (b+1)=jN 5 a b++xi 5 a b):=rfl;have L:=d.o.small a[b] (aJ k);have K:=QF a d.o.small b;have v:J (xi 5 a b=xB (a[b]).text):=by show xB (zP a b).text=_;rw[qy a b k]
   obtain⟨Y,bX,B,am,j⟩:=r.at_ (aE (by omega));subst B;have w:=I j;clear r;obtain⟨g1,y,z⟩:=j b k;clear j;generalize jN 5 a b=X at *;have M:=f.size;go_upto_if 47 with fail;go_cut [10] (fun p wc=>p=(Q (wr.heap.size+1) 0)/\M7 wc wr.heap.size a[b]/\M7 wc (wr.heap.size+1) (qm a b)/\Below wr.heap.size wr wc/\wc.heap.size=wr.heap.size+2)
   case first =>
    by_cases G:b=0
    ·subst G;go_wp2;go_meet
     ·exact⟨rfl,Jf wr a[0] qY⟩
    ·obtain⟨c,rfl⟩:∃c,b=c+1:=⟨b-1,by omega⟩;obtain⟨f1,f2,f3⟩:=w.o c (by omega);have t:qm a (c+1)=a[c]:=(by unfold qm;rw[aL (by omega)];exact qy a c (by omega));have x:=I t;clear t;go_wp2;go_meet
     ·exact⟨rfl,by rw[x.o];exact Jf wr a[c+1] a[c]⟩
   case rest =>
    obtain⟨rfl,E,F,i,bv⟩:=hcut;obtain⟨v1,v2,v3⟩:=E;obtain⟨q1,q2,q3⟩:=F;have o:=f.trans (i.mono M);have O:=o.size;obtain⟨s1,s2,T⟩:=L;obtain⟨r1,r2,r3⟩:=K;have V:=I i;clear g1 y z i f;go_wp2_with fail;refine(LY _ _ (by rw[jT];omega)).mono ?_;rintro h w4 ⟨rfl,C⟩;rw[Nf];have ac:=GK _ T;go_wp2;go_roundw
    ·exact⟨b+1,by omega,by go_num,by rw[u.o,v.o];rw[xh],o.trans (C.mono O)⟩
    ·simp[intOf];omega
  ·have H:b=a.length:=(by omega);subst H;go_wp2;go_ret;exact⟨qH (by simp[qT]),f⟩
theorem OU(n:Int)(a:W)(b:0<=n)(d:n<=9223372036854775807) :
  C' 147 #[.int .u64 (IntKind.u64.wrap n)] a fun c e=>c=.returned (S (uB n.toNat))/\Below a.heap.size a e:=by
 rw[Qw b d];exact ED n a b (by omega)
theorem jgd(w:O')(V:Nat)(b:List Z9)(e:W)(G:F2 e w b) :
  C' 117 #[N 2,.slice w b.length V] e fun i K=>i=.returned (S (qT 2 b))/\Below e.heap.size e K:=by
 have g:=I G;have hn:=G.ao;clear G;go_enter Tryz.func117,Tryz.ntmps117;go_wp2_with fail;refine(QM w V b _ (by omega) g.o.av).mono ?_;rintro i w1 ⟨dv,rfl,da,m⟩;clear da;go_wp2_with fail;go_loopw [5,8] (fun s H wr=>∃a:Nat,a<=b.length/\H=N a/\s=S (jN 2 b a)/\Below e.heap.size e wr) (fun _ H _=>b.length-(intOf H).toNat)
 case atStart=>exact⟨0,aG _,rfl,rfl,m⟩
 case round =>
  clear m;obtain⟨a,eg,rfl,rfl,l⟩:=hrel;by_cases F:a<b.length
  ·have be:=(g.o.j l).av;have em:=xS 2 b g.o.small hn a;have eq:=ZD 2 b g.o.small hn a;have T:J (jN 2 b (a+1)=jN 2 b a++xi 2 b a):=rfl;have d4:=g.o.small b[a] (aJ F);have d0:=QF b g.o.small a;have q:J (xi 2 b a=if a=0\/(b[a]).int≠(qm b a).int then uB (QC (b[a]).int (b.drop (a+1))+1)++zB (b[a]).int else[]):=by
    show xi 2 b a=_;simp only[xi,qy b a F]
   obtain⟨h,r,ha,ac,C⟩:=be.at_ (aE (by omega));subst ha;have v:=I C;clear be;obtain⟨g1,g2,g3⟩:=C a F;clear C;generalize jN 2 b a=U at *;have d5:=l.size;go_upto_if 47 with fail;go_cut [10] (fun p wc=>p=(Q (wr.heap.size+1) 0)/\M7 wc wr.heap.size b[a]/\M7 wc (wr.heap.size+1) (qm b a)/\Below wr.heap.size wr wc/\wc.heap.size=wr.heap.size+2)
   case first =>
    by_cases E:a=0
    ·subst E;go_wp2;go_meet
     ·exact⟨rfl,Jf wr b[0] qY⟩
    ·obtain⟨c,rfl⟩:∃c,a=c+1:=⟨a-1,by omega⟩;obtain⟨f1,f2,f3⟩:=v.o c (by omega);have bi:qm b (c+1)=b[c]:=(by unfold qm;rw[aL (by omega)];exact qy b c (by omega));have ci:=I bi;clear bi;go_wp2;go_meet
     ·exact⟨rfl,by rw[ci.o];exact Jf wr b[c+1] b[c]⟩
   case rest =>
    obtain⟨rfl,dd,dl,z,er⟩:=hcut;obtain⟨v1,j,v3⟩:=dd;obtain⟨q1,q2,q3⟩:=dl;have x:=l.trans (z.mono d5);have d6:=x.size;obtain⟨s1,s2,s3⟩:=d4;obtain⟨r1,r2,r3⟩:=d0;have P:=I z;clear g1 g2 g3 z l;have cs:(a=0\/a≠0/\(b[a]).int≠(qm b a).int)\/(a≠0/\(b[a]).int=(qm b a).int):=(by omega);rcases cs with bv|⟨E,am⟩
    ·have u:J (xi 2 b a=uB (QC (b[a]).int (b.drop (a+1))+1)++zB (b[a]).int):=by
      have:=q.o;rw[aQ (by omega)]at this;exact this
     clear q;have d3:=NF (b[a]).int (b.drop (a+1));rw[aP]at d3;have ce:=I (YW (b[a]).int (b.drop (a+1)));have cd:=I (Nc (b[a]).int (b.drop (a+1)));generalize QC (b[a]).int (b.drop (a+1))=s at *;have hb:(((a:Int)==0)=true)\/(((a:Int)==0)=false)/\(((b[a]).int != (qm b a).int)=true):=by
      rcases bv with X|⟨X,dW⟩
      ·left;simp[X]
      ·right;exact⟨by simp;omega,by rw[eI];exact dW⟩
     clear bv;generalize Z:wr.heap.size=d at *;have d7:=I Z;clear Z;have d8:=jO (s+1) (by omega);have ea:=Uu _ s1 s2;go_upto_region 23 with fail;go_cut [86] (fun t L=>t=.bool true/\wc=L)
     case first =>
      rcases hb with m|⟨m,co⟩
      all_goals
       go_wp2;go_meet
       ·exact⟨rfl,rfl⟩
     case rest =>
      obtain⟨rfl,rfl⟩:=hcut;clear hb q1 q2 q3 v1 v3 r1 r2 r3 s3;go_wp2_with fail;go_loopw [11] (fun t wi=>∃c:Nat,c<=s/\t=N ((c:Int)+1)/\Below wc.heap.size wc wi) (fun t _=>100-(intOf t).toNat)
      case atStart=>exact⟨0,aG _,rfl,k8 _ _⟩
      case round =>
       obtain⟨c,hm,rfl,f⟩:=hrel;have x2:=(f.cell (p:=A d 1) (by show d<wc.heap.size;omega)).trans j;by_cases dT:c<s
       ·obtain⟨o,M⟩:=ce.o c dT;rw[bZ]at M;have D:a+(c+1)<b.length:=(by omega);obtain⟨_,k,_⟩:=v.o (a+(c+1)) D;have O:(b[a+(c+1)]).int=(b[a]).int:=(by rw[<-M];congr 2;omega);rw[O]at k;have x3:=(f.cell (p:=(A h (r+(a+(c+1))*3+1))) (by show h<wc.heap.size;omega)).trans ((P.o.cell (p:=(A h (r+(a+(c+1))*3+1))) ac).trans k);have ap:(a:Int)+((c:Int)+1)<(b.length:Int):=(by omega);clear o M O k j;go_wp2_with fail;go_quiet(fail);go_wp2;go_roundw
        ·exact⟨c+1,by omega,by go_num,below_drewN f nq⟩
        ·simp[intOf];omega
       ·have ds:c=s:=(by omega);subst ds;go_upto_region 25 with fail;go_cut [104] (fun t L=>t=.bool false/\Below wc.heap.size wc L)
        case first =>
         by_cases D:a+(c+1)<b.length
         ·have o:=cd.o (by rw[aP];omega);rw[bZ]at o;obtain⟨_,k,_⟩:=v.o (a+(c+1)) D;have O:(((b[a+(c+1)]).int==(b[a]).int))=false:=by
           have i:b[a+(c+1)]=b[a+1+c]:=(by congr 1;omega);rw[i];simpa using o
          have x3:=(f.cell (p:=(A h (r+(a+(c+1))*3+1))) (by show h<wc.heap.size;omega)).trans ((P.o.cell (p:=(A h (r+(a+(c+1))*3+1))) ac).trans k);have ap:(a:Int)+((c:Int)+1)<(b.length:Int):=(by omega);clear o k j;go_quiet(fail);go_wp2_with fail;go_meet
          ·exact⟨rfl,below_drewN f nq⟩
         ·have ap:(b.length:Int)<=(a:Int)+((c:Int)+1):=(by omega);have ec:decide ((a:Int)+((c:Int)+1)<(b.length:Int))=false:=(by simp;omega);clear j;go_quiet(fail);go_wp2_with fail;go_meet
          ·exact⟨rfl,below_drewN f nq⟩
        case rest =>
         obtain⟨rfl,y⟩:=hcut;have x4:=(y.cell (p:=A d 1) (by show d<_;omega)).trans j;have bX:=y.size;clear x2 j f;have d1:¬(9223372036854775807<U.length+(uB (c+1)).length):=(by omega);have d2:¬(9223372036854775807<U.length+(uB (c+1)).length+(zB (b[a]).int).length):=(by omega);go_wp2_with fail;go_region_held3 (fun K=>K.cell? (A d 1)=some (N (b[a]).int)) (first|assumption|simp[*])
          (first
           | (go_at_call 147;refine(OU ((c:Int)+1) _ ?_ ?_).mono ?_;omega;omega;rintro i w5 ⟨rfl,n⟩;rw[show((c:Int)+1).toNat=c+1 from by omega];have x5:=(n.cell (p:=A d 1) (show d<wc.heap.size by omega)).trans x4)
           | (go_at_call 177;refine(LH _ _ s1 s2).mono ?_;rintro i w6 ⟨rfl,B⟩;have x6:=(B.cell (p:=A d 1) (aC (show d<wc.heap.size by omega) n.size)).trans x5))
         have Y:Below e.heap.size e w6:=x.trans ((y.trans ((jg n).mono bX)).trans (B.mono (aI bX n.size)) |>.mono d6);have b4:=I Y;clear Y x4 x5 x6 n B d1 d2;go_wp2;go_roundw
         ·exact⟨a+1,by omega,by go_num,by rw[T.o,u.o,<-aD,xh,xh],b4.o⟩
         ·simp[intOf];omega
    ·have u:J (xi 2 b a=[]):=by
      have:=q.o;rw[aL (by omega)]at this;exact this
     clear q;have m:((a:Int)==0)=false:=(by simp;omega);have co:((b[a]).int != (qm b a).int)=false:=(by simp[am]);clear am E;go_wp2;go_roundw
     ·exact⟨a+1,by omega,by go_num,by rw[T.o,u.o,aT],x⟩
     ·simp[intOf];omega
  ·have dr:a=b.length:=(by omega);subst dr;go_wp2;go_ret;exact⟨qH (by simp[qT]),l⟩
end Go.Proofs.YthhpbhpfagoapaaGreat
