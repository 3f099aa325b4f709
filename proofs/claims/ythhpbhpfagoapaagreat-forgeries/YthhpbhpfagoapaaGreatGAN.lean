import Derived.Test.YthhpbhpfagoapaaGreatGAG
namespace Go.Proofs.YthhpbhpfagoapaaGreat
set_option linter.all false
set_option maxRecDepth 100000
set_option maxHeartbeats 16000000
open Go.RowKit
def QS(a:UInt8):Bool:=decide (97<=a.toNat)&&decide (a.toNat<=122)
theorem Rv(a:B8):zA a=(a.all QS&&(decide (1<=a.length)&&decide (a.length<=8))):=rfl
theorem Sl(a:ByteArray)(m:W)(t:a.size<=maxLen) :
  C' 221 #[.string a] m fun p u=>p=.returned (.bool (zA a.data.toList))/\u=m:=by
 unfold maxLen at t;go_enter Tryz.func221,Tryz.ntmps221;go_wp2;go_loop [3] (fun f=>∃b:Nat,b<=a.size/\f=N b/\(a.data.toList.take b).all QS=true) (fun f=>a.size-(intOf f).toNat)
 case atStart=>exact⟨0,aG _,rfl,rfl⟩
 case round =>
  obtain⟨b,x,rfl,k⟩:=hrel;have i:=I k;clear k;by_cases e:b<a.size
  ·have w:=(a[b]'e).toNat_lt;have o:J (QS a[b]=true->(a.data.toList.take (b+1)).all QS=true):=by
    intro q;rw[Gh a b e,ek,i.o];simp[q]
   have g:J (QS a[b]=false->zA a.data.toList=false):=by
    intro s;rw[Rv];have:a.data.toList.all QS=false:=by
     rw[el];exact⟨a[b],by have:=aJ (l:=a.data.toList) (n:=b) (by simpa using e);exact this,by simp[s]⟩
    rw[this];rfl
   have c:J (QS a[b]=(decide (97<=(a[b]).toNat)&&decide ((a[b]).toNat<=122))):=rfl;by_cases j:(a[b]).toNat<97
   ·have d:((a[b]).toNat:Int)<97:=(by omega);go_wp2;go_ret;exact⟨jI (g.o (by rw[c.o];simp;omega)).symm,rfl⟩
   ·have d:¬((a[b]).toNat:Int)<97:=(by omega);by_cases v:122<(a[b]).toNat
    ·have r:(122:Int)<((a[b]).toNat:Int):=(by omega);go_wp2;go_ret;exact⟨jI (g.o (by rw[c.o];simp;omega)).symm,rfl⟩
    ·have r:¬(122:Int)<((a[b]).toNat:Int):=(by omega);go_wp2;go_round
     ·exact⟨b+1,by omega,by go_num,o.o (by rw[c.o];simp;omega)⟩
     ·simp[intOf];omega
  ·have h:J (zA a.data.toList=(decide (1<=a.size)&&decide (a.size<=8))):=by
    show zA a.data.toList=_;rw[Rv];have:=i.o;rw[aU (by simp;omega)]at this;rw[this];simp
   by_cases j:1<=a.size
   ·have d:(1:Int)<=(a.size:Int):=(by omega);go_wp2;go_ret;exact⟨jI (by rw[h.o,fY];simp only[aK,aN];omega),rfl⟩
   ·have d:¬(1:Int)<=(a.size:Int):=(by omega);go_wp2;go_ret;exact⟨jI (by rw[h.o];simp[j]),rfl⟩
theorem MH(a:B8)(b:W)(d:a.length<=maxLen) :
  C' 221 #[S a] b fun c e=>c=.returned (.bool (zA a))/\e=b :=
 Sl ⟨a.toArray⟩ b (by rw[jT];exact d)
theorem jcy{c:W8}(a:JW c=false)(b:zA c.name=true):c.kind<0\/(¬c.kind<0/\(1<c.kind\/(¬1<c.kind/\(c.key<0\/(¬c.key<0/\9<c.key))))):=by
 simp only[JW,b,ep,ej,cW]at a;omega
variable{n:Nat}
theorem Ic{t:List W8}(f:n<t.length)(b:(JW t[n] && !zx (t.take n) (t[n]).name)=false):jW t=false:=by
 cases c:jW t with
 | false=>rfl
 | true =>
  simp only[jW,aK]at c;obtain⟨d,e⟩:=QE c.1 (aA _) n f;rw[d,e]at b;cases b
variable{B:List W8}
theorem Nz(c:n<B.length)(b:JZ B n=true):JZ B (n+1)=(JW B[n] && !zx (B.take n) (B[n]).name):=by
 simp only[JZ,b,ep];rw[aR c]
theorem ND{t:List W8}{k m:Nat}(d:m<t.length)(c:m<k)(a:B8):zx ((t.take k).take (m+1)) a=(zx ((t.take k).take m) a||(t[m]).name==a):=by
 have b:m<(t.take k).length:=by rw[aM];omega
 rw[aH b];simp[zx]
theorem Nd(x:O')(O:Nat)(t:List W8)(e:W)(hm:t.length<=maxLen)(C:P3 e x t) :
  C' 143 #[.slice x t.length O] e fun y w'=>y=.returned (.bool (jW t))/\Below e.heap.size e w':=by
 have o:=I C;clear C;unfold maxLen at hm;go_enter Tryz.func143,Tryz.ntmps143;go_wp2;go_loopw [3] (fun g wr=>∃a:Nat,a<=t.length/\g=N a/\JZ t a=true/\Below e.heap.size e wr) (fun g _=>t.length-(intOf g).toNat)
 case atStart=>exact⟨0,aG _,rfl,rfl,k8 _ _⟩
 case round =>
  obtain⟨a,ci,rfl,B,d⟩:=hrel;have s:=I B;clear B;by_cases j:a<t.length
  ·obtain⟨M,b4,rfl,ac,f⟩:=(o.o.j d).at_ (aE (by omega));obtain⟨g1,T,U,v,V,X⟩:=f a j;have L:=I f;clear f V X;obtain⟨cd,dl,dr⟩:=o.o.ok t[a] (aJ j);have H:=I (Nz j s.o);have m:=I (Ic (t:=t) j);have r:=I (jcy (c:=t[a]));have ce:(a:Int)<(t.length:Int):=(by omega);go_wp2_with fail;refine(MH (t[a]).name _ cd).mono ?_;rintro y w1 ⟨rfl,rfl⟩;cases k:zA (t[a]).name with
   | false =>
    have F:J (JW t[a]=false):=by show JW t[a]=false;simp[JW,k]
    have u:=I k;clear k;go_wp2;go_ret;exact⟨jI (m.o (by rw[F.o];rfl)).symm,d⟩
   | true =>
    have u:=I k;clear k;cases h:JW t[a]with
    | false =>
     have n:=I h;have hf:=r.o h u.o;clear h;generalize (t[a]).kind=kd at *;generalize (t[a]).key=ky at *;rcases hf with p|⟨p,Z|⟨Z,h3|⟨h3,h4⟩⟩⟩
     all_goals
      go_wp2;go_ret;exact⟨jI (m.o (by rw[n.o];rfl)).symm,d⟩
    | true =>
     have n:=I h;obtain⟨_,bi,bv,bX⟩:=QA h;have q1:¬(t[a]).kind<0:=(by omega);have q2:¬1<(t[a]).kind:=(by omega);have q3:¬(t[a]).key<0:=(by omega);have q4:¬9<(t[a]).key:=(by omega);clear h bi bv bX r;go_wp2;go_loopw [5] (fun g wr=>∃b:Nat,b<=a/\g=N b/\zx ((t.take a).take b) (t[a]).name=false/\Below e.heap.size e wr) (fun g _=>a-(intOf g).toNat)
     case atStart=>exact⟨0,aG _,rfl,rfl,d⟩
     case round =>
      clear d L g1 T U q1 q2 q3 q4;obtain⟨b,cs,rfl,D,d⟩:=hrel;have w:=I D;clear D;by_cases ap:b<a
      ·have co:(b:Int)<(a:Int):=(by omega);obtain⟨M,b4,z,ac,f⟩:=(o.o.j d).at_ (aE (by omega));simp only[aW,cG,de]at z;obtain⟨rfl,rfl⟩:=z;obtain⟨g1,_⟩:=f a j;obtain⟨P,_⟩:=f b (by omega);have da:(b:Int)<(t.length:Int):=(by omega);have G:=I (ND (t:=t) (k:=a) (m:=b) (by omega) ap (t[a]).name);clear f;by_cases i:(t[b]'(by omega)).name=(t[a]).name
       ·have l:=I i;clear i;rw[l.o]at P;have E:J (zx (t.take a) (t[a]).name=true):=by
         simp only[J,zx,ez];exact⟨(t[b]'(by omega)),by rw[di];exact⟨b,by omega,rfl⟩,by simp[l.o]⟩
        go_wp2_with fail;go_quiet(fail);go_wp2;go_ret;exact⟨jI (m.o (by rw[E.o];simp)).symm,below_drewN d nq⟩
       ·have dd:((t[b]'(by omega)).name==(t[a]).name)=false:=(by simpa using i);have l:=I i;clear i;go_wp2_with fail;go_quiet(fail);go_wp2_with fail;go_roundw
        ·exact⟨b+1,by omega,by go_num,by rw[G.o,w.o];simp[l.o],below_drewN d nq⟩
        ·simp[intOf];omega
      ·have be:b=a:=(by omega);subst be;have K:J (JZ t (b+1)=true):=by
        show JZ t (b+1)=true;rw[H.o,n.o];have:=w.o;rw[List.take_take,Nat.min_self]at this;rw[this];rfl
       go_wp2;go_roundw
       ·exact⟨b+1,by omega,by go_num,K.o,d⟩
       ·simp[intOf];omega
  ·have am:a=t.length:=(by omega);subst am;have q:J (jW t=(decide (1<=t.length)&&decide (t.length<=6))):=by
    show jW t=_;rw[jW,s.o];rfl
   by_cases p:1<=t.length
   ·have Y:(1:Int)<=(t.length:Int):=(by omega);go_wp2;go_ret;exact⟨jI (by rw[q.o,fY];simp only[aK,aN];omega),d⟩
   ·have Y:¬(1:Int)<=(t.length:Int):=(by omega);go_wp2;go_ret;exact⟨jI (by rw[q.o];simp[p]),d⟩
abbrev zah(p:L8):Value:=.agg #[N p.group,N p.aa,N p.R,.bool p.told]
theorem Yi(p:L8)(a:W) :
  C' 79 #[zah p] a fun d e=>d=.returned (.bool (qK p))/\Below a.heap.size a e:=by
 have b:J (qK p=(decide (1<=p.group)&&decide (p.group<=60)&&decide (1<=p.aa)&&decide (p.aa<=60)&&decide (1<=p.R)&&decide (p.R<=9))):=by
  simp only[J,qK,Bool.and_assoc]
 obtain⟨f,g,c,h⟩:=p;simp only at b;go_enter Tryz.func79,Tryz.ntmps79;go_wp2
 all_goals
  go_ret;exact⟨jI (by rw[b.o];simp;omega),(k8 _ _).alloc (aA _) _⟩
theorem NZ{t:List W8}(a:0<t.length):qv t=(t[0]).cells.length:=by
 cases t with
 | nil=>simp at a
 | cons c t=>rfl
theorem TV{t:List W8}(d:n<t.length)(b:(qi (t[n]).kind (t[n]).cells&&decide ((t[n]).cells.length=qv t))=false):xk t=false:=by
 have:(t.all fun c=>qi c.kind c.cells&&decide (c.cells.length=qv t))=false:=by
  rw[el];exact⟨t[n],aJ d,by rw[b];simp⟩
 rw[xk,this,gm]
theorem Mp(k:O')(C:Nat)(t:List W8)(b:W)(Y:t.length<=maxLen)(K:P3 b k t) :
  C' 78 #[.slice k t.length C] b fun l Z=>l=.returned (.bool (xk t))/\Below b.heap.size b Z:=by
 have z:=I K;clear K;go_enter Tryz.func78,Tryz.ntmps78;go_wp2_with fail;refine(Nd k C t b Y z.o).mono ?_;rintro l w1 ⟨rfl,o⟩;cases e:jW t with
 | false =>
  have M:J (xk t=false):=by show xk t=false;rw[xk,e,eY]
  clear e;go_wp2;go_ret;exact⟨jI M.o.symm,o⟩
 | true =>
  have E:1<=t.length/\t.length<=6:=by
   simp only[jW,aK,aN]at e;exact e.2
  have P:=I e;obtain⟨h1,E⟩:=E;clear e;go_wp2;go_loopw [4] (fun s wr=>∃a:Nat,a<=t.length/\s=N a/\((t.take a).all fun c=>qi c.kind c.cells&&decide (c.cells.length=qv t))=true/\Below b.heap.size b wr) (fun s _=>t.length-(intOf s).toNat)
  case atStart=>exact⟨0,aG _,rfl,rfl,o⟩
  case round =>
   clear o;obtain⟨a,ci,rfl,F,f⟩:=hrel;have x:=I F;clear F;by_cases r:a<t.length
   ·obtain⟨B,co,rfl,G,q⟩:=(z.o.j f).at_ (aE (by omega));obtain⟨g1,g2,U,v,D,ca,T,rfl,bv,H,b4⟩:=q a r;obtain⟨_,_,_,v0,m,ac,am,rfl,bX,V,cd⟩:=q 0 (by omega);simp only[eX,dD]at m;have y:=I H;clear q g1 U H V;have O:J (((t.take (a+1)).all fun c=>qi c.kind c.cells&&decide (c.cells.length=qv t))=(qi (t[a]).kind (t[a]).cells&&decide ((t[a]).cells.length=qv t))):=by
     show _=_;rw[aH r,ek,x.o];simp
    have u:=I (TV (t:=t) r);have w:=I (NZ (t:=t) (by omega));have ce:(a:Int)<(t.length:Int):=(by omega);have bi:(0:Int)<(t.length:Int):=(by omega);go_wp2_with fail;go_region_with (go_at_call 51;refine(AD (t[a]).kind ca T (t[a]).cells _ (by unfold maxLen;omega) (y.o.j (Qj _))).mono ?_;rintro l w2 ⟨rfl,d⟩)
    all_goals
     go_simp;replace d:=jg d;have ap:=(d.cell (p:=A B _) G).trans m;have be:=(d.cell (p:=A B _) G).trans D;have n:=f.trans (d.mono f.size);clear m D d f y;cases i:qi (t[a]).kind (t[a]).cells with
     | false =>
      have h:=I i;clear i;go_wp2_with fail;go_quiet(fail);go_wp2;go_ret;exact⟨jI (u.o (by rw[h.o];rfl)).symm,below_drewN n nq⟩
     | true =>
      have h:=I i;clear i;by_cases g:(t[a]).cells.length=(t[0]'(by omega)).cells.length
      ·have X:(((t[a]).cells.length:Int) != ((t[0]'(by omega)).cells.length:Int))=false:=(by simp[g]);have j:=I g;clear g;go_wp2_with fail;go_quiet(fail);go_wp2_with fail;go_roundw
       ·exact⟨a+1,by omega,by go_num,by rw[O.o,h.o,w.o];simp[j.o],below_drewN n nq⟩
       ·simp[intOf];omega
      ·have X:(((t[a]).cells.length:Int) != ((t[0]'(by omega)).cells.length:Int))=true:=(by simp;omega);have j:=I g;clear g;go_wp2_with fail;go_quiet(fail);go_wp2;go_ret;exact⟨jI (u.o (by rw[h.o,w.o];simp[j.o])).symm,below_drewN n nq⟩
   ·have L:J (xk t=true):=by
     show xk t=true;have:=x.o;rw[aU (by omega)]at this;rw[xk,P.o,this];rfl
    go_wp2;go_ret;exact⟨jI L.o.symm,f⟩
variable{E:List W9}
theorem RC(c:Ka E n=true)(h:n<=E.length):∀a (e:a<n),Kc (E[a]'(by omega))=true/\jG (E.take a) (E[a]'(by omega)).number=false:=by
 induction n with
 | zero=>intro a e;omega
 | succ n g =>
  intro a e;simp only[Ka,aK]at c;rcases eA a n with f|f
  ·exact g c.1 (by omega) a f
  ·have:a=n:=by omega
   subst this;have d:=c.2;rw[aR (by omega)]at d;simpa using d
theorem AI{r:List W9}(f:n<r.length)(b:(Kc r[n] && !jG (r.take n) (r[n]).number)=false):xD r=false:=by
 cases e:xD r with
 | false=>rfl
 | true =>
  obtain⟨c,d⟩:=RC e (aA _) n f;rw[c,d]at b;cases b
theorem Yg(d:n<E.length)(c:Ka E n=true):Ka E (n+1)=(Kc E[n] && !jG (E.take n) (E[n]).number):=by
 simp only[Ka,c,ep];rw[aR d]
theorem Ul{r:List W9}{k m:Nat}(c:m<r.length)(b:m<k)(n:Int):jG ((r.take k).take (m+1)) n=(jG ((r.take k).take m) n||decide ((r[m]).number=n)):=by
 have a:m<(r.take k).length:=by rw[aM];omega
 rw[aH a];simp[jG]
theorem jal{c:W9}(a:Kc c=false):c.number<1\/(¬c.number<1/\(9<c.number\/(¬9<c.number/\c.ab.length≠8))):=by
 simp only[Kc,ej,cW]at a;omega
theorem Rg{c:W9}(a:Kc c=true):1<=c.number/\c.number<=9/\c.ab.length=8:=by
 simp only[Kc,aK,aN]at a;exact⟨a.1.1,a.1.2,a.2⟩
theorem RP(s:O')(D:Nat)(a:List W9)(f:W)(U:a.length<=maxLen)(v:U2 f s a) :
  C' 80 #[.slice s a.length D] f fun E w'=>E=.returned (.bool (xD a))/\Below f.heap.size f w':=by
 have o:=I v;clear v;unfold maxLen at U;go_enter Tryz.func80,Tryz.ntmps80;go_wp2;go_loopw [3] (fun g wr=>∃b:Nat,b<=a.length/\g=N b/\Ka a b=true/\Below f.heap.size f wr) (fun g _=>a.length-(intOf g).toNat)
 case atStart=>exact⟨0,aG _,rfl,rfl,k8 _ _⟩
 case round =>
  obtain⟨b,bi,rfl,u,e⟩:=hrel;have q:=I u;clear u;by_cases l:b<a.length
  ·obtain⟨C,ac,rfl,M,h⟩:=(o.o.j e).at_ (aE (by omega));obtain⟨g1,G⟩:=h b l;clear h;obtain⟨am,ce⟩:=o.o.ok a[b] (aJ l);unfold maxLen at am;have z:=I (Yg l q.o);have m:=I (AI (r:=a) l);have p:=I (jal (c:=a[b]));have be:(b:Int)<(a.length:Int):=(by omega);cases i:Kc a[b]with
   | false =>
    have j:=I i;have O:=p.o i;clear i;rcases O with H|⟨H,K|⟨K,L⟩⟩
    ·go_wp2;go_ret;exact⟨jI (m.o (by rw[j.o];rfl)).symm,e⟩
    ·go_wp2;go_ret;exact⟨jI (m.o (by rw[j.o];rfl)).symm,e⟩
    ·have ap:(((a[b]).ab.length:Int) != 8)=true:=(by simp;omega);clear L;go_wp2;go_ret;exact⟨jI (m.o (by rw[j.o];rfl)).symm,e⟩
   | true =>
    have j:=I i;obtain⟨X,Y,Z⟩:=Rg i;have q1:¬(a[b]).number<1:=(by omega);have q2:¬9<(a[b]).number:=(by omega);have q3:(((a[b]).ab.length:Int) != 8)=false:=(by simp;omega);clear i X Y Z p;go_wp2;go_loopw [4] (fun g wr=>∃d:Nat,d<=b/\g=N d/\jG ((a.take b).take d) (a[b]).number=false/\Below f.heap.size f wr) (fun g _=>b-(intOf g).toNat)
    case atStart=>exact⟨0,aG _,rfl,rfl,e⟩
    case round =>
     clear e g1 G q1 q2 q3;obtain⟨d,bX,rfl,w,e⟩:=hrel;have r:=I w;clear w;by_cases T:d<b
     ·have bv:(d:Int)<(b:Int):=(by omega);obtain⟨C,ac,t,M,h⟩:=(o.o.j e).at_ (aE (by omega));simp only[aW,cG,de]at t;obtain⟨rfl,rfl⟩:=t;obtain⟨g1,_⟩:=h b l;obtain⟨F,_⟩:=h d (by omega);have b4:(d:Int)<(a.length:Int):=(by omega);have y:=I (Ul (r:=a) (k:=b) (m:=d) (by omega) T (a[b]).number);clear h;by_cases k:(a[d]'(by omega)).number=(a[b]).number
      ·have n:=I k;clear k;rw[n.o]at F;have x:J (jG (a.take b) (a[b]).number=true):=by
        simp only[J,jG,ez];exact⟨(a[d]'(by omega)),by rw[di];exact⟨d,by omega,rfl⟩,by simp[n.o]⟩
       go_wp2_with fail;go_quiet(fail);go_wp2;go_ret;exact⟨jI (m.o (by rw[x.o];simp)).symm,below_drewN e nq⟩
      ·have cd:((a[d]'(by omega)).number==(a[b]).number)=false:=(by simpa using k);have n:=I k;clear k;go_wp2_with fail;go_quiet(fail);go_wp2_with fail;go_roundw
       ·exact⟨d+1,by omega,by go_num,by rw[y.o,r.o];simp[n.o],below_drewN e nq⟩
       ·simp[intOf];omega
     ·have V:d=b:=(by omega);subst V;have B:J (Ka a (d+1)=true):=by
       show Ka a (d+1)=true;rw[z.o,j.o];have:=r.o;rw[List.take_take,Nat.min_self]at this;rw[this];rfl
      go_wp2;go_roundw
      ·exact⟨d+1,by omega,by go_num,B.o,e⟩
      ·simp[intOf];omega
  ·have P:b=a.length:=(by omega);subst P;go_wp2;go_ret;exact⟨jI q.o.symm,e⟩
variable{K:Int}
theorem LM(j:n<E.length)(d:jG (E.take n) K=false)(i:(E[n]).number=K):Ya E K=some (E[n]).ab:=by
 have e:E=E.take n++E[n]::E.drop (n+1):=by rw[<-bK j,aY]
 have f:(E.take n).find? (fun c=>decide (c.number=K))=none:=by
  rw[dU];intro c k;simp only[jG,fK]at d;exact d c k
 have g:E.find? (fun c=>decide (c.number=K))=some E[n]:=by
  have h:(E.take n++E[n]::E.drop (n+1)).find? (fun c=>decide (c.number=K))=some E[n]:=by
   rw[gK,f,List.find?_cons_of_pos (by simp[i])];rfl
  rwa [<-e]at h
 rw[Ya,g];rfl
theorem Rl(c:jG E K=false):Ya E K=none:=by
 have d:E.find? (fun b=>decide (b.number=K))=none:=by
  rw[dU];intro b e;simp only[jG,fK]at c;exact c b e
 simp[Ya,d]
theorem JS(k:O')(s:Nat)(a:List W9)(n:Int)(d:W)(u:a.length<=maxLen)(o:U2 d k a) :
  C' 81 #[.slice k a.length s,N n] d fun t v=>t=.returned (S (jh a n))/\Below d.heap.size d v:=by
 have r:=I o;clear o;unfold maxLen at u;go_enter Tryz.func81,Tryz.ntmps81;go_wp2;go_loopw [5] (fun i wr=>∃b:Nat,b<=a.length/\i=N b/\jG (a.take b) n=false/\Below d.heap.size d wr) (fun i _=>a.length-(intOf i).toNat)
 case atStart=>exact⟨0,aG _,rfl,rfl,k8 _ _⟩
 case round =>
  obtain⟨b,B,rfl,p,e⟩:=hrel;have h:=I p;clear p;by_cases f:b<a.length
  ·obtain⟨w,D,rfl,y,l⟩:=(r.o.j e).at_ (aE (by omega));obtain⟨g1,x⟩:=l b f;clear l;have z:(b:Int)<(a.length:Int):=(by omega);by_cases c:(a[b]).number=n
   ·have g:=I (LM f h.o c);rw[c]at g1;clear c;go_wp2;go_ret;exact⟨qH (by rw[jh,g.o];rfl),e⟩
   ·have C:((a[b]).number==n)=false:=(by simpa using c);have q:=I c;have j:=I (Ul (r:=a) (k:=a.length) (m:=b) f f n);rw[aS]at j;clear c;go_wp2;go_roundw
    ·exact⟨b+1,by omega,by go_num,by rw[j.o,h.o];simp[q.o],e⟩
    ·simp[intOf];omega
  ·have g:J (Ya a n=none):=Rl (by have:=h.o;rw[aU (by omega)]at this;exact this);go_wp2;go_ret;exact⟨qH (by rw[jh,g.o];rfl),e⟩
end Go.Proofs.YthhpbhpfagoapaaGreat
