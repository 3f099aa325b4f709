import Derived.Test.YthhpbhpfagoapaaGreatGBP
import Derived.Test.YthhpbhpfagoapaaGreatGBN
import Derived.Test.YthhpbhpfagoapaaGreatGBM
namespace Go.Proofs.YthhpbhpfagoapaaGreat
set_option linter.all false
set_option maxRecDepth 100000
set_option maxHeartbeats 16000000
open Go.RowKit
variable{Y:Nat->U1}{m n:Nat}{r s:B8}{V:List V6}
def Pq(f:Vn V)(d:m<V.length)(e:(V[m]).pre=s)(h:Jo Y n (V[m]).table=true):zZ Y n s V:=⟨m,d,e,fun j g=>by rw[<-e];exact f m d j g,h⟩
def MU(c:∀j∈V,¬(j.pre=s/\Jo Y n j.table=true)):¬zZ Y n s V:=fun⟨_,f,d,_,e⟩=>c _ (aJ f) ⟨d,e⟩
def Jb(b a:List V5):List V5:=b.filter fun c=>!Ux c a
def jfn(d:List V6)(a:List W9)(file pre:B8)(h:W)(e:Ending)(i:W):Prop:=Below h.heap.size h i/\((((∃f,qJ file pre a false=(f,none)/\f≠0)\/∃b c,qJ file pre a false=(0,some b)/\xL file=some c/\zZ (qq pre a b) b.U.length pre d)/\e=.returned (.tuple #[.bool true,.slice none 0 0])) \/
  ∃b c g j,qJ file pre a false=(0,some b)/\xL file=some c/\¬zZ (qq pre a b) b.U.length pre d/\e=.returned (.tuple #[.bool false,.slice g (Jb (Xe pre a c b) (xE d a)).length j])/\D2 i g (Jb (Xe pre a c b) (xE d a))/\(Jb (Xe pre a c b) (xE d a)).length<=200000)
def EC{b kn:List V5}(d:n<b.length):Jb (b.take (n+1)) kn=Jb (b.take n) kn++(if Ux b[n] kn=true then[]else[b[n]]):=by
 unfold Jb;rw[aH d,dI];cases c:Ux b[n] kn<;>simp[c]
def LJ{b e h k a d g j:B8}(l:V5.mk b e h k≠V5.mk a d g j):(a==b)=false\/(a=b/\(d==e)=false)\/(a=b/\d=e/\(g==h)=false)\/a=b/\d=e/\g=h/\(j==k)=false:=by
 by_cases c:a=b
 ·by_cases f:d=e
  ·by_cases i:g=h
   ·exact .inr (.inr (.inr ⟨c,f,i,by simpa using fun m=>l (by rw[c,f,i,m])⟩))
   ·exact .inr (.inr (.inl ⟨c,f,by simpa using i⟩))
  ·exact .inr (.inl ⟨c,by simpa using f⟩)
 ·exact .inl (by simpa using c)
def Oa(ja:O')(jc:Nat)(b:List V6)(ra:O')(e1:Nat)(c:List W9)(file pre:B8)(ci:W)(F:P0 ci ja b)(hr:U2 ci ra c)(go:c.length<=maxLen)(f2:file.length<=maxLen)(gg:pre.length<=maxLen)(eR:JY b c):C' 17 #[.slice ja b.length jc,.slice ra c.length e1,S file,S pre] ci (jfn b c file pre ci):=by
 obtain⟨i0,hi,gr,gs,gt⟩:=ks Tryz.ak;have fk:=I (DN file pre ra e1 c false ci f2 gg go hr);have Hj:=I F;have Hr:=I hr;have em:=I eR;have h8:=eR.1;clear F hr eR f2 gg;go_enter Tryz.func17,Tryz.ntmps17;go_wp2_with fail;refine fk.o.mono ?_;clear fk;rintro ds T ⟨ac,⟨bi,P,eP,rfl⟩|⟨E,eq,B,dl,dr,sv,P,hf,rfl,c0,f5,c1,eS,hs⟩⟩
 ·have hD:(bi !=0)=true:=by simpa using eP
  have HX:J (∃bi,qJ file pre c false=(bi,none)/\bi≠0):=⟨bi,P,eP⟩;have k:=I ac;clear P eP ac;go_wp2;go_ret2;exact⟨k.o,.inl ⟨.inl HX.o,rfl⟩⟩
 ·rw[BM]at eS hs;obtain⟨za,zc,rfl,ga⟩:=UO eS;have fl:=I P;have HF:=I hf;have g0:=I (fun fs=>ML (T:=fs) (Po P));have ho:=(VL file pre c false E P).1;have e6:=I f5;have fb:=I ga;have am:=I ac;have fn:=I (Hj.o.j ac);have fr:=I (Hr.o.j ac);have dv:B<T.heap.size:=KC c0;have C0:=I c0;have C1:=I c1;clear P hf f5 ga ac eS Hj Hr c0 c1;generalize f1:Xe pre c eq E=r at *;have ec:=I f1;clear f1;generalize fw:qq pre c E=K at *;have e5:=I fw;clear fw;generalize gc:E.U.length=n at *;have fd:=I gc;clear gc;go_wp2;go_loopw [12,13] (fun v D wr=>∃a:Nat,a<=b.length/\D=N a/\(∀j∈b.take a,¬(j.pre=pre/\Jo K n j.table=true))/\wr.ownsRow T.heap.size 40 4 v (xE (b.take a) c).length (qg (xE (b.take a) c))/\(xE (b.take a) c).length<=100000*a/\Below T.heap.size T wr) (fun _ D _=>b.length-(intOf D).toNat)
  case atStart=>exact⟨0,aG _,rfl,(by simp),kg _ _ _ _,aA _,k8 _ _⟩
  case round=>
   obtain⟨a,hk,rfl,ht,cd,f7,f⟩:=hrel;have Ht:=I ht;have C:=I cd;have k:=I f;clear ht cd;by_cases dT:a<b.length
   ·have hh:(a:Int)<(b.length:Int):=(by omega);obtain⟨m,dW,rfl,o,b4⟩:=fn.o.at_ (aE (by omega));obtain⟨ta,tc,d0,d1,d2,d3,d4,d5,d6,bv⟩:=b4 a dT;have d7:J (At7 T m (dW+a*7) (.slice ta (b[a]).table.length tc) b[a]):=⟨d0,d1,d2,d3,d4,d5,d6⟩;have X:=I (aH dT);have g5:J ((b[a]).pre=pre->Jo K n (b[a]).table=true->zZ K n pre b):=fun h1 h2=>Pq em.o.2.1 dT h1 h2;have hz:xp b[a] c=0:=em.o.2.2 _ (aJ dT);clear b4 f d0 d1 d2 d3 d4 d5 d6;generalize b[a]=e at *;have ev:=Uh hz (Gd bv.table);have hA:=ev.cl;have hE:=CX e c;have e7:=I bv;have HW:=I (Px ta tc ra e1 c e wr ⟨bv.table.j k.o,fr.o.j k.o,go,ev,bv.cap_⟩);obtain⟨c0,c1,c2,c3,c4,c5,c6⟩:=d7.o.j o k.o;clear bv hz ev;go_wp2_with fail;clear c0 c1 c2 c3 c4 c5 c6;refine HW.o.mono ?_;clear HW;rintro ds w4 ⟨lv,rfl,eM,es⟩;have L:J (xE (b.take (a+1)) c=xE (b.take a) c++Xu e c):=by
     show xE (b.take (a+1)) c=_;rw[X.o];simp[xE]
    obtain⟨g,ce,rfl⟩:∃g ce,lv=R g (Xu e c).length ce:=by
     rcases eM.2 with⟨_,h0⟩|⟨g,ce,hx,s,_⟩
     ·omega
     ·exact⟨g,ce,s⟩
    have ap:=I (jy C.o es);have fc:=I eM;have cs:=I (k.o.trans (es.mono k.o.size));have gp:=cs.o.size;have gZ:=I (ZG (Xu e c));have gY:=I (Va (l:=Xu e c));clear eM es C k;generalize g9:xE (b.take a) c=Lk at *;generalize g8:Xu e c=Lj at *;clear g9 g8;go_wp2_with(at_builtin;refine ko _ rfl (.tmp 45) (.tmp 46) 28 rfl T.heap.size 40 i0 _ 4 64 Tryz.underlying28 hi gr gs gt rfl (by decide) _ _ _ rfl ap.o (A g 0) Lj.length ce (qg Lj) rfl gZ.o (Nj fc.o) gY.o (by unfold maxLen;omega) (by omega) gp ?_;intro v2 w5 gd f3 _);have G:=I (cs.o.grown f3 gp (fun a hk=>(ap.o.lt a hk).1));have fe:J (w5.ownsRow T.heap.size 40 4 v2 (xE (b.take (a+1)) c).length (qg (xE (b.take (a+1)) c))):=by
     show w5.ownsRow _ _ _ _ _ _;rw[L.o,Ve,aB];exact gd
    have fa:J ((xE (b.take (a+1)) c).length<=100000*(a+1)):=by
     show(xE (b.take (a+1)) c).length<=100000*(a+1);rw[L.o,aB];omega
    have e2:J (∀H,Below w5.heap.size w5 H->C' 48 #[.slice dl n dr,.slice ta e.table.length tc] H fun ds U=>ds=.returned (.bool (Jo K n e.table))/\Below H.heap.size H U):=fun H hv=>by
     have M:=G.o.trans (hv.mono G.o.size);have s:=jej dl ta dr tc K n e.table H ho e7.o.len (e6.o.j M) (e7.o.table.j M);rw[g0.o,Bool.not_not]at s;exact s
    clear gd f3 ap fc L;have g7:=aC dv G.o.size;have hg:=aC o G.o.size;have e0:=(G.o.cell (p:=A B 0) dv).trans C0.o;obtain⟨c0,_⟩:=d7.o.j o G.o;go_region_held3 (fun H=>H.cell? (A B 0)=some (.slice dl n dr)/\H.cell? (A m (dW+a*7))=some (.slice ta e.table.length tc))
     (first|exact Y5|exact⟨e0,c0⟩)
     (first|(go_at_call 48;refine(e2.o _ (Qj _)).mono ?_;rintro ds w6 ⟨rfl,bX⟩;have Y5:w6.cell? (A B 0)=some (.slice dl n dr)/\w6.cell? (A m (dW+a*7))=some (.slice ta e.table.length tc):=⟨(bX.cell (p:=A B 0) g7).trans e0,(bX.cell (p:=A m (dW+a*7)) hg).trans c0⟩))
    rename_i hc;clear hc Y5 e0 c0 e2;have da:=I (G.o.trans ((jg bX).mono G.o.size));have ff:=I (jy fe.o (jg bX));clear bX G fe;obtain⟨_,_,_,_,_,c5,_⟩:=d7.o.j o da.o;have be:J (¬(e.pre=pre/\Jo K n e.table=true)->∀j∈b.take (a+1),¬(j.pre=pre/\Jo K n j.table=true)):=fun s j F=>by
     rw[X.o,aX]at F;rcases F with F|F
     ·exact Ht.o j F
     ·simp only[bD,bH,dm]at F;subst F;exact s
    by_cases O:e.pre=pre
    ·have hq:(e.pre==pre)=true:=(by simpa using O);cases M:Jo K n e.table with
     | true=>
      have HX:J (zZ (qq pre c E) E.U.length pre b):=by
       rw[e5.o,fd.o];exact g5.o O M
      have d8:=I (am.o.trans (da.o.mono am.o.size));clear O M be;go_wp2;go_ret2;exact⟨d8.o,.inl ⟨.inr ⟨E,eq,fl.o,HF.o,HX.o⟩,rfl⟩⟩
     | false=>
      have eg:=I (be.o (by rw[M];simp));clear O M be;go_wp2;go_roundw
      ·exact⟨a+1,by omega,by go_num,eg.o,ff.o,fa.o,da.o⟩
      ·simp[intOf];omega
    ·have hq:(e.pre==pre)=false:=(by simpa using O);have eg:=I (be.o (fun s=>O s.1));clear O be;go_wp2;go_roundw
     ·exact⟨a+1,by omega,by go_num,eg.o,ff.o,fa.o,da.o⟩
     ·simp[intOf];omega
   ·have eC:a=b.length:=(by omega);subst eC;rw[aS]at Ht C f7;have gX:J (¬zZ (qq pre c E) E.U.length pre b):=by
     rw[e5.o,fd.o];exact MU Ht.o
    obtain⟨la,lc,rfl,f6⟩:=UO C.o;have gw:=I f6;have gU:=I (fb.o.j f);have er:B<wr.heap.size:=aC dv f.size;have C2:=I ((f.cell (p:=A B 1) dv).trans C1.o);have e3:=I (am.o.trans (f.mono am.o.size));clear f6 f Ht C k fb e6 fn fr C0 C1 am em;have hy:(xE b c).length<=800000:=(by omega);generalize fz:xE b c=d at *;have L:=I fz;clear fz f7;go_wp2;generalize wr=U at *;go_loopw [17,18] (fun v D wq=>∃a:Nat,a<=r.length/\D=N a/\wq.ownsRow U.heap.size 40 4 v (Jb (r.take a) d).length (qg (Jb (r.take a) d))/\(Jb (r.take a) d).length<=a/\Below U.heap.size U wq) (fun _ D _=>r.length-(intOf D).toNat)
    case atStart=>exact⟨0,aG _,rfl,kg _ _ _ _,aA _,k8 _ _⟩
    case round=>
     obtain⟨a,hk,rfl,cd,hl,f⟩:=hrel;have C:=I cd;have k:=I f;clear cd;by_cases gb:a<r.length
     ·have hh:(a:Int)<(r.length:Int):=(by omega);have V:=I (EC (kn:=d) gb);obtain⟨m,rfl,o,b4⟩:=(gU.o.j f).at_ (aE (by omega));have HG:=I (b4 a gb);have c2:=(f.cell (p:=A B 1) er).trans C2.o;have e4:=I c2;have gA:=I (gw.o.j f);have fv:=aC er f.size;clear f b4;generalize r[a]=hw at *;obtain⟨w,x,y,z⟩:=hw;go_wp2;clear c2;generalize wr=w3 at *;go_loopw [19,20] (fun kv D wi=>∃i:Nat,i<=d.length/\D=N i/\kv=.bool (Ux (V5.mk w x y z) (d.take i))/\Below w3.heap.size w3 wi) (fun _ D _=>d.length-(intOf D).toNat)
      case atStart=>exact⟨0,aG _,rfl,by simp[E0],k8 _ _⟩
      case round=>
       obtain⟨i,hm,rfl,rfl,h⟩:=hrel;have ea:=I h;by_cases f8:i<d.length
       ·have hC:(i:Int)<(d.length:Int):=(by omega);have c2:=(h.cell (p:=A B 1) fv).trans e4.o;obtain⟨g1,Y,Z,g4⟩:=HG.o;replace g1:=(h.cell (p:=A m _) o).trans g1;replace Y:=(h.cell (p:=A m _) o).trans Y;replace Z:=(h.cell (p:=A m _) o).trans Z;replace g4:=(h.cell (p:=A m _) o).trans g4;obtain⟨q,rfl,hF,gi⟩:=(gA.o.j h).at_ (aE (by omega));obtain⟨y1,y2,y3,y4⟩:=gi i f8;have X:=I (aH f8);clear h gi;generalize d[i]=t at *;obtain⟨t1,t2,t3,t4⟩:=t;simp only at g1 Y Z g4 y1 y2 y3 y4;cases u:Ux (V5.mk w x y z) (d.take i)with
        | true=>
         have HN:J (Ux (V5.mk w x y z) (d.take (i+1))=true):=by
          show _=_;rw[X.o];rw[G0]at u ⊢;simp[u]
         clear u;go_wp2_with fail;go_quiet(fail);go_wp2_with fail;go_roundw
         ·exact⟨i+1,by omega,by go_num,by rw[HN.o],below_drewN ea.o nq⟩
         ·simp[intOf];omega
        | false=>
         rw[E0]at u;by_cases he:V5.mk w x y z=V5.mk t1 t2 t3 t4
         ·have HN:J (Ux (V5.mk w x y z) (d.take (i+1))=true):=by
           show _=_;rw[X.o,he,G0];simp
          simp only[V5.mk.injEq]at he;obtain⟨rfl,rfl,rfl,rfl⟩:=he;clear u;go_wp2_with fail;go_quiet(fail);go_wp2_with fail;go_roundw
          ·exact⟨i+1,by omega,by go_num,by rw[HN.o],below_drewN ea.o nq⟩
          ·simp[intOf];omega
         ·have HN:J (Ux (V5.mk w x y z) (d.take (i+1))=false):=by
           show _=_;rw[X.o,E0,aX,cQ];rintro(s|s)
           ·exact u s
           ·exact he s
          have hq:=LJ he;clear u he;rcases hq with qn|⟨rfl,qn⟩|⟨rfl,rfl,qn⟩|⟨rfl,rfl,rfl,qn⟩
          all_goals
           go_wp2_with fail;go_quiet(fail);go_wp2_with fail;go_roundw
           ·exact⟨i+1,by omega,by go_num,by rw[HN.o],below_drewN ea.o nq⟩
           ·simp[intOf];omega
       ·have hn:i=d.length:=(by omega);subst hn;rw[aS];have ft:=k.o.trans (h.mono k.o.size);have co:=I ft;have dd:=I (jy C.o h);have c2:=(h.cell (p:=A B 1) fv).trans e4.o;obtain⟨g1,Y,Z,g4⟩:=HG.o;replace g1:=(h.cell (p:=A m _) o).trans g1;replace Y:=(h.cell (p:=A m _) o).trans Y;replace Z:=(h.cell (p:=A m _) o).trans Z;replace g4:=(h.cell (p:=A m _) o).trans g4;clear h ft C k;by_cases u:V5.mk w x y z∈d
        ·have hd:Ux (V5.mk w x y z) d=true:=G0.2 u;rw[aQ hd,aT]at V;clear u;go_wp2;go_roundw
         ·exact⟨a+1,by omega,by go_num,by rw[V.o];exact dd.o,by rw[V.o];omega,co.o⟩
         ·simp[intOf];omega
        ·have hd:Ux (V5.mk w x y z) d=false:=E0.2 u;rw[aL (by rw[hd];decide)]at V;clear u;have hG:=co.o.size;generalize ha:Jb (r.take a) d=SK at *;clear ha;go_wp2_with(at_builtin;refine ko _ rfl (.tmp 100) (.tmp 108) 28 rfl U.heap.size 40 i0 _ 4 64 Tryz.underlying28 hi gr gs gt rfl (by decide) _ _ _ rfl (dd.o.alloc _) (A _ 0) 1 1 [S w,S x,S y,S z] rfl rfl (qr wr #[S w,S x,S y,S z] 40) (by intro hH hu;simp at hu;rcases hu with rfl|rfl|rfl|rfl<;>rfl) (by unfold maxLen;omega) (by omega) (by simp;omega) ?_;intro v4 w4 ge f4 _);have cs:=I ((co.o.trans (((k8 _ wr).alloc (aA _) (.cells #[S w,S x,S y,S z] 40)).mono co.o.size)).grown f4 (by simp;omega) (fun a hk=>(dd.o.lt a hk).1));have ap:J (w4.ownsRow U.heap.size 40 4 v4 (Jb (r.take (a+1)) d).length (qg (Jb (r.take (a+1)) d))):=by
          show w4.ownsRow _ _ _ _ _ _;rw[V.o,XM,aB];exact ge
         clear ge f4 dd;go_wp2;go_roundw
         ·exact⟨a+1,by omega,by go_num,ap.o,by rw[V.o,aB];simp;omega,cs.o⟩
         ·simp[intOf];omega
     ·have eC:a=r.length:=(by omega);subst eC;rw[aS]at C hl;obtain⟨oa,oc,rfl,f9⟩:=UO C.o;have gT:=I f9;have d8:=I (e3.o.trans (k.o.mono e3.o.size));have c2:=(f.cell (p:=A B 1) er).trans C2.o;clear f9 f k C;go_wp2;go_ret2;exact⟨d8.o,.inr ⟨E,eq,oa,oc,fl.o,HF.o,gX.o,by rw[ec.o,L.o];rfl,by rw[ec.o,L.o];exact gT.o,by rw[ec.o,L.o];omega⟩⟩
variable{E:List W9}
def Ab{c:Ending}(j:L5 V E s r c):∃f i,c=.returned (.tuple #[P7 f,N i]):=by
 rcases j with⟨_,a⟩|⟨_,⟨_,a⟩|⟨g,h,_,_,⟨_,a⟩|⟨_,a⟩⟩⟩
 ·exact⟨_,_,a⟩
 ·exact⟨_,_,a⟩
 ·exact⟨_,_,a⟩
 ·cases d:Jv (Xe r E h g) (xE V E)with
  | none=>rw[d]at a;exact⟨_,_,a⟩
  | some f=>rw[d]at a;exact⟨_,_,a⟩
def WU{b c:V5}(a:P7 b=P7 c):b=c:=by
 obtain⟨h,i,j,k⟩:=b;obtain⟨l,m,n,o⟩:=c;simp only[Value.agg.injEq]at a;simp at a;obtain⟨d,e,f,g⟩:=a;subst d e f g;rfl
def Ns{d e:V5}{b c:Int}(a:(Ending.returned (.tuple #[P7 d,N b]))=.returned (.tuple #[P7 e,N c])):d=e/\b=c:=by
 injection a with a
 injection a with a
 simp only[Array.mk.injEq,bT,de]at a;exact⟨WU a.1,by injection a.2⟩
variable{K:Int}
def Cw{d:V5}(e:L5 V E s r (.returned (.tuple #[P7 d,N K])))(h:¬JY V E):d=⟨[],[],[],[]⟩/\K=10:=by
 rcases e with⟨_,f⟩|⟨g,_⟩
 ·exact Ns f
 ·exact absurd g h
def DG{j:V5}(k:L5 V E s r (.returned (.tuple #[P7 j,N K])))(n:JY V E)
  (m:(∃d,qJ s r E false=(d,none)/\d≠0)\/∃c g,qJ s r E false=(0,some c)/\xL s=some g/\zZ (qq r E c) c.U.length r V):j=⟨[],[],[],[]⟩/\K=11:=by
 rcases k with⟨o,_⟩|⟨_,⟨_,e⟩|⟨c,g,i,file,⟨_,e⟩|⟨p,_⟩⟩⟩
 ·exact absurd n o
 ·exact Ns e
 ·exact Ns e
 ·rcases m with⟨d,a,_⟩|⟨q,b,a,_,l⟩
  ·rw[i]at a;simp at a
  ·rw[i]at a;simp only[cX,aW,eu]at a;subst a;exact absurd l p
variable{Z:V7}
def IR{p:V5}{h:U0}(q:L5 V E s r (.returned (.tuple #[P7 p,N K])))(n:JY V E)(pre:∀j∈V,P6 j E)(e:qJ s r E false=(0,some Z))(m:xL s=some h)(o:¬zZ (qq r E Z) Z.U.length r V):p∈Jb (Xe r E h Z) (xE V E)/\K=0:=by
 obtain⟨x,u,_,g,file⟩:=Ms pre n.2.1 e m o;rcases q with⟨g,_⟩|⟨_,⟨⟨_,k,_⟩,_⟩|⟨v,w,b,f,⟨t,_⟩|⟨_,l⟩⟩⟩
 ·exact absurd n g
 ·rw[e]at k;simp at k
 ·rw[e]at b;simp only[cX,aW,eu]at b;subst b;exact absurd t o
 ·rw[e]at b;rw[m]at f;simp only[cX,aW,eu]at b f;subst b f;rw[u]at l;obtain⟨rfl,rfl⟩:=Ns l;exact⟨dn.2 ⟨file,by simp[E0.2 g]⟩,rfl⟩
def RW(f:O')(g:Nat)(a:List V6)(h:O')(k:Nat)(c:List W9)(file pre:B8)(b:W)(q:a.length<=maxLen)(p:a.length<=g)(o:P0 b f a)(s:U2 b h c)(t:c.length<=maxLen)(n:file.length<=maxLen)(r:pre.length<=maxLen):C' 13 #[.slice f a.length g,.slice h c.length k,S file,S pre] b fun i l=>(∃e d,i=.returned (.tuple #[P7 e,N d])/\L5 a c file pre (.returned (.tuple #[P7 e,N d])))/\Below b.heap.size b l:=by
 refine(Lr f g a h k c file pre b q p o s t n r).mono ?_;rintro i l ⟨j,m⟩;obtain⟨e,d,rfl⟩:=Ab j;exact⟨⟨e,d,rfl,j⟩,m⟩
variable{w:W}{a:O'}
def BE{r:List W9}(d:P0 w a V)(h:JY V r):∀j∈V,P6 j r:=by
 intro j b;have g:=h.2.2 j b;obtain⟨k,i,rfl⟩:=cA.1 b;obtain⟨_,_,_,_,f⟩:=d.at_ (aE (by omega));obtain⟨_,_,_,_,_,_,_,_,_,e⟩:=f k i;exact Uh g (Gd e.table)
def Eu(y:O')(M:Nat)(e:List V6)(z:O')(O:Nat)(b:List W9)(file pre:B8)(d:W)(d7:e.length*80<=140737488351232)(d8:∀j∈e,j.table.length*56<=140737488351232)(o:P0 d y e)(x:U2 d z b)(ec:b.length*24<=140737488351232)(cd:b.length<=maxLen)(d6:file.length<=maxLen)(bX:pre.length<=maxLen):C' 5 #[.slice y e.length M,.slice z b.length O,S file,S pre] d fun i a=>i=.returned (.bool true)/\Below d.heap.size d a:=by
 have fv:e.length<=maxLen:=by unfold maxLen;omega
 have d0:=I (fun(a:W) (f:Below d.heap.size d a)=>PA z O b a ec (x.j f));have dv:=I (fun(a:W) (f:Below d.heap.size d a)=>Si y M e a (o.j f) d7 d8);have am:=I (fun(a:W) q n (c:a.ownsRow n 63 2 (R q (b.length+8) (b.length+8)) (b.length+8) (zX (Qx b 8)))=>(Yy (by rw[Vr]at c;exact c) x.ok:U2 a (some (A q 0)) b));have ds:=I (fun(a:W) n g (c:M6 a n g e)=>M6.av c o);have dd:=I (fun g q (a:W) (h1:P0 a (some (A g 0)) e) (C:U2 a (some (A q 0)) b)=>RW (some (A g 0)) (e.length+8) e (some (A q 0)) (b.length+8) b file pre a fv (by omega) h1 C cd d6 bX);have er:=I (fun q (a:W) (C:U2 a (some (A q 0)) b)=>RW none 0 [] (some (A q 0)) (b.length+8) b [] pre a (aG _) (aA _) ⟨fun c=>absurd rfl c⟩ C cd (aG _) bX);have fn:=I (fun q n (a:W) (f:Below d.heap.size d a) c=>LD z O q n b a ec (x.j f) c);have fl:=I (fun g n (a:W) (f:Below d.heap.size d a) c=>IZ y M g n e a (o.j f) d7 d8 c);have e7:=I (fun(a:W) (f:Below d.heap.size d a)=>Ca y M e z O b a fv (o.j f) (x.j f) cd);have eq:=I (fun(a:W) (f:Below d.heap.size d a) ea=>Oa y M e z O b file pre a (o.j f) (x.j f) cd d6 bX ea);have es:=I (fun ea=>BE (r:=b) o ea);clear o x ec d6 bX d8 d7;go_enter Tryz.func5,Tryz.ntmps5;go_wp2_with fail;refine(d0.o d (k8 _ _)).mono ?_;rintro i w1 ⟨q,rfl,E,fr⟩;have fa:=I E;have P:=I fr;clear E fr;go_wp2_with fail;refine(dv.o w1 P.o).mono ?_;rintro i w2 ⟨g,rfl,D,d1⟩;have dr:=I D;have dT:=I (jy fa.o d1);have ce:=I (P.o.trans (d1.mono P.o.size));clear D d1 fa P;go_wp2_with fail;refine(dd.o g q w2 (ds.o _ _ _ dr.o) (am.o _ _ _ dT.o)).mono ?_;rintro i w3 ⟨⟨f8,fe,rfl,H⟩,be⟩;have B:=I H;have e2:=I (dr.o.j be);have fb:=I (jy dT.o be);have ci:=I (ce.o.trans (be.mono ce.o.size));clear H be dr dT ce;obtain⟨p,r,s,u⟩:=f8;go_upto_region 4 with fail;obtain⟨h,eg,_,K⟩:=jJ w3 #[S p,S r,S s,S u] 40;generalize w3.alloc (.cells #[.string ⟨p.toArray⟩,.string ⟨r.toArray⟩,.string ⟨s.toArray⟩,.string ⟨u.toArray⟩] 40)=w4 at *;have e3:=I (e2.o.j h);have dW:=I (jy fb.o h);have T:=I (ci.o.trans (h.mono ci.o.size));have ev:=I K;clear h eg K e2 fb ci;generalize w3.heap.size=pa at *;go_wp2_with fail;refine(fn.o q _ w4 T.o dW.o).mono ?_;rintro i w5 ⟨rfl,F⟩;have e4:=I (e3.o.j F);have fc:=I (jy dW.o F);have U:=I (T.o.trans (F.mono T.o.size));have eC:=I (jd F ev.o);clear F e3 dW T ev;go_wp2_with fail;refine(fl.o g _ w5 U.o e4.o).mono ?_;rintro i w6 ⟨rfl,bi⟩;have fd:=I (jy fc.o bi);have co:=I (U.o.trans (bi.mono U.o.size));have eM:=I (jd bi eC.o);clear bi e4 fc U eC;go_wp2_with fail;refine(er.o q w6 (am.o _ _ _ fd.o)).mono ?_;rintro i w7 ⟨⟨x0,gb,rfl,_⟩,d2⟩;have V:=I (co.o.trans (d2.mono co.o.size));have eP:=I (jd d2 eM.o);clear d2 fd co eM fn fl er;go_wp2_with fail;refine(dv.o w7 V.o).mono ?_;rintro i w8 ⟨g2,rfl,D,d3⟩;have e5:=I D;have X:=I (V.o.trans (d3.mono V.o.size));have eR:=I (jd d3 eP.o);clear D d3 V eP;go_wp2_with fail;refine(d0.o w8 X.o).mono ?_;rintro i w9 ⟨q2,rfl,E,bv⟩;have ff:=I E;have e6:=I (e5.o.j bv);have cs:=I (X.o.trans (bv.mono X.o.size));have eS:=I (jd bv eR.o);clear E bv e5 X eR;go_wp2_with fail;refine(dd.o g2 q2 w9 (ds.o _ _ _ e6.o) (am.o _ _ _ ff.o)).mono ?_;rintro i wA ⟨⟨x',ga,rfl,H⟩,d4⟩;obtain⟨h1,C⟩:=Ns (B.o.same H);subst h1 C;have da:=I (cs.o.trans (d4.mono cs.o.size));have e0:=I (jd d4 eS.o);clear H d4 e6 ff cs eS dv d0 am ds dd;go_upto_region 8 with fail;obtain⟨h,eg,_,K⟩:=jJ wA #[S p,S r,S s,S u] 40;generalize wA.alloc (.cells #[.string ⟨p.toArray⟩,.string ⟨r.toArray⟩,.string ⟨s.toArray⟩,.string ⟨u.toArray⟩] 40)=wB at *;have Y:=I (da.o.trans (h.mono da.o.size));have dl:=I (jd h e0.o);generalize wA.heap.size=pb at *;obtain⟨a1,a2,a3,a4⟩:=Jc dl.o;obtain⟨b1,b2,b3,b4⟩:=Jc K;clear h eg K da e0;have gd:(fe !=fe)=false:=by simp
 go_wp2_with fail;clear a1 a2 a3 a4 b1 b2 b3 b4;refine(e7.o wB Y.o).mono ?_;rintro i wC ⟨⟨bb,rfl,h⟩,d5⟩;have l:=I (Y.o.trans (d5.mono Y.o.size));have ac:=I (jd d5 dl.o);obtain⟨a1,a2,a3,a4⟩:=Jc ac.o;clear d5 Y dl;cases bb with
 | false=>
  obtain⟨L,rfl⟩:=Cw B.o (fun c=>by have:=h.2 c;cases this);simp only[V5.mk.injEq]at L;obtain⟨rfl,rfl,rfl,rfl⟩:=L;clear h;go_wp2;go_ret;exact⟨rfl,l.o⟩
 | true=>
  have ap:=I (h.1 rfl);clear h a1 a2 a3 a4;go_wp2_with fail;refine(eq.o wC l.o ap.o).mono ?_;rintro i wD ⟨w,⟨hc,rfl⟩|⟨X9,f6,la,lc,hs,hf,hw,rfl,fw,gg⟩⟩
  ·obtain⟨L,rfl⟩:=DG B.o ap.o hc;simp only[V5.mk.injEq]at L;obtain⟨rfl,rfl,rfl,rfl⟩:=L;have Z:=I (l.o.trans (w.mono l.o.size));obtain⟨a1,a2,a3,a4⟩:=Jc (jd w ac.o);clear w hc;go_wp2;go_ret;exact⟨rfl,Z.o⟩
  ·obtain⟨ft,rfl⟩:=IR B.o ap.o (es.o ap.o) hs hf hw;have Z:=I (l.o.trans (w.mono l.o.size));have e1:=I (jd w ac.o);have f7:pa<wD.heap.size:=(aF.1 e1.o).1;have f3:=I ft;have f4:=I fw;clear w hs hf hw ft fw B es eq e7 l ac;generalize Jb (Xe pre b f6 X9) (xE e b)=m at *;go_wp2;go_loopw [20] (fun em wr=>∃k:Nat,k<=m.length/\em=N k/\V5.mk p r s u∉m.take k/\Below wD.heap.size wD wr) (fun em _=>m.length-(intOf em).toNat)
   case atStart=>exact⟨0,aG _,rfl,by simp,k8 _ _⟩
   case round=>
    obtain⟨k,hk,rfl,f1,v⟩:=hrel;have fk:=I f1;have HB:=I v;have f2:=I (Z.o.trans (v.mono Z.o.size));clear f1;by_cases fz:k<m.length
    ·have ge:(k:Int)<(m.length:Int):=(by omega);obtain⟨f9,rfl,gc,fs⟩:=(f4.o.j v).at_ (aE (by omega));obtain⟨g1,g2,g3,g4⟩:=fs k fz;obtain⟨a1,a2,a3,a4⟩:=Jc (jd v e1.o);have gi:=aC f7 v.size;have f5:=I (aH fz);clear fs v;generalize m[k]=t at *;obtain⟨t1,t2,t3,t4⟩:=t;simp only at g1 g2 g3 g4;by_cases G:V5.mk p r s u=V5.mk t1 t2 t3 t4
     ·simp only[V5.mk.injEq]at G;obtain⟨rfl,rfl,rfl,rfl⟩:=G;go_wp2_with fail;go_quiet(fail);go_wp2;go_ret;exact⟨rfl,below_drewN f2.o nq⟩
     ·have HN:J (V5.mk p r s u∉m.take (k+1)):=by
       show _∉_;rw[f5.o,aX,cQ];rintro(c|c)
       ·exact fk.o c
       ·exact G c
      have hq:=LJ G;clear G;rcases hq with qn|⟨rfl,qn⟩|⟨rfl,rfl,qn⟩|⟨rfl,rfl,rfl,qn⟩
      all_goals
       go_wp2_with fail;go_quiet(fail);go_wp2_with fail;go_roundw
       ·exact⟨k+1,by omega,by go_num,HN.o,below_drewN HB.o nq⟩
       ·simp[intOf];omega
    ·exfalso;have c:=fk.o;rw[aU (by omega)]at c;exact c f3.o
end Go.Proofs.YthhpbhpfagoapaaGreat
