import Derived.Test.YthhpbhpfagoapaaGreatGBO
import Derived.Test.YthhpbhpfagoapaaGreatGBL
namespace Go.Proofs.YthhpbhpfagoapaaGreat
set_option linter.all false
set_option maxRecDepth 100000
set_option maxHeartbeats 16000000
open Go.RowKit
section
theorem U5.aside{c h b m l:Nat}{x y:W}{v g:Value}{o:List Value}{F:Nat->U1}{n:Nat}{Vs:Nat->Value}(a:U5 c x v F n Vs)(d:x.grownBy y g.ownBlock)(f:x.ownsRow h b m g l o)(i:91≠b)(k:58≠b):U5 c y v F n Vs :=
 ⟨a.row.kept d (qd a.row f i),fun j e=>(a.cells j e).kept d (qd (a.cells j e) f k),a.small,a.apart⟩
theorem U5.under{b c:Nat}{x y:W}{v:Value}{F:Nat->U1}{n:Nat}{Vs:Nat->Value}(a:U5 b x v F n Vs)(e:x.grownBy y (some c))(d:c<b):U5 b y v F n Vs :=
 ⟨a.row.kept e (QK a.row d),fun j f=>(a.cells j f).kept e (QK (a.cells j f) d),a.small,a.apart⟩
theorem P5.aside{x y:W}{d e k a v t:Nat}{X9:V7}{j:Value}{w:List Value}(m:P5 x d e X9)(b:x.grownBy y j.ownBlock)(c:x.ownsRow k a v j t w)(n:179≠a)(o:61≠a)(p:161≠a)(q:9≠a)(r:167≠a):P5 y d e X9:=by
 obtain⟨cv,sv,u,l,s,f,g,h,i⟩:=m;exact⟨cv,sv,u,l,jq b c s n,f.kept b (qd f c o),g.kept b (qd g c p),h.kept b (qd h c q),i.kept b (qd i c r)⟩
theorem P5.box{x y:W}{e f d:Nat}{X9:V7}{k:V'}(n:P5 x e f X9)(b:x.grownBy y (some d))(a:x.heap[d]?=some (.cells k 106 (0,0))):P5 y e f X9:=by
 obtain⟨cv,sv,p,m,c,g,h,i,j⟩:=n;have o:e≠d:=by
  intro l;subst l;rw[a]at c;injection c with c
  injection c with _ k6 _
  exact absurd k6 (by decide)
 exact⟨cv,sv,p,m,qL b c o,g.kept b (xt g a (by decide)),h.kept b (xt h a (by decide)),i.kept b (xt i a (by decide)),j.kept b (xt j a (by decide))⟩
structure RAt (x w:W) (fb ob:Nat) (f:U0) (fv sv:Value) (F:Nat->U1) (k:Nat) (Vs:Nat->Value) (Z:List V5):Prop where
 below:Below w.heap.size w x
 lo:w.heap.size<=fb
 lt:fb<ob
 file:x.heap[fb]?=some (.cells (E4 f) 169 (0,0))
 o:x.heap[ob]?=some (.cells #[fv,sv] 106 (0,0))
 found:U5 (ob+1) x fv F k Vs
 ad:x.ownsRow (ob+1) 40 4 sv Z.length (qg Z)
section
variable {x y w:W} {fb ob:Nat} {f:U0} {fv sv:Value} {F:Nat->U1} {k:Nat} {Vs:Nat->Value} {Z:List V5}
def RAt.size(a:RAt x w fb ob f fv sv F k Vs Z):ob+1<=x.heap.size:=e8 (aF.1 a.o).1
def RAt.j(a:RAt x w fb ob f fv sv F k Vs Z)(b:Below x.heap.size x y):RAt y w fb ob f fv sv F k Vs Z:=⟨a.below.trans (b.mono a.below.size),a.lo,a.lt,jd b a.file,jd b a.o,a.found.j b,jy a.ad b⟩
def RAt.alloc(a:RAt x w fb ob f fv sv F k Vs Z)(o:Obj):RAt (x.alloc o) w fb ob f fv sv F k Vs Z:=a.j ((k8 x.heap.size x).alloc (aA _) o)
def RAt.drew(a:RAt x w fb ob f fv sv F k Vs Z):RAt x.drew w fb ob f fv sv F k Vs Z:=a.j (qD (k8 x.heap.size x))
def RAt.al(a:RAt x w fb ob f fv sv F k Vs Z):x.cell? (A fb 1)=some (N f.R)/\x.cell? (A fb 4)=some (S f.I)/\x.cell? (A fb 5)=some (S f.body):=by
 obtain⟨_,b,_,_,c,d⟩:=Xo a.file;exact⟨b,c,d⟩
def RAt.a5(a:RAt x w fb ob f fv sv F k Vs Z)(c:Nat)(d:V'){i:V'}(l:ob+1<=c)(e:x.heap[c]?=some (.cells i 40 (0,0)))(h:sv.ownBlock=none\/sv.ownBlock≠some c):RAt (x.setRow c d) w fb ob f fv sv F k Vs Z:=by
 have b:=Zo x c d;have:=a.lo;have:=a.lt;exact⟨a.below.trans (jn b (by omega) a.below.size),a.lo,a.lt,qL b a.file (by omega),qL b a.o (by omega),⟨a.found.row.kept b (xt a.found.row e (by decide)),fun j g=>(a.found.cells j g).kept b (xt (a.found.cells j g) e (by decide)),a.found.small,a.found.apart⟩,a.ad.kept b h⟩
theorem RAt.aw(a:RAt x w fb ob f fv sv F k Vs Z){b:Value}{Z':List V5}(c:x.grownBy y sv.ownBlock)(g:y.ownsRow (ob+1) 40 4 b Z'.length (qg Z')):RAt (y.setCell (A ob 1) b) w fb ob f fv b F k Vs Z':=by
 have j:=a.lo;have l:=a.lt;have i:=xV c a.ad a.o (by omega);have d:=Qk y ob 1 b;have e:=QD a.below c (fun k h=>by have:=(a.ad.lt k h).1;omega);refine⟨e.trans (jn d (by omega) e.size),a.lo,a.lt,qL d (xV c a.ad a.file (by omega)) (by omega),?_,(a.found.aside c a.ad (by decide) (by decide)).under d (by omega),g.kept d (QK g (by omega))⟩;rw[kj y ob 1 _ _ b i];rfl
theorem RAt.b5(a:RAt x w fb ob f fv sv F k Vs Z){c e:Value}{B:Nat}(i:∀j,j<k->∀g,(Vs j).ownBlock=some g->g<B)(r:x.ownsRow B 58 3 e (F k).cells.length (jL (F k).cells))(l:ob+1<=B)(p:∀s∈(F k).cells,qI s)
  (b:x.grownBy y fv.ownBlock)(n:y.ownsRow (ob+1) 91 5 c (k+1) (Xt F Vs k++GW (F k) e)):RAt (y.setCell (A ob 0) c) w fb ob f c sv F (k+1) (fun j=>if j=k then e else Vs j) Z:=by
 have t:=a.lo;have u:=a.lt;have o:=xV b a.found.row a.o (by omega);have d:=Qk y ob 0 c;have h:=QD a.below b (fun k m=>by have:=(a.found.row.lt k m).1;omega);have q:=a.found.step i r l p b n;refine⟨h.trans (jn d (by omega) h.size),a.lo,a.lt,qL d (xV b a.found.row a.file (by omega)) (by omega),?_,q.under d (by omega),(a.ad.kept b (qd a.ad a.found.row (by decide))).kept d (QK (a.ad.kept b (qd a.ad a.found.row (by decide))) (by omega))⟩;rw[kj y ob 0 _ _ c o];rfl
end
theorem zR{w:W}{q:Nat}{a b:Value}{t:TypeId}(c:w.heap[q]?=some (.cells #[a,b] t (0,0))):w.cell? (A q 0)=some a/\w.cell? (A q 1)=some b:=by
 refine⟨?_,?_⟩<;>rw[kC w q _ _ _ (0,0) c]<;>rfl
theorem AZ{file:B8}{f:U0}(c:xL file=some f):f.parts.length<=65000/\f.footer.length<=65000/\f.I.length=4/\f.body.length<=65000/\f.R<=9:=by
 obtain⟨a,d⟩:=Uz c;have b:=a.short;have e:=a.lens;refine⟨?_,by omega,a.I,by omega,a.R.2⟩;unfold xN at b;simp only[aB]at b;omega
def NR(pre:B8)(r:List W9)(f:U0):List V5:=if f.told=true then[]else[xT pre r f]
def Nq(pre:B8)(r:List W9)(f:U0)(trust:Bool):List V5:=if(f.told&&trust)=true then[]else[xT pre r f]
def KT(pre:B8)(r:List W9)(f:U0)(X9:V7)(trust:Bool)(k:Nat):List V5:=Nq pre r f trust++(List.range k).flatMap (CV pre r X9)
section
variable {pre:B8} {r:List W9} {f:U0} {X9:V7} {trust:Bool}
def So(a:f.told=true):NR pre r f=[]:=aQ a
def Hi(a:f.told=false):NR pre r f=[⟨jh r (f.R:Int),f.I,jz pre 70 0 0 0,f.body⟩]:=by
 unfold NR xT;simp[a]
def Pz(a:(f.told && !trust)=false):Nq pre r f trust=NR pre r f:=by
 unfold Nq NR;cases b:f.told<;>cases trust<;>simp_all
def Pt(a:(f.told && !trust)=true):Nq pre r f trust=NR pre r f++[⟨jh r (f.R:Int),f.I,jz pre 83 0 0 0++f.footer,f.body⟩]:=by
 unfold Nq NR xT;cases b:f.told<;>cases trust<;>simp_all
def Vf(k:Nat):KT pre r f X9 trust (k+1)=KT pre r f X9 trust k++CV pre r X9 k:=by
 unfold KT;rw[cI,cE,aD];simp
def BM:KT pre r f X9 false X9.U.length=Xe pre r f X9:=by
 unfold KT Nq Xe;rw[aL (by simp)];rfl
end
def jen(file pre:B8)(r:List W9)(trust:Bool)(w:W)(e:Ending)(a:W):Prop:=Below w.heap.size w a/\((∃c,qJ file pre r trust=(c,none)/\c≠0/\e=.returned (.tuple #[.pointer none,N c])) \/
  ∃X9 f b d g sv,qJ file pre r trust=(0,some X9)/\xL file=some f/\e=.returned (.tuple #[(Q b 0),N 0])/\a.cell? (A b 0)=some (.slice d X9.U.length g)/\E2 a d (qq pre r X9) X9.U.length/\a.cell? (A b 1)=some sv/\a.ownsRow w.heap.size 40 4 sv (KT pre r f X9 trust X9.U.length).length (qg (KT pre r f X9 trust X9.U.length))/\(KT pre r f X9 trust X9.U.length).length<=200000)
end
section
def EJ(f:U0)(pre:B8)(r:List W9)(trust:Bool)(a:B8):Int×Option V7:=match zH f.R f.parts a with
 | none=>(9,none)
 | some X9=>if(f.told && !trust)=true then(if jG r (f.R:Int)=false then(8,none)else if qE (jh r (f.R:Int)) f.I (jz pre 83 0 0 0++a) f.body=some []then(0,some X9)else(4,none))else(0,some X9)
section
variable {file pre:B8} {r:List W9} {trust:Bool} {f:U0}
def CA(b:¬20<pre.length)(c:xD r=true)(a:xL file=some f)(d:f.told=true):qJ file pre r trust=EJ f pre r trust f.footer:=by
 unfold qJ EJ;rw[aL b,aL (by rw[c];decide),a];simp only[d,db,ep];cases zH f.R f.parts f.footer with
 | none=>rfl
 | some X9=>cases trust<;>simp
def BJ(c:¬20<pre.length)(d:xD r=true)(a:xL file=some f)(e:f.told=false)(b:jG r (f.R:Int)=false):qJ file pre r trust=(8,none):=by
 unfold qJ;rw[aL c,aL (by rw[d];decide),a];simp[e,b]
def Pc(d:¬20<pre.length)(e:xD r=true)(a:xL file=some f)(g:f.told=false)(b:jG r (f.R:Int)=true)(c:qE (jh r (f.R:Int)) f.I (jz pre 70 0 0 0) f.body=none):qJ file pre r trust=(4,none):=by
 unfold qJ;rw[aL d,aL (by rw[e];decide),a];simp[g,b,c]
theorem PJ(e:¬20<pre.length)(g:xD r=true)(b:xL file=some f)(h:f.told=false)(c:jG r (f.R:Int)=true){a:B8}(d:qE (jh r (f.R:Int)) f.I (jz pre 70 0 0 0) f.body=some a):qJ file pre r trust=EJ f pre r trust a:=by
 unfold qJ EJ;rw[aL e,aL (by rw[g];decide),b];simp only[h,c,d,eY];cases zH f.R f.parts a<;>simp
def BO{d c b body p:B8}(a:qE d c b body=some p):p.length<=65535:=by
 unfold qE at a;split at a
 ·rename_i e;injection a with a
  subst a;rw[zS,aM];omega
 ·cases a
end
def F0:Nat->U1:=fun _=>⟨[],0,0,0,[]⟩
def V0:Nat->Value:=fun _=>V3
theorem RAt.begin{x w:W}{fb ob:Nat}{f:U0}{sv:Value}{F:Nat->U1}{Vs:Nat->Value}{Z:List V5}(a:RAt x w fb ob f V3 sv F 0 Vs Z)(c:Nat->U1)(d:Nat->Value):RAt x w fb ob f V3 sv c 0 d Z :=
 ⟨a.below,a.lo,a.lt,a.file,a.o,⟨kg _ _ _ _,fun j b=>absurd b (by omega),fun j b=>absurd b (by omega),fun e j _ b=>absurd b (by omega)⟩,a.ad⟩
theorem P5.c8{x y:W}{T f e:Nat}{X9:V7}{k:V'}{a:TypeId}(m:P5 x T f X9)(c:x.grownBy y (some e))(b:x.heap[e]?=some (.cells k a (0,0)))(n:179≠a)(o:61≠a)(p:161≠a)(q:9≠a)(r:167≠a):P5 y T f X9:=by
 obtain⟨cv,sv,t,l,d,g,h,i,j⟩:=m;have s:T≠e:=by
  intro a;subst a;rw[b]at d;injection d with d
  injection d with _ k6 _
  exact n k6.symm
 exact⟨cv,sv,t,l,qL c d s,g.kept c (xt g b o),h.kept c (xt h b p),i.kept c (xt i b q),j.kept c (xt j b r)⟩
structure K7 (T tb:Nat) (X9:V7) (x w:W) (fb ob:Nat) (f:U0) (fv sv:Value) (F:Nat->U1) (k:Nat) (Vs:Nat->Value) (Z:List V5):Prop extends RAt x w fb ob f fv sv F k Vs Z where
 told:P5 x T tb X9
section
variable {x y w:W} {T tb:Nat} {X9:V7} {fb ob:Nat} {f:U0} {fv sv:Value} {F:Nat->U1} {k:Nat} {Vs:Nat->Value} {Z:List V5}
def K7.j(a:K7 T tb X9 x w fb ob f fv sv F k Vs Z)(b:Below x.heap.size x y):K7 T tb X9 y w fb ob f fv sv F k Vs Z:=⟨a.toRAt.j b,a.told.j b⟩
def K7.alloc(a:K7 T tb X9 x w fb ob f fv sv F k Vs Z)(o:Obj):K7 T tb X9 (x.alloc o) w fb ob f fv sv F k Vs Z:=a.j ((k8 x.heap.size x).alloc (aA _) o)
def K7.drew(a:K7 T tb X9 x w fb ob f fv sv F k Vs Z):K7 T tb X9 x.drew w fb ob f fv sv F k Vs Z:=a.j (qD (k8 x.heap.size x))
def K7.a5(c:K7 T tb X9 x w fb ob f fv sv F k Vs Z)(a:Nat)(b:V'){h:V'}(g:ob+1<=a)(d:x.heap[a]?=some (.cells h 40 (0,0)))(e:sv.ownBlock=none\/sv.ownBlock≠some a):K7 T tb X9 (x.setRow a b) w fb ob f fv sv F k Vs Z:=⟨c.toRAt.a5 a b g d e,c.told.c8 (Zo x a b) d (by decide) (by decide) (by decide) (by decide) (by decide)⟩
end
def Ym(x:W)(a:Option Nat):x.grownBy x a:=⟨rfl,rfl,rfl,aA _,fun _ _ _=>rfl⟩
def BZ(x:W)(b a:V')(t:TypeId):Below x.heap.size x ((x.alloc (.cells b t)).setRow x.heap.size a):=by
 have c:=(k8 x.heap.size x).alloc (aA _) (.cells b t);exact c.trans (jn (Zo _ x.heap.size a) (aA _) c.size)
theorem RE{file:B8}{f:U0}{a:B8}{X9:V7}(d:xL file=some f)(b:U8 f.R f.parts a X9):a.length<=4200:=by
 have g:=AZ d;exact Xm (fun x e=>by
  have c:=XA _ _ _ _ x e;rw[<-b.parts]at c;omega) b
end
def DN(file pre:B8)(ra:O')(eM:Nat)(n:List W9)(O:Bool)(w:W)(iO:file.length<=maxLen)(j0:pre.length<=maxLen)(gT:n.length<=maxLen)(hl:U2 w ra n):C' 38 #[S file,S pre,.slice ra n.length eM,.bool O] w (jen file pre n O w):=by
 have HL:=I hl;clear hl;go_enter Tryz.func38,Tryz.ntmps38;by_cases hp:20<pre.length
 ·have im:(20:Int)<(pre.length:Int):=by omega
  have d0:J (qJ file pre n O=(7,none)):=by show _=_;unfold qJ;rw[aQ hp]
  go_wp2;go_ret2;exact⟨k8 _ _,.inl ⟨7,d0.o,by decide,rfl⟩⟩
 ·have im:¬(20:Int)<(pre.length:Int):=by omega
  have gw:pre.length<=20:=by omega
  have HP:=I hp;clear hp;go_wp2_with fail;clear im;refine(RP ra eM n w gT HL.o).mono ?_;rintro x w1 ⟨rfl,co⟩;have g3:=I co;clear co;cases hr:xD n with
  | false=>
   have d0:J (qJ file pre n O=(1,none)):=by show _=_;unfold qJ;rw[aL HP.o,aQ hr]
   go_wp2;go_ret2;exact⟨g3.o,.inl ⟨1,d0.o,by decide,rfl⟩⟩
  | true=>
   have HR:=I hr;clear hr;go_wp2_with fail;refine(MM file w1 iO).mono ?_;rintro x w2 ⟨ac,hx⟩;have g4:=I (g3.o.trans (ac.mono g3.o.size));clear ac g3;obtain⟨ig,_,_,il⟩:=jJ w2 U4 169;have HX:=I il;have f4:=I (g4.o.trans (ig.mono g4.o.size));have hJ:=g4.o.size;clear ig il;rcases hx with⟨hn,hc,⟨ih,iK⟩,rfl⟩|⟨a,hf,rfl⟩
   ·rw[Cb]at hn;have d0:J (qJ file pre n O=(9,none)):=by show _=_;unfold qJ;rw[aL HP.o,aL (by rw[HR.o];decide),hn]
    have iL:(Tryz.prog.info? 169).map (·.size)=some hc.size:=(by rw[ih];kernel_rfl);clear hn;go_wp2_with(refine kl rfl 169 (.tmp 11) (.tmp 36) rfl w2.heap.size hc rfl rfl 169 U4 HX.o iL ih.symm iK ?_);have iu:=I (f4.o.trans (jn (Zo (w2.alloc (.cells U4 169)) w2.heap.size hc) hJ f4.o.size));generalize iY:(w2.alloc _).setRow _ _=we at *;clear iY;go_wp2;go_ret2;exact⟨iu.o,.inl ⟨9,d0.o,by decide,rfl⟩⟩
   ·rw[Cb]at hf;have HF:=I hf;obtain⟨iS,i9,ja,jc,jj⟩:=AZ hf;clear hf;go_upto_region 9 with(refine kl rfl 169 (.tmp 11) (.tmp 36) rfl w2.heap.size (E4 a) rfl rfl 169 U4 HX.o (by kernel_rfl) rfl (by simp[Value.oneCell']) ?_);have f3:=I (f4.o.trans (jn (Zo (w2.alloc (.cells U4 169)) w2.heap.size (E4 a)) hJ f4.o.size));have g5:=I (kr (w2.alloc (.cells U4 169)) w2.heap.size _ (E4 a) 169 (0,0) HX.o);generalize iW:(w2.alloc _).setRow _ _=w3 at *;clear iW HX f4 g4;generalize iM:w2.heap.size=u at *;clear iM;obtain⟨c0,c1,c2,c3,c4,c5⟩:=Xo g5.o;go_cut [13] (fun bv wd=>bv=.bool (jG n (a.R:Int))/\Below w.heap.size w wd/\wd.heap[u]?=some (.cells (E4 a) 169 (0,0)))
    case first=>
     go_wp2_with fail;refine(JS ra eM n (a.R:Int) w3 gT (HL.o.j f3.o)).mono ?_;rintro x w4 ⟨rfl,hy⟩;have hU:=I (f3.o.trans (hy.mono f3.o.size));have hV:=I (jd hy g5.o);clear hy f3 g5 c0 c1 c2 c3 c4 c5;cases hs:jG n (a.R:Int)with
     | false=>
      rw[(Xa HR.o).2 hs];go_wp2;go_meet
      ·exact⟨by rw[hs],hU.o,hV.o⟩
     | true=>
      obtain⟨gb,g0,ec⟩:∃gb g0,jh n (a.R:Int)=gb::g0:=by
       have h8:=JB HR.o hs
       match hq:jh n (a.R:Int)with
       | []=>rw[hq]at h8;cases h8
       | gb::g0=>exact⟨gb,g0,rfl⟩
      rw[ec];go_wp2;go_meet
      ·exact⟨by rw[hs],hU.o,hV.o⟩
    case rest=>
     obtain⟨fl,h7,ia⟩:=hcut;subst fl;have he:=I h7;have hg:=I ia;clear h7 ia f3 g5 c0 c1 c2 c3 c4 c5;obtain⟨th,hI⟩:∃th,jG n (a.R:Int)=th:=⟨_,rfl⟩;have ff:=I hI;rw[hI];clear hI;obtain⟨hB,_,_,eC⟩:=jJ wc #[V3,V3] 106;have iN:u<wc.heap.size:=(aF.1 hg.o).1;have bX:J (RAt (wc.alloc (.cells #[V3,V3] 106)) w u wc.heap.size a V3 V3 F0 0 V0 []):=⟨he.o.trans (hB.mono he.o.size),hJ,iN,jd hB hg.o,eC,⟨kg _ _ _ _,fun j hj=>absurd hj (by omega),fun j hj=>absurd hj (by omega),fun fw j _ hj=>absurd hj (by omega)⟩,kg _ _ _ _⟩;clear hB eC he hg;go_upto_region 11 with fail;generalize iJ:wc.alloc _=WQ at *;clear iJ;generalize iV:wc.heap.size=f at *;clear iV;obtain⟨c0,c1,c2,c3,c4,c5⟩:=Xo bX.o.file;go_upto_if 51 with fail;clear c1 c2 c3 c4 c5;go_cut [15,51] (fun iE _ wd=>∃l sv i,iE=S l/\RAt wd w u f a V3 sv F0 0 V0 i/\NR pre n a=i/\i.length<=1/\(a.told=true->l=a.footer)/\l.length<=65535/\qJ file pre n O=EJ a pre n O l)
     case first=>
      cases ht:a.told with
      | true=>
       refine gC rfl ?_;go_wp2;go_meet
       ·exact⟨a.footer,V3,[],rfl,bX.o,So ht,by simp,fun _=>rfl,by omega,CA HP.o HR.o HF.o ht⟩
      | false=>
       refine gH rfl ?_;have HT:=I ht;clear c0 ht;cases th with
       | false=>
        have d0:=I (BJ (trust:=O) HP.o HR.o HF.o HT.o ff.o);go_wp2;go_ret2;exact⟨bX.o.below,.inl ⟨8,d0.o,by decide,rfl⟩⟩
       | true=>
        have hH:(jh n (a.R:Int)).length=8:=JB HR.o ff.o;have ec:=zL pre 70 0 0 0 gw;obtain⟨e,fn⟩:∃e,e=jh n (a.R:Int):=⟨_,rfl⟩;obtain⟨bd,d2⟩:∃bd,bd=jz pre 70 0 0 0:=⟨_,rfl⟩;rw[<-d2]at ec;obtain⟨M,eC⟩:∃M,M=(qE (jh n (a.R:Int)) a.I (jz pre 70 0 0 0) a.body).isSome:=⟨_,rfl⟩;have eP:=I eC;have fd:J (∀z,C' 86 #[S pre,S [70],N 0,N 0,N 0] z fun x w2=>x=.returned (S bd)/\Below z.heap.size z w2):=fun z=>by
         rw[d2];exact Kt pre 70 0 0 0 z gw (by decide) (by decide) (by decide)
        have eR:J (∀z,U2 z ra n->C' 89 #[.slice ra n.length eM,N a.R,S bd,.agg #[S a.I,S a.body]] z fun x w2=>Below z.heap.size z w2/\∃p,x=.returned (.tuple #[.agg #[S e,S a.I,S bd,S a.body],S p,.bool M])/\∀q,qE (jh n (a.R:Int)) a.I (jz pre 70 0 0 0) a.body=some q->p=q):=fun z D=>by
         have h2:=GN ra eM n (a.R:Int) (jz pre 70 0 0 0) a.I a.body z D gT (by omega) (by omega) (by rw[<-d2];omega) (by unfold maxLen;omega);rw[eC,fn,d2];exact h2
        have ga:J (NR pre n a=[⟨e,a.I,bd,a.body⟩]):=by
         show _=_;rw[fn,d2];exact Hi HT.o
        clear fn d2 eC hH;go_upto_region 15 with fail;go_cut [16,17,18] (fun bv pv ov wd=>∃m p e1,bv=(Q m 0)/\pv=S p/\ov=.bool e1/\e1=(qE (jh n (a.R:Int)) a.I (jz pre 70 0 0 0) a.body).isSome/\(∀q,qE (jh n (a.R:Int)) a.I (jz pre 70 0 0 0) a.body=some q->p=q)/\RAt wd w u f a V3 V3 F0 0 V0 []/\f+1<=m/\wd.heap[m]?=some (.cells #[S e,S a.I,S bd,S a.body] 40 (0,0))/\(V3.ownBlock=none\/V3.ownBlock≠some m))
        case first=>
         have k:=bX.o.al;refine k9 (S:=fun z=>z.cell? (A u 1)=some (N a.R)/\z.cell? (A u 4)=some (S a.I)/\z.cell? (A u 5)=some (S a.body)) (by kernel_rfl) k (fun s=>?_);clear k;refine tk 0 (.slice ra n.length eM) ?_;refine tk 1 (Q u 1) ?_;refine tk 2 (N a.R) ?_;refine tk 3 (S pre) ?_;refine tk 5 (Q u 4) ?_;refine tk 6 (.agg #[S a.I,S a.body]) ?_;simp only[jA,jB,jC,Act.put,jD,jE,jF];refine kB (rs:=[4,12]) (by kernel_rfl) (by simp) ?_;refine km (o:=_) rfl (fun h d=>?_) (km (o:=_) rfl (fun h d=>?_) kz)
         ·simp only[jA,jB,jC];go_simp;go_at_call 86
          refine(fd.o _).mono ?_;rintro x y1 ⟨rfl,co⟩;replace co:=jg co;have b4:J (RAt y1 w u f a V3 V3 F0 0 V0 []):=bX.o.j co;have k:=b4.o.al;clear co;(try go_wp2_with fail);refine d.out _ _ k (fun s=>?_);clear d h k;(try simp only[jA,jB,jC,Act.put,jD,jE,jF]);refine kB (rs:=[7,12]) (by kernel_rfl) (by simp) ?_;refine km (o:=_) rfl (fun h d=>?_) (km (o:=_) rfl (fun h d=>?_) kz)
          ·simp only[jA,jB,jC];go_simp;go_at_call 89
           refine(eR.o _ (HL.o.j b4.o.below)).mono ?_;rintro x G ⟨ac,p,rfl,bi⟩;have ds:=I bi;have cd:J (RAt G w u f a V3 V3 F0 0 V0 []):=b4.o.j ac;have k:=cd.o.al;clear ac bi;(try go_wp2_with fail);refine d.out _ _ k (fun s=>?_);clear d h k;(try simp only[jA,jB,jC,Act.put,jD,jE,jF]);refine tk 8 (.tuple #[.agg #[S e,S a.I,S bd,S a.body],S p,.bool M]) ?_;refine tk 9 (.agg #[S e,S a.I,S bd,S a.body]) ?_;refine tk 10 (S p) ?_;refine tk 11 (.bool M) ?_;simp only[jA,jB,jC,Act.put,jD,jE,jF];refine rd 12 (fun h d=>?_);simp only[jA,jB,jC];go_simp;(try go_wp2_with fail);have cs:J (RAt (G.alloc (.cells V9 40)) w u f a V3 V3 F0 0 V0 []):=(cd.o.alloc (.cells V9 40));have dT:J ((G.alloc (.cells V9 40)).heap[G.heap.size]?=some (.cells V9 40 (0,0))):=(jJ G V9 40).2.2.2;have gd:=cd.o.size;have Y:=I (JT cd.o.ad (aA G.heap.size));have k:=cs.o.al;refine d.out _ _ k (fun s=>?_);clear d h k;(try simp only[jA,jB,jC,Act.put,jD,jE,jF]);generalize es:(G.alloc (.cells V9 40))=ya at *;clear es;generalize d4:G.heap.size=m at *;clear d4;refine rd 13 (fun h d=>?_);simp only[jA,jB,jC];rw[aQ (by simp[Region.wanted])];refine kL 40 (.tmp 16) (.tmp 63) rfl m #[S e,S a.I,S bd,S a.body] rfl rfl 40 V9 dT.o (by kernel_rfl) rfl (by simp[Value.oneCell']) ?_;have da:J (RAt (ya.setRow m #[S e,S a.I,S bd,S a.body]) w u f a V3 V3 F0 0 V0 []):=cs.o.a5 m #[S e,S a.I,S bd,S a.body] (by omega) dT.o Y.o;have d6:=I (kr ya m _ #[S e,S a.I,S bd,S a.body] 40 (0,0) dT.o);have k:=da.o.al;refine d.out _ _ k (fun s=>?_);clear d h k;(try simp only[jA,jB,jC,Act.put,jD,jE,jF]);refine tk 14 (S p) ?_;refine tk 15 (.bool M) ?_;simp only[jA,jB,jC,Act.put,jD,jE,jF];refine kp (by kernel_rfl) ?_ _;clear s;generalize er:ya.setRow _ _=y3 at *;clear er;go_wp2;go_meet
           ·exact⟨m,p,M,rfl,rfl,rfl,eP.o,ds.o,da.o,by omega,d6.o,Y.o⟩
          ·simp only[jA,jB,jC];go_simp;(try go_wp2_with fail);have cs:J (RAt (y1.alloc (.cells V9 40)) w u f a V3 V3 F0 0 V0 []):=(b4.o.alloc (.cells V9 40));have dT:J ((y1.alloc (.cells V9 40)).heap[y1.heap.size]?=some (.cells V9 40 (0,0))):=(jJ y1 V9 40).2.2.2;have gd:=b4.o.size;have Y:=I (JT b4.o.ad (aA y1.heap.size));have k:=cs.o.al;refine d.out _ _ k (fun s=>?_);clear d h k;(try simp only[jA,jB,jC,Act.put,jD,jE,jF]);generalize es:(y1.alloc (.cells V9 40))=ya at *;clear es;generalize d4:y1.heap.size=m at *;clear d4;refine rd 7 (fun h d=>?_);simp only[jA,jB,jC];go_simp;go_at_call 89
           refine(eR.o _ (HL.o.j cs.o.below)).mono ?_;rintro x G ⟨ac,p,rfl,bi⟩;have ds:=I bi;have cd:J (RAt G w u f a V3 V3 F0 0 V0 []):=cs.o.j ac;have dv:=I (jd ac dT.o);have k:=cd.o.al;clear ac bi;(try go_wp2_with fail);refine d.out _ _ k (fun s=>?_);clear d h k;(try simp only[jA,jB,jC,Act.put,jD,jE,jF]);refine tk 8 (.tuple #[.agg #[S e,S a.I,S bd,S a.body],S p,.bool M]) ?_;refine tk 9 (.agg #[S e,S a.I,S bd,S a.body]) ?_;refine tk 10 (S p) ?_;refine tk 11 (.bool M) ?_;simp only[jA,jB,jC,Act.put,jD,jE,jF];refine rd 13 (fun h d=>?_);simp only[jA,jB,jC];rw[aQ (by simp[Region.wanted])];refine kL 40 (.tmp 16) (.tmp 63) rfl m #[S e,S a.I,S bd,S a.body] rfl rfl 40 V9 dv.o (by kernel_rfl) rfl (by simp[Value.oneCell']) ?_;have da:J (RAt (G.setRow m #[S e,S a.I,S bd,S a.body]) w u f a V3 V3 F0 0 V0 []):=cd.o.a5 m #[S e,S a.I,S bd,S a.body] (by omega) dv.o Y.o;have d6:=I (kr G m _ #[S e,S a.I,S bd,S a.body] 40 (0,0) dv.o);have k:=da.o.al;refine d.out _ _ k (fun s=>?_);clear d h k;(try simp only[jA,jB,jC,Act.put,jD,jE,jF]);refine tk 14 (S p) ?_;refine tk 15 (.bool M) ?_;simp only[jA,jB,jC,Act.put,jD,jE,jF];refine kp (by kernel_rfl) ?_ _;clear s;generalize er:G.setRow _ _=y3 at *;clear er;go_wp2;go_meet
           ·exact⟨m,p,M,rfl,rfl,rfl,eP.o,ds.o,da.o,by omega,d6.o,Y.o⟩
         ·simp only[jA,jB,jC];go_simp;(try go_wp2_with fail);have cs:J (RAt (WQ.alloc (.cells V9 40)).drew w u f a V3 V3 F0 0 V0 []):=(bX.o.alloc (.cells V9 40)).drew;have dT:J ((WQ.alloc (.cells V9 40)).drew.heap[WQ.heap.size]?=some (.cells V9 40 (0,0))):=(jJ WQ V9 40).2.2.2;have gd:=bX.o.size;have Y:=I (JT bX.o.ad (aA WQ.heap.size));have k:=cs.o.al;refine d.out _ _ k (fun s=>?_);clear d h k;(try simp only[jA,jB,jC,Act.put,jD,jE,jF]);generalize es:(WQ.alloc (.cells V9 40)).drew=ya at *;clear es;generalize d4:WQ.heap.size=m at *;clear d4;refine rd 4 (fun h d=>?_);simp only[jA,jB,jC];go_simp;go_at_call 86
          refine(fd.o _).mono ?_;rintro x y1 ⟨rfl,co⟩;have b4:J (RAt y1 w u f a V3 V3 F0 0 V0 []):=cs.o.j co;have f7:=I (jd co dT.o);have k:=b4.o.al;clear co;(try go_wp2_with fail);refine d.out _ _ k (fun s=>?_);clear d h k;(try simp only[jA,jB,jC,Act.put,jD,jE,jF]);refine rd 7 (fun h d=>?_);simp only[jA,jB,jC];go_simp;go_at_call 89
          refine(eR.o _ (HL.o.j b4.o.below)).mono ?_;rintro x G ⟨ac,p,rfl,bi⟩;have ds:=I bi;have cd:J (RAt G w u f a V3 V3 F0 0 V0 []):=b4.o.j ac;have dv:=I (jd ac f7.o);have k:=cd.o.al;clear ac bi;(try go_wp2_with fail);refine d.out _ _ k (fun s=>?_);clear d h k;(try simp only[jA,jB,jC,Act.put,jD,jE,jF]);refine tk 8 (.tuple #[.agg #[S e,S a.I,S bd,S a.body],S p,.bool M]) ?_;refine tk 9 (.agg #[S e,S a.I,S bd,S a.body]) ?_;refine tk 10 (S p) ?_;refine tk 11 (.bool M) ?_;simp only[jA,jB,jC,Act.put,jD,jE,jF];refine rd 13 (fun h d=>?_);simp only[jA,jB,jC];rw[aQ (by simp[Region.wanted])];refine kL 40 (.tmp 16) (.tmp 63) rfl m #[S e,S a.I,S bd,S a.body] rfl rfl 40 V9 dv.o (by kernel_rfl) rfl (by simp[Value.oneCell']) ?_;have da:J (RAt (G.setRow m #[S e,S a.I,S bd,S a.body]) w u f a V3 V3 F0 0 V0 []):=cd.o.a5 m #[S e,S a.I,S bd,S a.body] (by omega) dv.o Y.o;have d6:=I (kr G m _ #[S e,S a.I,S bd,S a.body] 40 (0,0) dv.o);have k:=da.o.al;refine d.out _ _ k (fun s=>?_);clear d h k;(try simp only[jA,jB,jC,Act.put,jD,jE,jF]);refine tk 14 (S p) ?_;refine tk 15 (.bool M) ?_;simp only[jA,jB,jC,Act.put,jD,jE,jF];refine kp (by kernel_rfl) ?_ _;clear s;generalize er:G.setRow _ _=y3 at *;clear er;go_wp2;go_meet
          ·exact⟨m,p,M,rfl,rfl,rfl,eP.o,ds.o,da.o,by omega,d6.o,Y.o⟩
        case rest=>
         obtain⟨m,p,e1,fl,hG,hF,gs,bi,hA,iG,gU,gY⟩:=hcut;subst fl hG hF;have C:=I hA;have ci:=I gU;have Y:=I gY;have ds:=I bi;have f6:=I gs;clear hA gU gY bi gs bX eR fd eP;cases e1 with
         | false=>
          have gr:qE (jh n (a.R:Int)) a.I (jz pre 70 0 0 0) a.body=none:=by
           cases hq:qE (jh n (a.R:Int)) a.I (jz pre 70 0 0 0) a.body with
           | none=>rfl
           | some q=>have h9:=f6.o;rw[hq]at h9;cases h9
          have f1:J (qJ file pre n O=(4,none)):=Pc HP.o HR.o HF.o HT.o ff.o gr;clear gr;go_wp2;go_ret2;exact⟨C.o.below,.inl ⟨4,f1.o,by decide,rfl⟩⟩
         | true=>
          have e3:qE (jh n (a.R:Int)) a.I (jz pre 70 0 0 0) a.body=some p:=by
           cases hq:qE (jh n (a.R:Int)) a.I (jz pre 70 0 0 0) a.body with
           | none=>have h9:=f6.o;rw[hq]at h9;cases h9
           | some q=>rw[ds.o q hq]
          have f1:=I (PJ (trust:=O) HP.o HR.o HF.o HT.o ff.o e3);have io:=BO e3;clear e3;obtain⟨i1,e2,e4,e5,e6⟩:=ks Tryz.ak;go_upto_region 19 with fail;have dd:=(zR C.o.o).2;refine k9 (S:=fun z=>z.heap[m]?=some (.cells #[S e,S a.I,S bd,S a.body] 40 (0,0))) (by kernel_rfl) ci.o (fun s=>?_);refine tk 0 (Q f 0) ?_;refine tk 1 (Q f 0) ?_;refine tk 2 (Q f 0) ?_;refine tk 3 (Q f 1) ?_;simp only[jA,jB,jC,Act.put,jD,jE,jF];refine kO (i:=5) (oi:=_) (v:=.agg #[S e,S a.I,S bd,S a.body]) rfl (by kernel_rfl) (by kernel_rfl) (by kernel_rfl) (fun _ _ _ D=>D) (fA ⟨by rfl,fun w ge=>?_⟩) (by assumption) ?_
          ·have gA:=ki (P:=Tryz.prog) w m 40 40 #[S e,S a.I,S bd,S a.body] (0,0) _ ge Tryz.underlying40 rfl (by kernel_rfl);unfold execOp;simp[cK,bL,Act.eval,Instr.loadAt,Instr.sureAddr,dF,dE,cV,gA]
          simp only[jA,jB,jC,Act.put,jD,jE,jF];refine kB (rs:=[4,6]) (by kernel_rfl) (by simp) ?_;refine km (o:=_) rfl (fun h d=>?_) (km (o:=_) rfl (fun h d=>?_) kz)
          ·simp only[jA,jB,jC];go_simp;(try go_wp2_with fail);refine d.out _ _ ci.o (fun s=>?_);clear d h;(try simp only[jA,jB,jC,Act.put,jD,jE,jF]);refine rd 6 (fun h d=>?_);simp only[jA,jB,jC];go_simp;(try go_wp2_with fail);have L:J ((wc.alloc (.cells #[S e,S a.I,S bd,S a.body] 40)).drew.heap[m]?=some (.cells #[S e,S a.I,S bd,S a.body] 40 (0,0))):=Xd _ ci.o;have t:J (RAt (wc.alloc (.cells #[S e,S a.I,S bd,S a.body] 40)).drew w u f a V3 V3 F0 0 V0 []):=(C.o.alloc (.cells #[S e,S a.I,S bd,S a.body] 40)).drew;have ap:J (∀j T,([S e,S a.I,S bd,S a.body]:List Value)[j]?=some T->(wc.alloc (.cells #[S e,S a.I,S bd,S a.body] 40)).drew.cell? (((A wc.heap.size 0):Addr).add j)=some T):=zf wc #[S e,S a.I,S bd,S a.body] 40 (by simp);have dW:=(zR t.o.o).2;refine d.out _ _ L.o (fun s=>?_);clear d h dd;(try simp only[jA,jB,jC,Act.put,jD,jE,jF]);generalize fs:(wc.alloc (.cells #[S e,S a.I,S bd,S a.body] 40)).drew=WY at *;clear fs;generalize eg:wc.heap.size=nb at ap ⊢;clear eg C ci;refine rd 7 (fun h d=>?_);simp only[jA,jB,jC];rw[aQ (by simp[Region.wanted])];refine kQ _ (.tmp 73) (.tmp 75) 28 rfl (f+1) 40 i1 _ 4 64 Tryz.underlying28 e2 e4 e5 e6 rfl (by decide) V3 0 [] rfl t.o.ad (A nb 0) 1 1 [S e,S a.I,S bd,S a.body] rfl rfl ap.o ?_ (by unfold maxLen;omega) (by omega) t.o.size ?_
           ·intro T hu;simp at hu;rcases hu with rfl|rfl|rfl|rfl<;>rfl
           intro v6 r be F _;have am:J (r.heap[m]?=some (.cells #[S e,S a.I,S bd,S a.body] 40 (0,0))):=by
            show _=_;rw[F.block m (aF.1 L.o).1 (by
             intro x;rcases Y.o with D|D
             ·rw[D]at x;cases x
             ·exact D x.symm)]
            exact L.o
           obtain⟨va,vc,em⟩:=jt be;subst em;have X:=I (xV F t.o.ad t.o.o (by omega));have E:=I (t.o.aw (Z':=[⟨e,a.I,bd,a.body⟩]) F be);clear be F ap t L dW;refine d.out _ _ am.o (fun s=>?_);clear d h;(try simp only[jA,jB,jC,Act.put,jD,jE,jF]);refine tk 8 (Q f 0) ?_;refine tk 9 (Q f 1) ?_;simp only[jA,jB,jC,Act.put,jD,jE,jF];refine rd 10 (fun h d=>?_);simp only[jA,jB,jC];have cc:=(zR X.o).2;have fz:=kh r f 1 _ _ X.o;go_simp;(try go_wp2_with fail);have dl:=qL (Qk r f 1 (.slice va (0+1) vc)) am.o (by omega);refine d.out _ _ dl (fun s=>?_);clear d h cc fz;refine kp (by kernel_rfl) ?_ _;clear s dl X am;generalize eq:r.setCell _ _=w7 at *;clear eq;go_wp2;go_meet
           ·exact⟨p,_,_,rfl,E.o,ga.o,by simp,(fun D=>by rw[HT.o]at D;cases D),io,f1.o⟩
          ·simp only[jA,jB,jC];go_simp;(try go_wp2_with fail);have L:J ((wc.alloc (.cells #[S e,S a.I,S bd,S a.body] 40)).drew.heap[m]?=some (.cells #[S e,S a.I,S bd,S a.body] 40 (0,0))):=Xd _ ci.o;have t:J (RAt (wc.alloc (.cells #[S e,S a.I,S bd,S a.body] 40)).drew w u f a V3 V3 F0 0 V0 []):=(C.o.alloc (.cells #[S e,S a.I,S bd,S a.body] 40)).drew;have ap:J (∀j T,([S e,S a.I,S bd,S a.body]:List Value)[j]?=some T->(wc.alloc (.cells #[S e,S a.I,S bd,S a.body] 40)).drew.cell? (((A wc.heap.size 0):Addr).add j)=some T):=zf wc #[S e,S a.I,S bd,S a.body] 40 (by simp);have dW:=(zR t.o.o).2;refine d.out _ _ L.o (fun s=>?_);clear d h dd;(try simp only[jA,jB,jC,Act.put,jD,jE,jF]);generalize fs:(wc.alloc (.cells #[S e,S a.I,S bd,S a.body] 40)).drew=WY at *;clear fs;generalize eg:wc.heap.size=nb at ap ⊢;clear eg C ci;refine rd 4 (fun h d=>?_);simp only[jA,jB,jC];go_simp;(try go_wp2_with fail);refine d.out _ _ L.o (fun s=>?_);clear d h;(try simp only[jA,jB,jC,Act.put,jD,jE,jF]);refine rd 7 (fun h d=>?_);simp only[jA,jB,jC];rw[aQ (by simp[Region.wanted])];refine kQ _ (.tmp 73) (.tmp 75) 28 rfl (f+1) 40 i1 _ 4 64 Tryz.underlying28 e2 e4 e5 e6 rfl (by decide) V3 0 [] rfl t.o.ad (A nb 0) 1 1 [S e,S a.I,S bd,S a.body] rfl rfl ap.o ?_ (by unfold maxLen;omega) (by omega) t.o.size ?_
           ·intro T hu;simp at hu;rcases hu with rfl|rfl|rfl|rfl<;>rfl
           intro v6 r be F _;have am:J (r.heap[m]?=some (.cells #[S e,S a.I,S bd,S a.body] 40 (0,0))):=by
            show _=_;rw[F.block m (aF.1 L.o).1 (by
             intro x;rcases Y.o with D|D
             ·rw[D]at x;cases x
             ·exact D x.symm)]
            exact L.o
           obtain⟨va,vc,em⟩:=jt be;subst em;have X:=I (xV F t.o.ad t.o.o (by omega));have E:=I (t.o.aw (Z':=[⟨e,a.I,bd,a.body⟩]) F be);clear be F ap t L dW;refine d.out _ _ am.o (fun s=>?_);clear d h;(try simp only[jA,jB,jC,Act.put,jD,jE,jF]);refine tk 8 (Q f 0) ?_;refine tk 9 (Q f 1) ?_;simp only[jA,jB,jC,Act.put,jD,jE,jF];refine rd 10 (fun h d=>?_);simp only[jA,jB,jC];have cc:=(zR X.o).2;have fz:=kh r f 1 _ _ X.o;go_simp;(try go_wp2_with fail);have dl:=qL (Qk r f 1 (.slice va (0+1) vc)) am.o (by omega);refine d.out _ _ dl (fun s=>?_);clear d h cc fz;refine kp (by kernel_rfl) ?_ _;clear s dl X am;generalize eq:r.setCell _ _=w7 at *;clear eq;go_wp2;go_meet
           ·exact⟨p,_,_,rfl,E.o,ga.o,by simp,(fun D=>by rw[HT.o]at D;cases D),io,f1.o⟩
     case rest=>
      obtain⟨l,sv,i,iP,hA,iq,js,ii,i6,gX⟩:=hcut;have h4:=I iq;have iy:=I ii;clear iq ii;subst iP;obtain⟨U,V,i3⟩:=jt hA.ad;subst i3;have C:=I hA;have d0:=I gX;clear hA gX bX c0;go_wp2_with(refine kx rfl 169 (.tmp 11) rfl u rfl 169 (E4 a) (0,0) _ C.o.file Tryz.underlying169 rfl (by kernel_rfl) ?_);refine(Lq a l wc (by omega) iS (by unfold maxLen;omega)).mono ?_;rintro x r ⟨ie,hx⟩;have hd:=I (C.o.j ie);clear ie;rcases hx with⟨hn,v,rfl⟩|⟨y,ce,k,rfl,gi⟩
      ·rw[LX]at hn;have ho:J (qJ file pre n O=(9,none)):=by show _=_;rw[d0.o];unfold EJ;rw[hn]
       clear hn;go_wp2;go_ret2;exact⟨hd.o.below,.inl ⟨9,ho.o,by decide,rfl⟩⟩
      ·rw[LX]at k;have hi:=I (Zz k);have i7:=RE HF.o hi.o;have d3:J (qJ file pre n O=if(a.told && !O)=true then(if jG n (a.R:Int)=false then(8,none)else if qE (jh n (a.R:Int)) a.I (jz pre 83 0 0 0++l) a.body=some []then(0,some y)else(4,none))else(0,some y)):=by
        show _=_;rw[d0.o];unfold EJ;rw[k]
       have bX:J (K7 ce wc.heap.size y r w u f a V3 (.slice U i.length V) F0 0 V0 i):=⟨hd.o,gi⟩;clear k d0 C hd gi;generalize iI:wc.heap.size=tb at *;clear iI;obtain⟨c0,_⟩:=Xo bX.o.file;go_upto_region 23 with fail;go_cut [92] (fun bv wd=>bv=.bool (a.told && !O)/\r=wd)
       case first=>
        cases ht:a.told with
        | true=>
         rw[ht]at c0;cases O with
         | true=>
          go_wp2;go_meet
          ·exact⟨by rw[ht];rfl,rfl⟩
         | false=>
          go_wp2;go_meet
          ·exact⟨by rw[ht];rfl,rfl⟩
        | false=>
         rw[ht]at c0;go_wp2;go_meet
         ·exact⟨by rw[ht];rfl,rfl⟩
       case rest=>
        obtain⟨fl,iZ⟩:=hcut;subst fl iZ;clear c0;go_upto_if 92 with fail;go_cut [92] (fun _ wd=>∃sv i,K7 ce tb y wd w u f a V3 sv F0 0 V0 i/\Nq pre n a O=i/\i.length<=2/\qJ file pre n O=(0,some y))
        case first=>
         cases hb:(a.told && !O)with
         | false=>
          have ho:J (qJ file pre n O=(0,some y)):=by show _=_;rw[d3.o,aL (by rw[hb];decide)]
          refine gC (by first|rfl|(rw[hb];rfl)) ?_;go_wp2;go_meet
          ·exact⟨_,i,bX.o,(Pz hb).trans h4.o,by omega,ho.o⟩
         | true=>
          refine gH (by first|rfl|(rw[hb];rfl)) ?_;rw[aQ hb]at d3;have f7:J (Nq pre n a O=i++[⟨jh n (a.R:Int),a.I,jz pre 83 0 0 0++l,a.body⟩]):=by
           show _=_;have ht:a.told=true:=by
            cases D:a.told with
            | true=>rfl
            | false=>rw[D]at hb;cases hb
           rw[Pt hb,h4.o,iy.o ht]
          clear hb;cases th with
          | false=>
           rw[aQ ff.o]at d3;go_wp2;go_ret2;exact⟨bX.o.below,.inl ⟨8,d3.o,by decide,rfl⟩⟩
          | true=>
           rw[aL (by rw[ff.o];decide)]at d3;have hH:(jh n (a.R:Int)).length=8:=JB HR.o ff.o;have ec:=zL pre 83 0 0 0 gw;obtain⟨e,fn⟩:∃e,e=jh n (a.R:Int):=⟨_,rfl⟩;obtain⟨bd,d2⟩:∃bd,bd=jz pre 83 0 0 0:=⟨_,rfl⟩;rw[<-d2]at ec;obtain⟨M,eC⟩:∃M,M=(qE (jh n (a.R:Int)) a.I (jz pre 83 0 0 0++l) a.body).isSome:=⟨_,rfl⟩;have eP:=I eC;have fd:J (∀z,C' 86 #[S pre,S [83],N 0,N 0,N 0] z fun x w2=>x=.returned (S bd)/\Below z.heap.size z w2):=fun z=>by
            rw[d2];exact Kt pre 83 0 0 0 z gw (by decide) (by decide) (by decide)
           have eR:J (∀z,U2 z ra n->C' 89 #[.slice ra n.length eM,N a.R,S (bd++l),.agg #[S a.I,S a.body]] z fun x w2=>Below z.heap.size z w2/\∃p,x=.returned (.tuple #[.agg #[S e,S a.I,S (bd++l),S a.body],S p,.bool M])/\∀q,qE (jh n (a.R:Int)) a.I (jz pre 83 0 0 0++l) a.body=some q->p=q):=fun z D=>by
            have h2:=GN ra eM n (a.R:Int) (jz pre 83 0 0 0++l) a.I a.body z D gT (by omega) (by omega) (by rw[<-d2];rw[aB];omega) (by unfold maxLen;omega);rw[eC,fn,d2];exact h2
           have ga:J (Nq pre n a O=i++[⟨e,a.I,bd++l,a.body⟩]):=by
            show _=_;rw[fn,d2];exact f7.o
           clear fn d2 eC hH;have q1:¬(9223372036854775807<bd.length+l.length):=(by omega);go_upto_region 26 with fail;go_cut [20,21,22] (fun bv pv ov wd=>∃m p e1,bv=(Q m 0)/\pv=S p/\ov=.bool e1/\e1=(qE (jh n (a.R:Int)) a.I (jz pre 83 0 0 0++l) a.body).isSome/\(∀q,qE (jh n (a.R:Int)) a.I (jz pre 83 0 0 0++l) a.body=some q->p=q)/\K7 ce tb y wd w u f a V3 (.slice U i.length V) F0 0 V0 i/\f+1<=m/\wd.heap[m]?=some (.cells #[S e,S a.I,S (bd++l),S a.body] 40 (0,0))/\((Value.slice U i.length V).ownBlock=none\/(Value.slice U i.length V).ownBlock≠some m))
           case first=>
            have k:=bX.o.al;refine k9 (S:=fun z=>z.cell? (A u 1)=some (N a.R)/\z.cell? (A u 4)=some (S a.I)/\z.cell? (A u 5)=some (S a.body)) (by kernel_rfl) k (fun s=>?_);clear k;refine tk 0 (.slice ra n.length eM) ?_;refine tk 1 (Q u 1) ?_;refine tk 2 (N a.R) ?_;refine tk 3 (S pre) ?_;refine tk 7 (Q u 4) ?_;refine tk 8 (.agg #[S a.I,S a.body]) ?_;refine tk 5 (S l) ?_;simp only[jA,jB,jC,Act.put,jD,jE,jF];refine kB (rs:=[4,14]) (by kernel_rfl) (by simp) ?_;refine km (o:=_) rfl (fun h d=>?_) (km (o:=_) rfl (fun h d=>?_) kz)
            ·simp only[jA,jB,jC];go_simp;go_at_call 86
             refine(fd.o _).mono ?_;rintro x y1 ⟨rfl,co⟩;replace co:=jg co;have b4:J (K7 ce tb y y1 w u f a V3 (.slice U i.length V) F0 0 V0 i):=bX.o.j co;have k:=b4.o.al;clear co;(try go_wp2_with fail);refine d.out _ _ k (fun s=>?_);clear d h k;(try simp only[jA,jB,jC,Act.put,jD,jE,jF]);refine tk 6 (Value.string ({data:=bd.toArray}++{data:=l.toArray})) ?_;simp only[jA,jB,jC,Act.put,jD,jE,jF];refine kB (rs:=[9,14]) (by kernel_rfl) (by simp) ?_;refine km (o:=_) rfl (fun h d=>?_) (km (o:=_) rfl (fun h d=>?_) kz)
             ·simp only[jA,jB,jC];go_simp;go_at_call 89
              rw[xh];refine(eR.o _ (HL.o.j b4.o.below)).mono ?_;rintro x G ⟨ac,p,rfl,bi⟩;have ds:=I bi;have cd:J (K7 ce tb y G w u f a V3 (.slice U i.length V) F0 0 V0 i):=b4.o.j ac;have k:=cd.o.al;clear ac bi;(try go_wp2_with fail);refine d.out _ _ k (fun s=>?_);clear d h k;(try simp only[jA,jB,jC,Act.put,jD,jE,jF]);refine tk 10 (.tuple #[.agg #[S e,S a.I,S (bd++l),S a.body],S p,.bool M]) ?_;refine tk 11 (.agg #[S e,S a.I,S (bd++l),S a.body]) ?_;refine tk 12 (S p) ?_;refine tk 13 (.bool M) ?_;simp only[jA,jB,jC,Act.put,jD,jE,jF];refine rd 14 (fun h d=>?_);simp only[jA,jB,jC];go_simp;(try go_wp2_with fail);have cs:J (K7 ce tb y (G.alloc (.cells V9 40)) w u f a V3 (.slice U i.length V) F0 0 V0 i):=(cd.o.alloc (.cells V9 40));have dT:J ((G.alloc (.cells V9 40)).heap[G.heap.size]?=some (.cells V9 40 (0,0))):=(jJ G V9 40).2.2.2;have gd:=cd.o.size;have Y:=I (JT cd.o.ad (aA G.heap.size));have k:=cs.o.al;refine d.out _ _ k (fun s=>?_);clear d h k;(try simp only[jA,jB,jC,Act.put,jD,jE,jF]);generalize es:(G.alloc (.cells V9 40))=ya at *;clear es;generalize d4:G.heap.size=m at *;clear d4;refine rd 15 (fun h d=>?_);simp only[jA,jB,jC];rw[aQ (by simp[Region.wanted])];refine kL 40 (.tmp 20) (.tmp 106) rfl m #[S e,S a.I,S (bd++l),S a.body] rfl rfl 40 V9 dT.o (by kernel_rfl) rfl (by simp[Value.oneCell']) ?_;have da:J (K7 ce tb y (ya.setRow m #[S e,S a.I,S (bd++l),S a.body]) w u f a V3 (.slice U i.length V) F0 0 V0 i):=cs.o.a5 m #[S e,S a.I,S (bd++l),S a.body] (by omega) dT.o Y.o;have d6:=I (kr ya m _ #[S e,S a.I,S (bd++l),S a.body] 40 (0,0) dT.o);have k:=da.o.al;refine d.out _ _ k (fun s=>?_);clear d h k;(try simp only[jA,jB,jC,Act.put,jD,jE,jF]);refine tk 16 (S p) ?_;refine tk 17 (.bool M) ?_;simp only[jA,jB,jC,Act.put,jD,jE,jF];refine kp (by kernel_rfl) ?_ _;clear s;generalize er:ya.setRow _ _=y3 at *;clear er;go_wp2;go_meet
              ·exact⟨m,p,M,rfl,rfl,rfl,eP.o,ds.o,da.o,by omega,d6.o,Y.o⟩
             ·simp only[jA,jB,jC];go_simp;(try go_wp2_with fail);have cs:J (K7 ce tb y (y1.alloc (.cells V9 40)) w u f a V3 (.slice U i.length V) F0 0 V0 i):=(b4.o.alloc (.cells V9 40));have dT:J ((y1.alloc (.cells V9 40)).heap[y1.heap.size]?=some (.cells V9 40 (0,0))):=(jJ y1 V9 40).2.2.2;have gd:=b4.o.size;have Y:=I (JT b4.o.ad (aA y1.heap.size));have k:=cs.o.al;refine d.out _ _ k (fun s=>?_);clear d h k;(try simp only[jA,jB,jC,Act.put,jD,jE,jF]);generalize es:(y1.alloc (.cells V9 40))=ya at *;clear es;generalize d4:y1.heap.size=m at *;clear d4;refine rd 9 (fun h d=>?_);simp only[jA,jB,jC];go_simp;go_at_call 89
              rw[xh];refine(eR.o _ (HL.o.j cs.o.below)).mono ?_;rintro x G ⟨ac,p,rfl,bi⟩;have ds:=I bi;have cd:J (K7 ce tb y G w u f a V3 (.slice U i.length V) F0 0 V0 i):=cs.o.j ac;have dv:=I (jd ac dT.o);have k:=cd.o.al;clear ac bi;(try go_wp2_with fail);refine d.out _ _ k (fun s=>?_);clear d h k;(try simp only[jA,jB,jC,Act.put,jD,jE,jF]);refine tk 10 (.tuple #[.agg #[S e,S a.I,S (bd++l),S a.body],S p,.bool M]) ?_;refine tk 11 (.agg #[S e,S a.I,S (bd++l),S a.body]) ?_;refine tk 12 (S p) ?_;refine tk 13 (.bool M) ?_;simp only[jA,jB,jC,Act.put,jD,jE,jF];refine rd 15 (fun h d=>?_);simp only[jA,jB,jC];rw[aQ (by simp[Region.wanted])];refine kL 40 (.tmp 20) (.tmp 106) rfl m #[S e,S a.I,S (bd++l),S a.body] rfl rfl 40 V9 dv.o (by kernel_rfl) rfl (by simp[Value.oneCell']) ?_;have da:J (K7 ce tb y (G.setRow m #[S e,S a.I,S (bd++l),S a.body]) w u f a V3 (.slice U i.length V) F0 0 V0 i):=cd.o.a5 m #[S e,S a.I,S (bd++l),S a.body] (by omega) dv.o Y.o;have d6:=I (kr G m _ #[S e,S a.I,S (bd++l),S a.body] 40 (0,0) dv.o);have k:=da.o.al;refine d.out _ _ k (fun s=>?_);clear d h k;(try simp only[jA,jB,jC,Act.put,jD,jE,jF]);refine tk 16 (S p) ?_;refine tk 17 (.bool M) ?_;simp only[jA,jB,jC,Act.put,jD,jE,jF];refine kp (by kernel_rfl) ?_ _;clear s;generalize er:G.setRow _ _=y3 at *;clear er;go_wp2;go_meet
              ·exact⟨m,p,M,rfl,rfl,rfl,eP.o,ds.o,da.o,by omega,d6.o,Y.o⟩
            ·simp only[jA,jB,jC];go_simp;(try go_wp2_with fail);have cs:J (K7 ce tb y (r.alloc (.cells V9 40)).drew w u f a V3 (.slice U i.length V) F0 0 V0 i):=(bX.o.alloc (.cells V9 40)).drew;have dT:J ((r.alloc (.cells V9 40)).drew.heap[r.heap.size]?=some (.cells V9 40 (0,0))):=(jJ r V9 40).2.2.2;have gd:=bX.o.size;have Y:=I (JT bX.o.ad (aA r.heap.size));have k:=cs.o.al;refine d.out _ _ k (fun s=>?_);clear d h k;(try simp only[jA,jB,jC,Act.put,jD,jE,jF]);generalize es:(r.alloc (.cells V9 40)).drew=ya at *;clear es;generalize d4:r.heap.size=m at *;clear d4;refine rd 4 (fun h d=>?_);simp only[jA,jB,jC];go_simp;go_at_call 86
             refine(fd.o _).mono ?_;rintro x y1 ⟨rfl,co⟩;have b4:J (K7 ce tb y y1 w u f a V3 (.slice U i.length V) F0 0 V0 i):=cs.o.j co;have f7:=I (jd co dT.o);have k:=b4.o.al;clear co;(try go_wp2_with fail);refine d.out _ _ k (fun s=>?_);clear d h k;(try simp only[jA,jB,jC,Act.put,jD,jE,jF]);refine tk 6 (Value.string ({data:=bd.toArray}++{data:=l.toArray})) ?_;simp only[jA,jB,jC,Act.put,jD,jE,jF];refine rd 9 (fun h d=>?_);simp only[jA,jB,jC];go_simp;go_at_call 89
             rw[xh];refine(eR.o _ (HL.o.j b4.o.below)).mono ?_;rintro x G ⟨ac,p,rfl,bi⟩;have ds:=I bi;have cd:J (K7 ce tb y G w u f a V3 (.slice U i.length V) F0 0 V0 i):=b4.o.j ac;have dv:=I (jd ac f7.o);have k:=cd.o.al;clear ac bi;(try go_wp2_with fail);refine d.out _ _ k (fun s=>?_);clear d h k;(try simp only[jA,jB,jC,Act.put,jD,jE,jF]);refine tk 10 (.tuple #[.agg #[S e,S a.I,S (bd++l),S a.body],S p,.bool M]) ?_;refine tk 11 (.agg #[S e,S a.I,S (bd++l),S a.body]) ?_;refine tk 12 (S p) ?_;refine tk 13 (.bool M) ?_;simp only[jA,jB,jC,Act.put,jD,jE,jF];refine rd 15 (fun h d=>?_);simp only[jA,jB,jC];rw[aQ (by simp[Region.wanted])];refine kL 40 (.tmp 20) (.tmp 106) rfl m #[S e,S a.I,S (bd++l),S a.body] rfl rfl 40 V9 dv.o (by kernel_rfl) rfl (by simp[Value.oneCell']) ?_;have da:J (K7 ce tb y (G.setRow m #[S e,S a.I,S (bd++l),S a.body]) w u f a V3 (.slice U i.length V) F0 0 V0 i):=cd.o.a5 m #[S e,S a.I,S (bd++l),S a.body] (by omega) dv.o Y.o;have d6:=I (kr G m _ #[S e,S a.I,S (bd++l),S a.body] 40 (0,0) dv.o);have k:=da.o.al;refine d.out _ _ k (fun s=>?_);clear d h k;(try simp only[jA,jB,jC,Act.put,jD,jE,jF]);refine tk 16 (S p) ?_;refine tk 17 (.bool M) ?_;simp only[jA,jB,jC,Act.put,jD,jE,jF];refine kp (by kernel_rfl) ?_ _;clear s;generalize er:G.setRow _ _=y3 at *;clear er;go_wp2;go_meet
             ·exact⟨m,p,M,rfl,rfl,rfl,eP.o,ds.o,da.o,by omega,d6.o,Y.o⟩
           case rest=>
            obtain⟨m,p,e1,fl,hG,hF,gs,bi,hA,iG,gU,gY⟩:=hcut;subst fl hG hF;have C:=I hA;have ci:=I gU;have Y:=I gY;have ds:=I bi;have f6:=I gs;clear hA gU gY bi gs bX eR fd eP;cases e1 with
            | false=>
             have gr:qE (jh n (a.R:Int)) a.I (jz pre 83 0 0 0++l) a.body=none:=by
              cases hq:qE (jh n (a.R:Int)) a.I (jz pre 83 0 0 0++l) a.body with
              | none=>rfl
              | some q=>have h9:=f6.o;rw[hq]at h9;cases h9
             have f1:J (qJ file pre n O=(4,none)):=by show _=_;rw[d3.o,aL (by rw[gr];simp)]
             clear gr;go_wp2;go_ret2;exact⟨C.o.below,.inl ⟨4,f1.o,by decide,rfl⟩⟩
            | true=>
             have e3:qE (jh n (a.R:Int)) a.I (jz pre 83 0 0 0++l) a.body=some p:=by
              cases hq:qE (jh n (a.R:Int)) a.I (jz pre 83 0 0 0++l) a.body with
              | none=>have h9:=f6.o;rw[hq]at h9;cases h9
              | some q=>rw[ds.o q hq]
             cases p with
             | cons gb g0=>
              rw[aL (by rw[e3];simp)]at d3;clear e3;go_wp2;go_ret2;exact⟨C.o.below,.inl ⟨4,d3.o,by decide,rfl⟩⟩
             | nil=>
              rw[aQ e3]at d3;clear e3;obtain⟨i1,e2,e4,e5,e6⟩:=ks Tryz.ak;have dr:=I C.o.told;have hR:=I C.o.toRAt;clear C;have C:=hR;clear hR;go_upto_region 29 with fail;have dd:=(zR C.o.o).2;refine k9 (S:=fun z=>z.heap[m]?=some (.cells #[S e,S a.I,S (bd++l),S a.body] 40 (0,0))) (by kernel_rfl) ci.o (fun s=>?_);refine tk 0 (Q f 0) ?_;refine tk 1 (Q f 0) ?_;refine tk 2 (Q f 0) ?_;refine tk 3 (Q f 1) ?_;simp only[jA,jB,jC,Act.put,jD,jE,jF];refine kO (i:=5) (oi:=_) (v:=.agg #[S e,S a.I,S (bd++l),S a.body]) rfl (by kernel_rfl) (by kernel_rfl) (by kernel_rfl) (fun _ _ _ D=>D) (fA ⟨by rfl,fun w ge=>?_⟩) (by assumption) ?_
              ·have gA:=ki (P:=Tryz.prog) w m 40 40 #[S e,S a.I,S (bd++l),S a.body] (0,0) _ ge Tryz.underlying40 rfl (by kernel_rfl);unfold execOp;simp[cK,bL,Act.eval,Instr.loadAt,Instr.sureAddr,dF,dE,cV,gA]
              simp only[jA,jB,jC,Act.put,jD,jE,jF];refine kB (rs:=[4,6]) (by kernel_rfl) (by simp) ?_;refine km (o:=_) rfl (fun h d=>?_) (km (o:=_) rfl (fun h d=>?_) kz)
              ·simp only[jA,jB,jC];go_simp;(try go_wp2_with fail);refine d.out _ _ ci.o (fun s=>?_);clear d h;(try simp only[jA,jB,jC,Act.put,jD,jE,jF]);refine rd 6 (fun h d=>?_);simp only[jA,jB,jC];go_simp;(try go_wp2_with fail);have L:J ((wc.alloc (.cells #[S e,S a.I,S (bd++l),S a.body] 40)).drew.heap[m]?=some (.cells #[S e,S a.I,S (bd++l),S a.body] 40 (0,0))):=Xd _ ci.o;have t:J (RAt (wc.alloc (.cells #[S e,S a.I,S (bd++l),S a.body] 40)).drew w u f a V3 (.slice U i.length V) F0 0 V0 i):=(C.o.alloc (.cells #[S e,S a.I,S (bd++l),S a.body] 40)).drew;have d7:J (P5 (wc.alloc (.cells #[S e,S a.I,S (bd++l),S a.body] 40)).drew ce tb y):=(dr.o.j ((k8 wc.heap.size wc).alloc (aA _) (.cells #[S e,S a.I,S (bd++l),S a.body] 40))).j (qD (k8 _ _));have ap:J (∀j T,([S e,S a.I,S (bd++l),S a.body]:List Value)[j]?=some T->(wc.alloc (.cells #[S e,S a.I,S (bd++l),S a.body] 40)).drew.cell? (((A wc.heap.size 0):Addr).add j)=some T):=zf wc #[S e,S a.I,S (bd++l),S a.body] 40 (by simp);have dW:=(zR t.o.o).2;refine d.out _ _ L.o (fun s=>?_);clear d h dd;(try simp only[jA,jB,jC,Act.put,jD,jE,jF]);generalize fs:(wc.alloc (.cells #[S e,S a.I,S (bd++l),S a.body] 40)).drew=WY at *;clear fs;generalize eg:wc.heap.size=nb at ap ⊢;clear eg C ci dr;refine rd 7 (fun h d=>?_);simp only[jA,jB,jC];rw[aQ (by simp[Region.wanted])];refine kQ _ (.tmp 119) (.tmp 121) 28 rfl (f+1) 40 i1 _ 4 64 Tryz.underlying28 e2 e4 e5 e6 rfl (by decide) (.slice U i.length V) i.length (qg i) rfl t.o.ad (A nb 0) 1 1 [S e,S a.I,S (bd++l),S a.body] rfl rfl ap.o ?_ (by unfold maxLen;omega) (by omega) t.o.size ?_
               ·intro T hu;simp at hu;rcases hu with rfl|rfl|rfl|rfl<;>rfl
               intro v6 r be F _;have am:J (r.heap[m]?=some (.cells #[S e,S a.I,S (bd++l),S a.body] 40 (0,0))):=by
                show _=_;rw[F.block m (aF.1 L.o).1 (by
                 intro x;rcases Y.o with D|D
                 ·rw[D]at x;cases x
                 ·exact D x.symm)]
                exact L.o
               obtain⟨va,vc,em⟩:=jt be;subst em;have X:=I (xV F t.o.ad t.o.o (by omega));have E:=I (t.o.aw (Z':=i++[⟨e,a.I,bd++l,a.body⟩]) F (by rw[XM,aB];exact be));have d1:=I ((d7.o.aside F t.o.ad (by decide) (by decide) (by decide) (by decide) (by decide)).box (Qk r f 1 (.slice va (i.length+1) vc)) X.o);clear be F ap t L dW d7;refine d.out _ _ am.o (fun s=>?_);clear d h;(try simp only[jA,jB,jC,Act.put,jD,jE,jF]);refine tk 8 (Q f 0) ?_;refine tk 9 (Q f 1) ?_;simp only[jA,jB,jC,Act.put,jD,jE,jF];refine rd 10 (fun h d=>?_);simp only[jA,jB,jC];have cc:=(zR X.o).2;have fz:=kh r f 1 _ _ X.o;go_simp;(try go_wp2_with fail);have dl:=qL (Qk r f 1 (.slice va (i.length+1) vc)) am.o (by omega);refine d.out _ _ dl (fun s=>?_);clear d h cc fz;refine kp (by kernel_rfl) ?_ _;clear s dl X am;generalize eq:r.setCell _ _=w7 at *;clear eq;go_wp2;go_meet
               ·exact⟨_,_,⟨E.o,d1.o⟩,ga.o,by rw[aB];simp;omega,d3.o⟩
              ·simp only[jA,jB,jC];go_simp;(try go_wp2_with fail);have L:J ((wc.alloc (.cells #[S e,S a.I,S (bd++l),S a.body] 40)).drew.heap[m]?=some (.cells #[S e,S a.I,S (bd++l),S a.body] 40 (0,0))):=Xd _ ci.o;have t:J (RAt (wc.alloc (.cells #[S e,S a.I,S (bd++l),S a.body] 40)).drew w u f a V3 (.slice U i.length V) F0 0 V0 i):=(C.o.alloc (.cells #[S e,S a.I,S (bd++l),S a.body] 40)).drew;have d7:J (P5 (wc.alloc (.cells #[S e,S a.I,S (bd++l),S a.body] 40)).drew ce tb y):=(dr.o.j ((k8 wc.heap.size wc).alloc (aA _) (.cells #[S e,S a.I,S (bd++l),S a.body] 40))).j (qD (k8 _ _));have ap:J (∀j T,([S e,S a.I,S (bd++l),S a.body]:List Value)[j]?=some T->(wc.alloc (.cells #[S e,S a.I,S (bd++l),S a.body] 40)).drew.cell? (((A wc.heap.size 0):Addr).add j)=some T):=zf wc #[S e,S a.I,S (bd++l),S a.body] 40 (by simp);have dW:=(zR t.o.o).2;refine d.out _ _ L.o (fun s=>?_);clear d h dd;(try simp only[jA,jB,jC,Act.put,jD,jE,jF]);generalize fs:(wc.alloc (.cells #[S e,S a.I,S (bd++l),S a.body] 40)).drew=WY at *;clear fs;generalize eg:wc.heap.size=nb at ap ⊢;clear eg C ci dr;refine rd 4 (fun h d=>?_);simp only[jA,jB,jC];go_simp;(try go_wp2_with fail);refine d.out _ _ L.o (fun s=>?_);clear d h;(try simp only[jA,jB,jC,Act.put,jD,jE,jF]);refine rd 7 (fun h d=>?_);simp only[jA,jB,jC];rw[aQ (by simp[Region.wanted])];refine kQ _ (.tmp 119) (.tmp 121) 28 rfl (f+1) 40 i1 _ 4 64 Tryz.underlying28 e2 e4 e5 e6 rfl (by decide) (.slice U i.length V) i.length (qg i) rfl t.o.ad (A nb 0) 1 1 [S e,S a.I,S (bd++l),S a.body] rfl rfl ap.o ?_ (by unfold maxLen;omega) (by omega) t.o.size ?_
               ·intro T hu;simp at hu;rcases hu with rfl|rfl|rfl|rfl<;>rfl
               intro v6 r be F _;have am:J (r.heap[m]?=some (.cells #[S e,S a.I,S (bd++l),S a.body] 40 (0,0))):=by
                show _=_;rw[F.block m (aF.1 L.o).1 (by
                 intro x;rcases Y.o with D|D
                 ·rw[D]at x;cases x
                 ·exact D x.symm)]
                exact L.o
               obtain⟨va,vc,em⟩:=jt be;subst em;have X:=I (xV F t.o.ad t.o.o (by omega));have E:=I (t.o.aw (Z':=i++[⟨e,a.I,bd++l,a.body⟩]) F (by rw[XM,aB];exact be));have d1:=I ((d7.o.aside F t.o.ad (by decide) (by decide) (by decide) (by decide) (by decide)).box (Qk r f 1 (.slice va (i.length+1) vc)) X.o);clear be F ap t L dW d7;refine d.out _ _ am.o (fun s=>?_);clear d h;(try simp only[jA,jB,jC,Act.put,jD,jE,jF]);refine tk 8 (Q f 0) ?_;refine tk 9 (Q f 1) ?_;simp only[jA,jB,jC,Act.put,jD,jE,jF];refine rd 10 (fun h d=>?_);simp only[jA,jB,jC];have cc:=(zR X.o).2;have fz:=kh r f 1 _ _ X.o;go_simp;(try go_wp2_with fail);have dl:=qL (Qk r f 1 (.slice va (i.length+1) vc)) am.o (by omega);refine d.out _ _ dl (fun s=>?_);clear d h cc fz;refine kp (by kernel_rfl) ?_ _;clear s dl X am;generalize eq:r.setCell _ _=w7 at *;clear eq;go_wp2;go_meet
               ·exact⟨_,_,⟨E.o,d1.o⟩,ga.o,by rw[aB];simp;omega,d3.o⟩
        case rest=>
         obtain⟨sv,i,hA,ir,iU,gX⟩:=hcut;have d0:=I gX;have iB:J (KT pre n a y O 0=i):=by
          show _=_;unfold KT;rw[ir];simp
         clear ir;have hh:=hi.o.aq;simp only[jW,aK,aN]at hh;have i5:y.U.length<=6:=(by omega);have iw:=I (fun b hk z (hT:P5 z ce tb y) (hl:U2 z ra n)=>Aa y a.R a.parts l ce tb b pre ra eM n z hi.o hT hk gw HR.o gT hl);have iA:=I (VL file pre n O y d0.o).2;have hQ:=I (hA.toRAt.begin (qq pre n y) V0);have dr:=I hA.told;clear hA gX hh d3 bX;generalize ib:qq pre n y=c at *;have ix:=I ib;clear ib;go_wp2;go_loopw [23] (fun fw wr=>∃(b:Nat) (fv sv:Value) (Vs:Nat->Value) (i:List V5),b<=y.U.length/\fw=N b/\RAt wr w u f a fv sv c b Vs i/\KT pre n a y O b=i/\i.length<=2+21960*b/\P5 wr ce tb y) (fun fw _=>y.U.length-(intOf fw).toNat)
         case atStart=>exact⟨0,V3,_,V0,i,aG _,rfl,hQ.o,iB.o,by omega,dr.o⟩
         case round=>
          clear iU hQ dr;obtain⟨b,fv,sv,Vs,i,i8,rfl,hA,it,hn,gi⟩:=hrel;have f2:=I it;clear it;obtain⟨fa,fc,rfl⟩:=jt hA.found.row;obtain⟨U,V,rfl⟩:=jt hA.ad;have C:=I hA;have dr:=I gi;obtain⟨cv,j1,pv,ev,h1,h2,_⟩:=gi;obtain⟨ca,cc,rfl⟩:=jt h2;have d5:=(zq h1).2.2.2.2.2.1;clear hA h1 h2;by_cases iT:b<y.U.length
          ·have iR:(b:Int)<(y.U.length:Int):=(by omega);go_wp2_with fail;clear d5;refine(iw.o b iT wr dr.o (HL.o.j C.o.below)).mono ?_;rintro x w5 ⟨g9,T,zv,rfl,hu,ip,hz,hm⟩;have ik:=Va (CV pre n y b);generalize ic:CV pre n y b=Z at *;have g7:=I ic;clear ic;obtain⟨H,K,rfl⟩:=jt hu;obtain⟨ya,yc,rfl⟩:=jt hz;have h3:J (∀j,j<b->∀g8,(Vs j).ownBlock=some g8->g8<wr.heap.size):=fun j hj g8 ha=>((C.o.found.cells j hj).lt g8 ha).2;have h6:=C.o.size;have g2:=I (C.o.j g9);have hX:=I (dr.o.j g9);have hY:=I hu;have h5:=I hz;have hZ:=I ip;have hW:=I ik;have i4:=g9.size;clear g9 hu hz ip ik C dr;generalize iF:wr.heap.size=B0 at *;clear iF;have HX:=I (jJ w5 K6 91).2.2.2;have ec:=BZ w5 K6 #[S (c b).name,N (c b).kind,N (c b).key,N (c b).state,.slice H (c b).cells.length K] 91;have C:=I (g2.o.j ec);have dr:=I (hX.o.j ec);have HU:=I (jy hY.o ec);have HZ:=I (jy h5.o ec);have ci:=I (kr (w5.alloc (.cells K6 91)) w5.heap.size _ #[S (c b).name,N (c b).kind,N (c b).key,N (c b).state,.slice H (c b).cells.length K] 91 (0,0) HX.o);have Y:=I (JT g2.o.found.row (aA _));have d4:=g2.o.size;clear ec;go_upto_region 34 with(refine kl rfl 91 (.tmp 24) (.tmp 140) rfl w5.heap.size #[S (c b).name,N (c b).kind,N (c b).key,N (c b).state,.slice H (c b).cells.length K] rfl rfl 91 K6 HX.o (by kernel_rfl) rfl (by simp[Value.oneCell']) ?_);clear HX g2 hX hY h5;generalize iX:(w5.alloc _).setRow _ _=r at *;clear iX;generalize iH:w5.heap.size=m at *;clear iH;obtain⟨i1,e2,e4,e5,e6⟩:=ks Tryz.bk;have dd:=(zR C.o.o).1;refine k9 (S:=fun z=>z.heap[m]?=some (.cells #[S (c b).name,N (c b).kind,N (c b).key,N (c b).state,.slice H (c b).cells.length K] 91 (0,0))) (by kernel_rfl) ci.o (fun s=>?_);refine tk 0 (Q f 0) ?_;refine tk 1 (Q f 0) ?_;refine tk 2 (Q f 0) ?_;refine tk 3 (Q f 0) ?_;simp only[jA,jB,jC,Act.put,jD,jE,jF];refine kO (i:=5) (oi:=_) (v:=.agg #[S (c b).name,N (c b).kind,N (c b).key,N (c b).state,.slice H (c b).cells.length K]) rfl (by kernel_rfl) (by kernel_rfl) (by kernel_rfl) (fun _ _ _ D=>D) (fA ⟨by rfl,fun w ge=>?_⟩) (by assumption) ?_
           ·have gA:=ki (P:=Tryz.prog) w m 91 91 #[S (c b).name,N (c b).kind,N (c b).key,N (c b).state,.slice H (c b).cells.length K] (0,0) _ ge Tryz.underlying91 rfl (by kernel_rfl);unfold execOp;simp[cK,bL,Act.eval,Instr.loadAt,Instr.sureAddr,dF,dE,cV,gA]
           simp only[jA,jB,jC,Act.put,jD,jE,jF];refine kB (rs:=[4,6]) (by kernel_rfl) (by simp) ?_;refine km (o:=_) rfl (fun h d=>?_) (km (o:=_) rfl (fun h d=>?_) kz)
           ·simp only[jA,jB,jC];go_simp;(try go_wp2_with fail);refine d.out _ _ ci.o (fun s=>?_);clear d h;(try simp only[jA,jB,jC,Act.put,jD,jE,jF]);refine rd 6 (fun h d=>?_);simp only[jA,jB,jC];go_simp;(try go_wp2_with fail);have L:J ((r.alloc (.cells #[S (c b).name,N (c b).kind,N (c b).key,N (c b).state,.slice H (c b).cells.length K] 91)).drew.heap[m]?=some (.cells #[S (c b).name,N (c b).kind,N (c b).key,N (c b).state,.slice H (c b).cells.length K] 91 (0,0))):=Xd _ ci.o;have t:J (RAt (r.alloc (.cells #[S (c b).name,N (c b).kind,N (c b).key,N (c b).state,.slice H (c b).cells.length K] 91)).drew w u f a (.slice fa b fc) (.slice U i.length V) c b Vs i):=(C.o.alloc (.cells #[S (c b).name,N (c b).kind,N (c b).key,N (c b).state,.slice H (c b).cells.length K] 91)).drew;have d7:J (P5 (r.alloc (.cells #[S (c b).name,N (c b).kind,N (c b).key,N (c b).state,.slice H (c b).cells.length K] 91)).drew ce tb y):=(dr.o.j ((k8 r.heap.size r).alloc (aA _) (.cells #[S (c b).name,N (c b).kind,N (c b).key,N (c b).state,.slice H (c b).cells.length K] 91))).j (qD (k8 _ _));have f8:J ((r.alloc (.cells #[S (c b).name,N (c b).kind,N (c b).key,N (c b).state,.slice H (c b).cells.length K] 91)).drew.ownsRow B0 58 3 (.slice H (c b).cells.length K) (c b).cells.length (jL (c b).cells)):=HU.o.alloc _;have ea:J ((r.alloc (.cells #[S (c b).name,N (c b).kind,N (c b).key,N (c b).state,.slice H (c b).cells.length K] 91)).drew.ownsRow B0 40 4 (.slice ya Z.length yc) Z.length (qg Z)):=HZ.o.alloc _;have ap:J (∀j T,([S (c b).name,N (c b).kind,N (c b).key,N (c b).state,.slice H (c b).cells.length K]:List Value)[j]?=some T->(r.alloc (.cells #[S (c b).name,N (c b).kind,N (c b).key,N (c b).state,.slice H (c b).cells.length K] 91)).drew.cell? (((A r.heap.size 0):Addr).add j)=some T):=zf r #[S (c b).name,N (c b).kind,N (c b).key,N (c b).state,.slice H (c b).cells.length K] 91 (by simp);have dW:=(zR t.o.o).1;refine d.out _ _ L.o (fun s=>?_);clear d h dd;(try simp only[jA,jB,jC,Act.put,jD,jE,jF]);generalize hL:(r.alloc (.cells #[S (c b).name,N (c b).kind,N (c b).key,N (c b).state,.slice H (c b).cells.length K] 91)).drew=WY at *;clear hL;generalize eg:r.heap.size=nb at ap ⊢;clear eg C ci dr;refine rd 7 (fun h d=>?_);simp only[jA,jB,jC];rw[aQ (by simp[Region.wanted])];refine kQ _ (.tmp 146) (.tmp 148) 32 rfl (f+1) 91 i1 _ 5 64 Tryz.underlying32 e2 e4 e5 e6 rfl (by decide) (.slice fa b fc) b (Xt c Vs b) rfl t.o.found.row (A nb 0) 1 1 [S (c b).name,N (c b).kind,N (c b).key,N (c b).state,.slice H (c b).cells.length K] rfl rfl ap.o ?_ (by unfold maxLen;omega) (by omega) t.o.size ?_
            ·intro T hu;simp at hu;rcases hu with rfl|rfl|rfl|rfl|rfl<;>rfl
            intro v6 r be F _;have am:J (r.heap[m]?=some (.cells #[S (c b).name,N (c b).kind,N (c b).key,N (c b).state,.slice H (c b).cells.length K] 91 (0,0))):=by
             show _=_;rw[F.block m (aF.1 L.o).1 (by
              intro x;rcases Y.o with D|D
              ·rw[D]at x;cases x
              ·exact D x.symm)]
             exact L.o
            obtain⟨va,vc,em⟩:=jt be;subst em;have X:=I (xV F t.o.found.row t.o.o (by omega));have E:=I (t.o.b5 (B:=B0) h3.o f8.o h6 hZ.o F be);have d1:=I ((d7.o.aside F t.o.found.row (by decide) (by decide) (by decide) (by decide) (by decide)).box (Qk r f 0 (.slice va (b+1) vc)) X.o);have d8:=I ((ea.o.kept F (qd ea.o t.o.found.row (by decide))).kept (Qk r f 0 (.slice va (b+1) vc)) (QK (ea.o.kept F (qd ea.o t.o.found.row (by decide))) (by omega)));clear be F ap t L dW d7;refine d.out _ _ am.o (fun s=>?_);clear d h;(try simp only[jA,jB,jC,Act.put,jD,jE,jF]);refine tk 8 (Q f 0) ?_;refine tk 9 (Q f 0) ?_;simp only[jA,jB,jC,Act.put,jD,jE,jF];refine rd 10 (fun h d=>?_);simp only[jA,jB,jC];have cc:=(zR X.o).1;have fz:=kh r f 0 _ _ X.o;go_simp;(try go_wp2_with fail);have dl:=qL (Qk r f 0 (.slice va (b+1) vc)) am.o (by omega);refine d.out _ _ dl (fun s=>?_);clear d h cc fz;refine kp (by kernel_rfl) ?_ _;clear s dl X am;generalize eq:r.setCell _ _=w7 at *;clear eq;clear f8 ea;have dd:=(zR E.o.o).2;have fz:=kh w7 f 1 _ _ E.o.o;have hC:=(Ng E.o.ad).1;obtain⟨i2,go,hM,hN,hO⟩:=ks Tryz.ak;by_cases gp:Z.length=0
            ·obtain rfl:Z=[]:=aO gp;go_wp2_with(at_builtin;refine xW rfl (.tmp 156) (.tmp 157) 28 rfl 40 i2 Tryz.underlying28 go U i.length V rfl hC ya yc rfl ?_);have e7:=I (E.o.aw (Ym w7 _) E.o.ad);have fe:=I (d1.o.box (Qk w7 f 1 (.slice U i.length V)) E.o.o);have fk:J (KT pre n a y O (b+1)=i):=by
              show _=_;rw[Vf,f2.o,g7.o,aT]
             clear E d1 d8 dd fz;generalize fr:w7.setCell _ _=w8 at *;clear fr;go_wp2;go_roundw
             ·exact⟨b+1,_,_,_,i,by omega,by go_num,e7.o,fk.o,by omega,fe.o⟩
             ·simp[intOf];omega
            ·have hE:0<Z.length:=(by omega);obtain⟨yg,hP⟩:∃yg,ya=some (A yg 0):=by
              rcases d8.o.2 with⟨h0,h1⟩|⟨g,iC,iD,hv,_⟩
              ·omega
              ·injection hv with hv1 _ _
               exact⟨g,hv1⟩
             subst hP;have i0:=E.o.size;have f5:J (∀j T,(qg Z)[j]?=some T->w7.cell? (((A yg 0):Addr).add j)=some T):=d8.o.cells (g:=yg) rfl;have gZ:=d8.o.1;clear gp;go_wp2_with(at_builtin;refine wpList_append_lies _ rfl (.tmp 156) (.tmp 157) 28 rfl (f+1) 40 i2 _ 4 64 Tryz.underlying28 go hM hN hO rfl (by omega) (.slice U i.length V) i.length (qg i) rfl E.o.ad (A yg 0) Z.length yc (qg Z) rfl gZ f5.o hW.o hE (by unfold maxLen;omega) (by omega) (by omega) _ rfl ?_;intro gg gc w9 gt e0 hw hD;have eS:=xV e0 E.o.ad E.o.o (by omega);have c9:=(zR eS).2;have f9:=kh w9 f 1 _ _ eS);have e7:=I (E.o.aw (Z':=i++Z) e0 (by rw[RY,aB];exact gt));have fk:J (KT pre n a y O (b+1)=i++Z):=by
              show _=_;rw[Vf,f2.o,g7.o]
             have fe:=I ((d1.o.aside e0 E.o.ad (by decide) (by decide) (by decide) (by decide) (by decide)).box (Qk w9 f 1 (R gg (i.length+Z.length) gc)) eS);clear E d1 d8 dd fz gt e0 hw hD eS c9 f9 f5 gZ;generalize fr:w9.setCell _ _=w8 at *;clear fr;go_wp2;go_roundw
             ·exact⟨b+1,_,_,_,i++Z,by omega,by go_num,e7.o,fk.o,by rw[aB];omega,fe.o⟩
             ·simp[intOf];omega
           ·simp only[jA,jB,jC];go_simp;(try go_wp2_with fail);have L:J ((r.alloc (.cells #[S (c b).name,N (c b).kind,N (c b).key,N (c b).state,.slice H (c b).cells.length K] 91)).drew.heap[m]?=some (.cells #[S (c b).name,N (c b).kind,N (c b).key,N (c b).state,.slice H (c b).cells.length K] 91 (0,0))):=Xd _ ci.o;have t:J (RAt (r.alloc (.cells #[S (c b).name,N (c b).kind,N (c b).key,N (c b).state,.slice H (c b).cells.length K] 91)).drew w u f a (.slice fa b fc) (.slice U i.length V) c b Vs i):=(C.o.alloc (.cells #[S (c b).name,N (c b).kind,N (c b).key,N (c b).state,.slice H (c b).cells.length K] 91)).drew;have d7:J (P5 (r.alloc (.cells #[S (c b).name,N (c b).kind,N (c b).key,N (c b).state,.slice H (c b).cells.length K] 91)).drew ce tb y):=(dr.o.j ((k8 r.heap.size r).alloc (aA _) (.cells #[S (c b).name,N (c b).kind,N (c b).key,N (c b).state,.slice H (c b).cells.length K] 91))).j (qD (k8 _ _));have f8:J ((r.alloc (.cells #[S (c b).name,N (c b).kind,N (c b).key,N (c b).state,.slice H (c b).cells.length K] 91)).drew.ownsRow B0 58 3 (.slice H (c b).cells.length K) (c b).cells.length (jL (c b).cells)):=HU.o.alloc _;have ea:J ((r.alloc (.cells #[S (c b).name,N (c b).kind,N (c b).key,N (c b).state,.slice H (c b).cells.length K] 91)).drew.ownsRow B0 40 4 (.slice ya Z.length yc) Z.length (qg Z)):=HZ.o.alloc _;have ap:J (∀j T,([S (c b).name,N (c b).kind,N (c b).key,N (c b).state,.slice H (c b).cells.length K]:List Value)[j]?=some T->(r.alloc (.cells #[S (c b).name,N (c b).kind,N (c b).key,N (c b).state,.slice H (c b).cells.length K] 91)).drew.cell? (((A r.heap.size 0):Addr).add j)=some T):=zf r #[S (c b).name,N (c b).kind,N (c b).key,N (c b).state,.slice H (c b).cells.length K] 91 (by simp);have dW:=(zR t.o.o).1;refine d.out _ _ L.o (fun s=>?_);clear d h dd;(try simp only[jA,jB,jC,Act.put,jD,jE,jF]);generalize hL:(r.alloc (.cells #[S (c b).name,N (c b).kind,N (c b).key,N (c b).state,.slice H (c b).cells.length K] 91)).drew=WY at *;clear hL;generalize eg:r.heap.size=nb at ap ⊢;clear eg C ci dr;refine rd 4 (fun h d=>?_);simp only[jA,jB,jC];go_simp;(try go_wp2_with fail);refine d.out _ _ L.o (fun s=>?_);clear d h;(try simp only[jA,jB,jC,Act.put,jD,jE,jF]);refine rd 7 (fun h d=>?_);simp only[jA,jB,jC];rw[aQ (by simp[Region.wanted])];refine kQ _ (.tmp 146) (.tmp 148) 32 rfl (f+1) 91 i1 _ 5 64 Tryz.underlying32 e2 e4 e5 e6 rfl (by decide) (.slice fa b fc) b (Xt c Vs b) rfl t.o.found.row (A nb 0) 1 1 [S (c b).name,N (c b).kind,N (c b).key,N (c b).state,.slice H (c b).cells.length K] rfl rfl ap.o ?_ (by unfold maxLen;omega) (by omega) t.o.size ?_
            ·intro T hu;simp at hu;rcases hu with rfl|rfl|rfl|rfl|rfl<;>rfl
            intro v6 r be F _;have am:J (r.heap[m]?=some (.cells #[S (c b).name,N (c b).kind,N (c b).key,N (c b).state,.slice H (c b).cells.length K] 91 (0,0))):=by
             show _=_;rw[F.block m (aF.1 L.o).1 (by
              intro x;rcases Y.o with D|D
              ·rw[D]at x;cases x
              ·exact D x.symm)]
             exact L.o
            obtain⟨va,vc,em⟩:=jt be;subst em;have X:=I (xV F t.o.found.row t.o.o (by omega));have E:=I (t.o.b5 (B:=B0) h3.o f8.o h6 hZ.o F be);have d1:=I ((d7.o.aside F t.o.found.row (by decide) (by decide) (by decide) (by decide) (by decide)).box (Qk r f 0 (.slice va (b+1) vc)) X.o);have d8:=I ((ea.o.kept F (qd ea.o t.o.found.row (by decide))).kept (Qk r f 0 (.slice va (b+1) vc)) (QK (ea.o.kept F (qd ea.o t.o.found.row (by decide))) (by omega)));clear be F ap t L dW d7;refine d.out _ _ am.o (fun s=>?_);clear d h;(try simp only[jA,jB,jC,Act.put,jD,jE,jF]);refine tk 8 (Q f 0) ?_;refine tk 9 (Q f 0) ?_;simp only[jA,jB,jC,Act.put,jD,jE,jF];refine rd 10 (fun h d=>?_);simp only[jA,jB,jC];have cc:=(zR X.o).1;have fz:=kh r f 0 _ _ X.o;go_simp;(try go_wp2_with fail);have dl:=qL (Qk r f 0 (.slice va (b+1) vc)) am.o (by omega);refine d.out _ _ dl (fun s=>?_);clear d h cc fz;refine kp (by kernel_rfl) ?_ _;clear s dl X am;generalize eq:r.setCell _ _=w7 at *;clear eq;clear f8 ea;have dd:=(zR E.o.o).2;have fz:=kh w7 f 1 _ _ E.o.o;have hC:=(Ng E.o.ad).1;obtain⟨i2,go,hM,hN,hO⟩:=ks Tryz.ak;by_cases gp:Z.length=0
            ·obtain rfl:Z=[]:=aO gp;go_wp2_with(at_builtin;refine xW rfl (.tmp 156) (.tmp 157) 28 rfl 40 i2 Tryz.underlying28 go U i.length V rfl hC ya yc rfl ?_);have e7:=I (E.o.aw (Ym w7 _) E.o.ad);have fe:=I (d1.o.box (Qk w7 f 1 (.slice U i.length V)) E.o.o);have fk:J (KT pre n a y O (b+1)=i):=by
              show _=_;rw[Vf,f2.o,g7.o,aT]
             clear E d1 d8 dd fz;generalize fr:w7.setCell _ _=w8 at *;clear fr;go_wp2;go_roundw
             ·exact⟨b+1,_,_,_,i,by omega,by go_num,e7.o,fk.o,by omega,fe.o⟩
             ·simp[intOf];omega
            ·have hE:0<Z.length:=(by omega);obtain⟨yg,hP⟩:∃yg,ya=some (A yg 0):=by
              rcases d8.o.2 with⟨h0,h1⟩|⟨g,iC,iD,hv,_⟩
              ·omega
              ·injection hv with hv1 _ _
               exact⟨g,hv1⟩
             subst hP;have i0:=E.o.size;have f5:J (∀j T,(qg Z)[j]?=some T->w7.cell? (((A yg 0):Addr).add j)=some T):=d8.o.cells (g:=yg) rfl;have gZ:=d8.o.1;clear gp;go_wp2_with(at_builtin;refine wpList_append_lies _ rfl (.tmp 156) (.tmp 157) 28 rfl (f+1) 40 i2 _ 4 64 Tryz.underlying28 go hM hN hO rfl (by omega) (.slice U i.length V) i.length (qg i) rfl E.o.ad (A yg 0) Z.length yc (qg Z) rfl gZ f5.o hW.o hE (by unfold maxLen;omega) (by omega) (by omega) _ rfl ?_;intro gg gc w9 gt e0 hw hD;have eS:=xV e0 E.o.ad E.o.o (by omega);have c9:=(zR eS).2;have f9:=kh w9 f 1 _ _ eS);have e7:=I (E.o.aw (Z':=i++Z) e0 (by rw[RY,aB];exact gt));have fk:J (KT pre n a y O (b+1)=i++Z):=by
              show _=_;rw[Vf,f2.o,g7.o]
             have fe:=I ((d1.o.aside e0 E.o.ad (by decide) (by decide) (by decide) (by decide) (by decide)).box (Qk w9 f 1 (R gg (i.length+Z.length) gc)) eS);clear E d1 d8 dd fz gt e0 hw hD eS c9 f9 f5 gZ;generalize fr:w9.setCell _ _=w8 at *;clear fr;go_wp2;go_roundw
             ·exact⟨b+1,_,_,_,i++Z,by omega,by go_num,e7.o,fk.o,by rw[aB];omega,fe.o⟩
             ·simp[intOf];omega
          ·have iQ:b=y.U.length:=(by omega);have iR:¬(b:Int)<(y.U.length:Int):=(by omega);subst iQ;obtain⟨la,lc,hv,ij⟩:=C.o.found.av iA.o;injection hv with hv1 hv2 hv3
           subst hv1 hv3;clear hv2;have iz:=I ij;have iv:=I (zR C.o.o).1;clear ij;go_wp2;go_ret2;exact⟨C.o.below,.inr ⟨y,a,f,_,_,_,d0.o,HF.o,rfl,iv.o,by rw[ix.o];exact iz.o,(zR C.o.o).2,by rw[f2.o];exact jQ C.o.ad (by have h8:=C.o.lo;have h9:=C.o.lt;omega),by rw[f2.o];omega⟩⟩
end Go.Proofs.YthhpbhpfagoapaaGreat
