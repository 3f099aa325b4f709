import Derived.Test.YthhpbhpfagoapaaGreatGAS
import Derived.Test.YthhpbhpfagoapaaGreatGAQ
namespace Go.Proofs.YthhpbhpfagoapaaGreat
set_option linter.all false
set_option maxRecDepth 100000
set_option maxHeartbeats 16000000
open Go.RowKit
structure P4 (c:W8):Prop where
 name:c.name.length<=8
 kind:c.kind=0\/c.kind=1
 key:0<=c.key/\c.key<=9
 cells:c.cells=[]
def TN(c:W8):List Value:=[S c.name,N c.kind,N c.key,.slice none 0 0]
def Qf(t:List W8):List Value:=t.flatMap TN
theorem GR(t:List W8)(c:W8):Qf (t++[c])=Qf t++[S c.name,N c.kind,N c.key,.slice none 0 0]:=by simp[Qf,TN]
theorem Tryz.ba:(Tryz.prog.info? 61).map (fun a=>(a.zero,a.size,a.bytes))=some (some (.agg #[.string ⟨#[]⟩,N 0,N 0,.slice none 0 0]),4,56):=by kernel_rfl
theorem Ow{a b:W8}(c:P4 a)(d:P4 b)(e:ZW a=ZW b):a=b:=by
 simp only[ZW,cX]at e;obtain⟨f,g,h⟩:=e;have:=c.kind;have:=d.kind;have:=c.key;have:=d.key;have i:a.kind=b.kind:=by omega
 have j:a.key=b.key:=by omega
 have k:=c.cells;have l:=d.cells;cases a;cases b;simp_all
theorem Au:∀{d a:List W8},(∀c∈d,P4 c)->(∀c∈a,P4 c)->d.map ZW=a.map ZW->d=a:=by
 intro d
 induction d with
 | nil=>intro a _ _ b;cases a with
  | nil=>rfl
  | cons h j=>simp at b
 | cons h j i =>
  intro a f g b;cases a with
  | nil=>simp at b
  | cons k l =>
   simp only[eo,bT]at b;rw[Ow (f h (by simp)) (g k (by simp)) b.1,i (fun c e=>f c (bA _ e)) (fun c e=>g c (bA _ e)) b.2]
variable{B:List W8}
theorem XN(a:jW B=true)(g:∀c∈B,c.cells=[]):∀c∈B,P4 c:=by
 intro c h;obtain⟨i,b,rfl⟩:=cA.1 h;simp only[jW,aK]at a;obtain⟨d,e,c,f⟩:=QA (QE a.1 (aA _) i b).1;exact⟨(UM d).2,e,⟨c,f⟩,g _ (aJ b)⟩
variable{r s:B8}
theorem Fv{a t:List W8}(e:a.length<t.length)(j:∀c∈a,P4 c)(h:∀c∈t,P4 c)(b:a.flatMap jZ++s=t.flatMap jZ++r):∃c i,P4 c/\s=jZ c++i:=by
 have g:t.flatMap jZ++r=(t.take a.length).flatMap jZ++((t.drop a.length).flatMap jZ++r):=by
  rw[<-aD,<-cE,aY]
 rw[g]at b;obtain⟨_,d⟩:=VE a (t.take a.length) _ _ (by rw[aM];omega) b;rw[bK e,cu,aD]at d;exact⟨t[a.length],_,h _ (aJ e),d⟩
theorem CD{a t:List W8}(h:a.length=t.length)(g:∀c∈a,P4 c)(i:∀c∈t,P4 c)(d:a.flatMap jZ++s=t.flatMap jZ++r):a=t/\s=r:=by
 obtain⟨e,f⟩:=VE a t _ _ h d;exact⟨Au g i e,f⟩
variable{v w:W}{g i k m n:Nat}{x:Value}
theorem RM(a:w.ownsRow n 61 4 x m (Qf B))(r:B.length=m)(l:∀c∈B,P4 c):∃i d,x=.slice i m d/\m<=d/\P3 w i B:=by
 subst r;have k:∀c∈B,MP c:=fun c f=>by
  have:=l c f;have u:=this.name;have o:=this.kind;have t:=this.key;exact⟨by unfold maxLen;omega,⟨by omega,by omega⟩,by omega,by omega⟩
 rcases a.2 with⟨rfl,p⟩|⟨g,d,s,rfl,_,_,q,_⟩
 ·exact⟨none,0,by rw[p],by omega,k,fun h=>absurd (aO (by omega)) h⟩
 ·refine⟨_,d,rfl,q,k,fun _=>⟨g,0,rfl,(a.lt g rfl).2,fun j b=>?_⟩⟩;have e:=Jl TN 4 (fun _=>rfl) B j;simp only[dh];refine⟨?_,?_,?_,.slice none 0 0,?_,?_⟩
  ·rw[a.cellAt (j*4) (by omega)];exact e 0 b (by omega)
  ·rw[a.cellAt (j*4+1) (by omega)];exact e 1 b (by omega)
  ·rw[a.cellAt (j*4+2) (by omega)];exact e 2 b (by omega)
  ·rw[a.cellAt (j*4+3) (by omega)];exact e 3 b (by omega)
  ·rw[(l _ (aJ b)).cells];exact⟨none,0,rfl,aG _,⟨fun c f=>by simp at f,fun h=>absurd rfl h⟩,by simp⟩
variable{F:TypeId}{C:List Value}
theorem jy(d:w.ownsRow n F m x k C)(c:Below w.heap.size w v):v.ownsRow n F m x k C:=by
 refine⟨d.1,?_⟩;rcases d.2 with b|⟨g,i,j,rfl,l,e,rest⟩
 ·exact .inl b
 ·exact .inr ⟨g,i,j,rfl,l,(c.block g (aF.1 e).1).trans e,rest⟩
theorem zf(b:W)(a:V')(t:TypeId)(e:n=b.heap.size):∀(j:Nat) (d:Value),a.toList[j]?=some d->(b.alloc (.cells a t)).cell? (((A n 0):Addr).add j)=some d:=by
 subst e;exact qr b a t
theorem Sr(b:O')(c n:Nat)(t:List W8)(a:W)(h:t.length=n)(g:n<=maxLen)(e:n<=c)(f:P3 a b t) :
  C' 212 #[.slice b n c] a fun d i=>d=.returned (.bool (jW t))/\Below a.heap.size a i:=by
 subst h;exact Yd b c t a g e f
def jfu(p:Nat)(f rest:B8)(e:W)(b:Ending)(a:W):Prop :=
 e.grownBy a (some p)/\((b=T8/\∀(t:List W8) (q:B8),jW t=true->(∀c∈t,c.cells=[])->rest≠uB t.length++(t.flatMap jZ++q)) \/
  ∃(t:List W8) (v:Value) (d:B8),jW t=true/\(∀c∈t,P4 c)/\b=.returned v/\a.ownsRow e.heap.size 61 4 v t.length (Qf t)/\qU a p f d/\rest=uB t.length++(t.flatMap jZ++d))
theorem YK(p:Nat)(j rest:B8)(t:W)(hs:j.length<=maxLen)(hp:qU t p j rest) :
  C' 269 #[(Q p 0)] t (jfu p j rest t):=by
 obtain⟨i0,hi,eP,eR,eS⟩:=ks Tryz.ba;have K:=I hs;have Hp:=I hp;have U:=zh hp;clear hs hp;go_enter Tryz.func269,Tryz.ntmps269;go_wp2_with fail;refine(JQ p j rest 6 t K.o (by omega) Hp.o).mono ?_;rintro u w1 ⟨ac,⟨rfl,d⟩|⟨n,r0,hn,rfl,d4,bi⟩⟩
 ·have em:=I d;clear d;go_wp2;refine⟨rfl,ac,.inl ⟨rfl,fun b q e T a=>em.o b.length _ ?_ a⟩⟩;simp only[jW,aK,aN]at e;exact e.2.2
 have e4:n<=6:=hn;have ec:=I bi;have d7:=I ac;have er:=I d4;have cd:J (∀(b:List W8) (q:B8),jW b=true->rest=uB b.length++(b.flatMap jZ++q)->b.length=n/\r0=b.flatMap jZ++q):=by
  intro b q e a;rw[bi]at a;obtain⟨L,m⟩:=zz _ _ _ _ a;exact⟨L.symm,m⟩
 clear bi ac d4 hn;go_wp2;go_loopw [3,7] (fun v i wr=>∃(g:Nat) (h:List W8) (y:B8),g<=n/\i=N g/\h.length=g/\(∀c∈h,P4 c)/\wr.ownsRow t.heap.size 61 4 v g (Qf h)/\qU wr p j y/\t.grownBy wr (some p)/\r0=h.flatMap jZ++y) (fun _ i _=>n-(intOf i).toNat)
 case atStart=>exact⟨0,[],r0,aG _,rfl,rfl,(fun c a=>by cases a),kg _ _ _ _,er.o,d7.o,rfl⟩
 case round =>
  obtain⟨g,h,y,e1,rfl,cs,dT,x,F,w,d6⟩:=hrel;have l:=I cs;have z:=I dT;have H:=I d6;clear cs dT d6;by_cases e3:g<n
  ·have V:J ((∀(c:W8) q,P4 c->y≠jZ c++q)->∀(b:List W8) (q:B8),jW b=true->(∀c∈b,c.cells=[])->rest≠uB b.length++(b.flatMap jZ++q)):=by
    intro d b q e T a;obtain⟨L,m⟩:=cd.o b q e a;rw[H.o]at m;obtain⟨c,t2,f,Y⟩:=Fv (by have:=l.o;omega) z.o (XN e T) m;exact d c t2 f Y
   go_wp2_with fail;refine(Fg p j y 8 _ K.o (by omega) F).mono ?_;rintro u w2 ⟨B,⟨rfl,d⟩|⟨s,r2,dv,rfl,bv,d1⟩⟩
   ·have k:=I (V.o (fun c q f a=>d c.name (uB c.kind.toNat++(uB c.key.toNat++q)) f.name (by rw[a];simp only[jZ,aD])));have i:=I (je w B);clear d B w x F;go_wp2;exact⟨rfl,i.o,.inl ⟨rfl,k.o⟩⟩
   have am:=xI x U B;have O:=je w B;have X:=I d1;have eM:s.length<=8:=dv;clear x w B F d1 dv;go_wp2_with fail;refine(JQ p j r2 1 _ K.o (by omega) bv).mono ?_;rintro u w3 ⟨C,⟨rfl,d⟩|⟨o,r3,dl,rfl,bX,d2⟩⟩
   ·have k:=I (V.o (fun c q f a=>by
     rw[X.o]at a;simp only[jZ,aD]at a;obtain⟨_,M⟩:=NO a;exact d c.kind.toNat _ (by have:=f.kind;show _<=1;omega) M))
    have i:=I (je O C);clear d C O am bv;go_wp2;exact⟨rfl,i.o,.inl ⟨rfl,k.o⟩⟩
   have ap:=xI am U C;have P:=je O C;have ce:=I d2;have e0:o<=1:=dl;clear am O C bv d2 dl;go_wp2_with fail;refine(JQ p j r3 9 _ K.o (by omega) bX).mono ?_;rintro u w4 ⟨D,⟨rfl,d⟩|⟨r,r4,dr,rfl,b4,d3⟩⟩
   ·have k:=I (V.o (fun c q f a=>by
     rw[X.o]at a;simp only[jZ,aD]at a;obtain⟨_,M⟩:=NO a;rw[ce.o]at M;obtain⟨_,h6⟩:=zz _ _ _ _ M;exact d c.key.toNat _ (by have:=f.key;show _<=9;omega) h6))
    have i:=I (je P D);clear d D P ap bX;go_wp2;exact⟨rfl,i.o,.inl ⟨rfl,k.o⟩⟩
   have dW:=xI ap U D;have Z:=je P D;have eq:=I d3;have e2:r<=9:=dr;have e5:=Z.size;clear ap P D bX d3 dr;have be:=dW.alloc (.cells #[S s,N o,N r,.slice none 0 0] 61);have d5:=xf b4 ((k8 _ _).alloc (aA _) (.cells #[S s,N o,N r,.slice none 0 0] 61)) (zh b4);have co:=zW Z (.cells #[S s,N o,N r,.slice none 0 0] 61);go_wp2_with(at_builtin;refine ko _ rfl (.tmp 16) (.tmp 18) 22 rfl t.heap.size 61 i0 (.agg #[.string ⟨#[]⟩,N 0,N 0,.slice none 0 0]) 4 56 Tryz.underlying22 hi eP eR eS rfl (by decide) _ _ _ rfl (be.alloc _) (A _ 0) 1 1 [S s,N o,N r,.slice none 0 0] rfl rfl ?c1 ?c2 ?c3 ?c4 ?c5 ?_)
   case c1=>exact zf (w4.alloc _) #[S s,N o,N r,.slice none 0 0] 61 (by simp)
   case c2=>intro u hu;simp at hu;rcases hu with rfl|rfl|rfl|rfl<;>rfl
   case c3=>unfold maxLen;omega
   case c4=>omega
   case c5=>simp;omega
   intro v5 w5 d0 dd _;have HR:=I (Kr d5 U co be dd);have d8:=I d0;clear dW be d0 dd Z co d5 b4;go_wp2;go_roundw
   ·
    refine⟨g+1,h++[⟨s,o,r,[]⟩],r4,by omega,by go_num,by simp[l.o],?_,by rw[GR];exact d8.o,HR.o.1,HR.o.2,?_⟩
    ·intro c f;rcases aX.1 f with a|a
     ·exact z.o c a
     ·simp only[bD,bH,dm]at a;subst a;exact⟨eM,by simp only;omega,⟨by simp only;omega,by simp only;omega⟩,rfl⟩
    ·rw[H.o,X.o,ce.o,eq.o,cE];simp[jZ]
   ·simp[intOf];omega
  ·have eC:g=n:=(by omega);subst eC;have i:=I w;have ci:=I F;have ea:=I x;obtain⟨a,es,rfl,ev,ds⟩:=RM x l.o z.o;have eg:=I ds;clear x ds F w;go_wp2_with fail;refine(Sr a es g h _ l.o (by unfold maxLen;omega) ev eg.o).mono ?_;rintro u w6 ⟨rfl,da⟩;have G:=I da;clear da;cases E:jW h with
   | true =>
    have Hh:=I E;clear E;go_wp2_with fail;refine(qx _).mono ?_;rintro u w7 ⟨rfl,rfl⟩;go_wp2;go_ret;refine⟨jU i.o G.o,.inr ⟨h,_,y,Hh.o,z.o,rfl,?_,xf ci.o G.o (zh ci.o),?_⟩⟩
    ·rw[l.o];exact jy ea.o G.o
    ·rw[ec.o,H.o,l.o]
   | false =>
    have k:J (∀(b:List W8) (q:B8),jW b=true->(∀c∈b,c.cells=[])->rest≠uB b.length++(b.flatMap jZ++q)):=by
     intro b q e T a;obtain⟨L,m⟩:=cd.o b q e a;rw[H.o]at m;obtain⟨Y,_⟩:=CD (by rw[l.o,L]) z.o (XN e T) m;rw[Y,e]at E;cases E
    clear E;go_wp2_with fail;refine(xu _).mono ?_;rintro u w7 ⟨rfl,rfl⟩;go_wp2;exact⟨rfl,jU i.o G.o,.inl ⟨rfl,k.o⟩⟩
structure T9 (foot X8:Nat) (p:L8) (t:List W8) (pl:List Nat):Prop where
 rows:X8<=60
 J:qK p=true
 told:p.told=false
 R:p.R=(foot:Int)
 aq:jW t=true
 bare:∀c∈t,c.cells=[]
 len:pl.length=qc X8 p.group.toNat*t.length
 small:∀x∈pl,x<=65000
abbrev zaf(a:Nat)(p:L8)(cv b:Value):Value:=.agg #[N a,N p.group,N p.aa,N p.R,.bool p.told,cv,b]
def DU(text:B8)(h:Nat)(e:W)(g:Ending)(f:W):Prop :=
 Below e.heap.size e f/\((g=T8/\∀d p a b,T9 h d p a b->text≠qG d p a b) \/
  ∃d p a b cv i,T9 h d p a b/\text=qG d p a b/\(∀c∈a,P4 c)/\g=.returned (zaf d p cv i)/\f.ownsRow e.heap.size 61 4 cv a.length (Qf a)/\f.ownsRow e.heap.size 3 1 i b.length (xA b))
theorem Ly(p:Nat)(b rest:B8)(a d:Nat)(q:B8)(c:W)(s:b.length<=maxLen)(k:a<=1000000)(m:qU c p b rest)(t:d<=a)(e:rest=uB d++q) :
  C' 242 #[(Q p 0),N a] c fun f g=>f=.returned (N d)/\qU g p b q/\c.grownBy g (some p):=by
 refine(JQ p b rest a c s k m).mono ?_;rintro f w ⟨j,⟨rfl,l⟩|⟨n,v,u,rfl,r,o⟩⟩
 ·exact absurd e (l d q t)
 ·rw[o]at e;obtain⟨h,i⟩:=zz _ _ _ _ e;subst h i;exact⟨rfl,r,j⟩
theorem Wc(p:Nat)(c rest:B8)(a:Nat)(b:W)(l:c.length<=maxLen)(h:a<=1000000)(j:qU b p c rest)(f:∀e q,e<=a->rest≠uB e++q) :
  C' 242 #[(Q p 0),N a] b fun d o=>d=T8/\b.grownBy o (some p):=by
 refine(JQ p c rest a b l h j).mono ?_;rintro d t ⟨g,⟨rfl,r⟩|⟨n,m,i,rfl,s,k⟩⟩
 ·exact⟨rfl,g⟩
 ·exact absurd k (f n m i)
theorem XW{c0 c1 c2 c3 c4 c5 c6:Value}(b:w.heap[n]?=some (.cells #[c0,c1,c2,c3,c4,c5,c6] F (0,0))) :
  (w.cell? (A n 0)=some c0/\w.cell? (A n 1)=some c1/\w.cell? (A n 2)=some c2/\w.cell? (A n 3)=some c3/\w.cell? (A n 4)=some c4/\w.cell? (A n 5)=some c5/\w.cell? (A n 6)=some c6)/\(∀j,w.frozen? (A n j)=false) :=
 ⟨⟨by rw[jb b];rfl,by rw[jb b];rfl,by rw[jb b];rfl,by rw[jb b];rfl,by rw[jb b];rfl,by rw[jb b];rfl,by rw[jb b];rfl⟩,fun j=>kh w n j _ F b⟩
theorem jef{c0 c1 c2 c3 c4 c5 c6 v:Value}(c:w.heap[n]?=some (.cells #[c0,c1,c2,c3,c4,c5,c6] F (0,0))):(w.setCell (A n 5) v).heap[n]?=some (.cells #[c0,c1,c2,c3,c4,v,c6] F (0,0)):=by
 rw[kj w n 5 _ F v c];rfl
theorem jew{c0 c1 c2 c3 c4 c5 c6 v:Value}(c:w.heap[n]?=some (.cells #[c0,c1,c2,c3,c4,c5,c6] F (0,0))):(w.setCell (A n 6) v).heap[n]?=some (.cells #[c0,c1,c2,c3,c4,c5,v] F (0,0)):=by
 rw[kj w n 6 _ F v c];rfl
theorem jei{c0 c1 c2 c3 c4 c5 c6 v1 v2 v3 v4:Value}(c:v.heap[n]?=some (.cells #[c0,c1,c2,c3,c4,c5,c6] F (0,0))):(v.setCells n 1 [v1,v2,v3,v4]).heap[n]?=some (.cells #[c0,v1,v2,v3,v4,c5,c6] F (0,0)) :=
 Uf (w:=v) [v1,v2,v3,v4] [c0] [c5,c6] [c1,c2,c3,c4] rfl c
theorem zU(d:qU w n s r):w.heap[n]?=some (.cells #[S s,N ((s.length-r.length:Nat):Int)] 296 (0,0)):=by
 obtain⟨at_,e,f,rfl⟩:=d;rw[e,aP,show s.length-(s.length-at_)=at_ by omega]
theorem KY(c:qU w n s r)(h:v.heap[n]?=some (.cells #[S s,N ((s.length-r.length:Nat):Int)] 296 (0,0))):qU v n s r:=by
 have:=zU c;obtain⟨at_,e,f,g⟩:=c;rw[e]at this;exact⟨at_,by rw[h,this],f,g⟩
theorem TX{b a:List Nat}(d:b.length=a.length)(c:b.flatMap uB++s=a.flatMap uB):s=[]:=by
 induction b generalizing a with
 | nil =>
  cases a with
  | nil=>simpa using c
  | cons i h=>simp at d
 | cons j b g =>
  cases a with
  | nil=>simp at d
  | cons i h =>
   simp only[cu,aD]at c;obtain⟨_,f⟩:=zz _ _ _ _ c;exact g (by simpa using d) f
theorem To{c a:List Nat}(e:c.length<a.length)(d:c.flatMap uB++s=a.flatMap uB):∃b f,b∈a/\s=uB b++f:=by
 induction c generalizing a with
 | nil =>
  cases a with
  | nil=>simp at e
  | cons b g=>exact⟨b,g.flatMap uB,by simp,by simpa using d⟩
 | cons n c l =>
  cases a with
  | nil=>simp at e
  | cons b g =>
   simp only[cu,aD]at d;obtain⟨_,i⟩:=zz _ _ _ _ d;obtain⟨m,f,j,k⟩:=l (by simpa using e) i;exact⟨m,f,bA _ j,k⟩
theorem qM{q:V'}(e:w.ownsRow n m k x i C)(p:w.grownBy v (some g))(f:w.heap[g]?=some (.cells q F (0,0)))(s:F≠m):v.ownsRow n m k x i C:=by
 refine⟨e.1,?_⟩;rcases e.2 with r|⟨d,l,c,rfl,o,b,rest⟩
 ·exact .inl r
 ·refine .inr ⟨d,l,c,rfl,o,(p.block d (aF.1 b).1 (fun m=>?_)).trans b,rest⟩;cases m;rw[b]at f;cases f;exact s rfl
theorem Za(text:B8)(u:Nat)(r:W)(hs:text.length<=maxLen) :
  C' 259 #[S text,N u] r (DU text u r):=by
 obtain⟨i0,hi,iJ,iK,iL⟩:=ks Tryz.ay;have Hs:=I hs;clear hs;have eC:J (∀d p a b,T9 u d p a b->text=qG d p a b->text=uB d++(uB p.group.toNat++(uB p.aa.toNat++(uB p.R.toNat++(uB a.length++(a.flatMap jZ++b.flatMap uB)))))):=by
  intro d p a b _ e;rw[e];simp only[qG,aD]
 go_enter Tryz.func259,Tryz.ntmps259;go_wp2_with fail;obtain⟨gw,iH,_,gZ⟩:=jJ r #[N 0,N 0,N 0,N 0,.bool false,.slice none 0 0,.slice none 0 0] 117;generalize r.alloc _=W0 at *;have fk:=I gw;have hX:=I gZ;clear gw gZ;refine(Kw text W0).mono ?_;rintro E w1 ⟨rfl,fd,d6⟩;have fl:=I (fk.o.trans (d6.mono fk.o.size));have hY:=I ((d6.block r.heap.size iH).trans hX.o);have i3:=d6.size;generalize hp:W0.heap.size=p at *;have Hp:=I hp;clear d6 hp;have js:=zh fd;go_wp2_with fail;refine(JQ p text text 60 w1 Hs.o (by omega) fd).mono ?_;rintro E w2 ⟨dd,⟨rfl,C⟩|⟨d,r1,hR,rfl,ec,e6⟩⟩
 ·have s:J (∀d p a b,T9 u d p a b->text≠qG d p a b):=fun d p a b h e=>C d _ h.rows (eC.o d p a b h e);have B:=I (fl.o.trans (jn dd (by omega) (by omega)));clear C dd;go_wp2;exact⟨rfl,B.o,.inl ⟨rfl,s.o⟩⟩
 have iC:d<=60:=hR;have fs:=I (fl.o.trans (jn dd (by omega) (by omega)));have h9:=I (jm dd hY.o (by omega));have i7:=dd.size;have eM:J (∀f p a b,T9 u f p a b->text=qG f p a b->f=d/\r1=uB p.group.toNat++(uB p.aa.toNat++(uB p.R.toNat++(uB a.length++(a.flatMap jZ++b.flatMap uB))))):=by
  intro f p a b h e;have l:=eC.o f p a b h e;rw[e6]at l;obtain⟨m,w⟩:=zz _ _ _ _ l;exact⟨m.symm,w⟩
 have iq:=I e6;clear dd fd e6 hR eC;go_wp2_with fail;obtain⟨d7,i8,_,g9⟩:=jJ w2 #[N d,N 0,N 0,N 0,.bool false,.slice none 0 0,.slice none 0 0] 117;generalize w2.alloc _=w3 at *;have ft:=I (fs.o.trans (d7.mono fs.o.size));have ia:=I ((d7.block r.heap.size (by omega)).trans h9.o);have il:=I g9;have hf:=xf ec d7 (zh ec);have d8:p≠w2.heap.size:=by have:=zh ec;omega
 generalize hQ:w2.heap.size=q at *;have j2:r.heap.size<q:=by omega
 have j1:r.heap.size<p:=by have:=Hp.o;omega
 clear d7 g9 ec hQ;refine(JQ p text r1 60 w3 Hs.o (by omega) hf).mono ?_;rintro E w4 ⟨bi,⟨rfl,C⟩|⟨g,r2,hG,rfl,hg,e7⟩⟩
 ·have s:J (∀d p a b,T9 u d p a b->text≠qG d p a b):=fun d p a b h e=>by
   have O:=h.J;simp only[qK,aK,aN]at O;exact C p.group.toNat _ (by show _<=60;omega) (eM.o d p a b h e).2
  have B:=I (ft.o.trans (jn bi (by omega) (by omega)));clear C bi;go_wp2;exact⟨rfl,B.o,.inl ⟨rfl,s.o⟩⟩
 have iX:g<=60:=hG;have fv:=I (ft.o.trans (jn bi (by omega) (by omega)));have ib:=I (jm bi ia.o (by omega));have im:=I (jm bi il.o (by omega));have i9:=bi.size;have eP:J (∀f p a b,T9 u f p a b->text=qG f p a b->f=d/\p.group.toNat=g/\r2=uB p.aa.toNat++(uB p.R.toNat++(uB a.length++(a.flatMap jZ++b.flatMap uB)))):=by
  intro f p a b h e;obtain⟨l,m⟩:=eM.o f p a b h e;rw[e7]at m;obtain⟨w,o⟩:=zz _ _ _ _ m;exact⟨l,w.symm,o⟩
 have ir:=I e7;clear bi hf e7 hG eM;go_wp2_with fail;refine(JQ p text r2 60 w4 Hs.o (by omega) hg).mono ?_;rintro E w5 ⟨bv,⟨rfl,C⟩|⟨P,r3,hP,rfl,hj,fa⟩⟩
 ·have s:J (∀d p a b,T9 u d p a b->text≠qG d p a b):=fun d p a b h e=>by
   have O:=h.J;simp only[qK,aK,aN]at O;exact C p.aa.toNat _ (by show _<=60;omega) (eP.o d p a b h e).2.2
  have B:=I (fv.o.trans (jn bv (by omega) (by omega)));clear C bv;go_wp2;exact⟨rfl,B.o,.inl ⟨rfl,s.o⟩⟩
 have i1:P<=60:=hP;have fw:=I (fv.o.trans (jn bv (by omega) (by omega)));have ic:=I (jm bv ib.o (by omega));have io:=I (jm bv im.o (by omega));have ja:=bv.size;have eR:J (∀f p a b,T9 u f p a b->text=qG f p a b->f=d/\p.group.toNat=g/\p.aa.toNat=P/\r3=uB p.R.toNat++(uB a.length++(a.flatMap jZ++b.flatMap uB))):=by
  intro f p a b h e;obtain⟨l,m,w⟩:=eP.o f p a b h e;rw[fa]at w;obtain⟨o,h5⟩:=zz _ _ _ _ w;exact⟨l,m,o.symm,h5⟩
 have it:=I fa;clear bv hg fa hP eP;go_wp2_with fail;refine(JQ p text r3 9 w5 Hs.o (by omega) hj).mono ?_;rintro E w6 ⟨bX,⟨rfl,C⟩|⟨j,r4,hF,rfl,hl,fb⟩⟩
 ·have s:J (∀d p a b,T9 u d p a b->text≠qG d p a b):=fun d p a b h e=>by
   have O:=h.J;simp only[qK,aK,aN]at O;exact C p.R.toNat _ (by show _<=9;omega) (eR.o d p a b h e).2.2.2
  have B:=I (fw.o.trans (jn bX (by omega) (by omega)));clear C bX;go_wp2;exact⟨rfl,B.o,.inl ⟨rfl,s.o⟩⟩
 have iW:j<=9:=hF;have hE:=I (fw.o.trans (jn bX (by omega) (by omega)));have ie:=I (jm bX ic.o (by omega));have gb:=I (jm bX io.o (by omega));have jc:=bX.size;have d2:J (∀f p a b,T9 u f p a b->text=qG f p a b->f=d/\p=⟨(g:Int),(P:Int),(j:Int),false⟩/\r4=uB a.length++(a.flatMap jZ++b.flatMap uB)):=by
  intro f p a b h e;obtain⟨l,m,w,o⟩:=eR.o f p a b h e;rw[fb]at o;obtain⟨h5,h6⟩:=zz _ _ _ _ o;have O:=h.J;simp only[qK,aK,aN]at O;have ht:=h.told;refine⟨l,?_,h6⟩;cases p;simp only[L8.mk.injEq]at *;exact⟨by omega,by omega,by omega,ht⟩
 have iu:=I fb;clear bX hj fb hF eR;obtain⟨⟨x,y,F,G,H,z,K⟩,D⟩:=XW gb.o;have f1:=D 1;have f2:=D 2;have f3:=D 3;have f4:=D 4;clear D;have ip:=I (jei (v1:=N g) (v2:=N P) (v3:=N j) (v4:=.bool false) gb.o);have eS:=I (zu q [N g,N P,N j,.bool false] w6 1);have j4:=ZI q [N g,N P,N j,.bool false] w6 1;go_wp2_with fail;clear x y F G H z K f1 f2 f3 f4;refine(Iy ⟨(g:Int),(P:Int),(j:Int),false⟩ (w6.setCells q 1 [N g,N P,N j,.bool false])).mono ?_;generalize w6.setCells _ _ _=w7 at *;rintro E w8 ⟨rfl,da⟩;have gi:=I (JL hl eS.o d8);have fz:=I (hE.o.trans (jn eS.o (by omega) (by omega)));have ig:=I (jm eS.o ie.o (by omega));have d0:=I (fz.o.trans (da.mono fz.o.size));have ix:=I (xf gi.o da (zh gi.o));have gd:=I (jd da ip.o);have ih:=I (jd da ig.o);have jj:=da.size;clear da hl;obtain⟨⟨x,y,F,G,H,z,K⟩,D⟩:=XW gd.o;by_cases h:¬(qK ⟨(g:Int),(P:Int),(j:Int),false⟩=true/\j=u)
 ·have s:J (∀d p a b,T9 u d p a b->text≠qG d p a b):=fun d p a b t e=>by
   obtain⟨l,m,w⟩:=d2.o d p a b t e;refine h ⟨by rw[<-m];exact t.J,?_⟩;have o:=t.R;rw[m]at o;simp only at o;omega
  cases am:qK ⟨(g:Int),(P:Int),(j:Int),false⟩with
  | true =>
   have e4:((j:Int)==(u:Int))=false:=by
    have:j≠u:=fun e=>h ⟨am,e⟩;simp;omega
   clear am;go_wp2_with fail;refine(xu _).mono ?_;rintro E w9 ⟨rfl,rfl⟩;clear x y F G H z K D;go_wp2;exact⟨rfl,d0.o,.inl ⟨rfl,s.o⟩⟩
  | false =>
   clear am;go_wp2_with fail;refine(xu _).mono ?_;rintro E w9 ⟨rfl,rfl⟩;clear x y F G H z K D;go_wp2;exact⟨rfl,d0.o,.inl ⟨rfl,s.o⟩⟩
 obtain⟨am,rfl⟩:=dX.1 h;have ij:=I am;have O:=am;simp only[qK,aK,aN]at O;have gs:1<=g:=by omega
 rw[am];clear h am O;go_wp2_with fail;refine(qx _).mono ?_;rintro E w9 ⟨rfl,rfl⟩;clear x y F G H z K D;go_wp2_with fail;refine(YK p text r4 w9 Hs.o ix.o).mono ?_;rintro E eg ⟨ap,⟨rfl,C⟩|⟨a,cv,r5,hh,ds,rfl,b4,he,fc⟩⟩
 ·have s:J (∀d p a b,T9 j d p a b->text≠qG d p a b):=fun d p a b t e=>by
   exact C a _ t.aq t.bare (d2.o d p a b t e).2.2
  have B:=I (d0.o.trans (jn ap (by omega) (by omega)));clear C ap;go_wp2;exact⟨rfl,B.o,.inl ⟨rfl,s.o⟩⟩
 have hC:=I (d0.o.trans (jn ap (by omega) (by omega)));have hZ:=I (jm ap ih.o (by omega));have e1:=I (jm ap gd.o (by omega));have i4:=ap.size;have f7:J (∀f p X b,T9 j f p X b->text=qG f p X b->f=d/\p=⟨(g:Int),(P:Int),(j:Int),false⟩/\X=a/\r5=b.flatMap uB):=by
  intro f p X b h e;obtain⟨l,m,w⟩:=d2.o f p X b h e;rw[fc]at w;obtain⟨o,h5⟩:=zz _ _ _ _ w;obtain⟨h6,h7⟩:=CD o ds (XN h.aq h.bare) h5;exact⟨l,m,h6.symm,h7⟩
 have gX:a.length<=6:=by
  have:=hh;simp only[jW,aK,aN]at this;exact this.2.2
 have go:=I ds;have Hh:=I hh;have iv:=I fc;have f6:=I (jQ b4 (show r.heap.size<=w9.heap.size by omega));obtain⟨ca,cc,rfl⟩:=jt b4;generalize hn:a.length=n at *;have Hn:=I hn;clear ap b4 ds hh fc d2 hn;obtain⟨⟨x,y,F,G,H,z,K⟩,D⟩:=XW e1.o;have f5:=D 5;clear x y F G H K D;have ga:=I (jef (v:=.slice ca n cc) e1.o);have d3:=I (qQ eg q 5 (.slice ca n cc));have j3:(eg.setCell (A q 5) (.slice ca n cc)).heap.size=eg.heap.size:=by simp
 go_wp2_with fail;clear z f5;have ge:=I (JL he d3.o d8);have fn:=I (hC.o.trans (jn d3.o (by omega) (by omega)));have h0:=I (jm d3.o hZ.o (by omega));have hO:=I (qM f6.o d3.o e1.o (by decide));generalize eg.setCell _ _=iT at *;clear he f6;obtain⟨⟨x,y,F,G,H,z,K⟩,D⟩:=XW ga.o;have iV:=QP (n:=d) gs;clear F G H K D;have hM:IntKind.i64.wrap (((qc d g:Nat):Int)*(n:Int))=((qc d g*n:Nat):Int):=by
  have l:qc d g*n<=60*6:=cS (by omega) gX;rw[<-eV];exact kD _ ⟨by omega,by omega⟩
 have hJ:=I (fun w':W=>Gn d g w' (by omega) gs (by omega));have iZ:qc d g*n<=60*6:=cS (by omega) gX;have hL:J (qc d g*n=qc d g*n):=rfl;have e3:q<iT.heap.size:=by omega
 go_region_held3 (fun w'=>w'.cell? (A q 0)=some (N d)/\w'.cell? (A q 1)=some (N g)/\w'.cell? (A q 5)=some (.slice ca n cc)) (first|with_reducible exact⟨k0,k1,k5⟩|exact⟨x,y,z⟩)
  (first|(go_at_call 215;refine(hJ.o _).mono ?_;rintro E j5 ⟨sv,rfl,hr,gA⟩;obtain⟨sa,sc,rfl⟩:=jt hr;have M:=jg gA;have k0:=(M.cell (p:=A q 0) e3).trans x;have k1:=(M.cell (p:=A q 1) e3).trans y;have k5:=(M.cell (p:=A q 5) e3).trans z))
 have hD:=I (fn.o.trans (M.mono fn.o.size));have h8:=I (jd M h0.o);have ik:=I (jd M ga.o);have iw:=I (xf ge.o M (zh ge.o));have hS:=I (jy hO.o M);have i5:=M.size;clear gA M k0 k1 k5 x y z hr;rw[show((qc d g:Nat):Int)*(n:Int)=((qc d g*n:Nat):Int)from(eV ..).symm];generalize gt:qc d g*n=co at *;have er:=I gt;clear gt hL;go_wp2;go_loopw [45] (fun ff wr=>∃(i:Nat) (L:List Nat) (T:B8) (v:Value),i<=co/\ff=N i/\L.length=i/\(∀k∈L,k<=65000)/\wr.heap[q]?=some (.cells #[N d,N g,N P,N j,.bool false,.slice ca n cc,v] 117 (0,0))/\wr.ownsRow r.heap.size 3 1 v i (xA L)/\wr.ownsRow r.heap.size 61 4 (.slice ca n cc) n (Qf a)/\qU wr p text T/\Below r.heap.size r wr/\wr.heap[r.heap.size]?=some (.cells #[N 0,N 0,N 0,N 0,.bool false,.slice none 0 0,.slice none 0 0] 117 (0,0))/\q<wr.heap.size/\r5=L.flatMap uB++T) (fun ff _=>co-(intOf ff).toNat)
 case atStart=>exact⟨0,[],r5,.slice none 0 0,aG _,rfl,rfl,(fun k e=>by cases e),ik.o,kg _ _ _ _,hS.o,iw.o,hD.o,h8.o,by omega,rfl⟩
 case round =>
  obtain⟨i,L,T,v,i2,rfl,g8,ds,hq,b4,g3,hd,hB,ho,j0,hm⟩:=hrel;have dv:=I g8;have gp:=I ds;have Hq:=I hq;have f8:=I g3;have B:=I hB;have Ho:=I ho;have d4:=I hm;have dT:=I hd;have f9:=I b4;have hu:=hB.size;clear g8 ds hq g3 hB ho hm hd;obtain⟨Y,Z,rfl⟩:=jt b4;clear b4;by_cases iI:i<co
  ·have iF:(i:Int)<(co:Int):=(by omega);by_cases hx:¬∃(k:Nat) (U:B8),k<=65000/\T=uB k++U
   ·have s:J (∀d p a b,T9 j d p a b->text≠qG d p a b):=fun f p' X b t e=>by
     obtain⟨l,m,w,o⟩:=f7.o f p' X b t e;have V:=t.len;rw[l,m,w,Hn.o]at V;simp only[bY]at V;rw[er.o]at V;rw[d4.o]at o;obtain⟨eq,U,hy,hz⟩:=To (by rw[dv.o,V];exact iI) o;exact hx ⟨eq,U,t.small eq hy,hz⟩
    have hN:J (∀k U,k<=65000->T≠uB k++U):=fun k U l m=>hx ⟨k,U,l,m⟩;clear hx;go_wp2_with fail;have hI:J (wr.cell? (A q 6)=some (.slice Y i Z)):=(XW Hq.o).1.2.2.2.2.2.2;refine k9 (S:=fun w'=>w'.cell? (A q 6)=some (.slice Y i Z)) (by kernel_rfl) ?_ (fun iY=>?_)
    ·exact hI.o
    refine tk 0 (Q q 6) ?_;refine tk 1 (.slice Y i Z) ?_;refine tk 2 (Q p 0) ?_;simp only[jA,jB,jC,Act.put,jD,jE,jF];refine rd 3 (fun iU hK=>?_);simp only[jA,jB,jC];go_simp;go_at_call 242
    refine(Wc p text T 65000 _ Hs.o (by omega) (show qU wr.drew p text T from dT.o) hN.o).mono ?_;rintro E em ⟨rfl,iE⟩;exact⟨rfl,B.o.trans (jn (jS iE) (by omega) (by omega)),.inl ⟨rfl,s.o⟩⟩
   ·obtain⟨k,U,hv,hw⟩:=eG.1 hx;have gr:=I hw;clear hx hw;go_wp2_with fail;have ha:wr.drew.heap[q]?=some (.cells #[N d,N g,N P,N j,.bool false,.slice ca n cc,.slice Y i Z] 117 (0,0)):=Hq.o;have c6:=(XW ha).1.2.2.2.2.2.2;go_region_law (first
     | (refine step_append_lies _ (by rfl) _ _ _ (by rfl) r.heap.size 3 i0 _ 1 8 Tryz.underlying82 hi iJ iK iL rfl (by omega) _ i (xA L) (by rfl) (cd.alloc _) (A hA.heap.size 0) 1 1 [N k] (by rfl) (by rfl) (World.news_of_block (cs:=#[N k]) (t:=3) (fr:=(0,0)) (kH hA _)) (by simp[Value.oneCell']) (by omega) (by unfold maxLen;omega) (by omega) (by simp;omega) _ rfl ?_;intro gg gc dW g7 dl iD gU;have dr:=jq dl (cd.alloc _) (jo _ ea) (by decide);have iA:=(XW dr).1.2.2.2.2.2.2;have iB:=(XW dr).2 6)
     | (go_simp;go_at_call 242;refine(Ly p text T 65000 k U _ Hs.o (by omega) (show qU wr.drew p text T from dT.o) hv gr.o).mono ?_;rintro E hA ⟨rfl,fe,gT⟩;have be:=jS gT;have ea:=jm be Hq.o (eW d8);have iy:=(XW ea).1.2.2.2.2.2.2;have iz:=(XW (jo (.cells #[N k] 3) ea)).1.2.2.2.2.2.2;have cd:=qM f9.o be (zU dT.o) (by decide);have i6:=be.size))
    all_goals
     have g4:=qM f8.o be (zU dT.o) (by decide);have e5:=g4.alloc (.cells #[N k] 3);have g5:=e5.kept dl (qd e5 (cd.alloc _) (by decide));have es:=I (qM g5 (qQ dW q 6 (R gg (i+1) gc)) dr (by decide));have ev:=I (qM g7 (qQ dW q 6 (R gg (i+1) gc)) dr (by decide));have g0:=jm be Ho.o (by omega);have g2:=jq dl (cd.alloc _) (jo _ g0) (by decide);have ci:=I (jm (qQ dW q 6 (R gg (i+1) gc)) g2 (by omega));have hb:=jq dl (cd.alloc _) (jo _ (zU fe)) (by decide);have hV:=I (JL (KY fe hb) (qQ dW q 6 (R gg (i+1) gc)) d8);have d5:=B.o.trans (jn be (by omega) (by omega));have e2:=(d5.alloc d5.size (.cells #[N k] 3)).grown dl (by have:=d5.size;simp;omega) (fun i t=>(cd.lt i t).1);have ce:=I (e2.trans (jn (qQ dW q 6 (R gg (i+1) gc)) (by omega) e2.size));have d1:=I (jew (v:=R gg (i+1) gc) dr);have gU:=(aF.1 d1.o).1;clear g4 e5 g5 g0 g2 hb d5 e2 dr ea c6 iy iz iA iB g7 dl cd fe gT be ha iD;go_wp2;go_roundw
     ·exact⟨i+1,L++[k],U,R gg (i+1) gc,by omega,by go_num,by simp[dv.o],fun eq hy=>(aX.1 hy).elim (gp.o eq) (fun e=>by simp only[bD,bH,dm]at e;subst e;exact hv),d1.o,by rw[show xA (L++[k])=xA L++[N k] by simp[xA]];exact ev.o,es.o,hV.o,ce.o,ci.o,gU,by rw[d4.o,gr.o];simp⟩
     ·simp[intOf];omega
  ·have iF:¬(i:Int)<(co:Int):=(by omega);have iG:i=co:=(by omega);subst iG;go_wp2_with fail;refine(Id p text T wr Hs.o dT.o).mono ?_;rintro E em ⟨ac,⟨e4,rfl⟩|⟨gY,rfl⟩⟩
   ·have s:J (∀d p a b,T9 j d p a b->text≠qG d p a b):=fun f p' X b t e=>by
     obtain⟨l,m,w,o⟩:=f7.o f p' X b t e;have V:=t.len;rw[l,m,w,Hn.o]at V;simp only[bY]at V;rw[er.o]at V;rw[d4.o]at o;exact e4 (TX (by rw[dv.o,V]) o)
    have ce:=I (B.o.trans (ac.mono hu));clear e4 ac;go_wp2;exact⟨rfl,ce.o,.inl ⟨rfl,s.o⟩⟩
   ·have ce:=I (B.o.trans (ac.mono hu));have ci:=I (jd ac Ho.o);have d1:=I (jd ac Hq.o);have es:=I (jy f8.o ac);have ev:=I (jy f9.o ac);have hW:J (text=qG d ⟨(g:Int),(P:Int),(j:Int),false⟩ a L):=by
     show _=_;simp only[qG,aD,bY];rw[iq.o,ir.o,it.o,iu.o,iv.o,d4.o,gY,aT,Hn.o]
    clear gY ac;obtain⟨⟨x,y,F,G,H,z,K⟩,_⟩:=XW d1.o;obtain⟨⟨o0,o1,o2,o3,o4,o5,o6⟩,of⟩:=XW ci.o;have iM:=of 0;have iN:=of 1;have iO:=of 2;have iP:=of 3;have iQ:=of 4;have iR:=of 5;have iS:=of 6;clear of;have ii:=I (Xk [N d,N g,N P,N j,.bool false,.slice ca n cc,.slice Y i Z] (by rfl) ci.o);have e0:=I (zu r.heap.size [N d,N g,N P,N j,.bool false,.slice ca n cc,.slice Y i Z] em 0);go_wp2;show bodyPost _ _ _ _ _ (em.setCells r.heap.size 0 [N d,N g,N P,N j,.bool false,.slice ca n cc,.slice Y i Z]);clear x y F G H z K o0 o1 o2 o3 o4 o5 o6 iM iN iO iP iQ iR iS;have hT:=I (qM es.o e0.o ci.o (by decide));have hU:=I (qM ev.o e0.o ci.o (by decide));generalize em.setCells _ _ _=WF at *;have hH:=I (ce.o.trans (jn e0.o (aA _) ce.o.size));obtain⟨⟨x,y,F,G,H,z,K⟩,_⟩:=XW ii.o;refine kk (v:=zaf d ⟨(g:Int),(P:Int),(j:Int),false⟩ (.slice ca n cc) (.slice Y i Z)) (by simp[results,Tryz.results259,go_sem,x,y,F,G,H,z,K]) rfl ⟨hH.o,.inr ⟨d,⟨(g:Int),(P:Int),(j:Int),false⟩,a,L,.slice ca n cc,.slice Y i Z,⟨iC,ij.o,rfl,rfl,Hh.o,fun c hc=>(go.o c hc).cells,?_,gp.o⟩,hW.o,go.o,rfl,?_,?_⟩⟩
    ·rw[dv.o,<-er.o,Hn.o];rfl
    ·rw[Hn.o];exact hT.o
    ·rw[dv.o];exact hU.o
end Go.Proofs.YthhpbhpfagoapaaGreat
