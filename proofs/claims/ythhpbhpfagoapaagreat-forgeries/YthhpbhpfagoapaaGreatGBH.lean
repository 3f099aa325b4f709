import Derived.Test.YthhpbhpfagoapaaGreatGBA
namespace Go.Proofs.YthhpbhpfagoapaaGreat
set_option linter.all false
set_option maxRecDepth 100000
set_option maxHeartbeats 16000000
open Go.RowKit
def WB(kind:Int)(d:B8)(k:W)(hk:kind=0\/kind=1)(hs:d.length<=maxLen):C' 112 #[N kind,S d] k fun X w'=>∃v,X=.returned (.tuple #[v,.bool (xO kind d).isSome])/\Mh w' v (xO kind d)/\Below k.heap.size k w':=by
 obtain⟨i1,gX,g8,g9,ha⟩:=ks Tryz.au;go_enter Tryz.func112,Tryz.ntmps112;go_upto_region 1 with fail;go_cut [23] (fun t wc=>t=.bool false/\k=wc)
 case first=>
  have g3:(kind !=0)=false\/(kind !=0)=true/\(kind !=1)=false:=by rcases hk with rfl|rfl<;>simp
  rcases g3 with g0|⟨g0,hp⟩
  ·go_wp2_with fail;go_meet
   ·exact⟨rfl,rfl⟩
  ·go_wp2_with fail;go_meet
   ·exact⟨rfl,rfl⟩
 case rest=>
  obtain⟨rfl,rfl⟩:=hcut;go_wp2_with fail;have eq:=NI k d;have eC:=I ((k8 k.heap.size k).alloc (aA _) (Obj.cells #[S d,N 0,Value.bool false] 243));have b4:k.heap.size<(k.alloc (Obj.cells #[S d,N 0,Value.bool false] 243)).heap.size:=by simp
  generalize k.alloc (Obj.cells #[S d,N 0,Value.bool false] 243)=z at *;obtain⟨p,em⟩:∃p,p=k.heap.size:=⟨_,rfl⟩;rw[<-em]at eq b4 ⊢;have e2:=I em;clear em;refine(QU p d (some d) 60 _ hs (by decide) (by decide) eq).mono ?_;rintro X w2 ⟨rfl,er,fk⟩;have e5:(60:Int).toNat=60:=rfl;rw[e5]at er ⊢;have hn:=zI 60 (some d);have M:J (∃n T,qa 60 (some d)=(n,T)):=⟨_,_,rfl⟩;have ce:J (H6 z w2 p d (qa 60 (some d)).2 (.slice none 0 0) []):=⟨kg _ _ _ _,er,fk⟩;obtain⟨n,T,ea⟩:=M.o;rw[ea]at hn ce ⊢;have e1:=I ea;simp only at hn ce ⊢;clear e5 eq er fk M ea;go_upto_block 0 with fail
  go_cut [8,9,10,11,12,13] (fun lv cv _ _ _ _ wc=>∃(a:List Bool) (h:Option B8),cv=N (qe a:Int)/\H6 z wc p d h lv a/\a.length<=n/\Qo n 200 [] false T=(a,h))
  case first=>
   go_wp2_with fail;go_loopw [8,9,10,11,12,13] (fun lv cv bv rv _ _ wr=>∃(m:Nat) (a:List Bool) (s:Bool) (y:Option B8),m<=200/\rv=N m/\cv=N (qe a:Int)/\bv=.bool s/\H6 z wr p d y lv a/\a.length<=n/\Qo n (200-m) a s y=Qo n 200 [] false T)
    (fun _ _ _ rv _ _ _=>200-(intOf rv).toNat)
   case atStart=>exact⟨0,[],false,T,by omega,rfl,rfl,rfl,ce.o,aG _,rfl⟩
   case round=>
    obtain⟨m,a,s,y,hR,rfl,rfl,rfl,x,ap,bX⟩:=hrel;obtain⟨C,D,rfl,_,_⟩:=QZ x.row (DP a);rw[cJ]at *;obtain⟨w,d8⟩:=QW x.spot;have o:=I x;have V:=I bX;clear x bX d8;have fe:=Ta a;by_cases Z:a.length<n/\m<200/\y.isSome=true
    ·obtain⟨r,hb,f8⟩:=Z;obtain⟨r0,rfl⟩:=fO.1 f8;simp only[Xw]at w;clear f8;go_wp2_with fail;refine(QU p d (some r0) _ _ hs (by omega) (by omega) o.o.spot).mono ?_;rintro X w3 ⟨rfl,es,ec⟩;have e4:((n:Int)-(a.length:Int)).toNat=n-a.length:=(by omega);rw[e4]at es ⊢;have gU:=zI (n-a.length) (some r0);have d4:J (Qo n (200-(m+1)) (a++List.replicate (qa (n-a.length) (some r0)).1 s) (!s) (qa (n-a.length) (some r0)).2=Qo n 200 [] false T):=by
      have i:=V.o;rw[show 200-m=(200-(m+1))+1 by omega,Qo,aQ ⟨r,rfl⟩]at i;exact i
     have d0:J (H6 z w3 p d (qa (n-a.length) (some r0)).2 (.slice C a.length D) (a++List.replicate 0 s)):=by
      rw[gB,aT];exact⟨xI o.o.row b4 ec,es,je o.o.grown ec⟩
     clear es ec o V e4 w;generalize qa (n-a.length) (some r0)=fr at *;obtain⟨b,h⟩:=fr;simp only at gU d4 d0 ⊢;go_wp2_with fail;go_loopw [8,13] (fun lv P w3=>∃j:Nat,j<=b/\P=N j/\H6 z w3 p d h lv (a++List.replicate j s)) (fun _ P _=>b-(intOf P).toNat)
     case atStart=>exact⟨0,aG _,rfl,d0.o⟩
     case round=>
      obtain⟨j,ho,rfl,hm⟩:=hrel;have Hm:=I hm;have O:=hm.row;have hx:=hm.grown.size;clear hm d0;have hv:(a++List.replicate j s).length<=60:=(by rw[aB,bf];omega);by_cases gZ:j<b
      ·go_wp2_with(at_builtin;refine ko _ rfl (.tmp 57) (.tmp 60) 59 rfl z.heap.size 58 i1 (.agg #[.bool false,N 0,.string ⟨#[]⟩]) 3 32 Tryz.underlying59 gX g8 g9 ha rfl (by decide) _ _ _ rfl (O.alloc _) (A _ 0) 1 1 [.bool s,N 0,.string ⟨#[]⟩] rfl rfl ?c1 ?c2 ?c3 ?c4 ?c5 ?_)
       case c1=>exact qr _ #[.bool s,N 0,.string ⟨#[]⟩] 58
       case c2=>intro hy hu;simp at hu;rcases hu with rfl|rfl|rfl<;>rfl
       case c3=>unfold maxLen;omega
       case c4=>omega
       case c5=>simp;omega
       intro v4 w4 fs fn _;have HR:=I (Fw b4 Hm.o (by rw[aB,bf,eb,List.map_replicate];exact fs) fn);clear fs fn O Hm;go_wp2;go_roundw
       ·exact⟨j+1,by omega,by go_num,HR.o⟩
       ·simp[intOf];omega
      ·have gY:j=b:=(by omega);subst gY;clear gZ O;cases s with
       | true=>
        have K:=I ((US a j).2);go_wp2_with fail;go_roundw
        ·exact⟨m+1,_,false,_,by omega,by go_num,by rw[K.o],rfl,Hm.o,by rw[aB,bf];omega,d4.o⟩
        ·simp[intOf];omega
       | false=>
        have K:=I ((US a j).1);go_wp2_with fail;go_roundw
        ·exact⟨m+1,_,true,_,by omega,by go_num,by rw[K.o];go_num,rfl,Hm.o,by rw[aB,bf];omega,d4.o⟩
        ·simp[intOf];omega
    ·have L:J (Qo n 200 [] false T=(a,y)):=by
      rw[J,<-V.o];by_cases da:m<200
      ·exact Sh _ _ _ _ _ (fun q=>Z ⟨q.1,da,q.2⟩)
      ·rw[show 200-m=0 by omega];rfl
     by_cases r:a.length<n
     ·by_cases da:m<200
      ·have fc:Xw y=true:=by
        cases y with
        | none=>rfl
        | some ds=>exact absurd ⟨r,da,rfl⟩ Z
       rw[fc]at w;clear Z fc;go_wp2_with fail;go_meet
       ·exact⟨a,y,rfl,o.o,ap,L.o⟩
      ·have gA:m=200:=(by omega);subst gA;clear Z da w;go_wp2_with fail;go_meet
       ·exact⟨a,y,rfl,o.o,ap,L.o⟩
     ·have ht:n<=a.length:=(by omega);clear Z r w;go_wp2_with fail;go_meet
      ·exact⟨a,y,rfl,o.o,ap,L.o⟩
  case rest=>
   obtain⟨a,h,rfl,x,ap,bX⟩:=hcut;obtain⟨C,D,fv,-,-⟩:=QZ x.row (DP a);rw[cJ]at fv;subst fv;obtain⟨w,d8⟩:=QW x.spot;have o:=I x;have V:=I bX;have ac:=I (Dm eC.o x.grown (cO e2.o.symm));clear x bX d8 ce;have fe:=Ta a;by_cases F:h=none\/a.length≠n
   ·have B:J (xO kind d=none):=by
     simp only[J,xO,Kd,e1.o,V.o];rw[aQ F]
    by_cases E:h=none
    ·subst E;simp only[Xw]at w;clear F;go_wp2_with fail;go_ret2;rw[B.o];exact⟨_,rfl,⟨none,0,rfl⟩,ac.o⟩
    ·have u:Xw h=false:=by
      cases h with
      | none=>exact absurd rfl E
      | some ds=>rfl
     have fw:((a.length:Int)!=(n:Int))=true:=by
      have:a.length≠n:=F.resolve_left E;simp;omega
     rw[u]at w;clear F E u;go_wp2;go_ret2;rw[B.o];exact⟨_,rfl,⟨none,0,rfl⟩,ac.o⟩
   ·have f4:h≠none:=fun q=>F (.inl q);have g4:a.length=n:=dQ fun q=>F (.inr q);have u:Xw h=false:=by
     cases h with
     | none=>exact absurd rfl f4
     | some ds=>rfl
    subst g4;have fw:((a.length:Int)!=(a.length:Int))=false:=(by simp);rw[u]at w;clear f4 u;go_upto_if 80 with fail;go_cut [14,15,16] (fun _ _ _ wx=>∃f:List Z9,f.length=a.length/\(∀c∈f,D9 c)/\wx.ownsRow z.heap.size 58 3 (.slice C a.length D) a.length (jL f)/\Below k.heap.size k wx/\Kd kind d=some f)
    case first=>
     have K:J (Kd kind d=if qe a=0 then some (qF a [])else if(zV kind (qe a) h).2=none\/(zV kind (qe a) h).1.length≠qe a then none else some (qF a (zV kind (qe a) h).1)):=by
      simp only[J,Kd,e1.o,V.o];rw[aL F]
     clear F;by_cases am:qe a=0
     ·have hh:(qe a:Int)=0:=(by omega);have L:J (Kd kind d=some (a.map KL)):=by
       rw[J,K.o,aQ am,Pi a am]
      clear am;go_wp2_with fail;go_meet
      ·exact⟨_,by simp,DP a,o.o.row,ac.o,L.o⟩
     ·have hg:(0:Int)<(qe a:Int):=(by omega);have g7:p<wc.heap.size:=aC b4 o.o.grown.size;have gT:qe a<=60:=(by omega);go_wp2_with fail;refine(Db p d h kind (qe a) _ hs g7 gT hk o.o.spot).mono ?_;rintro X w5 ⟨v5,rfl,dr,dl,ev,be⟩;have cd:=K.o;rw[aL am]at cd;generalize zV kind (qe a) h=gr at *;obtain⟨e,U⟩:=gr;simp only at dr dl ev cd;have dW:=I cd;clear K cd am;obtain⟨a5,e3,rfl,-,-⟩:=QZ dr dl;obtain⟨dd,-⟩:=QW ev;have go:=I dr;have ge:=I dl;have dv:=I (ac.o.grown be ac.o.size (fun b hk=>by simp at hk;have:=e2.o;omega));have eS:=I (xI o.o.row b4 be);have hw:=be.size;clear dr dl ev be w;by_cases H:U=none\/e.length≠qe a
      ·have B:J (xO kind d=none):=by
        have i:=dW.o;rw[aQ H]at i;simp only[J,xO,i]
       by_cases E:U=none
       ·subst E;simp only[Xw]at dd;clear H;go_wp2_with fail;go_ret2;rw[B.o];exact⟨_,rfl,⟨none,0,rfl⟩,dv.o⟩
       ·have u:Xw U=false:=by
         cases U with
         | none=>exact absurd rfl E
         | some ds=>rfl
        have fz:((e.length:Int)!=(qe a:Int))=true:=by
         have:e.length≠qe a:=H.resolve_left E;simp;omega
        rw[u]at dd;clear H E u;go_wp2_with fail;go_ret2;rw[B.o];exact⟨_,rfl,⟨none,0,rfl⟩,dv.o⟩
      ·have e7:U≠none:=fun q=>H (.inl q);have fa:e.length=qe a:=dQ fun q=>H (.inr q);have L:J (Kd kind d=some (qF a e)):=by
        have i:=dW.o;rw[aL H]at i;exact i
       have u:Xw U=false:=by
        cases U with
        | none=>exact absurd rfl e7
        | some ds=>rfl
       have fz:((e.length:Int)!=(qe a:Int))=false:=(by simp;omega);rw[u]at dd;have e0:=I fa;clear H e7 u dW fa;go_upto_block 4 with fail
       obtain⟨g,rfl,hi⟩:∃g,C=some (A g 0)/\z.heap.size<=g:=by
        rcases eS.o.2 with⟨i,h2⟩|⟨g,c,gs,i,h2,h3⟩
        ·omega
        ·simp only[cx]at i;exact⟨g,i.1,h2⟩
       have hl:g<wc.heap.size:=(o.o.row.lt g rfl).2;clear dd fz;go_wp2_with fail;go_loopw [15,16] (fun av P wr=>∃b:Nat,b<=a.length/\P=N b/\av=N (qe (a.take b):Int)/\wr.ownsRow z.heap.size 58 3 (R g a.length D) a.length (jL (Ut a e b))/\wr.ownsRow wc.heap.size 58 3 (.slice a5 e.length e3) e.length (jL e)/\Below k.heap.size k wr)
        (fun _ P _=>a.length-(intOf P).toNat)
       case atStart=>exact⟨0,aG _,rfl,rfl,by rw[jbd];exact eS.o,go.o,dv.o⟩
       case round=>
        obtain⟨b,hq,rfl,rfl,f6,gb,hB⟩:=hrel;have co:=I f6;have cs:=I gb;have HB:=I hB;clear f6 gb hB;by_cases r:b<a.length
        ·have O:=co.o;obtain⟨c1,c2,c3,f1,f2,f3⟩:=Om O (by rw[UR]) b r (KL a[b]) (jeq a e b r);cases G:a[b]with
         | true=>
          rw[G]at c1 c2 c3;simp only[KL]at c1 c2 c3;have HM:=I (WR a e b r G);have HA:=I (YL a b r G);clear O G c2 c3 f1 f2 f3;go_wp2_with fail;go_roundw
          ·exact⟨b+1,by omega,by go_num,by rw[HA.o],by rw[HM.o];exact co.o,cs.o,HB.o⟩
          ·simp[intOf];omega
         | false=>
          rw[G]at c1 c2 c3;simp only[KL]at c1 c2 c3;obtain⟨f9,ga⟩:=IU a b r G;have HA:=I ga;have d5:qe (a.take b)<e.length:=(by rw[e0.o];exact f9);have HM:=I (FQ a e b r G d5);obtain⟨g5,rfl,be⟩:∃g5,a5=some (A g5 0)/\wc.heap.size<=g5:=by
           rcases cs.o.2 with⟨i,h2⟩|⟨g,c,gs,i,h2,h3⟩
           ·omega
           ·simp only[cx]at i;exact⟨g,i.1,h2⟩
          obtain⟨d1,d2,d3,-,-,-⟩:=Om cs.o rfl (qe (a.take b)) d5 _ (aR d5);have hc:qe (a.take b)<=60:=by have:=e0.o;omega
          generalize hd:qe (a.take b)=at_ at *;have he:(at_:Int)<(e.length:Int):=(by omega);clear O G f9 ga;have HS:J ((((wr.setCell (A g (b*3)) (.bool (e[at_]).null)).setCell (A g (b*3+1)) (N (e[at_]).int)).setCell (A g (b*3+2)) (S (e[at_]).text)).ownsRow z.heap.size 58 3 (R g a.length D) a.length (jL (Ut a e (b+1)))):=by
           have q:=jbq (l:=Ut a e b) (c:=e[at_]) (a:=b) (by rw[UR];exact co.o) (by rw[UR];exact r);rw[UR]at q;rw[J,HM.o];exact q
          have HG:=I (Ac wr g (b*3) (b*3+1) (b*3+2) (.bool (e[at_]).null) (N (e[at_]).int) (S (e[at_]).text));have HV:J ((((wr.setCell (A g (b*3)) (.bool (e[at_]).null)).setCell (A g (b*3+1)) (N (e[at_]).int)).setCell (A g (b*3+2)) (S (e[at_]).text)).ownsRow wc.heap.size 58 3 (R g5 e.length e3) e.length (jL e)):=cs.o.kept HG.o (.inr (by simp only[Value.ownBlock,gV,aW];omega))
          have gc:=I (HB.o.grown HG.o HB.o.size (fun j hj=>by simp at hj;have:=eC.o.size;omega));go_wp2_with fail;go_roundw
          ·exact⟨b+1,by omega,by go_num,by rw[HA.o];go_num,HS.o,HV.o,gc.o⟩
          ·simp[intOf];omega
        ·have g2:b=a.length:=(by omega);subst g2;go_wp2_with fail;go_meet
         ·exact⟨qF a e,Xq _ _,jaw a e ge.o,by rw[<-jbz];exact co.o,HB.o,L.o⟩
    case rest=>
     obtain⟨f,gw,eg,f5,e6,ff⟩:=hcut;obtain⟨a2,gp,fb,-,ft⟩:=QZ f5 eg;have HL:=I ft;have eP:=I e6;have M:J (xO kind d=if qi kind f=true/\xy kind f=d then some f else none):=(by simp only[J,xO,ff]);have gt:f.length<=60:=(by omega);obtain⟨rfl,fd,rfl⟩:C=a2/\a.length=f.length/\D=gp:=by simpa using fb
     have gg:=I eg;rw[fd];clear fb f5 eg ft e6 ff F fw fd gw ap fe;go_wp2_with fail;refine(AD kind C D f _ (by unfold maxLen;omega) HL.o).mono ?_;rintro X w6 ⟨rfl,d6⟩;have eR:=I (HL.o.j d6);have dT:=I (eP.o.trans (d6.mono eP.o.size));clear d6;cases bi:qi kind f with
     | false=>
      have B:J (xO kind d=none):=by
       rw[J,M.o,aL (by simp[bi])]
      clear bi;go_wp2_with fail;go_ret2;rw[B.o];exact⟨_,rfl,⟨none,0,rfl⟩,dT.o⟩
     | true=>
      have f7:=(jak bi gg.o).1;have HV:J (F2 w6 C f):=⟨eR.o,f7,gt⟩;have ci:J (xO kind d=if xy kind f=d then some f else none):=by
       rw[J,M.o,bi];simp
      clear bi f7;go_wp2_with fail;refine(TY kind C D f _ HV.o).mono ?_;rintro X w7 ⟨rfl,d7⟩;have gd:=I (eR.o.j d7);have eM:=I (dT.o.trans (d7.mono dT.o.size));clear d7;by_cases Y:xy kind f=d
      ·have gi:J (xO kind d=some f):=(by rw[J,ci.o,aQ Y]);rw[Y];clear ci M Y;go_wp2_with fail;go_ret2;rw[gi.o];exact⟨_,rfl,⟨C,D,rfl,gd.o⟩,eM.o⟩
      ·have B:J (xO kind d=none):=(by rw[J,ci.o,aL Y]);have hf:(xy kind f==d)=false:=(by simp[Y]);clear ci M Y;generalize xy kind f=pg at *;go_wp2_with fail;go_ret2;rw[B.o];exact⟨_,rfl,⟨none,0,rfl⟩,eM.o⟩
variable{s:B8}{n:Nat}
def Iq(m:On s)(l:¬s.length<8+XT (s.drop (s.length-4)))(k:s.length-4-XT (s.drop (s.length-4))=n):JO s=(if(qO (if decide (s.getD 2 0=79)=true then qC ((zp (some ((s.drop n).take (s.length-4-n)))).1:Int) (zp (some ((s.drop n).take (s.length-4-n)))).2 else([],some ((s.drop n).take (s.length-4-n)))).2).2=some []
   then some ⟨decide (s.getD 2 0=79),(s.getD 3 0).toNat,(s.drop 4).take (n-4),(if decide (s.getD 2 0=79)=true then qC ((zp (some ((s.drop n).take (s.length-4-n)))).1:Int) (zp (some ((s.drop n).take (s.length-4-n)))).2 else([],some ((s.drop n).take (s.length-4-n)))).1,(qO (if decide (s.getD 2 0=79)=true then qC ((zp (some ((s.drop n).take (s.length-4-n)))).1:Int) (zp (some ((s.drop n).take (s.length-4-n)))).2 else([],some ((s.drop n).take (s.length-4-n)))).2).1.1,(qO (if decide (s.getD 2 0=79)=true then qC ((zp (some ((s.drop n).take (s.length-4-n)))).1:Int) (zp (some ((s.drop n).take (s.length-4-n)))).2 else([],some ((s.drop n).take (s.length-4-n)))).2).1.2⟩else none):=by
 obtain⟨d,e,f,g,h,i,j⟩:=m;have file:¬(65000<s.length\/s.length<8\/s.take 2≠[67,70]\/s.drop (s.length-2)≠[67,70]\/(s.getD 2 0≠69/\s.getD 2 0≠79)\/(s.getD 3 0).toNat<1\/9<(s.getD 3 0).toNat):=by
  rintro(b|b|b|b|⟨b,c⟩|b|b)
  ·exact d b
  ·exact e b
  ·exact b f
  ·exact b g
  ·exact h.elim b c
  ·exact i b
  ·exact j b
 unfold JO;rw[aL file,aL l];simp only[k]
variable{w:W}{F:TypeId}
def Xo{b d c e f g:Value}(h:w.heap[n]?=some (.cells #[b,d,c,e,f,g] F (0,0))):w.cell? (A n 0)=some b/\w.cell? (A n 1)=some d/\w.cell? (A n 2)=some c/\w.cell? (A n 3)=some e/\w.cell? (A n 4)=some f/\w.cell? (A n 5)=some g:=by
 refine⟨?_,?_,?_,?_,?_,?_⟩<;>rw[kC w n _ _ _ (0,0) h]<;>rfl
def WZ{d e c f g h x y:Value}(i:w.heap[n]?=some (.cells #[d,e,c,f,g,h] F (0,0))):((w.setCell (A n 4) x).setCell (A n 5) y).heap[n]?=some (.cells #[d,e,c,f,x,y] F (0,0)):=kj (w.setCell (A n 4) x) n 5 _ _ y (kj w n 4 _ _ x i)
def Cn(file:B8)(a:W)(dT:On file)(co:¬file.length<8+XT (file.drop (file.length-4)))(O:file.getD 2 0=69):C' 88 #[S file] a (Cf file a):=by
 have ec:=I dT;obtain⟨h1,h2,h3,h4,_,h6,h7⟩:=dT;obtain⟨dv,ga,_,dW⟩:=jJ a U4 169;have d3:=I dv;have eg:=I dW;clear dv dW;have fv:(file.length:Int)<=65000:=by omega
 have fw:(8:Int)<=(file.length:Int):=by omega
 have ev:decide ((65000:Int)<(file.length:Int))=false:=bS (by omega);have eC:decide ((file.length:Int)<8)=false:=bS (by omega);have eM:(((⟨file.toArray⟩:ByteArray).extract 0 2).toList==[67,70])=true:=by rw[IH];simpa using h3
 have eP:(((⟨file.toArray⟩:ByteArray).extract (file.length-2) file.length).toList==[67,70])=true:=by rw[EN];simpa using h4
 have fd:2<(⟨file.toArray⟩:ByteArray).size:=by simp[ByteArray.size];omega
 have fe:3<(⟨file.toArray⟩:ByteArray).size:=by simp[ByteArray.size];omega
 obtain⟨b2,ce⟩:∃x,file[2]?=some x:=⟨file[2],aR (by omega)⟩;obtain⟨b3,ci⟩:∃x,file[3]?=some x:=⟨file[3],aR (by omega)⟩;have Z:file.getD 2 0=b2:=by simp[List.getD,ce]
 have g3:file.getD 3 0=b3:=by simp[List.getD,ci]
 have i2:((⟨file.toArray⟩:ByteArray)[2]'fd).toNat=b2.toNat:=by
  have:=(aV.1 ce).2;rw[<-this];rfl
 have i3:((⟨file.toArray⟩:ByteArray)[3]'fe).toNat=b3.toNat:=by
  have:=(aV.1 ci).2;rw[<-this];rfl
 rw[g3]at h6 h7;rw[Z]at O;have ea:=I g3;have d8:=I Z;have e2:decide ((b3.toNat:Int)<1)=false:=bS (by omega);have e3:decide ((9:Int)<(b3.toNat:Int))=false:=bS (by omega);obtain⟨j,cs⟩:∃x,file[file.length-4]?=some x:=⟨file[file.length-4]'(by omega),aR (by omega)⟩;obtain⟨k,da⟩:∃x,file[file.length-3]?=some x:=⟨file[file.length-3]'(by omega),aR (by omega)⟩;have e0:∀f,(⟨file.toArray⟩:ByteArray)[file.length-4]'f=j:=fun f=>(aV.1 cs).2;have e1:∀f,(⟨file.toArray⟩:ByteArray)[file.length-3]'f=k:=fun f=>(aV.1 da).2;have X:J (XT (file.drop (file.length-4))=j.toNat+256*k.toNat):=by
  show _=_;obtain⟨h0,er⟩:=aV.1 cs;obtain⟨h1,es⟩:=aV.1 da;rw[bK h0,er,show file.length-4+1=file.length-3 by omega,bK h1,es];rfl
 have l0:j.toNat<256:=j.toNat_lt;have l1:k.toNat<256:=k.toNat_lt;have l3:b3.toNat<256:=b3.toNat_lt;clear cs da ce ci Z g3 h1 h2 h3 h4 h6 h7;have q0:(0:Int)<=(file.length:Int)-4:=by omega
 have q1:(file.length:Int)-4<(file.length:Int):=by omega
 have q2:((file.length:Int)-4).toNat=file.length-4:=by omega
 have q3:(0:Int)<=(file.length:Int)-3:=by omega
 have q4:(file.length:Int)-3<(file.length:Int):=by omega
 have q5:((file.length:Int)-3).toNat=file.length-3:=by omega
 have w0:IntKind.i64.wrap ((file.length:Int)-4)=(file.length:Int)-4:=kD _ ⟨by omega,by omega⟩;have w1:IntKind.i64.wrap ((file.length:Int)-3)=(file.length:Int)-3:=kD _ ⟨by omega,by omega⟩;have w2:IntKind.i64.wrap (j.toNat:Int)=(j.toNat:Int):=kD _ ⟨by omega,by omega⟩;have m:IntKind.i64.wrap (k.toNat:Int)=(k.toNat:Int):=kD _ ⟨by omega,by omega⟩;have d:IntKind.i64.wrap (256*(k.toNat:Int))=256*(k.toNat:Int):=kD _ ⟨by omega,by omega⟩;have z:IntKind.i64.wrap ((file.length:Int)-4-(j.toNat:Int))=(file.length:Int)-4-(j.toNat:Int):=kD _ ⟨by omega,by omega⟩;have w6:IntKind.i64.wrap ((file.length:Int)-4-(j.toNat:Int)-256*(k.toNat:Int))=(file.length:Int)-4-(j.toNat:Int)-256*(k.toNat:Int):=kD _ ⟨by omega,by omega⟩;have w7:IntKind.i64.wrap (b3.toNat:Int)=(b3.toNat:Int):=kD _ ⟨by omega,by omega⟩;have eR:((b2.toNat:Int)!=69)=false:=by rw[O];rfl
 have eS:((b2.toNat:Int)==79)=false:=by rw[O];rfl
 rw[X.o]at co;obtain⟨c,hF⟩:∃c:Nat,c+(j.toNat+256*k.toNat)+4=file.length:=⟨file.length-4-(j.toNat+256*k.toNat),by omega⟩;have fz:4<=c:=by omega
 have f6:c+4<=file.length:=by omega
 have e4:(file.length:Int)-4-(j.toNat:Int)-256*(k.toNat:Int)=(c:Int):=by omega
 have f1:(4:Int)<=(c:Int):=by omega
 have f2:¬(c:Int)<4:=by omega
 have f3:(c:Int)<=(file.length:Int):=by omega
 have d5:J (file.length-4-XT (file.drop (file.length-4))=c):=by show _=_;rw[X.o];omega
 have d4:J (¬file.length<8+XT (file.drop (file.length-4))):=by rw[X.o];exact co
 have H5:=I O;clear co hF O;go_enter Tryz.func88,Tryz.ntmps88;go_wp2_with fail;go_quiet(fail);have cd:J (((a.alloc (.cells U4 169)).drewN nq).heap[a.heap.size]?=some (.cells U4 169 (0,0))):=eg.o;have bv:=I (below_drewN d3.o nq);clear ev eC eM eP e2 e3 e0 e1 q1 q3 q4 q5 w1 w2 m d z w6 e4 l0 l1 X eR;generalize e7:(a.alloc _).drewN nq=w at *;clear e7;go_upto_region 7 with fail;have fr:=NK file 4 c;have ff:(2:Int)<(file.length:Int):=by omega
 have fk:(3:Int)<(file.length:Int):=by omega
 refine k9 (S:=fun _=>True) (by kernel_rfl) trivial (fun l=>?_);refine tk 0 (S file) ?_;refine tk 1 (.int .u8 (b2.toNat:Int)) ?_;refine tk 2 (.bool false) ?_;refine tk 3 (S file) ?_;refine tk 4 (.int .u8 (b3.toNat:Int)) ?_;refine tk 5 (N b3.toNat) ?_;refine tk 6 (S file) ?_;refine tk 7 (N c) ?_;refine tk 8 (S ((file.drop 4).take (c-4))) ?_;refine tk 9 (.agg #[.bool false,N b3.toNat,S ((file.drop 4).take (c-4)),S [],S [],S []]) ?_;simp only[jA,jB,jC,Act.put,jD,jE,jF];refine rd 10 (fun n g=>?_);simp only[jA,jB,jC];go_simp
 try go_wp2_with fail
 refine g.out _ _ trivial (fun l=>?_);clear g n
 try simp only[jA,jB,jC,Act.put,jD,jE,jF]
 refine rd 11 (fun n g=>?_);simp only[jA,jB,jC];go_simp
 try go_wp2_with fail
 refine g.out _ _ trivial (fun l=>?_);clear g n;refine kp (by kernel_rfl) ?_ _;clear l;have be:=I (qD (bv.o.alloc bv.o.size (.cells #[.bool false,N b3.toNat,Value.string {data:=((file.drop 4).take (c-4)).toArray},S [],S [],S []] 169)));have dr:J ((w.alloc (.cells #[.bool false,N b3.toNat,Value.string {data:=((file.drop 4).take (c-4)).toArray},S [],S [],S []] 169)).drew.heap[a.heap.size]?=some (.cells U4 169 (0,0))):=Xd _ cd.o;have b4:J ((w.alloc (.cells #[.bool false,N b3.toNat,Value.string {data:=((file.drop 4).take (c-4)).toArray},S [],S [],S []] 169)).drew.heap[w.heap.size]?=some (.cells #[.bool false,N b3.toNat,Value.string {data:=((file.drop 4).take (c-4)).toArray},S [],S [],S []] 169 (0,0))):=(jJ w #[.bool false,N b3.toNat,Value.string {data:=((file.drop 4).take (c-4)).toArray},S [],S [],S []] 169).2.2.2;have gb:a.heap.size<w.heap.size:=(aF.1 cd.o).1;clear cd bv fr ff fk i2 i3 eS w7;generalize e5:(w.alloc _).drew=Y at *;clear e5;generalize w.heap.size=e at *;have f7:(c:Int)<=(file.length:Int)-4:=by omega
 have fs:=NK file c (file.length-4);go_upto_region 9 with fail;clear fs;have V:J (JO file=if(qO (some ((file.drop c).take (file.length-4-c)))).2=some []then some ⟨false,b3.toNat,(file.drop 4).take (c-4),[],(qO (some ((file.drop c).take (file.length-4-c)))).1.1,(qO (some ((file.drop c).take (file.length-4-c)))).1.2⟩else none):=by
  show _=_;rw[Iq ec.o d4.o d5.o,d8.o,H5.o,ea.o];rfl
 have d6:=I (NI Y ((file.drop c).take (file.length-4-c)));have dl:=I (Xd (.cells #[S ((file.drop c).take (file.length-4-c)),N 0,.bool false] 243) b4.o);have em:=I (Xd (.cells #[S ((file.drop c).take (file.length-4-c)),N 0,.bool false] 243) dr.o);have dd:=I (be.o.alloc be.o.size (.cells #[S ((file.drop c).take (file.length-4-c)),N 0,.bool false] 243));have f9:e<Y.heap.size:=(aF.1 b4.o).1;have fl:((file.drop c).take (file.length-4-c)).length<=maxLen:=by
  unfold maxLen;rw[aM,aP];omega
 clear be dr b4;generalize (file.drop c).take (file.length-4-c)=part at *;generalize (file.drop 4).take (c-4)=parts at *;generalize e6:Y.alloc _=W2 at *;clear e6;generalize Y.heap.size=p at *;have c0:W2.cell? (A e 0)=some (.bool false):=by rw[kC W2 e 0 _ _ (0,0) dl.o];rfl
 go_wp2_with fail;clear c0;refine(VF p part (some part) W2 fl d6.o).mono ?_;rintro ft m ⟨rfl,d1,ac⟩;have bX:=I d1;have C:=I (qL ac dl.o (by omega));have ds:=I (qL ac em.o (by omega));have bi:=I (dd.o.trans (zy ac (by omega) dd.o.size));clear ac d1;generalize qO (some part)=d2 at *;obtain⟨⟨b,body⟩,st⟩:=d2;simp only at V bX ⊢;have c4:m.cell? (A e 4)=some (S []):=by rw[kC m e 4 _ _ (0,0) C.o];rfl
 have c5:m.cell? (A e 5)=some (S []):=by rw[kC m e 5 _ _ (0,0) C.o];rfl
 have f4:=kh m e 4 _ _ C.o;have f5:=kh m e 5 _ _ C.o;go_upto_region 13 with fail;clear c4 c5 f4 f5;have u:=I (WZ (x:=S b) (y:=S body) C.o);have am:=je (Qk m e 4 (S b)) (Qk (m.setCell (A e 4) (S b)) e 5 (S body));have d7:=I (zk bX.o am (by omega));have D:=I (qL am ds.o (by omega));have B:=I (bi.o.trans (zy am (by omega) bi.o.size));clear am C bX ds bi;generalize (m.setCell _ _).setCell _ _=d at *;obtain⟨at_,eq,d0,f8,ap⟩:=d7.o;obtain⟨⟨E,F,G⟩,_⟩:=zi d0;have fn:=(Xo u.o);obtain⟨g0,g1,Z,g3,g4,g5⟩:=fn;clear d0;cases eq with
 | true=>
  have K:J (JO file=none):=by
   show _=_;rw[V.o,ap];rfl
  refine k9 (S:=fun h=>h.heap[e]?=some (.cells #[.bool false,N b3.toNat,S parts,S [],S b,S body] 169 (0,0))/\h.cell? (A p 0)=some (S part)/\h.cell? (A p 1)=some (N at_)/\h.cell? (A p 2)=some (.bool true)) (by kernel_rfl) ⟨u.o,E,F,G⟩ (fun l=>?_);refine kO (i:=0) (oi:=_) (v:=.agg #[.bool false,N b3.toNat,S parts,S [],S b,S body]) rfl (by kernel_rfl) (by kernel_rfl) (by kernel_rfl) (fun _ _ _ f=>f) (fA ⟨by kernel_rfl,fun a T=>?_⟩) (by assumption) ?_
  ·have U:=ki (P:=Tryz.prog) a _ 169 169 #[.bool false,N b3.toNat,S parts,S [],S b,S body] (0,0) _ T.1 Tryz.underlying169 rfl (by kernel_rfl);unfold execOp;simp[cK,bL,Act.eval,Instr.loadAt,Instr.sureAddr,dF,dE,cV,U]
  simp only[jA,jB,jC,Act.put,jD,jE,jF];refine tk 1 (Q p 0) ?_;refine tk 2 (Q p 0) ?_;refine tk 3 (Q p 2) ?_;refine tk 4 (.bool true) ?_;refine tk 5 (.bool false) ?_;refine tk 6 (.bool false) ?_;refine tu 7 ?_;refine tu 8 ?_;refine tu 9 ?_;refine tu 10 ?_;refine tu 11 ?_;refine tu 12 ?_;refine tu 13 ?_;refine tu 14 ?_;refine tu 15 ?_;refine tu 16 ?_;refine tk 17 (.bool false) ?_;simp only[jA,jB,jC,Act.put,jD,jE,jF];refine rd 18 (fun n g=>?_);simp only[jA,jB,jC];rw[aQ (by simp[Region.wanted])];refine kL 169 (.tmp 2) (.tmp 96) rfl a.heap.size #[.bool false,N b3.toNat,S parts,S [],S b,S body] rfl rfl 169 U4 D.o (by kernel_rfl) rfl (by simp[Value.oneCell']) ?_;have o:=Zo d.drew a.heap.size #[.bool false,N b3.toNat,S parts,S [],S b,S body];have L:=I (qL o (show d.drew.heap[e]?=_ from u.o) (by omega));have M:=I (kr d.drew a.heap.size _ #[.bool false,N b3.toNat,S parts,S [],S b,S body] 169 (0,0) (show d.drew.heap[a.heap.size]?=_ from D.o));have H:=I ((qD B.o).trans (zy o (aA _) B.o.size));have r:(d.drew.setRow a.heap.size #[.bool false,N b3.toNat,S parts,S [],S b,S body]).cell? (A p 0)=some (S part):=(ku (kK d.drew a.heap.size p #[.bool false,N b3.toNat,S parts,S [],S b,S body] (by omega))).trans E;have s:(d.drew.setRow a.heap.size #[.bool false,N b3.toNat,S parts,S [],S b,S body]).cell? (A p 1)=some (N at_):=(ku (kK d.drew a.heap.size p #[.bool false,N b3.toNat,S parts,S [],S b,S body] (by omega))).trans F;have t:(d.drew.setRow a.heap.size #[.bool false,N b3.toNat,S parts,S [],S b,S body]).cell? (A p 2)=some (.bool true):=(ku (kK d.drew a.heap.size p #[.bool false,N b3.toNat,S parts,S [],S b,S body] (by omega))).trans G;refine g.out _ _ ⟨L.o,r,s,t⟩ (fun l=>?_);clear g n
  try simp only[jA,jB,jC,Act.put,jD,jE,jF]
  refine tk 19 (.bool false) ?_;simp only[jA,jB,jC,Act.put,jD,jE,jF];refine kp (by kernel_rfl) ?_ _;clear l r s t;generalize d.drew.setRow _ _=z at *;go_wp2;exact kk (v:=.tuple #[.agg #[.bool false,N b3.toNat,S parts,S [],S b,S body],.bool false]) (qN (p:=2) (q:=3) rfl _ _ _ _ _ rfl rfl (ki (P:=Tryz.prog) z a.heap.size 169 169 #[.bool false,N b3.toNat,S parts,S [],S b,S body] (0,0) _ M.o Tryz.underlying169 rfl (by kernel_rfl))) rfl ⟨H.o,.inl ⟨K.o,_,⟨by rfl,by simp[Value.oneCell']⟩,rfl⟩⟩
 | false=>
  simp only[cD,dz]at ap;by_cases fa:at_=part.length
  ·have K:J (JO file=some ⟨false,b3.toNat,parts,[],b,body⟩):=by
    show _=_;rw[V.o,ap,fa,fp,aQ rfl]
   have fc:((at_:Int)==(part.length:Int))=true:=(by rw[ee];omega);refine k9 (S:=fun h=>h.heap[e]?=some (.cells #[.bool false,N b3.toNat,S parts,S [],S b,S body] 169 (0,0))/\h.cell? (A p 0)=some (S part)/\h.cell? (A p 1)=some (N at_)/\h.cell? (A p 2)=some (.bool false)) (by kernel_rfl) ⟨u.o,E,F,G⟩ (fun l=>?_);refine kO (i:=0) (oi:=_) (v:=.agg #[.bool false,N b3.toNat,S parts,S [],S b,S body]) rfl (by kernel_rfl) (by kernel_rfl) (by kernel_rfl) (fun _ _ _ f=>f) (fA ⟨by kernel_rfl,fun a T=>?_⟩) (by assumption) ?_
   ·have U:=ki (P:=Tryz.prog) a _ 169 169 #[.bool false,N b3.toNat,S parts,S [],S b,S body] (0,0) _ T.1 Tryz.underlying169 rfl (by kernel_rfl);unfold execOp;simp[cK,bL,Act.eval,Instr.loadAt,Instr.sureAddr,dF,dE,cV,U]
   simp only[jA,jB,jC,Act.put,jD,jE,jF];refine tk 1 (Q p 0) ?_;refine tk 2 (Q p 0) ?_;refine tk 3 (Q p 2) ?_;refine tk 4 (.bool false) ?_;refine tk 5 (.bool true) ?_;refine tk 6 (.bool true) ?_;refine tk 7 (Q p 0) ?_;refine tk 8 (Q p 0) ?_;refine tk 9 (Q p 1) ?_;refine tk 10 (N at_) ?_;refine tk 11 (Q p 0) ?_;refine tk 12 (Q p 0) ?_;refine tk 13 (Q p 0) ?_;refine tk 14 (S part) ?_;refine tk 15 (N part.length) ?_;refine tk 16 (.bool true) ?_;refine tk 17 (.bool true) ?_;simp only[jA,jB,jC,Act.put,jD,jE,jF];refine rd 18 (fun n g=>?_);simp only[jA,jB,jC];rw[aQ (by simp[Region.wanted])];refine kL 169 (.tmp 2) (.tmp 96) rfl a.heap.size #[.bool false,N b3.toNat,S parts,S [],S b,S body] rfl rfl 169 U4 D.o (by kernel_rfl) rfl (by simp[Value.oneCell']) ?_;have o:=Zo d.drew a.heap.size #[.bool false,N b3.toNat,S parts,S [],S b,S body];have L:=I (qL o (show d.drew.heap[e]?=_ from u.o) (by omega));have M:=I (kr d.drew a.heap.size _ #[.bool false,N b3.toNat,S parts,S [],S b,S body] 169 (0,0) (show d.drew.heap[a.heap.size]?=_ from D.o));have H:=I ((qD B.o).trans (zy o (aA _) B.o.size));have r:(d.drew.setRow a.heap.size #[.bool false,N b3.toNat,S parts,S [],S b,S body]).cell? (A p 0)=some (S part):=(ku (kK d.drew a.heap.size p #[.bool false,N b3.toNat,S parts,S [],S b,S body] (by omega))).trans E;have s:(d.drew.setRow a.heap.size #[.bool false,N b3.toNat,S parts,S [],S b,S body]).cell? (A p 1)=some (N at_):=(ku (kK d.drew a.heap.size p #[.bool false,N b3.toNat,S parts,S [],S b,S body] (by omega))).trans F;have t:(d.drew.setRow a.heap.size #[.bool false,N b3.toNat,S parts,S [],S b,S body]).cell? (A p 2)=some (.bool false):=(ku (kK d.drew a.heap.size p #[.bool false,N b3.toNat,S parts,S [],S b,S body] (by omega))).trans G;refine g.out _ _ ⟨L.o,r,s,t⟩ (fun l=>?_);clear g n;(try simp only[jA,jB,jC,Act.put,jD,jE,jF]);refine tk 19 (.bool true) ?_;simp only[jA,jB,jC,Act.put,jD,jE,jF];refine kp (by kernel_rfl) ?_ _;clear l r s t;generalize d.drew.setRow _ _=z at *;go_wp2;exact kk (v:=.tuple #[.agg #[.bool false,N b3.toNat,S parts,S [],S b,S body],.bool true]) (qN (p:=2) (q:=3) rfl _ _ _ _ _ rfl rfl (ki (P:=Tryz.prog) z a.heap.size 169 169 #[.bool false,N b3.toNat,S parts,S [],S b,S body] (0,0) _ M.o Tryz.underlying169 rfl (by kernel_rfl))) rfl ⟨H.o,.inr ⟨_,K.o,rfl⟩⟩
  ·have K:J (JO file=none):=by
    show _=_;rw[V.o,ap,aL];intro f;injection f with f
    have:=bN List.length f;rw[aP,bJ]at this;omega
   have fc:((at_:Int)==(part.length:Int))=false:=(by rw[bQ];omega);refine k9 (S:=fun h=>h.heap[e]?=some (.cells #[.bool false,N b3.toNat,S parts,S [],S b,S body] 169 (0,0))/\h.cell? (A p 0)=some (S part)/\h.cell? (A p 1)=some (N at_)/\h.cell? (A p 2)=some (.bool false)) (by kernel_rfl) ⟨u.o,E,F,G⟩ (fun l=>?_);refine kO (i:=0) (oi:=_) (v:=.agg #[.bool false,N b3.toNat,S parts,S [],S b,S body]) rfl (by kernel_rfl) (by kernel_rfl) (by kernel_rfl) (fun _ _ _ f=>f) (fA ⟨by kernel_rfl,fun a T=>?_⟩) (by assumption) ?_
   ·have U:=ki (P:=Tryz.prog) a _ 169 169 #[.bool false,N b3.toNat,S parts,S [],S b,S body] (0,0) _ T.1 Tryz.underlying169 rfl (by kernel_rfl);unfold execOp;simp[cK,bL,Act.eval,Instr.loadAt,Instr.sureAddr,dF,dE,cV,U]
   simp only[jA,jB,jC,Act.put,jD,jE,jF];refine tk 1 (Q p 0) ?_;refine tk 2 (Q p 0) ?_;refine tk 3 (Q p 2) ?_;refine tk 4 (.bool false) ?_;refine tk 5 (.bool true) ?_;refine tk 6 (.bool true) ?_;refine tk 7 (Q p 0) ?_;refine tk 8 (Q p 0) ?_;refine tk 9 (Q p 1) ?_;refine tk 10 (N at_) ?_;refine tk 11 (Q p 0) ?_;refine tk 12 (Q p 0) ?_;refine tk 13 (Q p 0) ?_;refine tk 14 (S part) ?_;refine tk 15 (N part.length) ?_;refine tk 16 (.bool false) ?_;refine tk 17 (.bool false) ?_;simp only[jA,jB,jC,Act.put,jD,jE,jF];refine rd 18 (fun n g=>?_);simp only[jA,jB,jC];rw[aQ (by simp[Region.wanted])];refine kL 169 (.tmp 2) (.tmp 96) rfl a.heap.size #[.bool false,N b3.toNat,S parts,S [],S b,S body] rfl rfl 169 U4 D.o (by kernel_rfl) rfl (by simp[Value.oneCell']) ?_;have o:=Zo d.drew a.heap.size #[.bool false,N b3.toNat,S parts,S [],S b,S body];have L:=I (qL o (show d.drew.heap[e]?=_ from u.o) (by omega));have M:=I (kr d.drew a.heap.size _ #[.bool false,N b3.toNat,S parts,S [],S b,S body] 169 (0,0) (show d.drew.heap[a.heap.size]?=_ from D.o));have H:=I ((qD B.o).trans (zy o (aA _) B.o.size));have r:(d.drew.setRow a.heap.size #[.bool false,N b3.toNat,S parts,S [],S b,S body]).cell? (A p 0)=some (S part):=(ku (kK d.drew a.heap.size p #[.bool false,N b3.toNat,S parts,S [],S b,S body] (by omega))).trans E;have s:(d.drew.setRow a.heap.size #[.bool false,N b3.toNat,S parts,S [],S b,S body]).cell? (A p 1)=some (N at_):=(ku (kK d.drew a.heap.size p #[.bool false,N b3.toNat,S parts,S [],S b,S body] (by omega))).trans F;have t:(d.drew.setRow a.heap.size #[.bool false,N b3.toNat,S parts,S [],S b,S body]).cell? (A p 2)=some (.bool false):=(ku (kK d.drew a.heap.size p #[.bool false,N b3.toNat,S parts,S [],S b,S body] (by omega))).trans G;refine g.out _ _ ⟨L.o,r,s,t⟩ (fun l=>?_);clear g n;(try simp only[jA,jB,jC,Act.put,jD,jE,jF]);refine tk 19 (.bool false) ?_;simp only[jA,jB,jC,Act.put,jD,jE,jF];refine kp (by kernel_rfl) ?_ _;clear l r s t;generalize d.drew.setRow _ _=z at *;go_wp2;exact kk (v:=.tuple #[.agg #[.bool false,N b3.toNat,S parts,S [],S b,S body],.bool false]) (qN (p:=2) (q:=3) rfl _ _ _ _ _ rfl rfl (ki (P:=Tryz.prog) z a.heap.size 169 169 #[.bool false,N b3.toNat,S parts,S [],S b,S body] (0,0) _ M.o Tryz.underlying169 rfl (by kernel_rfl))) rfl ⟨H.o,.inl ⟨K.o,_,⟨by rfl,by simp[Value.oneCell']⟩,rfl⟩⟩
def Ds(file:B8)(c:W)(ev:On file)(d2:¬file.length<8+XT (file.drop (file.length-4)))(H:file.getD 2 0=79):C' 88 #[S file] c (Cf file c):=by
 have ff:=I ev;obtain⟨h1,h2,h3,h4,_,h6,h7⟩:=ev;obtain⟨es,ha,_,eC⟩:=jJ c U4 169;have e4:=I es;have fk:=I eC;clear es eC;have gt:(file.length:Int)<=65000:=by omega
 have gw:(8:Int)<=(file.length:Int):=by omega
 have fv:decide ((65000:Int)<(file.length:Int))=false:=bS (by omega);have fw:decide ((file.length:Int)<8)=false:=bS (by omega);have fz:(((⟨file.toArray⟩:ByteArray).extract 0 2).toList==[67,70])=true:=by rw[IH];simpa using h3
 have f1:(((⟨file.toArray⟩:ByteArray).extract (file.length-2) file.length).toList==[67,70])=true:=by rw[EN];simpa using h4
 have gg:2<(⟨file.toArray⟩:ByteArray).size:=by simp[ByteArray.size];omega
 have gi:3<(⟨file.toArray⟩:ByteArray).size:=by simp[ByteArray.size];omega
 obtain⟨b2,d0⟩:∃z,file[2]?=some z:=⟨file[2],aR (by omega)⟩;obtain⟨b3,d1⟩:∃z,file[3]?=some z:=⟨file[3],aR (by omega)⟩;have g2:file.getD 2 0=b2:=by simp[List.getD,d0]
 have g3:file.getD 3 0=b3:=by simp[List.getD,d1]
 have i2:((⟨file.toArray⟩:ByteArray)[2]'gg).toNat=b2.toNat:=by
  have:=(aV.1 d0).2;rw[<-this];rfl
 have i3:((⟨file.toArray⟩:ByteArray)[3]'gi).toNat=b3.toNat:=by
  have:=(aV.1 d1).2;rw[<-this];rfl
 rw[g3]at h6 h7;rw[g2]at H;have fe:=I g3;have fd:=I g2;have f7:decide ((b3.toNat:Int)<1)=false:=bS (by omega);have f8:decide ((9:Int)<(b3.toNat:Int))=false:=bS (by omega);obtain⟨k,d4⟩:∃z,file[file.length-4]?=some z:=⟨file[file.length-4]'(by omega),aR (by omega)⟩;obtain⟨l,d5⟩:∃z,file[file.length-3]?=some z:=⟨file[file.length-3]'(by omega),aR (by omega)⟩;have e0:∀g,(⟨file.toArray⟩:ByteArray)[file.length-4]'g=k:=fun g=>(aV.1 d4).2;have e1:∀g,(⟨file.toArray⟩:ByteArray)[file.length-3]'g=l:=fun g=>(aV.1 d5).2;have ac:J (XT (file.drop (file.length-4))=k.toNat+256*l.toNat):=by
  show _=_;obtain⟨h0,fr⟩:=aV.1 d4;obtain⟨h1,fs⟩:=aV.1 d5;rw[bK h0,fr,show file.length-4+1=file.length-3 by omega,bK h1,fs];rfl
 have l0:k.toNat<256:=k.toNat_lt;have l1:l.toNat<256:=l.toNat_lt;have l3:b3.toNat<256:=b3.toNat_lt;clear d4 d5 d0 d1 g2 g3 h1 h2 h3 h4 h6 h7;have q0:(0:Int)<=(file.length:Int)-4:=by omega
 have q1:(file.length:Int)-4<(file.length:Int):=by omega
 have q2:((file.length:Int)-4).toNat=file.length-4:=by omega
 have q3:(0:Int)<=(file.length:Int)-3:=by omega
 have q4:(file.length:Int)-3<(file.length:Int):=by omega
 have q5:((file.length:Int)-3).toNat=file.length-3:=by omega
 have w0:IntKind.i64.wrap ((file.length:Int)-4)=(file.length:Int)-4:=kD _ ⟨by omega,by omega⟩;have w1:IntKind.i64.wrap ((file.length:Int)-3)=(file.length:Int)-3:=kD _ ⟨by omega,by omega⟩;have w2:IntKind.i64.wrap (k.toNat:Int)=(k.toNat:Int):=kD _ ⟨by omega,by omega⟩;have n:IntKind.i64.wrap (l.toNat:Int)=(l.toNat:Int):=kD _ ⟨by omega,by omega⟩;have e:IntKind.i64.wrap (256*(l.toNat:Int))=256*(l.toNat:Int):=kD _ ⟨by omega,by omega⟩;have B:IntKind.i64.wrap ((file.length:Int)-4-(k.toNat:Int))=(file.length:Int)-4-(k.toNat:Int):=kD _ ⟨by omega,by omega⟩;have w6:IntKind.i64.wrap ((file.length:Int)-4-(k.toNat:Int)-256*(l.toNat:Int))=(file.length:Int)-4-(k.toNat:Int)-256*(l.toNat:Int):=kD _ ⟨by omega,by omega⟩;have w7:IntKind.i64.wrap (b3.toNat:Int)=(b3.toNat:Int):=kD _ ⟨by omega,by omega⟩;have f2:((b2.toNat:Int)!=69)=true:=by rw[H];rfl
 have gA:((b2.toNat:Int)!=79)=false:=by rw[H];rfl
 have f6:((b2.toNat:Int)==79)=true:=by rw[H];rfl
 rw[ac.o]at d2;obtain⟨a,hF⟩:∃a:Nat,a+(k.toNat+256*l.toNat)+4=file.length:=⟨file.length-4-(k.toNat+256*l.toNat),by omega⟩;have gT:4<=a:=by omega
 have gZ:a+4<=file.length:=by omega
 have f9:(file.length:Int)-4-(k.toNat:Int)-256*(l.toNat:Int)=(a:Int):=by omega
 have gU:(4:Int)<=(a:Int):=by omega
 have gX:¬(a:Int)<4:=by omega
 have gY:(a:Int)<=(file.length:Int):=by omega
 have e6:J (file.length-4-XT (file.drop (file.length-4))=a):=by show _=_;rw[ac.o];omega
 have e5:J (¬file.length<8+XT (file.drop (file.length-4))):=by rw[ac.o];exact d2
 have H5:=I H;clear d2 hF H;go_enter Tryz.func88,Tryz.ntmps88;go_wp2_with fail;go_quiet(fail);have dW:J (((c.alloc (.cells U4 169)).drewN nq).heap[c.heap.size]?=some (.cells U4 169 (0,0))):=fk.o;have cs:=I (below_drewN e4.o nq);clear fv fw fz f1 f7 f8 e0 e1 q1 q3 q4 q5 w1 w2 n e B w6 f9 l0 l1 ac f2;generalize gc:(c.alloc _).drewN nq=x at *;clear gc;go_upto_region 7 with fail;have gr:=NK file 4 a;have b4:(2:Int)<(file.length:Int):=by omega
 have go:(3:Int)<(file.length:Int):=by omega
 refine k9 (S:=fun _=>True) (by kernel_rfl) trivial (fun m=>?_);refine tk 0 (S file) ?_;refine tk 1 (.int .u8 (b2.toNat:Int)) ?_;refine tk 2 (.bool true) ?_;refine tk 3 (S file) ?_;refine tk 4 (.int .u8 (b3.toNat:Int)) ?_;refine tk 5 (N b3.toNat) ?_;refine tk 6 (S file) ?_;refine tk 7 (N a) ?_;refine tk 8 (S ((file.drop 4).take (a-4))) ?_;refine tk 9 (.agg #[.bool true,N b3.toNat,S ((file.drop 4).take (a-4)),S [],S [],S []]) ?_;simp only[jA,jB,jC,Act.put,jD,jE,jF];refine rd 10 (fun o h=>?_);simp only[jA,jB,jC];go_simp
 try go_wp2_with fail
 refine h.out _ _ trivial (fun m=>?_);clear h o
 try simp only[jA,jB,jC,Act.put,jD,jE,jF]
 refine rd 11 (fun o h=>?_);simp only[jA,jB,jC];go_simp
 try go_wp2_with fail
 refine h.out _ _ trivial (fun m=>?_);clear h o;refine kp (by kernel_rfl) ?_ _;clear m;have ce:=I (qD (cs.o.alloc cs.o.size (.cells #[.bool true,N b3.toNat,Value.string {data:=((file.drop 4).take (a-4)).toArray},S [],S [],S []] 169)));have ea:J ((x.alloc (.cells #[.bool true,N b3.toNat,Value.string {data:=((file.drop 4).take (a-4)).toArray},S [],S [],S []] 169)).drew.heap[c.heap.size]?=some (.cells U4 169 (0,0))):=Xd _ dW.o;have dv:J ((x.alloc (.cells #[.bool true,N b3.toNat,Value.string {data:=((file.drop 4).take (a-4)).toArray},S [],S [],S []] 169)).drew.heap[x.heap.size]?=some (.cells #[.bool true,N b3.toNat,Value.string {data:=((file.drop 4).take (a-4)).toArray},S [],S [],S []] 169 (0,0))):=(jJ x #[.bool true,N b3.toNat,Value.string {data:=((file.drop 4).take (a-4)).toArray},S [],S [],S []] 169).2.2.2;have hb:c.heap.size<x.heap.size:=(aF.1 dW.o).1;clear dW cs gr b4 go i2 i3 f6 w7;generalize ga:(x.alloc _).drew=W1 at *;clear ga;generalize x.heap.size=f at *;have g7:(a:Int)<=(file.length:Int)-4:=by omega
 have gs:=NK file a (file.length-4);go_upto_region 9 with fail;clear gs;have E:J (JO file=if(qO (qC ((zp (some ((file.drop a).take (file.length-4-a)))).1:Int) (zp (some ((file.drop a).take (file.length-4-a)))).2).2).2=some []then some ⟨true,b3.toNat,(file.drop 4).take (a-4),(qC ((zp (some ((file.drop a).take (file.length-4-a)))).1:Int) (zp (some ((file.drop a).take (file.length-4-a)))).2).1,(qO (qC ((zp (some ((file.drop a).take (file.length-4-a)))).1:Int) (zp (some ((file.drop a).take (file.length-4-a)))).2).2).1.1,(qO (qC ((zp (some ((file.drop a).take (file.length-4-a)))).1:Int) (zp (some ((file.drop a).take (file.length-4-a)))).2).2).1.2⟩else none):=by
  show _=_;rw[Iq ff.o e5.o e6.o,fd.o,H5.o,fe.o];rfl
 have d7:=I (NI W1 ((file.drop a).take (file.length-4-a)));have dT:=I (Xd (.cells #[S ((file.drop a).take (file.length-4-a)),N 0,.bool false] 243) dv.o);have ec:=I (Xd (.cells #[S ((file.drop a).take (file.length-4-a)),N 0,.bool false] 243) ea.o);have ci:=I (ce.o.alloc ce.o.size (.cells #[S ((file.drop a).take (file.length-4-a)),N 0,.bool false] 243));have g9:f<W1.heap.size:=(aF.1 dv.o).1;have d3:((file.drop a).take (file.length-4-a)).length<=maxLen:=by
  unfold maxLen;rw[aM,aP];omega
 clear ce ea dv;generalize (file.drop a).take (file.length-4-a)=part at *;generalize (file.drop 4).take (a-4)=parts at *;generalize gb:W1.alloc _=W2 at *;clear gb;generalize W1.heap.size=p at *;have c0:W2.cell? (A f 0)=some (.bool true):=by rw[kC W2 f 0 _ _ (0,0) dT.o];rfl
 have b4:(zp (some part)).1<=65535:=Ef _;go_wp2_with fail;clear c0;refine(EZ p part (some part) W2 d3 d7.o).mono ?_;rintro er wa ⟨rfl,eR,be⟩;have dr:=I eR;have d8:=I (qL be dT.o (by omega));have em:=I (qL be ec.o (by omega));have da:=I (ci.o.trans (zy be (by omega) ci.o.size));clear be eR dT ec ci d7;generalize zp (some part)=O at *;obtain⟨nn,e2⟩:=O;simp only at E dr b4 ⊢;go_wp2_with fail;refine(XX p part e2 (nn:Int) wa d3 (by omega) (by omega) dr.o).mono ?_;rintro er C ⟨rfl,eS,bi⟩;have ds:=I eS;have am:=I (qL bi d8.o (by omega));have eq:=I (qL bi em.o (by omega));have dd:=I (da.o.trans (zy bi (by omega) da.o.size));clear bi eS d8 em da dr;generalize qC (nn:Int) e2=O at *;obtain⟨b,e3⟩:=O;simp only at E ds ⊢;have c3:C.cell? (A f 3)=some (S []):=by rw[kC C f 3 _ _ (0,0) am.o];rfl
 have f3:=kh C f 3 _ _ am.o;go_upto_region 12 with fail;clear c3 f3 b4;have bv:=Qk C f 3 (S b);have fc:J ((C.setCell (A f 3) (S b)).heap[f]?=some (.cells #[.bool true,N b3.toNat,S parts,S b,S [],S []] 169 (0,0))):=kj C f 3 _ _ (S b) am.o;have fa:=I (zk ds.o bv (by omega));have fl:=I (qL bv eq.o (by omega));have d6:=I (dd.o.trans (zy bv (by omega) dd.o.size));clear bv am eq dd ds;generalize C.setCell _ _=wc at *;go_wp2_with fail;refine(VF p part e3 wc d3 fa.o).mono ?_;rintro er n ⟨rfl,eP,ap⟩;have dl:=I eP;have F:=I (qL ap fc.o (by omega));have eg:=I (qL ap fl.o (by omega));have co:=I (d6.o.trans (zy ap (by omega) d6.o.size));clear ap eP;generalize qO e3=O at *;obtain⟨⟨d,body⟩,st⟩:=O;simp only at E dl ⊢;have c4:n.cell? (A f 4)=some (S []):=by rw[kC n f 4 _ _ (0,0) F.o];rfl
 have c5:n.cell? (A f 5)=some (S []):=by rw[kC n f 5 _ _ (0,0) F.o];rfl
 have f4:=kh n f 4 _ _ F.o;have f5:=kh n f 5 _ _ F.o;go_upto_region 13 with fail;clear c4 c5 f4 f5;have w:=I (WZ (x:=S d) (y:=S body) F.o);have bX:=je (Qk n f 4 (S d)) (Qk (n.setCell (A f 4) (S d)) f 5 (S body));have e7:=I (zk dl.o bX (by omega));have G:=I (qL bX eg.o (by omega));have D:=I (co.o.trans (zy bX (by omega) co.o.size));clear bX F dl eg co;generalize (n.setCell _ _).setCell _ _=e at *;obtain⟨at_,fn,eM,g8,cd⟩:=e7.o;obtain⟨⟨K,L,M⟩,_⟩:=zi eM;have gp:=(Xo w.o);obtain⟨g0,g1,g2,g3,g4,g5⟩:=gp;clear eM;cases fn with
 | true=>
  have U:J (JO file=none):=by
   show _=_;rw[E.o,cd];rfl
  refine k9 (S:=fun j=>j.heap[f]?=some (.cells #[.bool true,N b3.toNat,S parts,S b,S d,S body] 169 (0,0))/\j.cell? (A p 0)=some (S part)/\j.cell? (A p 1)=some (N at_)/\j.cell? (A p 2)=some (.bool true)) (by kernel_rfl) ⟨w.o,K,L,M⟩ (fun m=>?_);refine kO (i:=0) (oi:=_) (v:=.agg #[.bool true,N b3.toNat,S parts,S b,S d,S body]) rfl (by kernel_rfl) (by kernel_rfl) (by kernel_rfl) (fun _ _ _ g=>g) (fA ⟨by kernel_rfl,fun c Y=>?_⟩) (by assumption) ?_
  ·have Z:=ki (P:=Tryz.prog) c _ 169 169 #[.bool true,N b3.toNat,S parts,S b,S d,S body] (0,0) _ Y.1 Tryz.underlying169 rfl (by kernel_rfl);unfold execOp;simp[cK,bL,Act.eval,Instr.loadAt,Instr.sureAddr,dF,dE,cV,Z]
  simp only[jA,jB,jC,Act.put,jD,jE,jF];refine tk 1 (Q p 0) ?_;refine tk 2 (Q p 0) ?_;refine tk 3 (Q p 2) ?_;refine tk 4 (.bool true) ?_;refine tk 5 (.bool false) ?_;refine tk 6 (.bool false) ?_;refine tu 7 ?_;refine tu 8 ?_;refine tu 9 ?_;refine tu 10 ?_;refine tu 11 ?_;refine tu 12 ?_;refine tu 13 ?_;refine tu 14 ?_;refine tu 15 ?_;refine tu 16 ?_;refine tk 17 (.bool false) ?_;simp only[jA,jB,jC,Act.put,jD,jE,jF];refine rd 18 (fun o h=>?_);simp only[jA,jB,jC];rw[aQ (by simp[Region.wanted])];refine kL 169 (.tmp 2) (.tmp 96) rfl c.heap.size #[.bool true,N b3.toNat,S parts,S b,S d,S body] rfl rfl 169 U4 G.o (by kernel_rfl) rfl (by simp[Value.oneCell']) ?_;have r:=Zo e.drew c.heap.size #[.bool true,N b3.toNat,S parts,S b,S d,S body];have V:=I (qL r (show e.drew.heap[f]?=_ from w.o) (by omega));have X:=I (kr e.drew c.heap.size _ #[.bool true,N b3.toNat,S parts,S b,S d,S body] 169 (0,0) (show e.drew.heap[c.heap.size]?=_ from G.o));have T:=I ((qD D.o).trans (zy r (aA _) D.o.size));have s:(e.drew.setRow c.heap.size #[.bool true,N b3.toNat,S parts,S b,S d,S body]).cell? (A p 0)=some (S part):=(ku (kK e.drew c.heap.size p #[.bool true,N b3.toNat,S parts,S b,S d,S body] (by omega))).trans K;have t:(e.drew.setRow c.heap.size #[.bool true,N b3.toNat,S parts,S b,S d,S body]).cell? (A p 1)=some (N at_):=(ku (kK e.drew c.heap.size p #[.bool true,N b3.toNat,S parts,S b,S d,S body] (by omega))).trans L;have u:(e.drew.setRow c.heap.size #[.bool true,N b3.toNat,S parts,S b,S d,S body]).cell? (A p 2)=some (.bool true):=(ku (kK e.drew c.heap.size p #[.bool true,N b3.toNat,S parts,S b,S d,S body] (by omega))).trans M;refine h.out _ _ ⟨V.o,s,t,u⟩ (fun m=>?_);clear h o
  try simp only[jA,jB,jC,Act.put,jD,jE,jF]
  refine tk 19 (.bool false) ?_;simp only[jA,jB,jC,Act.put,jD,jE,jF];refine kp (by kernel_rfl) ?_ _;clear m s t u;generalize e.drew.setRow _ _=B at *;go_wp2;exact kk (v:=.tuple #[.agg #[.bool true,N b3.toNat,S parts,S b,S d,S body],.bool false]) (qN (p:=2) (q:=3) rfl _ _ _ _ _ rfl rfl (ki (P:=Tryz.prog) B c.heap.size 169 169 #[.bool true,N b3.toNat,S parts,S b,S d,S body] (0,0) _ X.o Tryz.underlying169 rfl (by kernel_rfl))) rfl ⟨T.o,.inl ⟨U.o,_,⟨by rfl,by simp[Value.oneCell']⟩,rfl⟩⟩
 | false=>
  simp only[cD,dz]at cd;by_cases gd:at_=part.length
  ·have U:J (JO file=some ⟨true,b3.toNat,parts,b,d,body⟩):=by
    show _=_;rw[E.o,cd,gd,fp,aQ rfl]
   have ge:((at_:Int)==(part.length:Int))=true:=(by rw[ee];omega);refine k9 (S:=fun j=>j.heap[f]?=some (.cells #[.bool true,N b3.toNat,S parts,S b,S d,S body] 169 (0,0))/\j.cell? (A p 0)=some (S part)/\j.cell? (A p 1)=some (N at_)/\j.cell? (A p 2)=some (.bool false)) (by kernel_rfl) ⟨w.o,K,L,M⟩ (fun m=>?_);refine kO (i:=0) (oi:=_) (v:=.agg #[.bool true,N b3.toNat,S parts,S b,S d,S body]) rfl (by kernel_rfl) (by kernel_rfl) (by kernel_rfl) (fun _ _ _ g=>g) (fA ⟨by kernel_rfl,fun c Y=>?_⟩) (by assumption) ?_
   ·have Z:=ki (P:=Tryz.prog) c _ 169 169 #[.bool true,N b3.toNat,S parts,S b,S d,S body] (0,0) _ Y.1 Tryz.underlying169 rfl (by kernel_rfl);unfold execOp;simp[cK,bL,Act.eval,Instr.loadAt,Instr.sureAddr,dF,dE,cV,Z]
   simp only[jA,jB,jC,Act.put,jD,jE,jF];refine tk 1 (Q p 0) ?_;refine tk 2 (Q p 0) ?_;refine tk 3 (Q p 2) ?_;refine tk 4 (.bool false) ?_;refine tk 5 (.bool true) ?_;refine tk 6 (.bool true) ?_;refine tk 7 (Q p 0) ?_;refine tk 8 (Q p 0) ?_;refine tk 9 (Q p 1) ?_;refine tk 10 (N at_) ?_;refine tk 11 (Q p 0) ?_;refine tk 12 (Q p 0) ?_;refine tk 13 (Q p 0) ?_;refine tk 14 (S part) ?_;refine tk 15 (N part.length) ?_;refine tk 16 (.bool true) ?_;refine tk 17 (.bool true) ?_;simp only[jA,jB,jC,Act.put,jD,jE,jF];refine rd 18 (fun o h=>?_);simp only[jA,jB,jC];rw[aQ (by simp[Region.wanted])];refine kL 169 (.tmp 2) (.tmp 96) rfl c.heap.size #[.bool true,N b3.toNat,S parts,S b,S d,S body] rfl rfl 169 U4 G.o (by kernel_rfl) rfl (by simp[Value.oneCell']) ?_;have r:=Zo e.drew c.heap.size #[.bool true,N b3.toNat,S parts,S b,S d,S body];have V:=I (qL r (show e.drew.heap[f]?=_ from w.o) (by omega));have X:=I (kr e.drew c.heap.size _ #[.bool true,N b3.toNat,S parts,S b,S d,S body] 169 (0,0) (show e.drew.heap[c.heap.size]?=_ from G.o));have T:=I ((qD D.o).trans (zy r (aA _) D.o.size));have s:(e.drew.setRow c.heap.size #[.bool true,N b3.toNat,S parts,S b,S d,S body]).cell? (A p 0)=some (S part):=(ku (kK e.drew c.heap.size p #[.bool true,N b3.toNat,S parts,S b,S d,S body] (by omega))).trans K;have t:(e.drew.setRow c.heap.size #[.bool true,N b3.toNat,S parts,S b,S d,S body]).cell? (A p 1)=some (N at_):=(ku (kK e.drew c.heap.size p #[.bool true,N b3.toNat,S parts,S b,S d,S body] (by omega))).trans L;have u:(e.drew.setRow c.heap.size #[.bool true,N b3.toNat,S parts,S b,S d,S body]).cell? (A p 2)=some (.bool false):=(ku (kK e.drew c.heap.size p #[.bool true,N b3.toNat,S parts,S b,S d,S body] (by omega))).trans M;refine h.out _ _ ⟨V.o,s,t,u⟩ (fun m=>?_);clear h o;(try simp only[jA,jB,jC,Act.put,jD,jE,jF]);refine tk 19 (.bool true) ?_;simp only[jA,jB,jC,Act.put,jD,jE,jF];refine kp (by kernel_rfl) ?_ _;clear m s t u;generalize e.drew.setRow _ _=B at *;go_wp2;exact kk (v:=.tuple #[.agg #[.bool true,N b3.toNat,S parts,S b,S d,S body],.bool true]) (qN (p:=2) (q:=3) rfl _ _ _ _ _ rfl rfl (ki (P:=Tryz.prog) B c.heap.size 169 169 #[.bool true,N b3.toNat,S parts,S b,S d,S body] (0,0) _ X.o Tryz.underlying169 rfl (by kernel_rfl))) rfl ⟨T.o,.inr ⟨_,U.o,rfl⟩⟩
  ·have U:J (JO file=none):=by
    show _=_;rw[E.o,cd,aL];intro g;injection g with g
    have:=bN List.length g;rw[aP,bJ]at this;omega
   have ge:((at_:Int)==(part.length:Int))=false:=(by rw[bQ];omega);refine k9 (S:=fun j=>j.heap[f]?=some (.cells #[.bool true,N b3.toNat,S parts,S b,S d,S body] 169 (0,0))/\j.cell? (A p 0)=some (S part)/\j.cell? (A p 1)=some (N at_)/\j.cell? (A p 2)=some (.bool false)) (by kernel_rfl) ⟨w.o,K,L,M⟩ (fun m=>?_);refine kO (i:=0) (oi:=_) (v:=.agg #[.bool true,N b3.toNat,S parts,S b,S d,S body]) rfl (by kernel_rfl) (by kernel_rfl) (by kernel_rfl) (fun _ _ _ g=>g) (fA ⟨by kernel_rfl,fun c Y=>?_⟩) (by assumption) ?_
   ·have Z:=ki (P:=Tryz.prog) c _ 169 169 #[.bool true,N b3.toNat,S parts,S b,S d,S body] (0,0) _ Y.1 Tryz.underlying169 rfl (by kernel_rfl);unfold execOp;simp[cK,bL,Act.eval,Instr.loadAt,Instr.sureAddr,dF,dE,cV,Z]
   simp only[jA,jB,jC,Act.put,jD,jE,jF];refine tk 1 (Q p 0) ?_;refine tk 2 (Q p 0) ?_;refine tk 3 (Q p 2) ?_;refine tk 4 (.bool false) ?_;refine tk 5 (.bool true) ?_;refine tk 6 (.bool true) ?_;refine tk 7 (Q p 0) ?_;refine tk 8 (Q p 0) ?_;refine tk 9 (Q p 1) ?_;refine tk 10 (N at_) ?_;refine tk 11 (Q p 0) ?_;refine tk 12 (Q p 0) ?_;refine tk 13 (Q p 0) ?_;refine tk 14 (S part) ?_;refine tk 15 (N part.length) ?_;refine tk 16 (.bool false) ?_;refine tk 17 (.bool false) ?_;simp only[jA,jB,jC,Act.put,jD,jE,jF];refine rd 18 (fun o h=>?_);simp only[jA,jB,jC];rw[aQ (by simp[Region.wanted])];refine kL 169 (.tmp 2) (.tmp 96) rfl c.heap.size #[.bool true,N b3.toNat,S parts,S b,S d,S body] rfl rfl 169 U4 G.o (by kernel_rfl) rfl (by simp[Value.oneCell']) ?_;have r:=Zo e.drew c.heap.size #[.bool true,N b3.toNat,S parts,S b,S d,S body];have V:=I (qL r (show e.drew.heap[f]?=_ from w.o) (by omega));have X:=I (kr e.drew c.heap.size _ #[.bool true,N b3.toNat,S parts,S b,S d,S body] 169 (0,0) (show e.drew.heap[c.heap.size]?=_ from G.o));have T:=I ((qD D.o).trans (zy r (aA _) D.o.size));have s:(e.drew.setRow c.heap.size #[.bool true,N b3.toNat,S parts,S b,S d,S body]).cell? (A p 0)=some (S part):=(ku (kK e.drew c.heap.size p #[.bool true,N b3.toNat,S parts,S b,S d,S body] (by omega))).trans K;have t:(e.drew.setRow c.heap.size #[.bool true,N b3.toNat,S parts,S b,S d,S body]).cell? (A p 1)=some (N at_):=(ku (kK e.drew c.heap.size p #[.bool true,N b3.toNat,S parts,S b,S d,S body] (by omega))).trans L;have u:(e.drew.setRow c.heap.size #[.bool true,N b3.toNat,S parts,S b,S d,S body]).cell? (A p 2)=some (.bool false):=(ku (kK e.drew c.heap.size p #[.bool true,N b3.toNat,S parts,S b,S d,S body] (by omega))).trans M;refine h.out _ _ ⟨V.o,s,t,u⟩ (fun m=>?_);clear h o;(try simp only[jA,jB,jC,Act.put,jD,jE,jF]);refine tk 19 (.bool false) ?_;simp only[jA,jB,jC,Act.put,jD,jE,jF];refine kp (by kernel_rfl) ?_ _;clear m s t u;generalize e.drew.setRow _ _=B at *;go_wp2;exact kk (v:=.tuple #[.agg #[.bool true,N b3.toNat,S parts,S b,S d,S body],.bool false]) (qN (p:=2) (q:=3) rfl _ _ _ _ _ rfl rfl (ki (P:=Tryz.prog) B c.heap.size 169 169 #[.bool true,N b3.toNat,S parts,S b,S d,S body] (0,0) _ X.o Tryz.underlying169 rfl (by kernel_rfl))) rfl ⟨T.o,.inl ⟨U.o,_,⟨by rfl,by simp[Value.oneCell']⟩,rfl⟩⟩
def MM(file:B8)(c:W)(g:file.length<=maxLen):C' 88 #[S file] c (Cf file c):=by
 by_cases b:65000<file.length\/file.length<8\/file.take 2≠[67,70]\/file.drop (file.length-2)≠[67,70]\/(file.getD 2 0≠69/\file.getD 2 0≠79)\/(file.getD 3 0).toNat<1\/9<(file.getD 3 0).toNat
 ·exact CJ file c g b
 have d:On file:=by
  refine⟨fun a=>b (.inl a),fun a=>b (.inr (.inl a)),?_,?_,?_,fun a=>b (.inr (.inr (.inr (.inr (.inr (.inl a)))))),fun a=>b (.inr (.inr (.inr (.inr (.inr (.inr a))))))⟩
  ·exact dQ fun a=>b (.inr (.inr (.inl a)))
  ·exact dQ fun a=>b (.inr (.inr (.inr (.inl a))))
  ·exact dQ fun a=>b (.inr (.inr (.inr (.inr (.inl ⟨fun e=>a (.inl e),fun e=>a (.inr e)⟩)))))
 by_cases f:file.length<8+XT (file.drop (file.length-4))
 ·exact Ad file c d f
 rcases d.2.2.2.2.1 with a|a
 ·exact Cn file c d f a
 ·exact Ds file c d f a
end Go.Proofs.YthhpbhpfagoapaaGreat
