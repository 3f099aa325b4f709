import Derived.Test.YthhpbhpfagoapaaGreatGAD
import Derived.Test.YthhpbhpfagoapaaGreatGAJ
namespace Go.Proofs.YthhpbhpfagoapaaGreat
set_option linter.all false
set_option maxRecDepth 100000
set_option maxHeartbeats 16000000
open Go.RowKit
theorem jdv(g u K:Nat)(a:List Z9)(d:W)(hs:Small a)(hl:T7 d u a)(hg:g<d.heap.size)(hw:E7 d g) :
  C' 195 #[G6 g,R u a.length K] d fun q b=>q=.returned (S (jV 0 a 3))/\Below d.heap.size d b:=by
 have Hs:=I hs;have Hl:=I hl;have Hw:=I hw;have ce:=I (fun G=>Kv 0 a hs.small hs.ao G);have ci:=I (fun n=>VZ n a hs.small hs.ao);clear hs hl hw;go_enter Tryz.func195,Tryz.ntmps195;go_wp2;obtain⟨bi,ds,X⟩:=Qr d #[R g 3 3,V4 187,V4 188,V4 189,V4 190,V4 191,V4 192] 215;have Hc:J (D6 _ g d.heap.size):=⟨X 0,X 1,X 2,X 3,X 4,X 5,X 6⟩;have dW:=I (Hl.o.j bi);have d0:=I (Hw.o.j hg bi);have dl:=I bi;have dv:=bE (bG d.heap.size) ds.symm;have dr:=aC hg bi.size;clear X bi ds;generalize d.alloc _=w0 at *;go_loopw [5,12] (fun v i wr=>∃G:Nat,G<=3/\i=N G/\v=S (jV 0 a G)/\Below w0.heap.size w0 wr)
  (fun _ i _=>3-(intOf i).toNat)
 case atStart=>exact⟨0,aG _,rfl,rfl,k8 _ _⟩
 case round =>
  obtain⟨G,hk,rfl,rfl,s⟩:=hrel;have w:=d0.o.j dr s;have ac:=Jh Hc.o s dv;have am:d.heap.size<wr.heap.size:=aC dv s.size;have d5:g<wr.heap.size:=aC dr s.size;have da:=I (dW.o.j s);have cd:=ce.o G;rcases(show G=0\/G=1\/G=2\/G=3 by omega)with rfl|rfl|rfl|rfl
  ·have c0:wr.cell? (A g 0)=some (.int .u8 0):=qt w 0 rfl;have c1:wr.cell? (A g 1)=some (V4 181):=qt w 1 rfl;have c2:wr.cell? (A g 2)=some (V4 182):=qt w 2 rfl;have HE:J (∀b,T7 b u a->C' 181 #[G6 g,R u a.length K] b fun q H=>q=.returned (S (qT 0 a))/\Below b.heap.size b H):=fun b B=>jfq g u K a b Hs.o B;have P:J (jV 0 a (0+1)=if 0=0\/([T4 0]++qT 0 a).length<(jV 0 a 0).length then[T4 0]++qT 0 a else jV 0 a 0):=rfl;have dT:=ci.o 0;have bX:True:=trivial;clear w;generalize qT 0 a=h at *;have b4:jV 0 a 0=[]:=rfl;rw[b4]at P;rw[b4]at cd;rw[b4];clear b4;go_upto_region 5 with fail;obtain⟨p,Y,D⟩:=Qr wr #[.int .u8 0,V4 181,V4 182] 274;have f0:=D 0;have l:=D 1;simp only[cP,bU,bV]at f0 l;have V:=Jh ac p am;have be:=I (da.o.j p);have F:=bE (bG wr.heap.size) Y.symm;have E:=aC am p.size;have O:=I (s.trans (p.mono s.size));clear D Y p ac c0 c1 c2 s;generalize wr.alloc _=j at *;have k:SI j wr.heap.size 0 181 g d.heap.size:=⟨f0,l,V⟩;clear f0 l V;go_cut [8] (fun v wd=>v=S (T4 0::h)/\Below j.heap.size j wd)
   case first =>
    obtain⟨f0,l,x0,x1,x2,x3,x4,x5,x6⟩:=k;have k:SI j wr.heap.size 0 181 g d.heap.size:=⟨f0,l,x0,x1,x2,x3,x4,x5,x6⟩;have x:=I k;clear k;refine kU ?_;refine k9 (S:=fun b=>b.cell? (A wr.heap.size 0)=some (.int .u8 0)/\b.cell? (A wr.heap.size 1)=some (V4 181)/\b.cell? (A d.heap.size 0)=some (R g 3 3)/\b.cell? (A d.heap.size 1)=some (V4 187)/\b.cell? (A d.heap.size 2)=some (V4 188)/\b.cell? (A d.heap.size 3)=some (V4 189)/\b.cell? (A d.heap.size 4)=some (V4 190)/\b.cell? (A d.heap.size 5)=some (V4 191)/\b.cell? (A d.heap.size 6)=some (V4 192)) (by kernel_rfl) ?_ (fun m=>?_)
    ·exact x.o
    refine tk 0 (Q wr.heap.size 0) ?_;refine tk 1 (.int .u8 0) ?_;refine tk 3 (Q wr.heap.size 1) ?_;refine tk 4 (V4 181) ?_;refine tk 5 (G6 g) ?_;refine tk 6 (R u a.length K) ?_;simp only[jA,jB,jC,Act.put,jD,jE,jF];refine kB (rs:=[2]) (by kernel_rfl) (by simp) ?_;refine km (o:=_) rfl (fun f c=>?_) ?_
    ·simp only[jA,jB,jC];go_simp;go_at_call 214
     refine(Qb 0 _ (by decide) (by decide)).mono ?_;rintro q H ⟨rfl,T⟩;have e:Below j.heap.size j H:=jg T;have y:=Zm x.o e F E;(try go_wp2_with fail);refine c.out _ _ ?_ (fun m=>?_)
     ·exact y
     clear c f;(try simp only[jA,jB,jC,Act.put,jD,jE,jF]);refine kB (rs:=[7]) (by kernel_rfl) (by simp) ?_;refine km (o:=_) rfl (fun f c=>?_) ?_
     ·simp only[jA,jB,jC];go_simp;go_at_call 181
      refine(HE.o _ (be.o.j e)).mono ?_;rintro q w3 ⟨rfl,i⟩;have t:=Zm y i (aC F e.size) (aC E e.size);(try go_wp2_with fail);refine c.out _ _ ?_ (fun m=>?_)
      ·exact t
      clear c f;(try simp only[jA,jB,jC,Act.put,jD,jE,jF]);refine kB (rs:=[8]) (by kernel_rfl) (by simp) ?_;refine km (o:=_) rfl (fun f c=>?_) ?_
      ·simp only[jA,jB,jC];go_simp;refine c.out _ _ ?_ (fun m=>?_)
       ·exact EB _ t
       clear c f;(try simp only[jA,jB,jC,Act.put,jD,jE,jF]);refine kB (rs:=[9]) (by kernel_rfl) (by simp) ?_;refine km (o:=_) rfl (fun f c=>?_) ?_
       ·simp only[jA,jB,jC];go_simp;go_at_call 194
        refine(ZJ [[T4 0],h] #[S [T4 0],S h] 2 _ _ (by first|rfl|simp) rfl rfl (by decide) (by simp;omega)).mono ?_;rintro q w6 ⟨rfl,C⟩;have z:=Zm t C (aC F (aI e.size i.size)) (aC E (aI e.size i.size));(try go_wp2_with fail);refine c.out _ _ ?_ (fun m=>?_)
        ·exact z
        clear c f;(try simp only[jA,jB,jC,Act.put,jD,jE,jF]);refine kB (rs:=[10]) (by kernel_rfl) (by simp) ?_;refine km (o:=_) rfl (fun f c=>?_) ?_
        ·simp only[jA,jB,jC];go_simp;refine c.out _ _ ?_ (fun m=>?_)
         ·exact z
         clear c f;(try simp only[jA,jB,jC,Act.put,jD,jE,jF]);refine kp (by kernel_rfl) ?_ _;refine kZ ?_;have ap:=I ((e.trans (i.mono e.size)).trans (C.mono (aI e.size i.size)));clear y t z T e i C x;go_wp2_with fail;go_meet
         ·exact⟨rfl,ap.o⟩
        exact kz
       exact kz
      exact kz
     exact kz
    exact kz
   case rest =>
    obtain⟨rfl,U⟩:=hcut;have Z:=I (O.o.trans (U.mono O.o.size));clear U k cd bX;have L:J (jV 0 a (0+1)=T4 0::h):=by
     show jV 0 a (0+1)=_;rw[P.o,aQ (.inl rfl)];rfl
    go_wp2;go_roundw
    ·exact⟨1,by omega,by go_num,by rw[L.o],Z.o⟩
    ·simp[intOf]
  ·have c0:wr.cell? (A g 3)=some (.int .u8 1):=qt w 3 rfl;have c1:wr.cell? (A g 4)=some (V4 183):=qt w 4 rfl;have c2:wr.cell? (A g 5)=some (V4 184):=qt w 5 rfl;have HE:J (∀b,T7 b u a->C' 183 #[G6 g,R u a.length K] b fun q H=>q=.returned (S (qT 1 a))/\Below b.heap.size b H):=fun b B=>jel g u K a b Hs.o B;have P:J (jV 0 a (1+1)=if 1=0\/([T4 1]++qT 1 a).length<(jV 0 a 1).length then[T4 1]++qT 1 a else jV 0 a 1):=rfl;have dT:=ci.o 1;have bX:True:=trivial;clear w;generalize qT 1 a=h at *;have cs:=I (Gf 0 a 0);generalize bv:jV 0 a 1=r at *;have co:=I bv;clear bv;go_upto_region 5 with fail;obtain⟨p,Y,D⟩:=Qr wr #[.int .u8 1,V4 183,V4 184] 274;have f0:=D 0;have l:=D 1;simp only[cP,bU,bV]at f0 l;have V:=Jh ac p am;have be:=I (da.o.j p);have F:=bE (bG wr.heap.size) Y.symm;have E:=aC am p.size;have O:=I (s.trans (p.mono s.size));clear D Y p ac c0 c1 c2 s;generalize wr.alloc _=j at *;have k:SI j wr.heap.size 1 183 g d.heap.size:=⟨f0,l,V⟩;clear f0 l V;go_cut [8] (fun v wd=>v=S (T4 1::h)/\Below j.heap.size j wd)
   case first =>
    obtain⟨f0,l,x0,x1,x2,x3,x4,x5,x6⟩:=k;have k:SI j wr.heap.size 1 183 g d.heap.size:=⟨f0,l,x0,x1,x2,x3,x4,x5,x6⟩;have x:=I k;clear k;refine kU ?_;refine k9 (S:=fun b=>b.cell? (A wr.heap.size 0)=some (.int .u8 1)/\b.cell? (A wr.heap.size 1)=some (V4 183)/\b.cell? (A d.heap.size 0)=some (R g 3 3)/\b.cell? (A d.heap.size 1)=some (V4 187)/\b.cell? (A d.heap.size 2)=some (V4 188)/\b.cell? (A d.heap.size 3)=some (V4 189)/\b.cell? (A d.heap.size 4)=some (V4 190)/\b.cell? (A d.heap.size 5)=some (V4 191)/\b.cell? (A d.heap.size 6)=some (V4 192)) (by kernel_rfl) ?_ (fun m=>?_)
    ·exact x.o
    refine tk 0 (Q wr.heap.size 0) ?_;refine tk 1 (.int .u8 1) ?_;refine tk 3 (Q wr.heap.size 1) ?_;refine tk 4 (V4 183) ?_;refine tk 5 (G6 g) ?_;refine tk 6 (R u a.length K) ?_;simp only[jA,jB,jC,Act.put,jD,jE,jF];refine kB (rs:=[2]) (by kernel_rfl) (by simp) ?_;refine km (o:=_) rfl (fun f c=>?_) ?_
    ·simp only[jA,jB,jC];go_simp;go_at_call 214
     refine(Qb 1 _ (by decide) (by decide)).mono ?_;rintro q H ⟨rfl,T⟩;have e:Below j.heap.size j H:=jg T;have y:=Zm x.o e F E;(try go_wp2_with fail);refine c.out _ _ ?_ (fun m=>?_)
     ·exact y
     clear c f;(try simp only[jA,jB,jC,Act.put,jD,jE,jF]);refine kB (rs:=[7]) (by kernel_rfl) (by simp) ?_;refine km (o:=_) rfl (fun f c=>?_) ?_
     ·simp only[jA,jB,jC];go_simp;go_at_call 183
      refine(HE.o _ (be.o.j e)).mono ?_;rintro q w3 ⟨rfl,i⟩;have t:=Zm y i (aC F e.size) (aC E e.size);(try go_wp2_with fail);refine c.out _ _ ?_ (fun m=>?_)
      ·exact t
      clear c f;(try simp only[jA,jB,jC,Act.put,jD,jE,jF]);refine kB (rs:=[8]) (by kernel_rfl) (by simp) ?_;refine km (o:=_) rfl (fun f c=>?_) ?_
      ·simp only[jA,jB,jC];go_simp;refine c.out _ _ ?_ (fun m=>?_)
       ·exact EB _ t
       clear c f;(try simp only[jA,jB,jC,Act.put,jD,jE,jF]);refine kB (rs:=[9]) (by kernel_rfl) (by simp) ?_;refine km (o:=_) rfl (fun f c=>?_) ?_
       ·simp only[jA,jB,jC];go_simp;go_at_call 194
        refine(ZJ [[T4 1],h] #[S [T4 1],S h] 2 _ _ (by first|rfl|simp) rfl rfl (by decide) (by simp;omega)).mono ?_;rintro q w6 ⟨rfl,C⟩;have z:=Zm t C (aC F (aI e.size i.size)) (aC E (aI e.size i.size));(try go_wp2_with fail);refine c.out _ _ ?_ (fun m=>?_)
        ·exact z
        clear c f;(try simp only[jA,jB,jC,Act.put,jD,jE,jF]);refine kB (rs:=[10]) (by kernel_rfl) (by simp) ?_;refine km (o:=_) rfl (fun f c=>?_) ?_
        ·simp only[jA,jB,jC];go_simp;refine c.out _ _ ?_ (fun m=>?_)
         ·exact z
         clear c f;(try simp only[jA,jB,jC,Act.put,jD,jE,jF]);refine kp (by kernel_rfl) ?_ _;refine kZ ?_;have ap:=I ((e.trans (i.mono e.size)).trans (C.mono (aI e.size i.size)));clear y t z T e i C x;go_wp2_with fail;go_meet
         ·exact⟨rfl,ap.o⟩
        exact kz
       exact kz
      exact kz
     exact kz
    exact kz
   case rest =>
    obtain⟨rfl,U⟩:=hcut;have Z:=I (O.o.trans (U.mono O.o.size));clear U k cd bX;have d2:(r==[])=false:=by
     have h1:=cs.o;simpa using h1
    have d1:r.length<=5001:=by have:=ce.o 1;rw[co.o]at this;exact this
    have d3:=jT r;have d4:=jT (T4 1::h);by_cases M:(T4 1::h).length<r.length
    ·have L:J (jV 0 a (1+1)=T4 1::h):=by
      show jV 0 a (1+1)=_;rw[P.o,aQ (.inr M)];rfl
     have dd:(h.length:Int)+1<(r.length:Int):=(by simp at M;omega);go_wp2;go_roundw
     ·exact⟨1+1,by omega,by go_num,by rw[L.o],Z.o⟩
     ·simp[intOf]
    ·have L:J (jV 0 a (1+1)=r):=by
      show jV 0 a (1+1)=_;rw[P.o,aL];rintro(B|B)
      ·omega
      ·exact M B
     have dd:decide ((h.length:Int)+1<(r.length:Int))=false:=(by simp at M ⊢;omega);go_wp2;go_roundw
     ·exact⟨1+1,by omega,by go_num,by rw[L.o],Z.o⟩
     ·simp[intOf]
  ·have c0:wr.cell? (A g 6)=some (.int .u8 2):=qt w 6 rfl;have c1:wr.cell? (A g 7)=some (V4 185):=qt w 7 rfl;have c2:wr.cell? (A g 8)=some (V4 186):=qt w 8 rfl;have HE:J (∀b,T7 b u a->C' 185 #[G6 g,R u a.length K] b fun q H=>q=.returned (S (qT 2 a))/\Below b.heap.size b H):=fun b B=>jfp g u K a b Hs.o B;have P:J (jV 0 a (2+1)=if 2=0\/([T4 2]++qT 2 a).length<(jV 0 a 2).length then[T4 2]++qT 2 a else jV 0 a 2):=rfl;have dT:=ci.o 2;have bX:True:=trivial;clear w;generalize qT 2 a=h at *;have cs:=I (Gf 0 a 1);generalize bv:jV 0 a 2=r at *;have co:=I bv;clear bv;go_upto_region 5 with fail;obtain⟨p,Y,D⟩:=Qr wr #[.int .u8 2,V4 185,V4 186] 274;have f0:=D 0;have l:=D 1;simp only[cP,bU,bV]at f0 l;have V:=Jh ac p am;have be:=I (da.o.j p);have F:=bE (bG wr.heap.size) Y.symm;have E:=aC am p.size;have O:=I (s.trans (p.mono s.size));clear D Y p ac c0 c1 c2 s;generalize wr.alloc _=j at *;have k:SI j wr.heap.size 2 185 g d.heap.size:=⟨f0,l,V⟩;clear f0 l V;go_cut [8] (fun v wd=>v=S (T4 2::h)/\Below j.heap.size j wd)
   case first =>
    obtain⟨f0,l,x0,x1,x2,x3,x4,x5,x6⟩:=k;have k:SI j wr.heap.size 2 185 g d.heap.size:=⟨f0,l,x0,x1,x2,x3,x4,x5,x6⟩;have x:=I k;clear k;refine kU ?_;refine k9 (S:=fun b=>b.cell? (A wr.heap.size 0)=some (.int .u8 2)/\b.cell? (A wr.heap.size 1)=some (V4 185)/\b.cell? (A d.heap.size 0)=some (R g 3 3)/\b.cell? (A d.heap.size 1)=some (V4 187)/\b.cell? (A d.heap.size 2)=some (V4 188)/\b.cell? (A d.heap.size 3)=some (V4 189)/\b.cell? (A d.heap.size 4)=some (V4 190)/\b.cell? (A d.heap.size 5)=some (V4 191)/\b.cell? (A d.heap.size 6)=some (V4 192)) (by kernel_rfl) ?_ (fun m=>?_)
    ·exact x.o
    refine tk 0 (Q wr.heap.size 0) ?_;refine tk 1 (.int .u8 2) ?_;refine tk 3 (Q wr.heap.size 1) ?_;refine tk 4 (V4 185) ?_;refine tk 5 (G6 g) ?_;refine tk 6 (R u a.length K) ?_;simp only[jA,jB,jC,Act.put,jD,jE,jF];refine kB (rs:=[2]) (by kernel_rfl) (by simp) ?_;refine km (o:=_) rfl (fun f c=>?_) ?_
    ·simp only[jA,jB,jC];go_simp;go_at_call 214
     refine(Qb 2 _ (by decide) (by decide)).mono ?_;rintro q H ⟨rfl,T⟩;have e:Below j.heap.size j H:=jg T;have y:=Zm x.o e F E;(try go_wp2_with fail);refine c.out _ _ ?_ (fun m=>?_)
     ·exact y
     clear c f;(try simp only[jA,jB,jC,Act.put,jD,jE,jF]);refine kB (rs:=[7]) (by kernel_rfl) (by simp) ?_;refine km (o:=_) rfl (fun f c=>?_) ?_
     ·simp only[jA,jB,jC];go_simp;go_at_call 185
      refine(HE.o _ (be.o.j e)).mono ?_;rintro q w3 ⟨rfl,i⟩;have t:=Zm y i (aC F e.size) (aC E e.size);(try go_wp2_with fail);refine c.out _ _ ?_ (fun m=>?_)
      ·exact t
      clear c f;(try simp only[jA,jB,jC,Act.put,jD,jE,jF]);refine kB (rs:=[8]) (by kernel_rfl) (by simp) ?_;refine km (o:=_) rfl (fun f c=>?_) ?_
      ·simp only[jA,jB,jC];go_simp;refine c.out _ _ ?_ (fun m=>?_)
       ·exact EB _ t
       clear c f;(try simp only[jA,jB,jC,Act.put,jD,jE,jF]);refine kB (rs:=[9]) (by kernel_rfl) (by simp) ?_;refine km (o:=_) rfl (fun f c=>?_) ?_
       ·simp only[jA,jB,jC];go_simp;go_at_call 194
        refine(ZJ [[T4 2],h] #[S [T4 2],S h] 2 _ _ (by first|rfl|simp) rfl rfl (by decide) (by simp;omega)).mono ?_;rintro q w6 ⟨rfl,C⟩;have z:=Zm t C (aC F (aI e.size i.size)) (aC E (aI e.size i.size));(try go_wp2_with fail);refine c.out _ _ ?_ (fun m=>?_)
        ·exact z
        clear c f;(try simp only[jA,jB,jC,Act.put,jD,jE,jF]);refine kB (rs:=[10]) (by kernel_rfl) (by simp) ?_;refine km (o:=_) rfl (fun f c=>?_) ?_
        ·simp only[jA,jB,jC];go_simp;refine c.out _ _ ?_ (fun m=>?_)
         ·exact z
         clear c f;(try simp only[jA,jB,jC,Act.put,jD,jE,jF]);refine kp (by kernel_rfl) ?_ _;refine kZ ?_;have ap:=I ((e.trans (i.mono e.size)).trans (C.mono (aI e.size i.size)));clear y t z T e i C x;go_wp2_with fail;go_meet
         ·exact⟨rfl,ap.o⟩
        exact kz
       exact kz
      exact kz
     exact kz
    exact kz
   case rest =>
    obtain⟨rfl,U⟩:=hcut;have Z:=I (O.o.trans (U.mono O.o.size));clear U k cd bX;have d2:(r==[])=false:=by
     have h1:=cs.o;simpa using h1
    have d1:r.length<=5001:=by have:=ce.o 2;rw[co.o]at this;exact this
    have d3:=jT r;have d4:=jT (T4 2::h);by_cases M:(T4 2::h).length<r.length
    ·have L:J (jV 0 a (2+1)=T4 2::h):=by
      show jV 0 a (2+1)=_;rw[P.o,aQ (.inr M)];rfl
     have dd:(h.length:Int)+1<(r.length:Int):=(by simp at M;omega);go_wp2;go_roundw
     ·exact⟨2+1,by omega,by go_num,by rw[L.o],Z.o⟩
     ·simp[intOf]
    ·have L:J (jV 0 a (2+1)=r):=by
      show jV 0 a (2+1)=_;rw[P.o,aL];rintro(B|B)
      ·omega
      ·exact M B
     have dd:decide ((h.length:Int)+1<(r.length:Int))=false:=(by simp at M ⊢;omega);go_wp2;go_roundw
     ·exact⟨2+1,by omega,by go_num,by rw[L.o],Z.o⟩
     ·simp[intOf]
  ·go_wp2;go_ret;have hz:=dl.o.size;exact⟨rfl,dl.o.trans (s.mono hz)⟩
end Go.Proofs.YthhpbhpfagoapaaGreat
