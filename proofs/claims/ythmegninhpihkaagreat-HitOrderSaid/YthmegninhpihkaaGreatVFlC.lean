import Derived.Test.YthmegninhpihkaaGreatVDca
set_option maxHeartbeats 16000000
set_option maxRecDepth 100000
open Go.Proofs.Tryz
namespace Go.Proofs.YthmegninhpihkaaGreat
section
open Go.RowKit
def Js(n d:Int):Int:=if d<0 then lG (-n*4294967296) (-d) else lG (n*4294967296) d
theorem zV{w w':World}(h:dP w w'):bz w w':=h.below _
theorem qK(n d:Int)(w:World)(h1:-1073741824<=n)(h2:n<=1073741824)(h3:-2305843009213693952<=d)(h4:d<=2305843009213693952)(h0:d≠0) :
  Calls prog 67 #[.int .i64 n,.int .i64 d] w (aZ (.int .i64 (Js n d)) w):=by
 by_cases hd:d<0
 ·have HR:=Hd (fun w=>nC (-n*4294967296) (-d) w (by omega) (by omega) (by omega) (by omega));have e:Js n d=lG (-n*4294967296) (-d):=if_pos hd;rw[e];clear e
  obtain⟨M,hM⟩:=aC (-n)
  obtain⟨D,hD⟩:=aC (-d)
  rw[hM,hD]at HR ⊢;have b1:-1073741824<=M∧M<=1073741824:=by omega
  have b2:-2305843009213693952<=D∧D<=2305843009213693952:=by omega
  obtain⟨K,hK⟩:=aC (M*65536)
  have e:M*4294967296=K*65536:=by omega
  have b3:-70368744177664<=K∧K<=70368744177664:=by omega
  rw[e]at HR ⊢;clear e
  obtain⟨X,hX⟩:=aC (K*65536)
  have b4:-4611686018427387904<=X∧X<=4611686018427387904:=by omega
  rw[hX]at HR ⊢;have t1:decide (d<0)=true:=by simpa using hd
  have q1:wrap64 M=M:=IntWalk.wrap64_in _ (by omega);have q2:wrap64 D=D:=IntWalk.wrap64_in _ (by omega);have q3:wrap64 K=K:=IntWalk.wrap64_in _ (by omega);have q4:wrap64 X=X:=IntWalk.wrap64_in _ (by omega);clear hd h1 h2 h3 h4 h0 b1 b2 b3 b4;go_enter func67,ntmps67;go_wp2_with (fail);refine(HR.o _).mono ?_;rintro e w' ⟨rfl,hb⟩;go_wp2_with (fail);go_ret;exact⟨rfl,zV hb⟩
 ·have HR:=Hd (fun w=>nC (n*4294967296) d w (by omega) (by omega) (by omega) (by omega));have e:Js n d=lG (n*4294967296) d:=if_neg hd;rw[e];clear e
  obtain⟨K,hK⟩:=aC (n*65536)
  have e:n*4294967296=K*65536:=by omega
  have b3:-70368744177664<=K∧K<=70368744177664:=by omega
  rw[e]at HR ⊢;clear e
  obtain⟨X,hX⟩:=aC (K*65536)
  have b4:-4611686018427387904<=X∧X<=4611686018427387904:=by omega
  rw[hX]at HR ⊢;have t1:decide (d<0)=false:=by simpa using hd
  have q3:wrap64 K=K:=IntWalk.wrap64_in _ (by omega);have q4:wrap64 X=X:=IntWalk.wrap64_in _ (by omega);clear hd h1 h2 h3 h4 h0 b3 b4;go_enter func67,ntmps67;go_wp2_with (fail);refine(HR.o _).mono ?_;rintro e w' ⟨rfl,hb⟩;go_wp2_with (fail);go_ret;exact⟨rfl,zV hb⟩
theorem Oq(n:Int):n / 65536+lG (n % 65536) 65536=lG n 65536:=by
 have e1:n % 65536 % 65536=n % 65536:=by omega
 have e2:n % 65536 / 65536=0:=by omega
 unfold lG;rw[e1,e2];split<;>omega
theorem Ai(n:Int)(w:World)(h1:-9223372036854775808<=n)(h2:n<=9223372036854775807) :
  Calls prog 69 #[.int .i64 n] w (aZ (.int .i64 (lG n 65536)) w):=by
 have HR:=Hd (fun w=>nC (n % 65536) 65536 w (by omega) (by omega) (by omega) (by omega));have ha:=vN n;have hs:=Oq n;have b1:-140737488355328<=n / 65536∧n / 65536<=140737488355328:=by omega
 have b2:0<=lG (n % 65536) 65536∧lG (n % 65536) 65536<=1:=by unfold lG;split<;>omega
 obtain⟨R,hR⟩:=aC (lG (n % 65536) 65536)
 rw[hR]at HR hs b2;rw[←hs];clear hs hR;generalize n % 65536=m at*;have h2p:n / 2 ^ 16=n / 65536:=rfl
 obtain⟨Q,hQ⟩:=aC (n / 65536)
 rw[hQ]at h2p b1 ⊢;have q1:wrap64 (Q+R)=Q+R:=IntWalk.wrap64_in _ (by omega);clear h1 h2 b1 b2;go_enter func69,ntmps69;go_wp2_with (fail);refine(HR.o _).mono ?_;rintro e w' ⟨rfl,hb⟩;go_wp2_with (fail);go_ret;exact⟨aB q1,zV hb⟩
def Mp.PQ(m:Mp):Int:=m.a*m.d - m.b*m.c
def Mp.bk(m:Mp):Mp:=⟨Js m.d m.PQ,Js (-m.b) m.PQ,Js (-m.c) m.PQ,Js m.a m.PQ,m.e,m.f⟩
def Mp.l4(m:Mp):List Int:=[m.a,m.b,m.c,m.d]
def Mp.back(m:Mp):Mp×Int:=if m.right=false then (Mp.o,11) else if m.PQ=0 then (Mp.o,43) else if dO m.bk.l4=true then (m.bk,0) else (Mp.o,35)
theorem pI{m:Mp}(h:m.right=true):(-1073741824<=m.a∧m.a<=1073741824)∧(-1073741824<=m.b∧m.b<=1073741824)∧(-1073741824<=m.c∧m.c<=1073741824)∧(-1073741824<=m.d∧m.d<=1073741824)∧(-1073741824<=m.e∧m.e<=1073741824)∧(-1073741824<=m.f∧m.f<=1073741824):=by
 unfold Mp.right Mp.l dO at h;simp only[List.all_cons,List.all_nil,Bool.and_true,Bool.and_eq_true]at h;exact⟨iZ h.1,iZ h.2.1,iZ h.2.2.1,iZ h.2.2.2.1,iZ h.2.2.2.2.1,iZ h.2.2.2.2.2⟩
theorem MF{tmps:Array Value}{W:World}{Q:Ending->World->Prop}{g:Nat}{v:Value}{m:Mp}(hp:tmps.getD 2 undef=.pointer (some ⟨g,0,none⟩))(hq:tmps.getD 3 undef=v)(hB:az W g m.cs)(h:Q (.returned (.tuple #[m.v,v])) W) :
  bodyPost prog Tryz.f36 Q Exit.ret { tmps:=tmps,defers:=[] } W:=
 aS rfl hp hq hB underlying117 rfl ag h
theorem ML(m:Mp)(w:World):Calls prog 36 #[m.v] w (aZ (.tuple #[m.back.1.v,.int .i64 m.back.2]) w):=by
 have EF:=Hd (fun w=>tV m w);have yD:Hid (m.back=if m.right=false then (Mp.o,11) else if m.PQ=0 then (Mp.o,43) else if dO m.bk.l4=true then (m.bk,0) else (Mp.o,35)):=rfl;have EW:=Hd (pI (m:=m))
 obtain⟨R,hR⟩:=aC m.back
 rw[hR]at yD ⊢;clear hR;obtain⟨RM,RE⟩:=R;have Yo:Hid (m.PQ=m.a*m.d - m.b*m.c):=rfl;have lD:Hid (m.bk=⟨Js m.d m.PQ,Js (-m.b) m.PQ,Js (-m.c) m.PQ,Js m.a m.PQ,m.e,m.f⟩):=rfl;generalize m.right=y at*;generalize m.PQ=D at*;generalize m.bk=K at*;obtain⟨ka,kb,kc,kd,ke,kf⟩:=m;unfold Mp.v at EF ⊢;simp only at EF EW Yo lD ⊢;go_enter func36,ntmps36;go_wp2_with (fail);refine(EF.o _).mono ?_;rintro e1 W1 ⟨rfl,hb⟩;have B1:Hid (bz w W1):=((bR.alloc nR _).alloc (by simp) _).trans (hb.mono (by simp;omega))
 have QM:Hid (az W1 w.heap.size (Vh ka kb kc kd ke kf)):=((aA w (Vh ka kb kc kd ke kf) _).alloc _).below hb (by simp;omega);have Nw:Hid (az W1 (w.heap.size+1) Mp.o.cs):=(aY (w.alloc _) _ (by simp) Mp.o.cs _).below hb (by simp);clear hb EF;cases y with
 |false=>
  have hT:=yD.o.trans (if_pos rfl)
  injection hT with h1 h2
  subst h1;subst h2;obtain⟨⟨c0,c1,c2,c3,c4,c5⟩,⟨f0,f1,f2,f3,f4,f5⟩,ri⟩:=az.c6 Nw.o;clear yD EW Yo lD QM;go_wp2_with (fail);exact MF (m:=Mp.o) rfl rfl (az.qP Nw.o _ _ _ _ _ _) ⟨rfl,iU B1.o (by omega) _ _ _ _ _ _⟩
 |true=>
  have LC:=Hd (yD.o.trans (if_neg (by decide)));obtain⟨ra,rb,rc,rd,re,rf⟩:=EW.o rfl;clear yD EW;obtain⟨⟨m0,m1,m2,m3,m4,m5⟩,-,mi⟩:=az.c6 QM.o;have Xj:=Yo.o;obtain⟨x1,x2⟩:=qB ra.1 ra.2 rd.1 rd.2;obtain⟨y1,y2⟩:=qB rb.1 rb.2 rc.1 rc.2
  obtain⟨X,hX⟩:=aC (ka*kd)
  obtain⟨Y,hY⟩:=aC (kb*kc)
  rw[hX,hY]at Xj;rw[hX]at x1 x2;rw[hY]at y1 y2;have q1:wrap64 X=X:=IntWalk.wrap64_in _ (by omega);have q2:wrap64 Y=Y:=IntWalk.wrap64_in _ (by omega);have q3:wrap64 (X - Y)=D:=by rw[Xj];exact IntWalk.wrap64_in _ (by omega)
  have Dy:Hid (-2305843009213693952<=D∧D<=2305843009213693952):=by rw[Xj];show _∧_;omega
  have HRR:=Hd (And.intro ra (And.intro rb (And.intro rc rd)));clear Xj x1 x2 y1 y2 Yo ra rb rc rd re rf;by_cases hD:D=0
  ·have t:(D==0)=true:=by simpa using hD
   have hT:=LC.o.trans (if_pos hD)
   injection hT with h1 h2
   subst h1;subst h2;clear hD LC lD Dy HRR;obtain⟨⟨c0,c1,c2,c3,c4,c5⟩,⟨f0,f1,f2,f3,f4,f5⟩,ri⟩:=az.c6 Nw.o;go_wp2_with (fail);exact MF (m:=Mp.o) rfl rfl (az.qP Nw.o _ _ _ _ _ _) ⟨rfl,iU B1.o (by omega) _ _ _ _ _ _⟩
  ·have t:(D==0)=false:=by simpa using hD
   have a3x:=Hd (LC.o.trans (if_neg hD));have UY:=Hd (fun w=>qK kd D w HRR.o.2.2.2.1 HRR.o.2.2.2.2 Dy.o.1 Dy.o.2 hD);have Lj:=Hd (fun w=>qK (-kb) D w (by have:=HRR.o.2.1;omega) (by have:=HRR.o.2.1;omega) Dy.o.1 Dy.o.2 hD);have Zn:=Hd (fun w=>qK (-kc) D w (by have:=HRR.o.2.2.1;omega) (by have:=HRR.o.2.2.1;omega) Dy.o.1 Dy.o.2 hD);have HO4:=Hd (fun w=>qK ka D w HRR.o.1.1 HRR.o.1.2 Dy.o.1 Dy.o.2 hD);generalize Js kd D=z1 at*;generalize Js (-kb) D=z2 at*;generalize Js (-kc) D=z3 at*;generalize Js ka D=z4 at*
   have hK:=lD.o;subst hK;have hw1:wrap64 (-kb)=-kb:=IntWalk.wrap64_in _ (by have:=HRR.o.2.1;omega);have hw2:wrap64 (-kc)=-kc:=IntWalk.wrap64_in _ (by have:=HRR.o.2.2.1;omega);have hv1:IntKind.i64.wrap (-kb)=-kb:=IntWalk.i64_in _ (by have:=HRR.o.2.1;omega);have hv2:IntKind.i64.wrap (-kc)=-kc:=IntWalk.i64_in _ (by have:=HRR.o.2.2.1;omega);clear hD LC lD Dy HRR
   have og:Hid (oW [(w.heap.size,(Vh ka kb kc kd ke kf)),(w.heap.size+1,Mp.o.cs)] W1):=⟨QM.o,Nw.o,trivial⟩
   clear QM Nw;go_wp2_with (fail);simp only[q1,q2,q3];clear m0 m1 m2 m3 m4 m5 mi q1 q2 q3 hX hY
   refine QC (Below W1.heap.size) (fun L V wx=>JN W1.heap.size [(w.heap.size,(Vh ka kb kc kd ke kf)),((w.heap.size+1),Vd)] Vd (Vh z1 z2 z3 z4 ke kf) (L 23) (L 24) (V 5) wx) [24,25,26,27,28,29,30,31,32,33,34,35,36,37,38,39,40,41,42,43,44,45,46,5] (fun _=>bR) (fun _ _ _ h k=>h.trans k) (fun i=>match i with
    |0=>rp w.heap.size 3
    |1=>rV (.int .i64 kd)
    |2|7|12|16=>rV (.int .i64 D)
    |3=>rV (.int .i64 z1)
    |4=>rp w.heap.size 1
    |5=>rV (.int .i64 kb)
    |6=>rV (.int .i64 (-kb))
    |8=>rV (.int .i64 z2)
    |9=>rp w.heap.size 2
    |10=>rV (.int .i64 kc)
    |11=>rV (.int .i64 (-kc))
    |13=>rV (.int .i64 z3)
    |14=>rp w.heap.size 0
    |15=>rV (.int .i64 ka)
    |17=>rV (.int .i64 z4)
    |18=>rp w.heap.size 4
    |19=>rV (.int .i64 ke)
    |20=>rp w.heap.size 5
    |21=>rV (.int .i64 kf)
    |22=>rV (.agg (Vh z1 z2 z3 z4 ke kf).toArray)
    |_=>ra) (bR.drew) (JN.start (w:=W1.drew) og.o) ⟨?_,?_,?_,?_,?_,?_,?_,?_,?_,?_,?_,?_,?_,?_,?_,?_,?_,?_,?_,?_,?_,?_,?_,?_,?_,trivial⟩ ?_
   any_goals (first|refine fK fun L a w1 hh=>?_|fail)
   have h1:=hh.p 1 w.heap.size 0;rotate_left
   ·have CX:=rq (hh.d 0 24);obtain⟨⟨c0,c1,c2,c3,c4,c5⟩,-,ci⟩:=(hh.st.1.1.1).c6;have hJ:=hh.j;clear hh;go_simp;exact⟨_,rfl,bR,rfl,JN.slots hJ.o sn⟩
   have h4:=hh.o 4 (v:=.int .i64 D) rfl;rotate_left
   ·have pO:=rq (hh.d 1 25);have IX:=rq (hh.d 2 26);have:=True.intro;have hJ:=hh.j;clear hh;go_simp;refine(UY.o w1).mono ?_;rintro e w9 ⟨rfl,bD⟩;exact⟨_,rfl,bD.mono hJ.o.1.2.1,rfl,JN.slots (JN.below hJ.o bD) sn⟩
   have h1:=hh.p 1 w.heap.size 0;rotate_left
   ·have h28:=rq (hh.d 4 28);obtain⟨⟨c0,c1,c2,c3,c4,c5⟩,-,ci⟩:=(hh.st.1.1.1).c6;have hJ:=hh.j;clear hh;go_simp;exact⟨_,rfl,bR,rfl,JN.slots hJ.o sn⟩
   have CW:=rq (hh.d 5 29);rotate_left;have h4:=hh.o 4 (v:=.int .i64 D) rfl;rotate_left
   ·have h30:=rq (hh.d 6 30);have h31:=rq (hh.d 7 31);have:=True.intro;have hJ:=hh.j;clear hh;go_simp;refine(Lj.o w1).mono ?_;rintro e w9 ⟨rfl,bD⟩;exact⟨_,rfl,bD.mono hJ.o.1.2.1,rfl,JN.slots (JN.below hJ.o bD) sn⟩
   have h1:=hh.p 1 w.heap.size 0;rotate_left
   ·have VV:=rq (hh.d 9 33);obtain⟨⟨c0,c1,c2,c3,c4,c5⟩,-,ci⟩:=(hh.st.1.1.1).c6;have hJ:=hh.j;clear hh;go_simp;exact⟨_,rfl,bR,rfl,JN.slots hJ.o sn⟩
   have Xm:=rq (hh.d 10 34);rotate_left;have h4:=hh.o 4 (v:=.int .i64 D) rfl;rotate_left
   ·have h35:=rq (hh.d 11 35);have Xl:=rq (hh.d 12 36);have:=True.intro;have hJ:=hh.j;clear hh;go_simp;refine(Zn.o w1).mono ?_;rintro e w9 ⟨rfl,bD⟩;exact⟨_,rfl,bD.mono hJ.o.1.2.1,rfl,JN.slots (JN.below hJ.o bD) sn⟩
   have h1:=hh.p 1 w.heap.size 0;rotate_left
   ·have h38:=rq (hh.d 14 38);obtain⟨⟨c0,c1,c2,c3,c4,c5⟩,-,ci⟩:=(hh.st.1.1.1).c6;have hJ:=hh.j;clear hh;go_simp;exact⟨_,rfl,bR,rfl,JN.slots hJ.o sn⟩
   have h4:=hh.o 4 (v:=.int .i64 D) rfl;rotate_left
   ·have TD:=rq (hh.d 15 39);have VU:=rq (hh.d 16 40);have:=True.intro;have hJ:=hh.j;clear hh;go_simp;refine(HO4.o w1).mono ?_;rintro e w9 ⟨rfl,bD⟩;exact⟨_,rfl,bD.mono hJ.o.1.2.1,rfl,JN.slots (JN.below hJ.o bD) sn⟩
   have h1:=hh.p 1 w.heap.size 0;rotate_left
   ·have h42:=rq (hh.d 18 42);obtain⟨⟨c0,c1,c2,c3,c4,c5⟩,-,ci⟩:=(hh.st.1.1.1).c6;have hJ:=hh.j;clear hh;go_simp;exact⟨_,rfl,bR,rfl,JN.slots hJ.o sn⟩
   have h1:=hh.p 1 w.heap.size 0;rotate_left
   ·have QJ:=rq (hh.d 20 44);obtain⟨⟨c0,c1,c2,c3,c4,c5⟩,-,ci⟩:=(hh.st.1.1.1).c6;have hJ:=hh.j;clear hh;go_simp;exact⟨_,rfl,bR,rfl,JN.slots hJ.o sn⟩
   have h27:=rq (hh.d 3 27);have h32:=rq (hh.d 8 32);have h37:=rq (hh.d 13 37);have VT:=rq (hh.d 17 41);have h43:=rq (hh.d 19 43);have h45:=rq (hh.d 21 45);rotate_left
   ·have hJ:=Hd hh.st;have hsz:=Hd hh.size;have hun:=Hd hh.un;clear hh;go_simp;exact⟨_,rfl,bR.alloc hJ.o.1.2.1 _,trivial,JN.new hJ.o hun.o (bM.bI (by rw[hsz.o];simp))⟩
   ·have h46:=rq (hh.d 22 46);obtain⟨g,h0,hg,hB⟩:=hh.st.2.1 (hh.up 23 ag);have h5:a.tmps[5]?.getD undef=.pointer (some ⟨g,0,none⟩):=rq (h0);rw[hh.un]at hB;obtain⟨⟨c0,c1,c2,c3,c4,c5⟩,⟨f0,f1,f2,f3,f4,f5⟩,ci⟩:=(show az w1 g Vd from hB).c6;have hP:=Hd (JN.put hh.st rfl (hh.up 23 ag) hh.un h0);clear hh h0 hB;go_simp;exact⟨hP.o.2,⟨undef,trivial⟩,hP.o.1⟩
   any_goals (have hJ:=hh.j;clear hh;go_simp;exact⟨_,rfl,bR,rfl,JN.slots hJ.o sn⟩)
   intro L w2 val hL hJ hR hv;obtain⟨g2,e2,hg2,hB2⟩:=hJ.2.1 (hL 23 (by decide));rw[hL 24 (by decide)]at hB2;have Dw:=Hd (And.intro hg2 (show az w2 g2 (Vh z1 z2 z3 z4 ke kf) from hB2));have dE:=Hd hJ.1.1;clear hg2 hB2;have HR2:=Hd hR;clear hv hL hJ hR;simp only[regs.aG,List.map_cons,List.map_nil];rw[e2];generalize val 24=v24;generalize val 25=v25;generalize val 26=v26;generalize val 27=v27;generalize val 28=v28;generalize val 29=v29;generalize val 30=v30;generalize val 31=v31;generalize val 32=v32;generalize val 33=v33;generalize val 34=v34;generalize val 35=v35
   generalize val 36=v36;generalize val 37=v37;generalize val 38=v38;generalize val 39=v39;generalize val 40=v40;generalize val 41=v41;generalize val 42=v42;generalize val 43=v43;generalize val 44=v44;generalize val 45=v45;generalize val 46=v46;simp only[Act.put,List.setIfInBounds_toArray,List.set_cons_zero,List.set_cons_succ];clear e2;have B2:Hid (bz w w2):=B1.o.trans (HR2.o.mono B1.o.size);have Nv:Hid (az w2 (w.heap.size+1) Mp.o.cs):=dE.o.2.1
   have HRT:=Hd (fun w g (hg:g=w.heap.size)=>nD _ [z1,z2,z3,z4] 4 _ (jE w [z1,z2,z3,z4] 2 hg) (Nat.le_refl 4) (by decide));have Yv:Hid ((RM,RE)=if dO [z1,z2,z3,z4]=true then (⟨z1,z2,z3,z4,ke,kf⟩,0) else (Mp.o,35)):=a3x.o;clear a3x HR2 dE og UY Lj Zn HO4 B1;obtain⟨⟨n0,n1,n2,n3,n4,n5⟩,-,ni⟩:=Dw.o.2.c6;have hgw:=Dw.o.1;generalize dO [z1,z2,z3,z4]=y at*;go_wp2_with (fail);refine(HRT.o _ _ rfl).mono ?_;rintro e3 w3 ⟨rfl,rfl⟩;have B3:Hid (bz w (w2.alloc (.cells (Vl z1 z2 z3 z4).toArray 2))):=B2.o.alloc B2.o.size _
   have Y8:Hid (az (w2.alloc (.cells (Vl z1 z2 z3 z4).toArray 2)) (w.heap.size+1) Mp.o.cs):=Nv.o.alloc _;have bn3:Hid (az (w2.alloc (.cells (Vl z1 z2 z3 z4).toArray 2)) g2 (Vh z1 z2 z3 z4 ke kf)):=Dw.o.2.alloc _
   have ew:∃w4,(w2.alloc (.cells (Vl z1 z2 z3 z4).toArray 2))=w4:=⟨_,rfl⟩
   obtain⟨w4,ew⟩:=ew;rw[ew]at B3 Y8 bn3;simp only[List.map_cons,List.map_nil,eI]at *;rw[ew];clear ew n0 n1 n2 n3 n4 n5 ni hgw B2 Nv Dw HRT;obtain⟨⟨c0,c1,c2,c3,c4,c5⟩,⟨f0,f1,f2,f3,f4,f5⟩,ri⟩:=az.c6 Y8.o;cases y with
   |true=>
    have hT:=Yv.o.trans (if_pos rfl)
    injection hT with h1 h2
    subst h1;subst h2;clear Yv;obtain⟨⟨n0,n1,n2,n3,n4,n5⟩,-,ni⟩:=bn3.o.c6;go_wp2_with (fail);exact MF (m:=⟨z1,z2,z3,z4,ke,kf⟩) rfl rfl (az.qP Y8.o _ _ _ _ _ _) ⟨rfl,iU B3.o (by omega) _ _ _ _ _ _⟩
   |false=>
    have hT:=Yv.o.trans (if_neg (by decide))
    injection hT with h1 h2
    subst h1;subst h2;clear Yv bn3;go_wp2_with (fail);exact MF (m:=Mp.o) rfl rfl (az.qP Y8.o _ _ _ _ _ _) ⟨rfl,iU B3.o (by omega) _ _ _ _ _ _⟩
end
section
open Go.RowKit
def Mp.from_(b:Mp)(p:Pt):Pt:=⟨lG (b.a*(p.x - b.e)+b.c*(p.y - b.f)) 65536,lG (b.b*(p.x - b.e)+b.d*(p.y - b.f)) 65536⟩
theorem gG{a b:Int}(h1:-1073741824<=a)(h2:a<=1073741824)(h3:-3221225472<=b)(h4:b<=3221225472):-3458764513820540928<=a*b∧a*b<=3458764513820540928:=by
 have g1:0<=(1073741824 - a)*(3221225472 - b):=Int.mul_nonneg (by omega) (by omega);have g2:0<=(1073741824+a)*(3221225472+b):=Int.mul_nonneg (by omega) (by omega);have g3:0<=(1073741824 - a)*(3221225472+b):=Int.mul_nonneg (by omega) (by omega);have g4:0<=(1073741824+a)*(3221225472 - b):=Int.mul_nonneg (by omega) (by omega);rw[Int.sub_mul,Int.mul_sub,Int.mul_sub]at g1;rw[Int.add_mul,Int.mul_add,Int.mul_add]at g2;rw[Int.sub_mul,Int.mul_add,Int.mul_add]at g3;rw[Int.add_mul,Int.mul_sub,Int.mul_sub]at g4;omega
def mY(b:Mp)(p:Pt):Prop:=b.right=true∧(-2147483648<=p.x∧p.x<=2147483648)∧(-2147483648<=p.y∧p.y<=2147483648)
theorem yg(b:Mp)(p:Pt)(w:World)(h:mY b p):Calls prog 37 #[b.v,p.v] w fun e w'=>e=.returned (b.from_ p).v∧bz w w':=by
 obtain⟨hr,hx,hy⟩:=h;obtain⟨ra,rb,rc,rd,re,rf⟩:=pI hr;clear hr;obtain⟨ka,kb,kc,kd,ke,kf⟩:=b;obtain⟨px,py⟩:=p;unfold Mp.from_;simp only at ra rb rc rd re rf hx hy ⊢
 obtain⟨U,hU⟩:=aC (px - ke)
 obtain⟨V,hV⟩:=aC (py - kf)
 rw[hU,hV];have bu:-3221225472<=U∧U<=3221225472:=by omega
 have bv:-3221225472<=V∧V<=3221225472:=by omega
 have p1:=gG ra.1 ra.2 bu.1 bu.2;have p2:=gG rc.1 rc.2 bv.1 bv.2;have p3:=gG rb.1 rb.2 bu.1 bu.2;have p4:=gG rd.1 rd.2 bv.1 bv.2;have u1:wrap64 U=U:=IntWalk.wrap64_in _ (by omega);have u2:wrap64 V=V:=IntWalk.wrap64_in _ (by omega);have u3:IntKind.i64.wrap U=U:=IntWalk.i64_in _ (by omega);have u4:IntKind.i64.wrap V=V:=IntWalk.i64_in _ (by omega)
 obtain⟨P1,hP1⟩:∃P,ka*U=P:=⟨_,rfl⟩
 obtain⟨P2,hP2⟩:∃P,kc*V=P:=⟨_,rfl⟩
 obtain⟨P3,hP3⟩:∃P,kb*U=P:=⟨_,rfl⟩
 obtain⟨P4,hP4⟩:∃P,kd*V=P:=⟨_,rfl⟩
 rw[hP1]at p1;rw[hP2]at p2;rw[hP3]at p3;rw[hP4]at p4;rw[hP1,hP2,hP3,hP4]
 obtain⟨S1,hS1⟩:∃S,P1+P2=S:=⟨_,rfl⟩
 obtain⟨S2,hS2⟩:∃S,P3+P4=S:=⟨_,rfl⟩
 rw[hS1,hS2];have s1:-6917529027641081856<=S1∧S1<=6917529027641081856:=by omega
 have s2:-6917529027641081856<=S2∧S2<=6917529027641081856:=by omega
 have v1:IntKind.i64.wrap P1=P1:=IntWalk.i64_in _ (by omega);have v2:IntKind.i64.wrap P2=P2:=IntWalk.i64_in _ (by omega);have v3:IntKind.i64.wrap P3=P3:=IntWalk.i64_in _ (by omega);have v4:IntKind.i64.wrap P4=P4:=IntWalk.i64_in _ (by omega);have v5:IntKind.i64.wrap S1=S1:=IntWalk.i64_in _ (by omega);have v6:IntKind.i64.wrap S2=S2:=IntWalk.i64_in _ (by omega);have HW1:=Hd (fun w=>Ai S1 w (by omega) (by omega));have HW2:=Hd (fun w=>Ai S2 w (by omega) (by omega));generalize lG S1 65536=z1 at*;generalize lG S2 65536=z2 at*
 have HU:=Hd (And.intro u1 (And.intro u2 (And.intro hU hV)));clear ra rb rc rd re rf hx hy bu bv p1 p2 p3 p4 s1 s2;unfold Mp.v Pt.v;simp only;go_enter func37,ntmps37;go_wp2_with (fail)
 go_quiet (fail)
 clear hU hV u1 u2 u3 u4;have HB:Hid (bz w ((((w.alloc (.cells (Vh ka kb kc kd ke kf).toArray 117)).alloc (.cells #[.int .i64 px,.int .i64 py] 121)).alloc (.cells #[.int .i64 0,.int .i64 0] 121)).drewN nq)):=Below.drewN' (((bR.alloc nR _).alloc (by simp) _).alloc (by simp;omega) _) _
 have bm:Hid (az ((((w.alloc (.cells (Vh ka kb kc kd ke kf).toArray 117)).alloc (.cells #[.int .i64 px,.int .i64 py] 121)).alloc (.cells #[.int .i64 0,.int .i64 0] 121)).drewN nq) w.heap.size (Vh ka kb kc kd ke kf)):=(((aA w (Vh ka kb kc kd ke kf) _).alloc _).alloc _).drewN _;have br:Hid (az ((((w.alloc (.cells (Vh ka kb kc kd ke kf).toArray 117)).alloc (.cells #[.int .i64 px,.int .i64 py] 121)).alloc (.cells #[.int .i64 0,.int .i64 0] 121)).drewN nq) (w.heap.size+1+1) [.int .i64 0,.int .i64 0]):=(aY ((w.alloc _).alloc _) _ (by simp) [.int .i64 0,.int .i64 0] _).drewN _
 generalize ((((w.alloc (.cells (Vh ka kb kc kd ke kf).toArray 117)).alloc (.cells #[.int .i64 px,.int .i64 py] 121)).alloc (.cells #[.int .i64 0,.int .i64 0] 121)).drewN nq)=W1 at*;have HJS:Hid (JS w.heap.size [(w.heap.size,(Vh ka kb kc kd ke kf))] (w.heap.size+1+1) [.int .i64 0,.int .i64 0] [.int .i64 z1,.int .i64 z2] false W1.drew):=JS.start ⟨bm.o,trivial⟩ (by omega) br.o (by intro p hp;simp at hp;subst hp;simp;omega);clear bm br HU;go_wp2_with (fail)
 refine wR (Below w.heap.size) (fun L wx=>JS w.heap.size [(w.heap.size,(Vh ka kb kc kd ke kf))] (w.heap.size+1+1) [.int .i64 0,.int .i64 0] [.int .i64 z1,.int .i64 z2] (L 21) wx) [17,18,19,20,21,22,23,24,25,26,27,28,29,30,31,32,33,34,35,36,37] (fun _=>bR) (fun _ _ _ h k=>h.trans k) (fun i=>match i with
  |0=>rp w.heap.size 0
  |1=>rV (.int .i64 ka)
  |2|12=>rV (.int .i64 U)
  |3=>rV (.int .i64 P1)
  |4=>rp w.heap.size 2
  |5=>rV (.int .i64 kc)
  |6|16=>rV (.int .i64 V)
  |7=>rV (.int .i64 P2)
  |8=>rV (.int .i64 S1)
  |9=>rV (.int .i64 z1)
  |10=>rp w.heap.size 1
  |11=>rV (.int .i64 kb)
  |13=>rV (.int .i64 P3)
  |14=>rp w.heap.size 3
  |15=>rV (.int .i64 kd)
  |17=>rV (.int .i64 P4)
  |18=>rV (.int .i64 S2)
  |19=>rV (.int .i64 z2)
  |20=>rV (.agg #[.int .i64 z1,.int .i64 z2])
  |_=>ra) (bR.drew) (HJS.o) ⟨?_,?_,?_,?_,?_,?_,?_,?_,?_,?_,?_,?_,?_,?_,?_,?_,?_,?_,?_,?_,?_,?_,trivial⟩ ?_
 any_goals (first|refine zp fun L a w1 hh=>?_|fail)
 have h2:=hh.p 2 w.heap.size 0;rotate_left
 ·have h17:=rq (hh.d 0 17);obtain⟨⟨c0,c1,c2,c3,c4,c5⟩,-,ci⟩:=(hh.st.1.1.1).c6;have hJ:=hh.j;clear hh;go_simp;exact⟨_,rfl,bR,rfl,hJ.o⟩
 have h5:=hh.o 5 (v:=.int .i64 U) rfl;rotate_left;have h18:=rq (hh.d 1 18);have h19:=rq (hh.d 2 19);rotate_left;have h2:=hh.p 2 w.heap.size 0;rotate_left
 ·have h21:=rq (hh.d 4 21);obtain⟨⟨c0,c1,c2,c3,c4,c5⟩,-,ci⟩:=(hh.st.1.1.1).c6;have hJ:=hh.j;clear hh;go_simp;exact⟨_,rfl,bR,rfl,hJ.o⟩
 have h6:=hh.o 6 (v:=.int .i64 V) rfl;rotate_left;have h22:=rq (hh.d 5 22);have h23:=rq (hh.d 6 23);rotate_left;have h20:=rq (hh.d 3 20);have CX:=rq (hh.d 7 24);rotate_left
 ·have pO:=rq (hh.d 8 25);have:=True.intro;have hJ:=hh.j;clear hh;go_simp;refine(HW1.o w1).mono ?_;rintro e w9 ⟨rfl,bD⟩;exact⟨_,rfl,bD.mono hJ.o.1.2.1,rfl,JS.below hJ.o bD⟩
 have h2:=hh.p 2 w.heap.size 0;rotate_left
 ·have h27:=rq (hh.d 10 27);obtain⟨⟨c0,c1,c2,c3,c4,c5⟩,-,ci⟩:=(hh.st.1.1.1).c6;have hJ:=hh.j;clear hh;go_simp;exact⟨_,rfl,bR,rfl,hJ.o⟩
 have h5:=hh.o 5 (v:=.int .i64 U) rfl;rotate_left;have h28:=rq (hh.d 11 28);have CW:=rq (hh.d 12 29);rotate_left;have h2:=hh.p 2 w.heap.size 0;rotate_left
 ·have h31:=rq (hh.d 14 31);obtain⟨⟨c0,c1,c2,c3,c4,c5⟩,-,ci⟩:=(hh.st.1.1.1).c6;have hJ:=hh.j;clear hh;go_simp;exact⟨_,rfl,bR,rfl,hJ.o⟩
 have h6:=hh.o 6 (v:=.int .i64 V) rfl;rotate_left;have h32:=rq (hh.d 15 32);have VV:=rq (hh.d 16 33);rotate_left;have h30:=rq (hh.d 13 30);have Xm:=rq (hh.d 17 34);rotate_left
 ·have h35:=rq (hh.d 18 35);have:=True.intro;have hJ:=hh.j;clear hh;go_simp;refine(HW2.o w1).mono ?_;rintro e w9 ⟨rfl,bD⟩;exact⟨_,rfl,bD.mono hJ.o.1.2.1,rfl,JS.below hJ.o bD⟩
 have IX:=rq (hh.d 9 26);have Xl:=rq (hh.d 19 36);rotate_left
 ·have h4:=hh.o 4 (v:=.pointer (some ⟨w.heap.size+1+1,0,none⟩)) rfl;have h37:=rq (hh.d 20 37);have hB:=hh.st.2.2;rw[hh.un]at hB;obtain⟨⟨c0,c1⟩,⟨f0,f1⟩,ci⟩:=(show az w1 (w.heap.size+1+1) [.int .i64 0,.int .i64 0] from hB).c2;have hP:=Hd (JS.put hh.st rfl hh.un);clear hh hB;go_simp;exact⟨hP.o.2,⟨undef,trivial⟩,hP.o.1⟩
 any_goals (have hJ:=hh.j;clear hh;go_simp;exact⟨_,rfl,bR,rfl,hJ.o⟩)
 intro L w2 val hL hJ hR hv;have hB2:=hJ.2.2;rw[hL 21 (by decide)]at hB2;have Dw:=Hd (show az w2 (w.heap.size+1+1) [.int .i64 z1,.int .i64 z2] from hB2);have dE:=Hd hJ.1.1;clear hB2;have HR2:=Hd hR;clear hv hL hJ hR;simp only[regs.aG,List.map_cons,List.map_nil];generalize val 17=v17;generalize val 18=v18;generalize val 19=v19;generalize val 20=v20;generalize val 21=v21;generalize val 22=v22;generalize val 23=v23;generalize val 24=v24;generalize val 25=v25;generalize val 26=v26;generalize val 27=v27;generalize val 28=v28;generalize val 29=v29;generalize val 30=v30
 generalize val 31=v31;generalize val 32=v32;generalize val 33=v33;generalize val 34=v34;generalize val 35=v35;generalize val 36=v36;generalize val 37=v37;simp only[Act.put,List.setIfInBounds_toArray,List.set_cons_zero,List.set_cons_succ];have B2:=Hd (HB.o.trans HR2.o);clear HB HR2 dE HJS;go_wp2_with (fail);exact bJ rfl rfl Dw.o underlying121 rfl ag ⟨rfl,B2.o⟩
end
section
section
open Go.RowKit fG gm aF Go.Maps
structure Cl where
 b:Mp
 r:Bx
 deriving DecidableEq
def Cl.cs(c:Cl):List Value:=[.int .i64 c.b.a,.int .i64 c.b.b,.int .i64 c.b.c,.int .i64 c.b.d,.int .i64 c.b.e,.int .i64 c.b.f,.int .i64 c.r.a,.int .i64 c.r.b,.int .i64 c.r.c,.int .i64 c.r.d]
theorem Cl.one(c:Cl):c.cs.all (·.oneCell')=true:=rfl
theorem Cl.bZ(c:Cl):c.cs.length=10:=rfl
structure It where
 i:Int
 w:Mp
 b:Mp
 c:List Cl
 o:Nat
 lk:Lk
structure jl where
 it:It
 Ac:Option Addr
 cc:Nat
 A:Option Addr
 c:Nat
def jl.cs(q:jl):List Value:=[.int .i64 q.it.i,.int .i64 q.it.w.a,.int .i64 q.it.w.b,.int .i64 q.it.w.c,.int .i64 q.it.w.d,.int .i64 q.it.w.e,.int .i64 q.it.w.f,.int .i64 q.it.b.a,.int .i64 q.it.b.b,.int .i64 q.it.b.c,.int .i64 q.it.b.d,.int .i64 q.it.b.e,.int .i64 q.it.b.f,.slice q.Ac q.it.c.length q.cc,.int .i64 (q.it.o:Nat),
 .int .i64 q.it.lk.k,.int .i64 q.it.lk.W,.int .i64 q.it.lk.H,.int .u32 (q.it.lk.p:Nat),.int .i64 q.it.lk.iw,.int .i64 q.it.lk.ih,.slice q.A q.it.lk.l.length q.c]
theorem jl.bZ(q:jl):q.cs.length=22:=rfl
theorem jl.one(q:jl):q.cs.all (·.oneCell')=true:=rfl
structure It.Ok(q:It):Prop where
 b:q.b.right=true
 c:∀c∈q.c,c.b.right=true
 few:q.c.length<=2000
 o:q.o<256
 lk:Bz q.lk.k q.lk.W q.lk.H q.lk.p q.lk.iw q.lk.ih q.lk.l=0
 l:q.lk.l.length<=300
 p:q.lk.p<4294967296
 z:∀z∈q.lk.l,z<4294967296
structure qR(w:World)(q:jl):Prop where
 xy:aV 10 Cl.cs w q.Ac q.it.c
 px:Row eW w q.A q.it.lk.l
theorem qR.below{w w':World}{q:jl}(h:qR w q)(hb:bz w w'):qR w' q:=⟨aV.below h.xy hb,Row.below h.px hb⟩
def rX(x y:Int):Pt:=⟨x*65536+32768,y*65536+32768⟩
def Me(b:Mp)(x y:Int):Int×Int:=((b.from_ (rX x y)).x / 65536,(b.from_ (rX x y)).y / 65536)
def Cl.has(c:Cl)(x y:Int):Bool:=c.r.has (Me c.b x y).1 (Me c.b x y).2
def It.free(q:It)(x y:Int):Bool:=q.c.all fun c=>c.has x y
def Lk.sz(q:Lk):Int×Int:=(IW q.k q.W q.iw,IW q.k q.H q.ih)
def It.covers(q:It)(x y:Int):Bool:=(Cl.mk q.b (Bx.nrm ⟨0,0,q.lk.sz.1,q.lk.sz.2⟩)).has x y&&q.free x y
def It.at_(q:It)(x y:Int):Nat:=if q.free x y=true then ((BF (a3M q.lk.k q.lk.W q.lk.H q.lk.p q.lk.iw q.lk.ih q.lk.l (Me q.b x y).1 (Me q.b x y).2)).times q.o).num else 0
end
section
open Go.RowKit fG gm aF Go.Maps
theorem TI{t:T}{i:Int}{f:Int->List Int}(hf:∀k,k∈kids t i->∀pre x post,f k=pre++x::post->x=k∨par t x∈pre)(hk:∀k∈kids t i,par t k=i) :
  ∀(l:List Int),(∀k∈l,k∈kids t i)->∀pre x post,l.flatMap f=pre++x::post->par t x=i∨par t x∈pre:=by
 intro l
 induction l with
 |nil=>intro _ pre x post h;simp at h
 |cons k l ih=>
  intro hl pre x post h;rw[List.flatMap_cons]at h;have ih:=ih fun y hy=>hl y (List.mem_cons_of_mem _ hy);have hkk:=hl k List.mem_cons_self;rcases List.append_eq_append_iff.1 h with ⟨a,h1,h2⟩|⟨c,h1,h2⟩
  ·rcases ih a x post h2 with h3|h3
   ·exact .inl h3
   ·exact .inr (by rw[h1];exact List.mem_append_right _ h3)
  ·cases c with
   |nil=>
    rw[List.append_nil]at h1;rcases ih [] x post (by simpa using h2.symm) with h3|h3
    ·exact .inl h3
    ·cases h3
   |cons y c=>
    rw[List.cons_append]at h2
    injection h2 with h2 h3
    subst h2;rcases hf k hkk pre x c h1 with h4|h4
    ·rw[h4];exact .inl (hk k hkk)
    ·exact .inr h4
theorem BX{t:T}(ok:Ok t):∀(n:Nat) (i:Int) (pre:List Int) (x:Int) (post:List Int),gW t n i=pre++x::post->x=i∨par t x∈pre
 |0,i,pre,x,post,h=>by rw[gW]at h;simp at h
 |n+1,i,pre,x,post,h=>by
  rw[gW]at h;cases pre with
  |nil=>
   rw[List.nil_append]at h
   injection h with h _
   exact .inl h.symm
  |cons y pre=>
   rw[List.cons_append]at h
   injection h with h1 h2
   subst h1;rcases TI (fun k _=>BX ok n k) (fun k hk=>(ok.kid hk).2) _ (fun _ h=>h) pre x post h2 with h3|h3
   ·exact .inr (by rw[h3];exact List.mem_cons_self)
   ·exact .inr (List.mem_cons_of_mem _ h3)
theorem Q3{t:T}(ok:Ok t){k:Nat}(hk:k<(aF.walk t 0).length):(aF.walk t 0)[k]=0∨par t (aF.walk t 0)[k]∈(aF.walk t 0).take k:=
 BX ok _ 0 _ _ ((aF.walk t 0).drop (k+1)) (by
  show aF.walk t 0=_
  rw[←List.drop_eq_getElem_cons hk,List.take_append_drop])
structure Dn where
 b:Mp
 o:Nat
 c:List Cl
 deriving DecidableEq
def Dn.top:Dn:=⟨Mp.o,255,[]⟩
def Dn.to(d:Dn)(n:Nd)(w:Mp):Dn:=⟨w.back.1,sG d.o n.op.toNat,if n.cl=true then ⟨w.back.1,n.r⟩::d.c else d.c⟩
def Dn.ok(d:Dn)(n:Nd)(w:Mp):Bool:=!n.hi&&(decide (w.back.2=0)&&decide (¬sG d.o n.op.toNat=0))
def Dn.step(n:Nd)(w:Mp)(d:Option Dn):Option Dn:=d.bind fun d=>if d.ok n w=true then some (d.to n w) else none
def dB(x:aJ)(i:Int):Option Dn:=(line x.t i).foldr (fun j d=>Dn.step (x.nd j) (x.ws j) d) (Dn.step (x.nd 0) (x.ws 0) (some Dn.top))
theorem zY(x:aJ):dB x 0=Dn.step (x.nd 0) (x.ws 0) (some Dn.top):=by unfold dB;rw[kJ];rfl
theorem pR{x:aJ}(ok:Ok x.t){i:Int}(hi:i∈ids x.t):dB x i=Dn.step (x.nd i) (x.ws i) (dB x (par x.t i)):=by
 unfold dB;rw[dJ ok hi];rfl
theorem RU{n:Nd}(h:n.chk=0):n.op.toNat<256∧n.op=(n.op.toNat:Nat):=by
 have:=(lJ h).2.1;omega
def fA(x:aJ)(i:Int):Option It:=(dB x i).bind fun d=>if (x.nd i).lk.k=0 then none else some ⟨i,x.ws i,d.b,d.c.reverse,d.o,(x.nd i).lk⟩
def items(x:aJ):List It:=(aF.walk x.t 0).filterMap (fA x)
theorem zO{α β:Type}(f:α->Option β){l:List α}{k:Nat}(hk:k<l.length):(l.take (k+1)).filterMap f=(l.take k).filterMap f++(f l[k]).toList:=by
 rw[List.take_succ_eq_append_getElem hk,List.filterMap_append]
 congr 1
end
section
open Go.RowKit fG gm aF Go.Maps
def Sl(n:Int):Prop:=-1048576<=n∧n<=1048576
theorem zl(n:Int)(w:World)(h:Sl n):Calls prog 70 #[.int .i64 n] w (aZ (.int .i64 (n*65536+32768)) w):=by
 obtain⟨h1,h2⟩:=h
 obtain⟨z,hz⟩:=aC (n*65536)
 have v1:IntKind.i64.wrap z=z:=IntWalk.i64_in _ (by omega);have v2:IntKind.i64.wrap (z+32768)=z+32768:=IntWalk.i64_in _ (by omega);have v3:wrap64 (z+32768)=z+32768:=IntWalk.wrap64_in _ (by omega);have b1:-68719476736<=z∧z<=68719476736:=by omega
 rw[hz];clear h1 h2;go_enter func70,ntmps70;go_wp2_with (fail);go_ret;exact⟨rfl,bR⟩
theorem oK(x y:Int)(w:World)(hx:Sl x)(hy:Sl y):Calls prog 38 #[.int .i64 x,.int .i64 y] w (aZ (.agg (rX x y).cs.toArray) w):=by
 have H1:=Hd (fun w=>zl x w hx);have H2:=Hd (fun w=>zl y w hy);unfold rX Pt.cs;simp only;generalize x*65536+32768=u at*;generalize y*65536+32768=v at*;clear hx hy;go_enter func38,ntmps38;go_wp2_with (fail);refine(H1.o _).mono ?_;rintro e w1 ⟨rfl,hb⟩;have HB1:Hid (bz w w1):=(bR.alloc nR _).trans (hb.mono (by simp));have og:Hid (az w1 w.heap.size [.int .i64 0,.int .i64 0]):=(aA w [.int .i64 0,.int .i64 0] _).below hb (by simp);clear hb H1;go_wp2_with (fail);refine(H2.o _).mono ?_;rintro e w2 ⟨rfl,hb⟩
 have HB2:=Hd (HB1.o.trans (hb.mono HB1.o.size));have dE:=Hd (og.o.below' hb);clear hb H2 HB1 og;obtain⟨⟨c0,c1⟩,⟨f0,f1⟩,ci⟩:=dE.o.c2;go_wp2_with (fail);exact bJ rfl rfl (dE.o.OB _ _) underlying121 rfl ag ⟨rfl,below2 HB2.o nR _ _⟩
def ptB(p:Pt):Prop:=(-4611686018427387904<=p.x∧p.x<=4611686018427387904)∧(-4611686018427387904<=p.y∧p.y<=4611686018427387904)
theorem JW(p:Pt)(w:World)(h:ptB p):Calls prog 112 #[.agg p.cs.toArray] w (aZ (.tuple #[.int .i64 (p.x / 65536),.int .i64 (p.y / 65536)]) w):=by
 have H1:Hid (∀w,Calls prog 71 #[.int .i64 p.x] w (aZ (.int .i64 (p.x / 65536)) w)):=fun w=>mO (vT p.x w h.1.1 h.1.2);have H2:Hid (∀w,Calls prog 71 #[.int .i64 p.y] w (aZ (.int .i64 (p.y / 65536)) w)):=fun w=>mO (vT p.y w h.2.1 h.2.2);have HB0:Hid (bz w (w.alloc (.cells p.cs.toArray 121))):=bR.alloc nR _;have oh:Hid (az (w.alloc (.cells p.cs.toArray 121)) w.heap.size p.cs):=aA w p.cs _;generalize p.x / 65536=u at*
 generalize p.y / 65536=v at*;clear h;go_enter func112,ntmps112
 go_upto_region 1 with(fail)
 generalize (w.alloc (.cells p.cs.toArray 121))=w0 at*;have F1:Hid (∀W,bz w0 W->az W w.heap.size p.cs):=fun W hb=>oh.o.below' hb
 refine Q5 [4,5,6,7,8,9,2,3] (fun i=>match i with
  |0=>rp w.heap.size 0
  |1=>rV (.int .i64 p.x)
  |2|6=>rV (.int .i64 u)
  |3=>rp w.heap.size 1
  |4=>rV (.int .i64 p.y)
  |5|7=>rV (.int .i64 v)
  |_=>ra) ⟨?_,?_,?_,?_,?_,?_,?_,?_,trivial⟩ ?_
 any_goals (first|refine zp fun L a w1 hh=>?_|fail)
 have h1:=hh.p 1 w.heap.size 0;have i0:=(F1.o _ hh.rel).inside;rotate_left;have h4:=rq (hh.d 0 4);have ⟨c0,i0⟩:=(F1.o _ hh.rel).ci 0 rfl;rotate_left
 ·have h5:=rq (hh.d 1 5);have hC:=Hd (H1.o w1);have hJ:=hh.j;clear hh;go_simp;refine hC.o.mono ?_;rintro e w9 ⟨rfl,bD⟩;exact⟨_,rfl,bD,rfl,hJ.o⟩
 have h1:=hh.p 1 w.heap.size 0;have i0:=(F1.o _ hh.rel).inside;rotate_left;have h7:=rq (hh.d 3 7);have ⟨c0,i0⟩:=(F1.o _ hh.rel).ci 1 rfl;rotate_left
 ·have h8:=rq (hh.d 4 8);have hC:=Hd (H2.o w1);have hJ:=hh.j;clear hh;go_simp;refine hC.o.mono ?_;rintro e w9 ⟨rfl,bD⟩;exact⟨_,rfl,bD,rfl,hJ.o⟩
 have h6:=rq (hh.d 2 6);rotate_left;have h9:=rq (hh.d 5 9);rotate_left
 any_goals (clear hh;go_simp;exact⟨_,rfl,rB,rfl,trivial⟩)
 intro L w2 val hL hJ hR hv;have h2:val 2=.int .i64 u:=hv 6 2 ag;have h3:val 3=.int .i64 v:=hv 7 3 ag;have HR2:=Hd hR;clear hv hL hJ hR;simp only[regs.aG,List.map_cons,List.map_nil,h2,h3];simp only[Act.put,List.setIfInBounds_toArray,List.set_cons_zero,List.set_cons_succ];clear h2 h3
 skip
 go_wp2_with (fail);go_ret2;exact⟨rfl,HB0.o.trans (HR2.o.mono HB0.o.size)⟩
def Cl.eH(c:Cl)(p:Pt):Bool:=c.r.has ((c.b.from_ p).x / 65536) ((c.b.from_ p).y / 65536)
theorem Rx{n:Int}(h1:-9223372036854775808<=n)(h2:n<=9223372036854775807):-4611686018427387904<=lG n 65536∧lG n 65536<=4611686018427387904:=by
 unfold lG;split<;>omega
theorem TG{b:Mp}{p:Pt}(h:mY b p):ptB (b.from_ p):=by
 obtain⟨hr,hx,hy⟩:=h;obtain⟨ra,rb,rc,rd,re,rf⟩:=pI hr;have bu:-3221225472<=p.x - b.e∧p.x - b.e<=3221225472:=by omega
 have bv:-3221225472<=p.y - b.f∧p.y - b.f<=3221225472:=by omega
 have p1:=gG ra.1 ra.2 bu.1 bu.2;have p2:=gG rc.1 rc.2 bv.1 bv.2;have p3:=gG rb.1 rb.2 bu.1 bu.2;have p4:=gG rd.1 rd.2 bv.1 bv.2;unfold ptB Mp.from_;simp only;generalize p.x - b.e=u at*;generalize p.y - b.f=v at*;generalize b.a*u=q1 at*;generalize b.c*v=q2 at*;generalize b.b*u=q3 at*;generalize b.d*v=q4 at*;exact⟨Rx (by omega) (by omega),Rx (by omega) (by omega)⟩
theorem Aa{b:Mp}(hb:b.right=true){x y:Int}(hx:-32768<=x∧x<=32767)(hy:-32768<=y∧y<=32767):mY b (rX x y):=by
 refine⟨hb,?_,?_⟩
 ·show -2147483648<=x*65536+32768∧x*65536+32768<=2147483648;omega
 ·show -2147483648<=y*65536+32768∧y*65536+32768<=2147483648;omega
theorem Hy(c:Cl)(p:Pt)(w:World)(h:mY c.b p):Calls prog 90 #[.agg c.cs.toArray,.agg p.cs.toArray] w (aZ (.bool (c.eH p)) w):=by
 have H1:Hid (∀w,Calls prog 37 #[.agg c.b.cs.toArray,.agg p.cs.toArray] w (aZ (.agg (c.b.from_ p).cs.toArray) w)):=fun w=>yg c.b p w h;have H2:Hid (∀w,Calls prog 112 #[.agg (c.b.from_ p).cs.toArray] w (aZ (.tuple #[.int .i64 ((c.b.from_ p).x / 65536),.int .i64 ((c.b.from_ p).y / 65536)]) w)):=fun w=>JW _ w (TG h)
 have H3:Hid (∀w,Calls prog 111 #[.agg c.r.cs.toArray,.int .i64 ((c.b.from_ p).x / 65536),.int .i64 ((c.b.from_ p).y / 65536)] w (aZ (.bool (c.eH p)) w)):=fun w=>a0B c.r _ _ w;have HB0:Hid (bz w ((w.alloc (.cells c.cs.toArray 218)).alloc (.cells p.cs.toArray 121))):=(bR.alloc nR _).alloc (by simp) _;have og:Hid (az ((w.alloc (.cells c.cs.toArray 218)).alloc (.cells p.cs.toArray 121)) w.heap.size c.cs):=(aA w c.cs _).alloc _
 have dE:Hid (az ((w.alloc (.cells c.cs.toArray 218)).alloc (.cells p.cs.toArray 121)) (w.heap.size+1) p.cs):=aY (w.alloc _) _ (by simp) p.cs _;generalize c.eH p=r at*;generalize (c.b.from_ p).x / 65536=u at*;generalize (c.b.from_ p).y / 65536=v at*;clear h;go_enter func90,ntmps90
 go_upto_region 1 with(fail)
 generalize ((w.alloc (.cells c.cs.toArray 218)).alloc (.cells p.cs.toArray 121))=w0 at*;have F1:Hid (∀W,bz w0 W->az W w.heap.size c.cs):=fun W hb=>og.o.below' hb;have F2:Hid (∀W,bz w0 W->az W (w.heap.size+1) p.cs):=fun W hb=>dE.o.below' hb
 refine Q5 [5,6,7,8,9,10,11,12,13,14,4] (fun i=>match i with
  |0=>rp w.heap.size 6
  |1=>rV (.agg (c.r.cs).toArray)
  |2=>rp w.heap.size 0
  |3=>rV (.agg (c.b.cs).toArray)
  |4=>rV (.agg (p.cs).toArray)
  |5=>rV (.agg ((c.b.from_ p).cs).toArray)
  |6=>rV (.tuple #[.int .i64 u,.int .i64 v])
  |7=>rV (.int .i64 u)
  |8=>rV (.int .i64 v)
  |9|10=>rV (.bool r)
  |_=>ra) ⟨?_,?_,?_,?_,?_,?_,?_,?_,?_,?_,?_,trivial⟩ ?_
 any_goals (first|refine zp fun L a w1 hh=>?_|fail)
 have h2:=hh.p 2 w.heap.size 0;have i0:=(F1.o _ hh.rel).inside;rotate_left
 ·have h5:=rq (hh.d 0 5);have hB:=Hd (F1.o _ hh.rel);have hJ:=Hd hh.st;exact aK 69 _ rfl w.heap.size 6 (by simpa[go_sem]using h5) _ hB.o (c.r.cs) rfl _ underlying69 rfl ag ⟨_,rfl,rB,rfl,hJ.o⟩
 have h2:=hh.p 2 w.heap.size 0;have i0:=(F1.o _ hh.rel).inside;rotate_left
 ·have h7:=rq (hh.d 2 7);have hB:=Hd (F1.o _ hh.rel);have hJ:=Hd hh.st;exact aK 117 _ rfl w.heap.size 0 (by simpa[go_sem]using h7) _ hB.o (c.b.cs) rfl _ underlying117 rfl ag ⟨_,rfl,rB,rfl,hJ.o⟩
 ·have h3:=hh.p 3 ((w.heap.size+1)) 0;have hB:=Hd (F2.o _ hh.rel);have hJ:=Hd hh.st;exact aK 121 _ rfl (w.heap.size+1) 0 (by simpa[go_sem]using h3) _ hB.o (p.cs) rfl _ underlying121 rfl ag ⟨_,rfl,rB,rfl,hJ.o⟩
 ·have h8:=rq (hh.d 3 8);have h9:=rq (hh.d 4 9);have hC:=Hd (H1.o w1);have hJ:=hh.j;clear hh;go_simp;refine hC.o.mono ?_;rintro e w9 ⟨rfl,bD⟩;exact⟨_,rfl,bD,rfl,hJ.o⟩
 ·have h10:=rq (hh.d 5 10);have hC:=Hd (H2.o w1);have hJ:=hh.j;clear hh;go_simp;refine hC.o.mono ?_;rintro e w9 ⟨rfl,bD⟩;exact⟨_,rfl,bD,rfl,hJ.o⟩
 have h11:=rq (hh.d 6 11);rotate_left;have h11:=rq (hh.d 6 11);rotate_left
 ·have h6:=rq (hh.d 1 6);have h12:=rq (hh.d 7 12);have h13:=rq (hh.d 8 13);have hC:=Hd (H3.o w1);have hJ:=hh.j;clear hh;go_simp;refine hC.o.mono ?_;rintro e w9 ⟨rfl,bD⟩;exact⟨_,rfl,bD,rfl,hJ.o⟩
 have xI:=rq (hh.d 9 14);rotate_left
 any_goals (clear hh;go_simp;exact⟨_,rfl,rB,rfl,trivial⟩)
 intro L w2 val hL hJ hR hv;have h4:val 4=.bool r:=hv 10 4 ag;have HR2:=Hd hR;clear hv hL hJ hR;simp only[regs.aG,List.map_cons,List.map_nil,h4];simp only[Act.put,List.setIfInBounds_toArray,List.set_cons_zero,List.set_cons_succ];clear h4
 skip
 go_wp2_with (fail);go_ret;exact⟨rfl,HB0.o.trans (HR2.o.mono HB0.o.size)⟩
theorem GH(c:Cl)(p:Pt)(pb:Nat)(w:World)(h:mY c.b p)(hp:az w pb p.cs):Calls prog 114 #[.agg c.cs.toArray,.pointer (some ⟨pb,0,none⟩)] w (aZ (.bool (!c.eH p)) w):=by
 have HC:=Hd (fun w=>Hy c p w h);have HB0:Hid (bz w (w.alloc (.cells c.cs.toArray 218))):=bR.alloc nR _;have og:Hid (az (w.alloc (.cells c.cs.toArray 218)) w.heap.size c.cs):=aA w c.cs _;have dE:Hid (az (w.alloc (.cells c.cs.toArray 218)) pb p.cs):=hp.alloc _;generalize c.eH p=r at*;clear h hp;go_enter func114,ntmps114
 go_upto_region 1 with(fail)
 generalize (w.alloc (.cells c.cs.toArray 218))=w0 at*;have i1:=og.o.inside;have i2:=dE.o.inside;go_wp2_with (first|(with_reducible refine gL ?_;first|(refine wt 218 0 rfl rfl rfl og.o (c.cs) rfl underlying218 rfl ?_)|(refine wt 121 0 rfl rfl rfl dE.o (p.cs) rfl underlying121 rfl ?_)));refine(HC.o _).mono ?_;rintro e w1 ⟨rfl,hb⟩;have HB1:=Hd (HB0.o.trans (hb.mono HB0.o.size));clear hb HC;go_wp2_with (fail);go_ret;exact⟨rfl,HB1.o⟩
theorem zT:Enters prog 114:=enters_of func114 ag rfl
theorem JK(l:List Cl)(A:Option Addr)(cc:Nat)(p:Pt)(pb:Nat)(w:World)(hl:∀c∈l,c.b.right=true)(hn:l.length<=2000)(hp:az w pb p.cs)(hr:aV 10 Cl.cs w A l)(hok:∀b:Mp,b.right=true->mY b p) :
  Calls prog 132 #[.slice A l.length cc,.func (.func 114) #[] #[.pointer (some ⟨pb,0,none⟩)]] w fun e w'=>∃z:Int,e=.returned (.int .i64 z)∧decide (0<=z)=!(l.all fun c=>c.eH p)∧bz w w':=by
 have he':∀(args:Array Value) (w:World),(callFunc 114 args).run prog w=.ok (.enter 114 args) w:=zT;have HP:=Hd hp;have HL:=Hd hl;have HR:=Hd hr;have HK:=Hd hok;have HN:=Hd hn;clear hp hl hr hok hn;go_enter func132,ntmps132;go_wp2_with (fail)
 go_loopw [8] (fun i wr=>∃k:Nat,k<=l.length∧i=.int .i64 k∧Hid ((l.take k).all (fun c=>c.eH p)=true)∧Hid (bz w wr)) (fun i _=>l.length - (intOf i).toNat)
 case atStart=>exact⟨0,Nat.zero_le _,rfl,rfl,bR⟩
 case round=>
  obtain⟨k,hk,rfl,HT,HB⟩:=hrel;generalize wr=wA at*;by_cases hlt:k<l.length
  ·have t1:decide (k<l.length)=true:=decide_eq_true hlt;have gQ:=Hd hlt
   obtain⟨lb,lo,rA,hcell⟩:=(aV.below HR.o HB.o) (by omega)
   subst rA
   obtain⟨c,hc⟩:∃c,c=l[k]'hlt:=⟨_,rfl⟩
   have oZ:Hid (wA.rangeAt lb (lo+k*10) c.cs):=by
    rw[hc];exact fun i v hv=>hcell k hlt i v hv
   have EL:Hid (mY c.b p):=HK.o _ (HL.o c (by rw[hc];exact List.getElem_mem hlt))
   have uO:Hid ((l.take (k+1)).all (fun c=>c.eH p)=c.eH p):=by
    show _=_;rw[List.take_succ_eq_append_getElem hlt,List.all_append,HT.o,←hc];simp
   have QW:Hid (c.eH p=false->(l.all fun c=>c.eH p)=false):=fun e=>by
    rw[Bool.eq_false_iff];intro h;rw[List.all_eq_true.1 h c (by rw[hc];exact List.getElem_mem hlt)]at e;cases e
   have c0:=oZ.o 0 (.int .i64 c.b.a) rfl;have i0:lb<wA.heap.size:=World.block_lt_of_cell? wA ⟨lb,_,none⟩ c0;have hjb:(k:Int)<=2000:=by have:=HN.o;omega
   have HC:=Hd (GH c p pb wA EL.o (HP.o.below' HB.o));clear c0 hcell hc hlt;go_wp2_with ((with_reducible refine gL ?_);refine qp 218 _ rfl rfl _ _ rfl (c.cs) oZ.o _ underlying218 rfl ag ?_);refine HC.o.mono ?_;rintro e w2 ⟨rfl,hb⟩;have HB2:=Hd (HB.o.trans (hb.mono HB.o.size));clear hb HC HB i0;cases hcp:c.eH p with
   |true=>
    rw[hcp]at uO;go_wp2_with (fail)
    go_roundw
    case rel=>exact⟨k+1,gQ.o,by go_num,uO,HB2⟩
    case measure=>have:=gQ.o;simp[intOf];omega
   |false=>
    go_wp2_with (fail);go_ret;exact⟨k,rfl,by rw[QW.o hcp];simp,HB2.o⟩
  ·obtain rfl:k=l.length:=by omega
   have t1:decide (l.length<l.length)=false:=by simp
   have HT2:=Hd HT.o;rw[List.take_length]at HT2;go_wp2_with (fail);go_ret;exact⟨-1,rfl,by rw[HT2.o];rfl,HB.o⟩
theorem BG(l:List Cl)(A:Option Addr)(cc:Nat)(p:Pt)(pb:Nat)(w:World)(hl:∀c∈l,c.b.right=true)(hn:l.length<=2000)(hp:az w pb p.cs)(hr:aV 10 Cl.cs w A l)(hok:∀b:Mp,b.right=true->mY b p) :
  Calls prog 113 #[.slice A l.length cc,.func (.func 114) #[] #[.pointer (some ⟨pb,0,none⟩)]] w (aZ (.bool (!(l.all fun c=>c.eH p))) w):=by
 have HC:=Hd (JK l A cc p pb w hl hn hp hr hok);clear hl hn hp hr hok;go_enter func113,ntmps113;go_wp2_with (fail);refine HC.o.mono ?_;rintro e w2 ⟨z,rfl,hz,hb⟩;have HB:=Hd hb;have HZ:=Hd hz;clear hz hb HC;go_wp2_with (fail);go_ret;exact⟨by rw[←HZ.o];rfl,HB.o⟩
end
section
open Go.RowKit fG gm aF Go.Maps
theorem JD(q:jl)(p:Pt)(w:World)(h:qR w q)(hk:q.it.Ok)(hok:∀b:Mp,b.right=true->mY b p):Calls prog 91 #[.agg q.cs.toArray,.agg p.cs.toArray] w (aZ (.bool (q.it.c.all fun c=>c.eH p)) w):=by
 have HB0:Hid (bz w ((w.alloc (.cells q.cs.toArray 167)).alloc (.cells p.cs.toArray 121))):=(bR.alloc nR _).alloc (by simp) _;have og:Hid (az ((w.alloc (.cells q.cs.toArray 167)).alloc (.cells p.cs.toArray 121)) w.heap.size q.cs):=(aA w q.cs _).alloc _;have dE:Hid (az ((w.alloc (.cells q.cs.toArray 167)).alloc (.cells p.cs.toArray 121)) (w.heap.size+1) p.cs):=aY (w.alloc _) _ (by simp) p.cs _
 have HC:=Hd (BG q.it.c q.Ac q.cc p (w.heap.size+1) ((w.alloc (.cells q.cs.toArray 167)).alloc (.cells p.cs.toArray 121)) hk.c hk.few dE.o (aV.below h.xy HB0.o) hok);clear h hk hok;generalize (q.it.c.all fun c=>c.eH p)=r at*;go_enter func91,ntmps91
 go_upto_region 1 with(fail)
 generalize ((w.alloc (.cells q.cs.toArray 167)).alloc (.cells p.cs.toArray 121))=w0 at*;have c13:=og.o.c 13 rfl;have i1:=og.o.inside;go_wp2_with (fail);refine HC.o.mono ?_;rintro e w2 ⟨rfl,hb⟩;have HB:=Hd (HB0.o.trans (hb.mono HB0.o.size));clear hb HC c13 i1;go_wp2_with (fail);go_ret;exact⟨rfl,HB.o⟩
theorem Ib(b:Mp)(r:Bx)(w:World):(Instr.build 218 #[(0,.agg b.cs.toArray),(1,.agg r.cs.toArray)]).run prog w=.ok (.agg (Cl.mk b r).cs.toArray) w:=by kernel_rfl
theorem O1(q:jl)(x y:Int)(w:World)(h:qR w q)(hk:q.it.Ok)(hx:-32768<=x∧x<=32767)(hy:-32768<=y∧y<=32767):Calls prog 65 #[.agg q.cs.toArray,.int .i64 x,.int .i64 y] w (aZ (.bool (q.it.covers x y)) w):=by
 have HCT:=Hd (fun w=>oK x y w (by constructor<;>omega) (by constructor<;>omega));have dY:Hid (∀b:Mp,b.right=true->mY b (rX x y)):=fun b hb=>Aa hb hx hy;have HF:Hid (q.it.free x y=q.it.c.all fun c=>c.eH (rX x y)):=rfl;have HCV:Hid (q.it.covers x y=((Cl.mk q.it.b (Bx.nrm ⟨0,0,IW q.it.lk.k q.it.lk.W q.it.lk.iw,IW q.it.lk.k q.it.lk.H q.it.lk.ih⟩)).eH (rX x y)&&q.it.free x y)):=rfl;generalize q.it.covers x y=R at*;generalize q.it.free x y=fr at*;generalize rX x y=p at*;have HI:=Hd h;have HKO:=Hd hk
 have HB0:Hid (bz w (w.alloc (.cells q.cs.toArray 167))):=bR.alloc nR _;have oh:Hid (az (w.alloc (.cells q.cs.toArray 167)) w.heap.size q.cs):=aA w q.cs _;have IG:=Hd (fun w h=>JD q p w h HKO.o dY.o);rw[←HF.o]at IG
 have iL:Hid (∀w,Calls prog 21 #[.agg (q.it.lk.cs q.A q.c).toArray] w (aZ (.tuple #[.int .i64 (IW q.it.lk.k q.it.lk.W q.it.lk.iw),.int .i64 (IW q.it.lk.k q.it.lk.H q.it.lk.ih)]) w)):=fun w=>size_any q.it.lk.k q.it.lk.W q.it.lk.H q.it.lk.p q.it.lk.iw q.it.lk.ih q.A q.it.lk.l.length q.c w;generalize IW q.it.lk.k q.it.lk.W q.it.lk.iw=sx at*;generalize IW q.it.lk.k q.it.lk.H q.it.lk.ih=sv at*
 have H1:Hid (∀w,Calls prog 89 #[.int .i64 0,.int .i64 0,.int .i64 sx,.int .i64 sv] w (aZ (.agg (Bx.nrm ⟨0,0,sx,sv⟩).cs.toArray) w)):=fun w=>a2m ⟨0,0,sx,sv⟩ w;generalize Bx.nrm ⟨0,0,sx,sv⟩=rr at*;have H2:=Hd (fun w=>Hy (Cl.mk q.it.b rr) p w (dY.o _ hk.b));clear hx hy h hk HF dY;go_enter func65,ntmps65
 go_upto_region 1 with(fail)
 generalize (w.alloc (.cells q.cs.toArray 167))=w0 at*;go_wp2_with (fail);refine(HCT.o _).mono ?_;rintro e w1 ⟨rfl,hb⟩;have HB1:=Hd (HB0.o.trans (hb.mono HB0.o.size));have og:=Hd (oh.o.below' hb);clear hb HCT HB0 oh;have HZ:Hid (az (w1.alloc (.cells #[.int .i64 0,.int .i64 0] 121)) w1.heap.size [.int .i64 0,.int .i64 0]):=aA w1 [.int .i64 0,.int .i64 0] _;have iO:Hid (bz w (w1.alloc (.cells #[.int .i64 0,.int .i64 0] 121))):=HB1.o.alloc HB1.o.size _;have Vz:Hid (az (w1.alloc (.cells #[.int .i64 0,.int .i64 0] 121)) w.heap.size q.cs):=og.o.alloc _
 have I8:Hid (w.heap.size<w1.heap.size):=og.o.inside
 go_upto_region 2 with(first|(with_reducible refine gS ?_;first|(refine ay 121 _ _ rfl rfl rfl _ 0 rfl (p.cs) rfl ([.int .i64 0,.int .i64 0]) HZ.o (p.cs) rfl (nE rfl) ag rfl ?_;intro w2 HW2 HP2)))
 have HB2:Hid (bz w w2):=HW2.o.below iO.o HB1.o.size;have dE:Hid (az w2 w.heap.size q.cs):=Vz.o.stays (HW2.o.far (Nat.ne_of_lt I8.o));clear HZ iO Vz HW2 HB1 og;generalize w1.heap.size=pb at*;have i1:=dE.o.inside;go_wp2_with (first|(with_reducible refine gL ?_;first|(refine wt 75 15 rfl rfl rfl dE.o (q.it.lk.cs q.A q.c) rfl underlying75 rfl ?_)));refine(iL.o w2).mono ?_;rintro e w3 ⟨rfl,hb⟩;have HB3:=Hd (HB2.o.trans (hb.mono HB2.o.size));have dM:=Hd (dE.o.below' hb);have HP3:=Hd (HP2.o.below' hb);clear hb iL HB2 dE HP2 i1
 have H3:=Hd (fun W (hb:bz w3 W)=>IG.o W (HI.o.below (HB3.o.trans (hb.mono HB3.o.size))));have F1:Hid (∀W,bz w3 W->az W w.heap.size q.cs):=fun W hb=>dM.o.below' hb;have F2:Hid (∀W,bz w3 W->az W pb p.cs):=fun W hb=>HP3.o.below' hb;clear dM HP3 HI HKO IG;generalize (Cl.mk q.it.b rr).eH p=hv at*
 go_upto_region 3 with(fail)
 cases hv with
 |false=>
  refine Q5 [19,20,21,22,23,24,25,26,27,28,29,30,31,6] (fun i=>match i with
   |0=>rp w.heap.size 7
   |1=>rV (.agg (q.it.b.cs).toArray)
   |2=>rV (.int .i64 sx)
   |3=>rV (.int .i64 sv)
   |4=>rV (.agg (rr.cs).toArray)
   |5=>rV (.agg ((Cl.mk q.it.b rr).cs).toArray)
   |6=>rV (.agg (p.cs).toArray)
   |7|8|12|13=>rV (.bool false)
   |9|10|11=>rV (undef)
   |_=>ra) ⟨?_,?_,?_,?_,?_,?_,?_,?_,?_,?_,?_,?_,?_,?_,trivial⟩ ?_
  any_goals (first|refine zp fun L a w1 hh=>?_|fail)
  have h3:=hh.p 3 w.heap.size 0;have i0:=(F1.o _ hh.rel).inside;rotate_left
  ·have h19:=rq (hh.d 0 19);have hB:=Hd (F1.o _ hh.rel);have hJ:=Hd hh.st;exact aK 117 _ rfl w.heap.size 7 (by simpa[go_sem]using h19) _ hB.o (q.it.b.cs) rfl _ underlying117 rfl ag ⟨_,rfl,rB,rfl,hJ.o⟩
  have h8:=hh.o 8 (v:=.int .i64 sx) rfl;rotate_left;have h9:=hh.o 9 (v:=.int .i64 sv) rfl;rotate_left
  ·have h21:=rq (hh.d 2 21);have h22:=rq (hh.d 3 22);have hC:=Hd (H1.o w1);have hJ:=hh.j;clear hh;go_simp;refine hC.o.mono ?_;rintro e w9 ⟨rfl,bD⟩;exact⟨_,rfl,bD,rfl,hJ.o⟩
  ·have h20:=rq (hh.d 1 20);have h23:=rq (hh.d 4 23);have hJ:=Hd hh.st;exact wp_build _ _ rfl (by simp[go_sem,h20,h23]) (Ib q.it.b rr w1) ⟨_,rfl,rB,rfl,hJ.o⟩
  ·have h7:=hh.p 7 pb 0;have hB:=Hd (F2.o _ hh.rel);have hJ:=Hd hh.st;exact aK 121 _ rfl pb 0 (by simpa[go_sem]using h7) _ hB.o (p.cs) rfl _ underlying121 rfl ag ⟨_,rfl,rB,rfl,hJ.o⟩
  ·have CX:=rq (hh.d 5 24);have pO:=rq (hh.d 6 25);have hC:=Hd (H2.o w1);have hJ:=hh.j;clear hh;go_simp;refine hC.o.mono ?_;rintro e w9 ⟨rfl,bD⟩;exact⟨_,rfl,bD,rfl,hJ.o⟩
  have IX:=rq (hh.d 7 26);rotate_left
  ·refine sz rfl rfl
  ·refine sz rfl rfl
  ·refine sz rfl rfl
  have h27:=rq (hh.d 8 27);rotate_left;have h31:=rq (hh.d 12 31);rotate_left
  any_goals (clear hh;go_simp;exact⟨_,rfl,rB,rfl,trivial⟩)
  intro L w4 val hL hJ hR hv;have h6:val 6=.bool false:=hv 13 6 ag;have HR4:=Hd hR;clear hv hL hJ hR;simp only[regs.aG,List.map_cons,List.map_nil,h6];simp only[Act.put,List.setIfInBounds_toArray,List.set_cons_zero,List.set_cons_succ];clear h6;generalize val 19=v19,val 20=v20,val 21=v21,val 22=v22,val 23=v23,val 24=v24,val 25=v25,val 26=v26,val 27=v27,val 28=v28,val 29=v29,val 30=v30,val 31=v31 at*;go_wp2_with (fail);go_ret;exact⟨by rw[HCV.o];rfl,HB3.o.trans (HR4.o.mono HB3.o.size)⟩
 |true=>
  refine Q5 [19,20,21,22,23,24,25,26,27,28,29,30,31,6] (fun i=>match i with
   |0=>rp w.heap.size 7
   |1=>rV (.agg (q.it.b.cs).toArray)
   |2=>rV (.int .i64 sx)
   |3=>rV (.int .i64 sv)
   |4=>rV (.agg (rr.cs).toArray)
   |5=>rV (.agg ((Cl.mk q.it.b rr).cs).toArray)
   |6|10=>rV (.agg (p.cs).toArray)
   |7|8=>rT
   |9=>rV (.agg (q.cs).toArray)
   |11|12|13=>rV (.bool fr)
   |_=>ra) ⟨?_,?_,?_,?_,?_,?_,?_,?_,?_,?_,?_,?_,?_,?_,trivial⟩ ?_
  any_goals (first|refine zp fun L a w1 hh=>?_|fail)
  any_goals (first|refine sy rfl rfl fun L a w1 hh=>?_|fail)
  have h3:=hh.p 3 w.heap.size 0;have i0:=(F1.o _ hh.rel).inside;rotate_left
  ·have h19:=rq (hh.d 0 19);have hB:=Hd (F1.o _ hh.rel);have hJ:=Hd hh.st;exact aK 117 _ rfl w.heap.size 7 (by simpa[go_sem]using h19) _ hB.o (q.it.b.cs) rfl _ underlying117 rfl ag ⟨_,rfl,rB,rfl,hJ.o⟩
  have h8:=hh.o 8 (v:=.int .i64 sx) rfl;rotate_left;have h9:=hh.o 9 (v:=.int .i64 sv) rfl;rotate_left
  ·have h21:=rq (hh.d 2 21);have h22:=rq (hh.d 3 22);have hC:=Hd (H1.o w1);have hJ:=hh.j;clear hh;go_simp;refine hC.o.mono ?_;rintro e w9 ⟨rfl,bD⟩;exact⟨_,rfl,bD,rfl,hJ.o⟩
  ·have h20:=rq (hh.d 1 20);have h23:=rq (hh.d 4 23);have hJ:=Hd hh.st;exact wp_build _ _ rfl (by simp[go_sem,h20,h23]) (Ib q.it.b rr w1) ⟨_,rfl,rB,rfl,hJ.o⟩
  ·have h7:=hh.p 7 pb 0;have hB:=Hd (F2.o _ hh.rel);have hJ:=Hd hh.st;exact aK 121 _ rfl pb 0 (by simpa[go_sem]using h7) _ hB.o (p.cs) rfl _ underlying121 rfl ag ⟨_,rfl,rB,rfl,hJ.o⟩
  ·have CX:=rq (hh.d 5 24);have pO:=rq (hh.d 6 25);have hC:=Hd (H2.o w1);have hJ:=hh.j;clear hh;go_simp;refine hC.o.mono ?_;rintro e w9 ⟨rfl,bD⟩;exact⟨_,rfl,bD,rfl,hJ.o⟩
  have IX:=rq (hh.d 7 26);rotate_left
  ·have h3:=hh.p 3 w.heap.size 0;have hB:=Hd (F1.o _ hh.rel);have hJ:=Hd hh.st;exact aK 167 _ rfl w.heap.size 0 (by simpa[go_sem]using h3) _ hB.o (q.cs) rfl _ underlying167 rfl ag ⟨_,rfl,rB,rfl,hJ.o⟩
  ·have h7:=hh.p 7 pb 0;have hB:=Hd (F2.o _ hh.rel);have hJ:=Hd hh.st;exact aK 121 _ rfl pb 0 (by simpa[go_sem]using h7) _ hB.o (p.cs) rfl _ underlying121 rfl ag ⟨_,rfl,rB,rfl,hJ.o⟩
  ·have h28:=rq (hh.d 9 28);have CW:=rq (hh.d 10 29);have hC:=Hd (H3.o w1 hh.rel);have hJ:=hh.j;clear hh;go_simp;refine hC.o.mono ?_;rintro e w9 ⟨rfl,bD⟩;exact⟨_,rfl,bD,rfl,hJ.o⟩
  have h27:=rq (hh.d 8 27);have h30:=rq (hh.d 11 30);rotate_left;have h31:=rq (hh.d 12 31);rotate_left
  any_goals (clear hh;go_simp;exact⟨_,rfl,rB,rfl,trivial⟩)
  intro L w4 val hL hJ hR hv;have h6:val 6=.bool fr:=hv 13 6 ag;have HR4:=Hd hR;clear hv hL hJ hR;simp only[regs.aG,List.map_cons,List.map_nil,h6];simp only[Act.put,List.setIfInBounds_toArray,List.set_cons_zero,List.set_cons_succ];clear h6
  skip
  go_wp2_with (fail);go_ret;exact⟨by rw[HCV.o];rfl,HB3.o.trans (HR4.o.mono HB3.o.size)⟩
end
end
end Go.Proofs.YthmegninhpihkaaGreat
