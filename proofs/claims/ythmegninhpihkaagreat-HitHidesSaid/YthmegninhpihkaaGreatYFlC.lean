import Derived.Test.YthmegninhpihkaaGreatYDca
set_option maxHeartbeats 16000000
set_option maxRecDepth 100000
open Go.Proofs.Tryz
namespace Go.Proofs.YthmegninhpihkaaGreat
section
open Go.RowKit
def JC(n d:Int):Int:=if d<0 then lJ (-n*4294967296) (-d) else lJ (n*4294967296) d
theorem zW{w w':World}(h:dZ w w'):bz w w':=h.below _
theorem qO(n d:Int)(w:World)(h1:-1073741824<=n)(h2:n<=1073741824)(h3:-2305843009213693952<=d)(h4:d<=2305843009213693952)(h0:d≠0) :
  Calls prog 67 #[.int .i64 n,.int .i64 d] w (aY (.int .i64 (JC n d)) w):=by
 by_cases hd:d<0
 ·have HR:=Hd (fun w=>nH (-n*4294967296) (-d) w (by omega) (by omega) (by omega) (by omega));have e:JC n d=lJ (-n*4294967296) (-d):=if_pos hd;rw[e];clear e
  obtain⟨M,hM⟩:=aC (-n)
  obtain⟨D,hD⟩:=aC (-d)
  rw[hM,hD]at HR ⊢;have b1:-1073741824<=M∧M<=1073741824:=by omega
  have b2:-2305843009213693952<=D∧D<=2305843009213693952:=by omega
  obtain⟨K,hK⟩:=aC (M*65536)
  have e:M*4294967296=K*65536:=by omega
  have b3:-70368744177664<=K∧K<=70368744177664:=by omega
  rw[e]at HR ⊢;clear e
  obtain⟨X,hX⟩:=aC (K*65536)
  have b4:-4611686018427387904<=X∧X<=4611686018427387904:=by omega
  rw[hX]at HR ⊢;have t1:decide (d<0)=true:=by simpa using hd
  have q1:wrap64 M=M:=IntWalk.wrap64_in _ (by omega);have q2:wrap64 D=D:=IntWalk.wrap64_in _ (by omega);have q3:wrap64 K=K:=IntWalk.wrap64_in _ (by omega);have q4:wrap64 X=X:=IntWalk.wrap64_in _ (by omega);clear hd h1 h2 h3 h4 h0 b1 b2 b3 b4;go_enter func67,ntmps67;go_wp2_with (fail);refine(HR.o _).mono ?_;rintro e w' ⟨rfl,hb⟩;go_wp2_with (fail);go_ret;exact⟨rfl,zW hb⟩
 ·have HR:=Hd (fun w=>nH (n*4294967296) d w (by omega) (by omega) (by omega) (by omega));have e:JC n d=lJ (n*4294967296) d:=if_neg hd;rw[e];clear e
  obtain⟨K,hK⟩:=aC (n*65536)
  have e:n*4294967296=K*65536:=by omega
  have b3:-70368744177664<=K∧K<=70368744177664:=by omega
  rw[e]at HR ⊢;clear e
  obtain⟨X,hX⟩:=aC (K*65536)
  have b4:-4611686018427387904<=X∧X<=4611686018427387904:=by omega
  rw[hX]at HR ⊢;have t1:decide (d<0)=false:=by simpa using hd
  have q3:wrap64 K=K:=IntWalk.wrap64_in _ (by omega);have q4:wrap64 X=X:=IntWalk.wrap64_in _ (by omega);clear hd h1 h2 h3 h4 h0 b3 b4;go_enter func67,ntmps67;go_wp2_with (fail);refine(HR.o _).mono ?_;rintro e w' ⟨rfl,hb⟩;go_wp2_with (fail);go_ret;exact⟨rfl,zW hb⟩
theorem OG(n:Int):n / 65536+lJ (n % 65536) 65536=lJ n 65536:=by
 have e1:n % 65536 % 65536=n % 65536:=by omega
 have e2:n % 65536 / 65536=0:=by omega
 unfold lJ;rw[e1,e2];split<;>omega
theorem Ah(n:Int)(w:World)(h1:-9223372036854775808<=n)(h2:n<=9223372036854775807) :
  Calls prog 69 #[.int .i64 n] w (aY (.int .i64 (lJ n 65536)) w):=by
 have HR:=Hd (fun w=>nH (n % 65536) 65536 w (by omega) (by omega) (by omega) (by omega));have ha:=vP n;have hs:=OG n;have b1:-140737488355328<=n / 65536∧n / 65536<=140737488355328:=by omega
 have b2:0<=lJ (n % 65536) 65536∧lJ (n % 65536) 65536<=1:=by unfold lJ;split<;>omega
 obtain⟨R,hR⟩:=aC (lJ (n % 65536) 65536)
 rw[hR]at HR hs b2;rw[←hs];clear hs hR;generalize n % 65536=m at*;have h2p:n / 2 ^ 16=n / 65536:=rfl
 obtain⟨Q,hQ⟩:=aC (n / 65536)
 rw[hQ]at h2p b1 ⊢;have q1:wrap64 (Q+R)=Q+R:=IntWalk.wrap64_in _ (by omega);clear h1 h2 b1 b2;go_enter func69,ntmps69;go_wp2_with (fail);refine(HR.o _).mono ?_;rintro e w' ⟨rfl,hb⟩;go_wp2_with (fail);go_ret;exact⟨aB q1,zW hb⟩
def Mp.P8(m:Mp):Int:=m.a*m.d - m.b*m.c
def Mp.bk(m:Mp):Mp:=⟨JC m.d m.P8,JC (-m.b) m.P8,JC (-m.c) m.P8,JC m.a m.P8,m.e,m.f⟩
def Mp.l4(m:Mp):List Int:=[m.a,m.b,m.c,m.d]
def Mp.back(m:Mp):Mp×Int:=if m.right=false then (Mp.o,11) else if m.P8=0 then (Mp.o,43) else if dP m.bk.l4=true then (m.bk,0) else (Mp.o,35)
theorem pO{m:Mp}(h:m.right=true):(-1073741824<=m.a∧m.a<=1073741824)∧(-1073741824<=m.b∧m.b<=1073741824)∧(-1073741824<=m.c∧m.c<=1073741824)∧(-1073741824<=m.d∧m.d<=1073741824)∧(-1073741824<=m.e∧m.e<=1073741824)∧(-1073741824<=m.f∧m.f<=1073741824):=by
 unfold Mp.right Mp.l dP at h;simp only[List.all_cons,List.all_nil,Bool.and_true,Bool.and_eq_true]at h;exact⟨jg h.1,jg h.2.1,jg h.2.2.1,jg h.2.2.2.1,jg h.2.2.2.2.1,jg h.2.2.2.2.2⟩
theorem MS{tmps:Array Value}{W:World}{Q:Ending->World->Prop}{g:Nat}{v:Value}{m:Mp}(hp:tmps.getD 2 undef=.pointer (some ⟨g,0,none⟩))(hq:tmps.getD 3 undef=v)(hB:az W g m.cs)(h:Q (.returned (.tuple #[m.v,v])) W) :
  bodyPost prog Tryz.f36 Q Exit.ret { tmps:=tmps,defers:=[] } W:=
 aS rfl hp hq hB underlying117 rfl ag h
theorem Nb(m:Mp)(w:World):Calls prog 36 #[m.v] w (aY (.tuple #[m.back.1.v,.int .i64 m.back.2]) w):=by
 have ER:=Hd (fun w=>uf m w);have yD:Hid (m.back=if m.right=false then (Mp.o,11) else if m.P8=0 then (Mp.o,43) else if dP m.bk.l4=true then (m.bk,0) else (Mp.o,35)):=rfl;have Fh:=Hd (pO (m:=m))
 obtain⟨R,hR⟩:=aC m.back
 rw[hR]at yD ⊢;clear hR;obtain⟨RM,RE⟩:=R;have YB:Hid (m.P8=m.a*m.d - m.b*m.c):=rfl;have mV:Hid (m.bk=⟨JC m.d m.P8,JC (-m.b) m.P8,JC (-m.c) m.P8,JC m.a m.P8,m.e,m.f⟩):=rfl;generalize m.right=y at*;generalize m.P8=D at*;generalize m.bk=K at*;obtain⟨ka,kb,kc,kd,ke,kf⟩:=m;unfold Mp.v at ER ⊢;simp only at ER Fh YB mV ⊢;go_enter func36,ntmps36;go_wp2_with (fail);refine(ER.o _).mono ?_;rintro e1 W1 ⟨rfl,hb⟩;have B1:Hid (bz w W1):=((bR.alloc nR _).alloc (by simp) _).trans (hb.mono (by simp;omega))
 have Q4:Hid (az W1 w.heap.size (Vh ka kb kc kd ke kf)):=((aA w (Vh ka kb kc kd ke kf) _).alloc _).below hb (by simp;omega);have NQ:Hid (az W1 (w.heap.size+1) Mp.o.cs):=(aZ (w.alloc _) _ (by simp) Mp.o.cs _).below hb (by simp);clear hb ER;cases y with
 |false=>
  have hT:=yD.o.trans (if_pos rfl)
  injection hT with h1 h2
  subst h1;subst h2;obtain⟨⟨c0,c1,c2,c3,c4,c5⟩,⟨f0,f1,f2,f3,f4,f5⟩,ri⟩:=az.c6 NQ.o;clear yD Fh YB mV Q4;go_wp2_with (fail);exact MS (m:=Mp.o) rfl rfl (az.qV NQ.o _ _ _ _ _ _) ⟨rfl,iY B1.o (by omega) _ _ _ _ _ _⟩
 |true=>
  have LZ:=Hd (yD.o.trans (if_neg (by decide)));obtain⟨ra,rb,rc,rd,re,rf⟩:=Fh.o rfl;clear yD Fh;obtain⟨⟨m0,m1,m2,m3,m4,m5⟩,-,mi⟩:=az.c6 Q4.o;have XA:=YB.o;obtain⟨x1,x2⟩:=qF ra.1 ra.2 rd.1 rd.2;obtain⟨y1,y2⟩:=qF rb.1 rb.2 rc.1 rc.2
  obtain⟨X,hX⟩:=aC (ka*kd)
  obtain⟨Y,hY⟩:=aC (kb*kc)
  rw[hX,hY]at XA;rw[hX]at x1 x2;rw[hY]at y1 y2;have q1:wrap64 X=X:=IntWalk.wrap64_in _ (by omega);have q2:wrap64 Y=Y:=IntWalk.wrap64_in _ (by omega);have q3:wrap64 (X - Y)=D:=by rw[XA];exact IntWalk.wrap64_in _ (by omega)
  have DF:Hid (-2305843009213693952<=D∧D<=2305843009213693952):=by rw[XA];show _∧_;omega
  have HRR:=Hd (And.intro ra (And.intro rb (And.intro rc rd)));clear XA x1 x2 y1 y2 YB ra rb rc rd re rf;by_cases hD:D=0
  ·have t:(D==0)=true:=by simpa using hD
   have hT:=LZ.o.trans (if_pos hD)
   injection hT with h1 h2
   subst h1;subst h2;clear hD LZ mV DF HRR;obtain⟨⟨c0,c1,c2,c3,c4,c5⟩,⟨f0,f1,f2,f3,f4,f5⟩,ri⟩:=az.c6 NQ.o;go_wp2_with (fail);exact MS (m:=Mp.o) rfl rfl (az.qV NQ.o _ _ _ _ _ _) ⟨rfl,iY B1.o (by omega) _ _ _ _ _ _⟩
  ·have t:(D==0)=false:=by simpa using hD
   have a3J:=Hd (LZ.o.trans (if_neg hD));have ZB:=Hd (fun w=>qO kd D w HRR.o.2.2.2.1 HRR.o.2.2.2.2 DF.o.1 DF.o.2 hD);have LK:=Hd (fun w=>qO (-kb) D w (by have:=HRR.o.2.1;omega) (by have:=HRR.o.2.1;omega) DF.o.1 DF.o.2 hD);have ZA:=Hd (fun w=>qO (-kc) D w (by have:=HRR.o.2.2.1;omega) (by have:=HRR.o.2.2.1;omega) DF.o.1 DF.o.2 hD);have HO4:=Hd (fun w=>qO ka D w HRR.o.1.1 HRR.o.1.2 DF.o.1 DF.o.2 hD);generalize JC kd D=z1 at*;generalize JC (-kb) D=z2 at*;generalize JC (-kc) D=z3 at*;generalize JC ka D=z4 at*
   have hK:=mV.o;subst hK;have hw1:wrap64 (-kb)=-kb:=IntWalk.wrap64_in _ (by have:=HRR.o.2.1;omega);have hw2:wrap64 (-kc)=-kc:=IntWalk.wrap64_in _ (by have:=HRR.o.2.2.1;omega);have hv1:IntKind.i64.wrap (-kb)=-kb:=IntWalk.i64_in _ (by have:=HRR.o.2.1;omega);have hv2:IntKind.i64.wrap (-kc)=-kc:=IntWalk.i64_in _ (by have:=HRR.o.2.2.1;omega);clear hD LZ mV DF HRR
   have oq:Hid (o5 [(w.heap.size,(Vh ka kb kc kd ke kf)),(w.heap.size+1,Mp.o.cs)] W1):=⟨Q4.o,NQ.o,trivial⟩
   clear Q4 NQ;go_wp2_with (fail);simp only[q1,q2,q3];clear m0 m1 m2 m3 m4 m5 mi q1 q2 q3 hX hY
   refine QR (Below W1.heap.size) (fun L V wx=>JN W1.heap.size [(w.heap.size,(Vh ka kb kc kd ke kf)),((w.heap.size+1),Vd)] Vd (Vh z1 z2 z3 z4 ke kf) (L 23) (L 24) (V 5) wx) [24,25,26,27,28,29,30,31,32,33,34,35,36,37,38,39,40,41,42,43,44,45,46,5] (fun _=>bR) (fun _ _ _ h k=>h.trans k) (fun i=>match i with
    |0=>rp w.heap.size 3
    |1=>rV (.int .i64 kd)
    |2|7|12|16=>rV (.int .i64 D)
    |3=>rV (.int .i64 z1)
    |4=>rp w.heap.size 1
    |5=>rV (.int .i64 kb)
    |6=>rV (.int .i64 (-kb))
    |8=>rV (.int .i64 z2)
    |9=>rp w.heap.size 2
    |10=>rV (.int .i64 kc)
    |11=>rV (.int .i64 (-kc))
    |13=>rV (.int .i64 z3)
    |14=>rp w.heap.size 0
    |15=>rV (.int .i64 ka)
    |17=>rV (.int .i64 z4)
    |18=>rp w.heap.size 4
    |19=>rV (.int .i64 ke)
    |20=>rp w.heap.size 5
    |21=>rV (.int .i64 kf)
    |22=>rV (.agg (Vh z1 z2 z3 z4 ke kf).toArray)
    |_=>ra) (bR.drew) (JN.start (w:=W1.drew) oq.o) ⟨?_,?_,?_,?_,?_,?_,?_,?_,?_,?_,?_,?_,?_,?_,?_,?_,?_,?_,?_,?_,?_,?_,?_,?_,?_,trivial⟩ ?_
   any_goals (first|refine fP fun L a w1 hh=>?_|fail)
   have h1:=hh.p 1 w.heap.size 0;rotate_left
   ·have CY:=rq (hh.d 0 24);obtain⟨⟨c0,c1,c2,c3,c4,c5⟩,-,ci⟩:=(hh.st.1.1.1).c6;have hJ:=hh.j;clear hh;go_simp;exact⟨_,rfl,bR,rfl,JN.slots hJ.o sn⟩
   have h4:=hh.o 4 (v:=.int .i64 D) rfl;rotate_left
   ·have Ew:=rq (hh.d 1 25);have Jb:=rq (hh.d 2 26);have:=True.intro;have hJ:=hh.j;clear hh;go_simp;refine(ZB.o w1).mono ?_;rintro e w9 ⟨rfl,bD⟩;exact⟨_,rfl,bD.mono hJ.o.1.2.1,rfl,JN.slots (JN.below hJ.o bD) sn⟩
   have h1:=hh.p 1 w.heap.size 0;rotate_left
   ·have h28:=rq (hh.d 4 28);obtain⟨⟨c0,c1,c2,c3,c4,c5⟩,-,ci⟩:=(hh.st.1.1.1).c6;have hJ:=hh.j;clear hh;go_simp;exact⟨_,rfl,bR,rfl,JN.slots hJ.o sn⟩
   have CX:=rq (hh.d 5 29);rotate_left;have h4:=hh.o 4 (v:=.int .i64 D) rfl;rotate_left
   ·have h30:=rq (hh.d 6 30);have h31:=rq (hh.d 7 31);have:=True.intro;have hJ:=hh.j;clear hh;go_simp;refine(LK.o w1).mono ?_;rintro e w9 ⟨rfl,bD⟩;exact⟨_,rfl,bD.mono hJ.o.1.2.1,rfl,JN.slots (JN.below hJ.o bD) sn⟩
   have h1:=hh.p 1 w.heap.size 0;rotate_left
   ·have Wj:=rq (hh.d 9 33);obtain⟨⟨c0,c1,c2,c3,c4,c5⟩,-,ci⟩:=(hh.st.1.1.1).c6;have hJ:=hh.j;clear hh;go_simp;exact⟨_,rfl,bR,rfl,JN.slots hJ.o sn⟩
   have XD:=rq (hh.d 10 34);rotate_left;have h4:=hh.o 4 (v:=.int .i64 D) rfl;rotate_left
   ·have h35:=rq (hh.d 11 35);have XC:=rq (hh.d 12 36);have:=True.intro;have hJ:=hh.j;clear hh;go_simp;refine(ZA.o w1).mono ?_;rintro e w9 ⟨rfl,bD⟩;exact⟨_,rfl,bD.mono hJ.o.1.2.1,rfl,JN.slots (JN.below hJ.o bD) sn⟩
   have h1:=hh.p 1 w.heap.size 0;rotate_left
   ·have h38:=rq (hh.d 14 38);obtain⟨⟨c0,c1,c2,c3,c4,c5⟩,-,ci⟩:=(hh.st.1.1.1).c6;have hJ:=hh.j;clear hh;go_simp;exact⟨_,rfl,bR,rfl,JN.slots hJ.o sn⟩
   have h4:=hh.o 4 (v:=.int .i64 D) rfl;rotate_left
   ·have TZ:=rq (hh.d 15 39);have Wi:=rq (hh.d 16 40);have:=True.intro;have hJ:=hh.j;clear hh;go_simp;refine(HO4.o w1).mono ?_;rintro e w9 ⟨rfl,bD⟩;exact⟨_,rfl,bD.mono hJ.o.1.2.1,rfl,JN.slots (JN.below hJ.o bD) sn⟩
   have h1:=hh.p 1 w.heap.size 0;rotate_left
   ·have h42:=rq (hh.d 18 42);obtain⟨⟨c0,c1,c2,c3,c4,c5⟩,-,ci⟩:=(hh.st.1.1.1).c6;have hJ:=hh.j;clear hh;go_simp;exact⟨_,rfl,bR,rfl,JN.slots hJ.o sn⟩
   have h1:=hh.p 1 w.heap.size 0;rotate_left
   ·have QY:=rq (hh.d 20 44);obtain⟨⟨c0,c1,c2,c3,c4,c5⟩,-,ci⟩:=(hh.st.1.1.1).c6;have hJ:=hh.j;clear hh;go_simp;exact⟨_,rfl,bR,rfl,JN.slots hJ.o sn⟩
   have h27:=rq (hh.d 3 27);have h32:=rq (hh.d 8 32);have h37:=rq (hh.d 13 37);have Wh:=rq (hh.d 17 41);have h43:=rq (hh.d 19 43);have h45:=rq (hh.d 21 45);rotate_left
   ·have hJ:=Hd hh.st;have hsz:=Hd hh.size;have hun:=Hd hh.un;clear hh;go_simp;exact⟨_,rfl,bR.alloc hJ.o.1.2.1 _,trivial,JN.new hJ.o hun.o (bP.bI (by rw[hsz.o];simp))⟩
   ·have h46:=rq (hh.d 22 46);obtain⟨g,h0,hg,hB⟩:=hh.st.2.1 (hh.up 23 ag);have h5:a.tmps[5]?.getD undef=.pointer (some ⟨g,0,none⟩):=rq (h0);rw[hh.un]at hB;obtain⟨⟨c0,c1,c2,c3,c4,c5⟩,⟨f0,f1,f2,f3,f4,f5⟩,ci⟩:=(show az w1 g Vd from hB).c6;have hP:=Hd (JN.put hh.st rfl (hh.up 23 ag) hh.un h0);clear hh h0 hB;go_simp;exact⟨hP.o.2,⟨undef,trivial⟩,hP.o.1⟩
   any_goals (have hJ:=hh.j;clear hh;go_simp;exact⟨_,rfl,bR,rfl,JN.slots hJ.o sn⟩)
   intro L w2 val hL hJ hR hv;obtain⟨g2,e2,hg2,hB2⟩:=hJ.2.1 (hL 23 (by decide));rw[hL 24 (by decide)]at hB2;have Dy:=Hd (And.intro hg2 (show az w2 g2 (Vh z1 z2 z3 z4 ke kf) from hB2));have dF:=Hd hJ.1.1;clear hg2 hB2;have HR2:=Hd hR;clear hv hL hJ hR;simp only[regs.aG,List.map_cons,List.map_nil];rw[e2];generalize val 24=v24;generalize val 25=v25;generalize val 26=v26;generalize val 27=v27;generalize val 28=v28;generalize val 29=v29;generalize val 30=v30;generalize val 31=v31;generalize val 32=v32;generalize val 33=v33;generalize val 34=v34;generalize val 35=v35
   generalize val 36=v36;generalize val 37=v37;generalize val 38=v38;generalize val 39=v39;generalize val 40=v40;generalize val 41=v41;generalize val 42=v42;generalize val 43=v43;generalize val 44=v44;generalize val 45=v45;generalize val 46=v46;simp only[Act.put,List.setIfInBounds_toArray,List.set_cons_zero,List.set_cons_succ];clear e2;have B2:Hid (bz w w2):=B1.o.trans (HR2.o.mono B1.o.size);have NP:Hid (az w2 (w.heap.size+1) Mp.o.cs):=dF.o.2.1
   have HRT:=Hd (fun w g (hg:g=w.heap.size)=>nI _ [z1,z2,z3,z4] 4 _ (jF w [z1,z2,z3,z4] 2 hg) (Nat.le_refl 4) (by decide));have YH:Hid ((RM,RE)=if dP [z1,z2,z3,z4]=true then (⟨z1,z2,z3,z4,ke,kf⟩,0) else (Mp.o,35)):=a3J.o;clear a3J HR2 dF oq ZB LK ZA HO4 B1;obtain⟨⟨n0,n1,n2,n3,n4,n5⟩,-,ni⟩:=Dy.o.2.c6;have hgw:=Dy.o.1;generalize dP [z1,z2,z3,z4]=y at*;go_wp2_with (fail);refine(HRT.o _ _ rfl).mono ?_;rintro e3 w3 ⟨rfl,rfl⟩;have B3:Hid (bz w (w2.alloc (.cells (Vl z1 z2 z3 z4).toArray 2))):=B2.o.alloc B2.o.size _
   have Zk:Hid (az (w2.alloc (.cells (Vl z1 z2 z3 z4).toArray 2)) (w.heap.size+1) Mp.o.cs):=NP.o.alloc _;have bn3:Hid (az (w2.alloc (.cells (Vl z1 z2 z3 z4).toArray 2)) g2 (Vh z1 z2 z3 z4 ke kf)):=Dy.o.2.alloc _
   have ew:∃w4,(w2.alloc (.cells (Vl z1 z2 z3 z4).toArray 2))=w4:=⟨_,rfl⟩
   obtain⟨w4,ew⟩:=ew;rw[ew]at B3 Zk bn3;simp only[List.map_cons,List.map_nil,eI]at *;rw[ew];clear ew n0 n1 n2 n3 n4 n5 ni hgw B2 NP Dy HRT;obtain⟨⟨c0,c1,c2,c3,c4,c5⟩,⟨f0,f1,f2,f3,f4,f5⟩,ri⟩:=az.c6 Zk.o;cases y with
   |true=>
    have hT:=YH.o.trans (if_pos rfl)
    injection hT with h1 h2
    subst h1;subst h2;clear YH;obtain⟨⟨n0,n1,n2,n3,n4,n5⟩,-,ni⟩:=bn3.o.c6;go_wp2_with (fail);exact MS (m:=⟨z1,z2,z3,z4,ke,kf⟩) rfl rfl (az.qV Zk.o _ _ _ _ _ _) ⟨rfl,iY B3.o (by omega) _ _ _ _ _ _⟩
   |false=>
    have hT:=YH.o.trans (if_neg (by decide))
    injection hT with h1 h2
    subst h1;subst h2;clear YH bn3;go_wp2_with (fail);exact MS (m:=Mp.o) rfl rfl (az.qV Zk.o _ _ _ _ _ _) ⟨rfl,iY B3.o (by omega) _ _ _ _ _ _⟩
end
section
open Go.RowKit
def Mp.from_(b:Mp)(p:Pt):Pt:=⟨lJ (b.a*(p.x - b.e)+b.c*(p.y - b.f)) 65536,lJ (b.b*(p.x - b.e)+b.d*(p.y - b.f)) 65536⟩
theorem gG{a b:Int}(h1:-1073741824<=a)(h2:a<=1073741824)(h3:-3221225472<=b)(h4:b<=3221225472):-3458764513820540928<=a*b∧a*b<=3458764513820540928:=by
 have g1:0<=(1073741824 - a)*(3221225472 - b):=Int.mul_nonneg (by omega) (by omega);have g2:0<=(1073741824+a)*(3221225472+b):=Int.mul_nonneg (by omega) (by omega);have g3:0<=(1073741824 - a)*(3221225472+b):=Int.mul_nonneg (by omega) (by omega);have g4:0<=(1073741824+a)*(3221225472 - b):=Int.mul_nonneg (by omega) (by omega);rw[Int.sub_mul,Int.mul_sub,Int.mul_sub]at g1;rw[Int.add_mul,Int.mul_add,Int.mul_add]at g2;rw[Int.sub_mul,Int.mul_add,Int.mul_add]at g3;rw[Int.add_mul,Int.mul_sub,Int.mul_sub]at g4;omega
def ng(b:Mp)(p:Pt):Prop:=b.right=true∧(-2147483648<=p.x∧p.x<=2147483648)∧(-2147483648<=p.y∧p.y<=2147483648)
theorem yg(b:Mp)(p:Pt)(w:World)(h:ng b p):Calls prog 37 #[b.v,p.v] w fun e w'=>e=.returned (b.from_ p).v∧bz w w':=by
 obtain⟨hr,hx,hy⟩:=h;obtain⟨ra,rb,rc,rd,re,rf⟩:=pO hr;clear hr;obtain⟨ka,kb,kc,kd,ke,kf⟩:=b;obtain⟨px,py⟩:=p;unfold Mp.from_;simp only at ra rb rc rd re rf hx hy ⊢
 obtain⟨U,hU⟩:=aC (px - ke)
 obtain⟨V,hV⟩:=aC (py - kf)
 rw[hU,hV];have bu:-3221225472<=U∧U<=3221225472:=by omega
 have bv:-3221225472<=V∧V<=3221225472:=by omega
 have p1:=gG ra.1 ra.2 bu.1 bu.2;have p2:=gG rc.1 rc.2 bv.1 bv.2;have p3:=gG rb.1 rb.2 bu.1 bu.2;have p4:=gG rd.1 rd.2 bv.1 bv.2;have u1:wrap64 U=U:=IntWalk.wrap64_in _ (by omega);have u2:wrap64 V=V:=IntWalk.wrap64_in _ (by omega);have u3:IntKind.i64.wrap U=U:=IntWalk.i64_in _ (by omega);have u4:IntKind.i64.wrap V=V:=IntWalk.i64_in _ (by omega)
 obtain⟨P1,hP1⟩:∃P,ka*U=P:=⟨_,rfl⟩
 obtain⟨P2,hP2⟩:∃P,kc*V=P:=⟨_,rfl⟩
 obtain⟨P3,hP3⟩:∃P,kb*U=P:=⟨_,rfl⟩
 obtain⟨P4,hP4⟩:∃P,kd*V=P:=⟨_,rfl⟩
 rw[hP1]at p1;rw[hP2]at p2;rw[hP3]at p3;rw[hP4]at p4;rw[hP1,hP2,hP3,hP4]
 obtain⟨S1,hS1⟩:∃S,P1+P2=S:=⟨_,rfl⟩
 obtain⟨S2,hS2⟩:∃S,P3+P4=S:=⟨_,rfl⟩
 rw[hS1,hS2];have s1:-6917529027641081856<=S1∧S1<=6917529027641081856:=by omega
 have s2:-6917529027641081856<=S2∧S2<=6917529027641081856:=by omega
 have v1:IntKind.i64.wrap P1=P1:=IntWalk.i64_in _ (by omega);have v2:IntKind.i64.wrap P2=P2:=IntWalk.i64_in _ (by omega);have v3:IntKind.i64.wrap P3=P3:=IntWalk.i64_in _ (by omega);have v4:IntKind.i64.wrap P4=P4:=IntWalk.i64_in _ (by omega);have v5:IntKind.i64.wrap S1=S1:=IntWalk.i64_in _ (by omega);have v6:IntKind.i64.wrap S2=S2:=IntWalk.i64_in _ (by omega);have HW1:=Hd (fun w=>Ah S1 w (by omega) (by omega));have HW2:=Hd (fun w=>Ah S2 w (by omega) (by omega));generalize lJ S1 65536=z1 at*;generalize lJ S2 65536=z2 at*
 have HU:=Hd (And.intro u1 (And.intro u2 (And.intro hU hV)));clear ra rb rc rd re rf hx hy bu bv p1 p2 p3 p4 s1 s2;unfold Mp.v Pt.v;simp only;go_enter func37,ntmps37;go_wp2_with (fail)
 go_quiet (fail)
 clear hU hV u1 u2 u3 u4;have HB:Hid (bz w ((((w.alloc (.cells (Vh ka kb kc kd ke kf).toArray 117)).alloc (.cells #[.int .i64 px,.int .i64 py] 121)).alloc (.cells #[.int .i64 0,.int .i64 0] 121)).drewN nq)):=Below.drewN' (((bR.alloc nR _).alloc (by simp) _).alloc (by simp;omega) _) _
 have bm:Hid (az ((((w.alloc (.cells (Vh ka kb kc kd ke kf).toArray 117)).alloc (.cells #[.int .i64 px,.int .i64 py] 121)).alloc (.cells #[.int .i64 0,.int .i64 0] 121)).drewN nq) w.heap.size (Vh ka kb kc kd ke kf)):=(((aA w (Vh ka kb kc kd ke kf) _).alloc _).alloc _).drewN _;have br:Hid (az ((((w.alloc (.cells (Vh ka kb kc kd ke kf).toArray 117)).alloc (.cells #[.int .i64 px,.int .i64 py] 121)).alloc (.cells #[.int .i64 0,.int .i64 0] 121)).drewN nq) (w.heap.size+1+1) [.int .i64 0,.int .i64 0]):=(aZ ((w.alloc _).alloc _) _ (by simp) [.int .i64 0,.int .i64 0] _).drewN _
 generalize ((((w.alloc (.cells (Vh ka kb kc kd ke kf).toArray 117)).alloc (.cells #[.int .i64 px,.int .i64 py] 121)).alloc (.cells #[.int .i64 0,.int .i64 0] 121)).drewN nq)=W1 at*;have HJS:Hid (JS w.heap.size [(w.heap.size,(Vh ka kb kc kd ke kf))] (w.heap.size+1+1) [.int .i64 0,.int .i64 0] [.int .i64 z1,.int .i64 z2] false W1.drew):=JS.start ⟨bm.o,trivial⟩ (by omega) br.o (by intro p hp;simp at hp;subst hp;simp;omega);clear bm br HU;go_wp2_with (fail)
 refine wR (Below w.heap.size) (fun L wx=>JS w.heap.size [(w.heap.size,(Vh ka kb kc kd ke kf))] (w.heap.size+1+1) [.int .i64 0,.int .i64 0] [.int .i64 z1,.int .i64 z2] (L 21) wx) [17,18,19,20,21,22,23,24,25,26,27,28,29,30,31,32,33,34,35,36,37] (fun _=>bR) (fun _ _ _ h k=>h.trans k) (fun i=>match i with
  |0=>rp w.heap.size 0
  |1=>rV (.int .i64 ka)
  |2|12=>rV (.int .i64 U)
  |3=>rV (.int .i64 P1)
  |4=>rp w.heap.size 2
  |5=>rV (.int .i64 kc)
  |6|16=>rV (.int .i64 V)
  |7=>rV (.int .i64 P2)
  |8=>rV (.int .i64 S1)
  |9=>rV (.int .i64 z1)
  |10=>rp w.heap.size 1
  |11=>rV (.int .i64 kb)
  |13=>rV (.int .i64 P3)
  |14=>rp w.heap.size 3
  |15=>rV (.int .i64 kd)
  |17=>rV (.int .i64 P4)
  |18=>rV (.int .i64 S2)
  |19=>rV (.int .i64 z2)
  |20=>rV (.agg #[.int .i64 z1,.int .i64 z2])
  |_=>ra) (bR.drew) (HJS.o) ⟨?_,?_,?_,?_,?_,?_,?_,?_,?_,?_,?_,?_,?_,?_,?_,?_,?_,?_,?_,?_,?_,?_,trivial⟩ ?_
 any_goals (first|refine zp fun L a w1 hh=>?_|fail)
 have h2:=hh.p 2 w.heap.size 0;rotate_left
 ·have h17:=rq (hh.d 0 17);obtain⟨⟨c0,c1,c2,c3,c4,c5⟩,-,ci⟩:=(hh.st.1.1.1).c6;have hJ:=hh.j;clear hh;go_simp;exact⟨_,rfl,bR,rfl,hJ.o⟩
 have h5:=hh.o 5 (v:=.int .i64 U) rfl;rotate_left;have h18:=rq (hh.d 1 18);have h19:=rq (hh.d 2 19);rotate_left;have h2:=hh.p 2 w.heap.size 0;rotate_left
 ·have h21:=rq (hh.d 4 21);obtain⟨⟨c0,c1,c2,c3,c4,c5⟩,-,ci⟩:=(hh.st.1.1.1).c6;have hJ:=hh.j;clear hh;go_simp;exact⟨_,rfl,bR,rfl,hJ.o⟩
 have h6:=hh.o 6 (v:=.int .i64 V) rfl;rotate_left;have h22:=rq (hh.d 5 22);have h23:=rq (hh.d 6 23);rotate_left;have h20:=rq (hh.d 3 20);have CY:=rq (hh.d 7 24);rotate_left
 ·have Ew:=rq (hh.d 8 25);have:=True.intro;have hJ:=hh.j;clear hh;go_simp;refine(HW1.o w1).mono ?_;rintro e w9 ⟨rfl,bD⟩;exact⟨_,rfl,bD.mono hJ.o.1.2.1,rfl,JS.below hJ.o bD⟩
 have h2:=hh.p 2 w.heap.size 0;rotate_left
 ·have h27:=rq (hh.d 10 27);obtain⟨⟨c0,c1,c2,c3,c4,c5⟩,-,ci⟩:=(hh.st.1.1.1).c6;have hJ:=hh.j;clear hh;go_simp;exact⟨_,rfl,bR,rfl,hJ.o⟩
 have h5:=hh.o 5 (v:=.int .i64 U) rfl;rotate_left;have h28:=rq (hh.d 11 28);have CX:=rq (hh.d 12 29);rotate_left;have h2:=hh.p 2 w.heap.size 0;rotate_left
 ·have h31:=rq (hh.d 14 31);obtain⟨⟨c0,c1,c2,c3,c4,c5⟩,-,ci⟩:=(hh.st.1.1.1).c6;have hJ:=hh.j;clear hh;go_simp;exact⟨_,rfl,bR,rfl,hJ.o⟩
 have h6:=hh.o 6 (v:=.int .i64 V) rfl;rotate_left;have h32:=rq (hh.d 15 32);have Wj:=rq (hh.d 16 33);rotate_left;have h30:=rq (hh.d 13 30);have XD:=rq (hh.d 17 34);rotate_left
 ·have h35:=rq (hh.d 18 35);have:=True.intro;have hJ:=hh.j;clear hh;go_simp;refine(HW2.o w1).mono ?_;rintro e w9 ⟨rfl,bD⟩;exact⟨_,rfl,bD.mono hJ.o.1.2.1,rfl,JS.below hJ.o bD⟩
 have Jb:=rq (hh.d 9 26);have XC:=rq (hh.d 19 36);rotate_left
 ·have h4:=hh.o 4 (v:=.pointer (some ⟨w.heap.size+1+1,0,none⟩)) rfl;have h37:=rq (hh.d 20 37);have hB:=hh.st.2.2;rw[hh.un]at hB;obtain⟨⟨c0,c1⟩,⟨f0,f1⟩,ci⟩:=(show az w1 (w.heap.size+1+1) [.int .i64 0,.int .i64 0] from hB).c2;have hP:=Hd (JS.put hh.st rfl hh.un);clear hh hB;go_simp;exact⟨hP.o.2,⟨undef,trivial⟩,hP.o.1⟩
 any_goals (have hJ:=hh.j;clear hh;go_simp;exact⟨_,rfl,bR,rfl,hJ.o⟩)
 intro L w2 val hL hJ hR hv;have hB2:=hJ.2.2;rw[hL 21 (by decide)]at hB2;have Dy:=Hd (show az w2 (w.heap.size+1+1) [.int .i64 z1,.int .i64 z2] from hB2);have dF:=Hd hJ.1.1;clear hB2;have HR2:=Hd hR;clear hv hL hJ hR;simp only[regs.aG,List.map_cons,List.map_nil];generalize val 17=v17;generalize val 18=v18;generalize val 19=v19;generalize val 20=v20;generalize val 21=v21;generalize val 22=v22;generalize val 23=v23;generalize val 24=v24;generalize val 25=v25;generalize val 26=v26;generalize val 27=v27;generalize val 28=v28;generalize val 29=v29;generalize val 30=v30
 generalize val 31=v31;generalize val 32=v32;generalize val 33=v33;generalize val 34=v34;generalize val 35=v35;generalize val 36=v36;generalize val 37=v37;simp only[Act.put,List.setIfInBounds_toArray,List.set_cons_zero,List.set_cons_succ];have B2:=Hd (HB.o.trans HR2.o);clear HB HR2 dF HJS;go_wp2_with (fail);exact bJ rfl rfl Dy.o underlying121 rfl ag ⟨rfl,B2.o⟩
end
section
section
open Go.RowKit fD fO aF Go.Maps
structure Cl where
 b:Mp
 r:Bx
 deriving DecidableEq
def Cl.cs(c:Cl):List Value:=[.int .i64 c.b.a,.int .i64 c.b.b,.int .i64 c.b.c,.int .i64 c.b.d,.int .i64 c.b.e,.int .i64 c.b.f,.int .i64 c.r.a,.int .i64 c.r.b,.int .i64 c.r.c,.int .i64 c.r.d]
theorem Cl.one(c:Cl):c.cs.all (·.oneCell')=true:=rfl
theorem Cl.bV(c:Cl):c.cs.length=10:=rfl
structure It where
 i:Int
 w:Mp
 b:Mp
 c:List Cl
 o:Nat
 lk:Lk
structure iM where
 it:It
 Ac:Option Addr
 cc:Nat
 A:Option Addr
 c:Nat
def iM.cs(q:iM):List Value:=[.int .i64 q.it.i,.int .i64 q.it.w.a,.int .i64 q.it.w.b,.int .i64 q.it.w.c,.int .i64 q.it.w.d,.int .i64 q.it.w.e,.int .i64 q.it.w.f,.int .i64 q.it.b.a,.int .i64 q.it.b.b,.int .i64 q.it.b.c,.int .i64 q.it.b.d,.int .i64 q.it.b.e,.int .i64 q.it.b.f,.slice q.Ac q.it.c.length q.cc,.int .i64 (q.it.o:Nat),
 .int .i64 q.it.lk.k,.int .i64 q.it.lk.W,.int .i64 q.it.lk.H,.int .u32 (q.it.lk.p:Nat),.int .i64 q.it.lk.iw,.int .i64 q.it.lk.ih,.slice q.A q.it.lk.l.length q.c]
theorem iM.bV(q:iM):q.cs.length=22:=rfl
theorem iM.one(q:iM):q.cs.all (·.oneCell')=true:=rfl
structure It.Ok(q:It):Prop where
 b:q.b.right=true
 c:∀c∈q.c,c.b.right=true
 few:q.c.length<=2000
 o:q.o<256
 lk:Bz q.lk.k q.lk.W q.lk.H q.lk.p q.lk.iw q.lk.ih q.lk.l=0
 l:q.lk.l.length<=300
 p:q.lk.p<4294967296
 z:∀z∈q.lk.l,z<4294967296
structure pq(w:World)(q:iM):Prop where
 rD:aU 10 Cl.cs w q.Ac q.it.c
 px:Row eW w q.A q.it.lk.l
theorem pq.below{w w':World}{q:iM}(h:pq w q)(hb:bz w w'):pq w' q:=⟨aU.below h.rD hb,Row.below h.px hb⟩
def sD(x y:Int):Pt:=⟨x*65536+32768,y*65536+32768⟩
def Bd(b:Mp)(x y:Int):Int×Int:=((b.from_ (sD x y)).x / 65536,(b.from_ (sD x y)).y / 65536)
def Cl.has(c:Cl)(x y:Int):Bool:=c.r.has (Bd c.b x y).1 (Bd c.b x y).2
def It.free(q:It)(x y:Int):Bool:=q.c.all fun c=>c.has x y
def Lk.sz(q:Lk):Int×Int:=(Cc q.k q.W q.iw,Cc q.k q.H q.ih)
def It.covers(q:It)(x y:Int):Bool:=(Cl.mk q.b (Bx.nrm ⟨0,0,q.lk.sz.1,q.lk.sz.2⟩)).has x y&&q.free x y
def It.at_(q:It)(x y:Int):Nat:=if q.free x y=true then ((BD (a3X q.lk.k q.lk.W q.lk.H q.lk.p q.lk.iw q.lk.ih q.lk.l (Bd q.b x y).1 (Bd q.b x y).2)).times q.o).num else 0
end
section
open Go.RowKit fD fO aF Go.Maps
theorem Uc{t:T}{i:Int}{f:Int->List Int}(hf:∀k,k∈kids t i->∀pre x post,f k=pre++x::post->x=k∨par t x∈pre)(hk:∀k∈kids t i,par t k=i) :
  ∀(l:List Int),(∀k∈l,k∈kids t i)->∀pre x post,l.flatMap f=pre++x::post->par t x=i∨par t x∈pre:=by
 intro l
 induction l with
 |nil=>intro _ pre x post h;simp at h
 |cons k l ih=>
  intro hl pre x post h;rw[List.flatMap_cons]at h;have ih:=ih fun y hy=>hl y (List.mem_cons_of_mem _ hy);have hkk:=hl k List.mem_cons_self;rcases List.append_eq_append_iff.1 h with ⟨a,h1,h2⟩|⟨c,h1,h2⟩
  ·rcases ih a x post h2 with h3|h3
   ·exact .inl h3
   ·exact .inr (by rw[h1];exact List.mem_append_right _ h3)
  ·cases c with
   |nil=>
    rw[List.append_nil]at h1;rcases ih [] x post (by simpa using h2.symm) with h3|h3
    ·exact .inl h3
    ·cases h3
   |cons y c=>
    rw[List.cons_append]at h2
    injection h2 with h2 h3
    subst h2;rcases hf k hkk pre x c h1 with h4|h4
    ·rw[h4];exact .inl (hk k hkk)
    ·exact .inr h4
theorem BX{t:T}(ok:Ok t):∀(n:Nat) (i:Int) (pre:List Int) (x:Int) (post:List Int),jy t n i=pre++x::post->x=i∨par t x∈pre
 |0,i,pre,x,post,h=>by rw[jy]at h;simp at h
 |n+1,i,pre,x,post,h=>by
  rw[jy]at h;cases pre with
  |nil=>
   rw[List.nil_append]at h
   injection h with h _
   exact .inl h.symm
  |cons y pre=>
   rw[List.cons_append]at h
   injection h with h1 h2
   subst h1;rcases Uc (fun k _=>BX ok n k) (fun k hk=>(ok.kid hk).2) _ (fun _ h=>h) pre x post h2 with h3|h3
   ·exact .inr (by rw[h3];exact List.mem_cons_self)
   ·exact .inr (List.mem_cons_of_mem _ h3)
theorem Rt{t:T}(ok:Ok t){k:Nat}(hk:k<(aF.walk t 0).length):(aF.walk t 0)[k]=0∨par t (aF.walk t 0)[k]∈(aF.walk t 0).take k:=
 BX ok _ 0 _ _ ((aF.walk t 0).drop (k+1)) (by
  show aF.walk t 0=_
  rw[←List.drop_eq_getElem_cons hk,List.take_append_drop])
structure Dn where
 b:Mp
 o:Nat
 c:List Cl
 deriving DecidableEq
def Dn.top:Dn:=⟨Mp.o,255,[]⟩
def Dn.to(d:Dn)(n:Nd)(w:Mp):Dn:=⟨w.back.1,sN d.o n.op.toNat,if n.cl=true then ⟨w.back.1,n.r⟩::d.c else d.c⟩
def Dn.ok(d:Dn)(n:Nd)(w:Mp):Bool:=!n.hi&&(decide (w.back.2=0)&&decide (¬sN d.o n.op.toNat=0))
def Dn.step(n:Nd)(w:Mp)(d:Option Dn):Option Dn:=d.bind fun d=>if d.ok n w=true then some (d.to n w) else none
def cO(x:aK)(i:Int):Option Dn:=(line x.t i).foldr (fun j d=>Dn.step (x.nd j) (x.ws j) d) (Dn.step (x.nd 0) (x.ws 0) (some Dn.top))
theorem pW(x:aK):cO x 0=Dn.step (x.nd 0) (x.ws 0) (some Dn.top):=by unfold cO;rw[mZ];rfl
theorem kH{x:aK}(ok:Ok x.t){i:Int}(hi:i∈ids x.t):cO x i=Dn.step (x.nd i) (x.ws i) (cO x (par x.t i)):=by
 unfold cO;rw[eP ok hi];rfl
theorem SE{n:Nd}(h:n.chk=0):n.op.toNat<256∧n.op=(n.op.toNat:Nat):=by
 have:=(lM h).2.1;omega
def dW(x:aK)(i:Int):Option It:=(cO x i).bind fun d=>if (x.nd i).lk.k=0 then none else some ⟨i,x.ws i,d.b,d.c.reverse,d.o,(x.nd i).lk⟩
def items(x:aK):List It:=(aF.walk x.t 0).filterMap (dW x)
theorem zO{α β:Type}(f:α->Option β){l:List α}{k:Nat}(hk:k<l.length):(l.take (k+1)).filterMap f=(l.take k).filterMap f++(f l[k]).toList:=by
 rw[List.take_succ_eq_append_getElem hk,List.filterMap_append]
 congr 1
end
section
open Go.RowKit fD fO aF Go.Maps
def SL(n:Int):Prop:=-1048576<=n∧n<=1048576
theorem zk(n:Int)(w:World)(h:SL n):Calls prog 70 #[.int .i64 n] w (aY (.int .i64 (n*65536+32768)) w):=by
 obtain⟨h1,h2⟩:=h
 obtain⟨z,hz⟩:=aC (n*65536)
 have v1:IntKind.i64.wrap z=z:=IntWalk.i64_in _ (by omega);have v2:IntKind.i64.wrap (z+32768)=z+32768:=IntWalk.i64_in _ (by omega);have v3:wrap64 (z+32768)=z+32768:=IntWalk.wrap64_in _ (by omega);have b1:-68719476736<=z∧z<=68719476736:=by omega
 rw[hz];clear h1 h2;go_enter func70,ntmps70;go_wp2_with (fail);go_ret;exact⟨rfl,bR⟩
theorem oM(x y:Int)(w:World)(hx:SL x)(hy:SL y):Calls prog 38 #[.int .i64 x,.int .i64 y] w (aY (.agg (sD x y).cs.toArray) w):=by
 have H1:=Hd (fun w=>zk x w hx);have H2:=Hd (fun w=>zk y w hy);unfold sD Pt.cs;simp only;generalize x*65536+32768=u at*;generalize y*65536+32768=v at*;clear hx hy;go_enter func38,ntmps38;go_wp2_with (fail);refine(H1.o _).mono ?_;rintro e w1 ⟨rfl,hb⟩;have HB1:Hid (bz w w1):=(bR.alloc nR _).trans (hb.mono (by simp));have oq:Hid (az w1 w.heap.size [.int .i64 0,.int .i64 0]):=(aA w [.int .i64 0,.int .i64 0] _).below hb (by simp);clear hb H1;go_wp2_with (fail);refine(H2.o _).mono ?_;rintro e w2 ⟨rfl,hb⟩
 have HB2:=Hd (HB1.o.trans (hb.mono HB1.o.size));have dF:=Hd (oq.o.below' hb);clear hb H2 HB1 oq;obtain⟨⟨c0,c1⟩,⟨f0,f1⟩,ci⟩:=dF.o.c2;go_wp2_with (fail);exact bJ rfl rfl (dF.o.OT _ _) underlying121 rfl ag ⟨rfl,below2 HB2.o nR _ _⟩
def ptB(p:Pt):Prop:=(-4611686018427387904<=p.x∧p.x<=4611686018427387904)∧(-4611686018427387904<=p.y∧p.y<=4611686018427387904)
theorem Kr(p:Pt)(w:World)(h:ptB p):Calls prog 112 #[.agg p.cs.toArray] w (aY (.tuple #[.int .i64 (p.x / 65536),.int .i64 (p.y / 65536)]) w):=by
 have H1:Hid (∀w,Calls prog 71 #[.int .i64 p.x] w (aY (.int .i64 (p.x / 65536)) w)):=fun w=>mP (vV p.x w h.1.1 h.1.2);have H2:Hid (∀w,Calls prog 71 #[.int .i64 p.y] w (aY (.int .i64 (p.y / 65536)) w)):=fun w=>mP (vV p.y w h.2.1 h.2.2);have HB0:Hid (bz w (w.alloc (.cells p.cs.toArray 121))):=bR.alloc nR _;have pz:Hid (az (w.alloc (.cells p.cs.toArray 121)) w.heap.size p.cs):=aA w p.cs _;generalize p.x / 65536=u at*
 generalize p.y / 65536=v at*;clear h;go_enter func112,ntmps112
 go_upto_region 1 with(fail)
 generalize (w.alloc (.cells p.cs.toArray 121))=w0 at*;have F1:Hid (∀W,bz w0 W->az W w.heap.size p.cs):=fun W hb=>pz.o.below' hb
 refine Rw [4,5,6,7,8,9,2,3] (fun i=>match i with
  |0=>rp w.heap.size 0
  |1=>rV (.int .i64 p.x)
  |2|6=>rV (.int .i64 u)
  |3=>rp w.heap.size 1
  |4=>rV (.int .i64 p.y)
  |5|7=>rV (.int .i64 v)
  |_=>ra) ⟨?_,?_,?_,?_,?_,?_,?_,?_,trivial⟩ ?_
 any_goals (first|refine zp fun L a w1 hh=>?_|fail)
 have h1:=hh.p 1 w.heap.size 0;have i0:=(F1.o _ hh.rel).inside;rotate_left;have h4:=rq (hh.d 0 4);have ⟨c0,i0⟩:=(F1.o _ hh.rel).ci 0 rfl;rotate_left
 ·have h5:=rq (hh.d 1 5);have hC:=Hd (H1.o w1);have hJ:=hh.j;clear hh;go_simp;refine hC.o.mono ?_;rintro e w9 ⟨rfl,bD⟩;exact⟨_,rfl,bD,rfl,hJ.o⟩
 have h1:=hh.p 1 w.heap.size 0;have i0:=(F1.o _ hh.rel).inside;rotate_left;have h7:=rq (hh.d 3 7);have ⟨c0,i0⟩:=(F1.o _ hh.rel).ci 1 rfl;rotate_left
 ·have h8:=rq (hh.d 4 8);have hC:=Hd (H2.o w1);have hJ:=hh.j;clear hh;go_simp;refine hC.o.mono ?_;rintro e w9 ⟨rfl,bD⟩;exact⟨_,rfl,bD,rfl,hJ.o⟩
 have h6:=rq (hh.d 2 6);rotate_left;have h9:=rq (hh.d 5 9);rotate_left
 any_goals (clear hh;go_simp;exact⟨_,rfl,rB,rfl,trivial⟩)
 intro L w2 val hL hJ hR hv;have h2:val 2=.int .i64 u:=hv 6 2 ag;have h3:val 3=.int .i64 v:=hv 7 3 ag;have HR2:=Hd hR;clear hv hL hJ hR;simp only[regs.aG,List.map_cons,List.map_nil,h2,h3];simp only[Act.put,List.setIfInBounds_toArray,List.set_cons_zero,List.set_cons_succ];clear h2 h3
 skip
 go_wp2_with (fail);go_ret2;exact⟨rfl,HB0.o.trans (HR2.o.mono HB0.o.size)⟩
def Cl.eQ(c:Cl)(p:Pt):Bool:=c.r.has ((c.b.from_ p).x / 65536) ((c.b.from_ p).y / 65536)
theorem Si{n:Int}(h1:-9223372036854775808<=n)(h2:n<=9223372036854775807):-4611686018427387904<=lJ n 65536∧lJ n 65536<=4611686018427387904:=by
 unfold lJ;split<;>omega
theorem Ub{b:Mp}{p:Pt}(h:ng b p):ptB (b.from_ p):=by
 obtain⟨hr,hx,hy⟩:=h;obtain⟨ra,rb,rc,rd,re,rf⟩:=pO hr;have bu:-3221225472<=p.x - b.e∧p.x - b.e<=3221225472:=by omega
 have bv:-3221225472<=p.y - b.f∧p.y - b.f<=3221225472:=by omega
 have p1:=gG ra.1 ra.2 bu.1 bu.2;have p2:=gG rc.1 rc.2 bv.1 bv.2;have p3:=gG rb.1 rb.2 bu.1 bu.2;have p4:=gG rd.1 rd.2 bv.1 bv.2;unfold ptB Mp.from_;simp only;generalize p.x - b.e=u at*;generalize p.y - b.f=v at*;generalize b.a*u=q1 at*;generalize b.c*v=q2 at*;generalize b.b*u=q3 at*;generalize b.d*v=q4 at*;exact⟨Si (by omega) (by omega),Si (by omega) (by omega)⟩
theorem Aa{b:Mp}(hb:b.right=true){x y:Int}(hx:-32768<=x∧x<=32767)(hy:-32768<=y∧y<=32767):ng b (sD x y):=by
 refine⟨hb,?_,?_⟩
 ·show -2147483648<=x*65536+32768∧x*65536+32768<=2147483648;omega
 ·show -2147483648<=y*65536+32768∧y*65536+32768<=2147483648;omega
theorem Ij(c:Cl)(p:Pt)(w:World)(h:ng c.b p):Calls prog 90 #[.agg c.cs.toArray,.agg p.cs.toArray] w (aY (.bool (c.eQ p)) w):=by
 have H1:Hid (∀w,Calls prog 37 #[.agg c.b.cs.toArray,.agg p.cs.toArray] w (aY (.agg (c.b.from_ p).cs.toArray) w)):=fun w=>yg c.b p w h;have H2:Hid (∀w,Calls prog 112 #[.agg (c.b.from_ p).cs.toArray] w (aY (.tuple #[.int .i64 ((c.b.from_ p).x / 65536),.int .i64 ((c.b.from_ p).y / 65536)]) w)):=fun w=>Kr _ w (Ub h)
 have H3:Hid (∀w,Calls prog 111 #[.agg c.r.cs.toArray,.int .i64 ((c.b.from_ p).x / 65536),.int .i64 ((c.b.from_ p).y / 65536)] w (aY (.bool (c.eQ p)) w)):=fun w=>a0M c.r _ _ w;have HB0:Hid (bz w ((w.alloc (.cells c.cs.toArray 218)).alloc (.cells p.cs.toArray 121))):=(bR.alloc nR _).alloc (by simp) _;have oq:Hid (az ((w.alloc (.cells c.cs.toArray 218)).alloc (.cells p.cs.toArray 121)) w.heap.size c.cs):=(aA w c.cs _).alloc _
 have dF:Hid (az ((w.alloc (.cells c.cs.toArray 218)).alloc (.cells p.cs.toArray 121)) (w.heap.size+1) p.cs):=aZ (w.alloc _) _ (by simp) p.cs _;generalize c.eQ p=r at*;generalize (c.b.from_ p).x / 65536=u at*;generalize (c.b.from_ p).y / 65536=v at*;clear h;go_enter func90,ntmps90
 go_upto_region 1 with(fail)
 generalize ((w.alloc (.cells c.cs.toArray 218)).alloc (.cells p.cs.toArray 121))=w0 at*;have F1:Hid (∀W,bz w0 W->az W w.heap.size c.cs):=fun W hb=>oq.o.below' hb;have F2:Hid (∀W,bz w0 W->az W (w.heap.size+1) p.cs):=fun W hb=>dF.o.below' hb
 refine Rw [5,6,7,8,9,10,11,12,13,14,4] (fun i=>match i with
  |0=>rp w.heap.size 6
  |1=>rV (.agg (c.r.cs).toArray)
  |2=>rp w.heap.size 0
  |3=>rV (.agg (c.b.cs).toArray)
  |4=>rV (.agg (p.cs).toArray)
  |5=>rV (.agg ((c.b.from_ p).cs).toArray)
  |6=>rV (.tuple #[.int .i64 u,.int .i64 v])
  |7=>rV (.int .i64 u)
  |8=>rV (.int .i64 v)
  |9|10=>rV (.bool r)
  |_=>ra) ⟨?_,?_,?_,?_,?_,?_,?_,?_,?_,?_,?_,trivial⟩ ?_
 any_goals (first|refine zp fun L a w1 hh=>?_|fail)
 have h2:=hh.p 2 w.heap.size 0;have i0:=(F1.o _ hh.rel).inside;rotate_left
 ·have h5:=rq (hh.d 0 5);have hB:=Hd (F1.o _ hh.rel);have hJ:=Hd hh.st;exact aN 69 _ rfl w.heap.size 6 (by simpa[go_sem]using h5) _ hB.o (c.r.cs) rfl _ underlying69 rfl ag ⟨_,rfl,rB,rfl,hJ.o⟩
 have h2:=hh.p 2 w.heap.size 0;have i0:=(F1.o _ hh.rel).inside;rotate_left
 ·have h7:=rq (hh.d 2 7);have hB:=Hd (F1.o _ hh.rel);have hJ:=Hd hh.st;exact aN 117 _ rfl w.heap.size 0 (by simpa[go_sem]using h7) _ hB.o (c.b.cs) rfl _ underlying117 rfl ag ⟨_,rfl,rB,rfl,hJ.o⟩
 ·have h3:=hh.p 3 ((w.heap.size+1)) 0;have hB:=Hd (F2.o _ hh.rel);have hJ:=Hd hh.st;exact aN 121 _ rfl (w.heap.size+1) 0 (by simpa[go_sem]using h3) _ hB.o (p.cs) rfl _ underlying121 rfl ag ⟨_,rfl,rB,rfl,hJ.o⟩
 ·have h8:=rq (hh.d 3 8);have h9:=rq (hh.d 4 9);have hC:=Hd (H1.o w1);have hJ:=hh.j;clear hh;go_simp;refine hC.o.mono ?_;rintro e w9 ⟨rfl,bD⟩;exact⟨_,rfl,bD,rfl,hJ.o⟩
 ·have h10:=rq (hh.d 5 10);have hC:=Hd (H2.o w1);have hJ:=hh.j;clear hh;go_simp;refine hC.o.mono ?_;rintro e w9 ⟨rfl,bD⟩;exact⟨_,rfl,bD,rfl,hJ.o⟩
 have h11:=rq (hh.d 6 11);rotate_left;have h11:=rq (hh.d 6 11);rotate_left
 ·have h6:=rq (hh.d 1 6);have h12:=rq (hh.d 7 12);have h13:=rq (hh.d 8 13);have hC:=Hd (H3.o w1);have hJ:=hh.j;clear hh;go_simp;refine hC.o.mono ?_;rintro e w9 ⟨rfl,bD⟩;exact⟨_,rfl,bD,rfl,hJ.o⟩
 have xJ:=rq (hh.d 9 14);rotate_left
 any_goals (clear hh;go_simp;exact⟨_,rfl,rB,rfl,trivial⟩)
 intro L w2 val hL hJ hR hv;have h4:val 4=.bool r:=hv 10 4 ag;have HR2:=Hd hR;clear hv hL hJ hR;simp only[regs.aG,List.map_cons,List.map_nil,h4];simp only[Act.put,List.setIfInBounds_toArray,List.set_cons_zero,List.set_cons_succ];clear h4
 skip
 go_wp2_with (fail);go_ret;exact⟨rfl,HB0.o.trans (HR2.o.mono HB0.o.size)⟩
theorem GV(c:Cl)(p:Pt)(pb:Nat)(w:World)(h:ng c.b p)(hp:az w pb p.cs):Calls prog 114 #[.agg c.cs.toArray,.pointer (some ⟨pb,0,none⟩)] w (aY (.bool (!c.eQ p)) w):=by
 have HC:=Hd (fun w=>Ij c p w h);have HB0:Hid (bz w (w.alloc (.cells c.cs.toArray 218))):=bR.alloc nR _;have oq:Hid (az (w.alloc (.cells c.cs.toArray 218)) w.heap.size c.cs):=aA w c.cs _;have dF:Hid (az (w.alloc (.cells c.cs.toArray 218)) pb p.cs):=hp.alloc _;generalize c.eQ p=r at*;clear h hp;go_enter func114,ntmps114
 go_upto_region 1 with(fail)
 generalize (w.alloc (.cells c.cs.toArray 218))=w0 at*;have i1:=oq.o.inside;have i2:=dF.o.inside;go_wp2_with (first|(with_reducible refine gL ?_;first|(refine wt 218 0 rfl rfl rfl oq.o (c.cs) rfl underlying218 rfl ?_)|(refine wt 121 0 rfl rfl rfl dF.o (p.cs) rfl underlying121 rfl ?_)));refine(HC.o _).mono ?_;rintro e w1 ⟨rfl,hb⟩;have HB1:=Hd (HB0.o.trans (hb.mono HB0.o.size));clear hb HC;go_wp2_with (fail);go_ret;exact⟨rfl,HB1.o⟩
theorem zU:Enters prog 114:=enters_of func114 ag rfl
theorem JZ(l:List Cl)(A:Option Addr)(cc:Nat)(p:Pt)(pb:Nat)(w:World)(hl:∀c∈l,c.b.right=true)(hn:l.length<=2000)(hp:az w pb p.cs)(hr:aU 10 Cl.cs w A l)(hok:∀b:Mp,b.right=true->ng b p) :
  Calls prog 132 #[.slice A l.length cc,.func (.func 114) #[] #[.pointer (some ⟨pb,0,none⟩)]] w fun e w'=>∃z:Int,e=.returned (.int .i64 z)∧decide (0<=z)=!(l.all fun c=>c.eQ p)∧bz w w':=by
 have he':∀(args:Array Value) (w:World),(callFunc 114 args).run prog w=.ok (.enter 114 args) w:=zU;have HP:=Hd hp;have HL:=Hd hl;have HR:=Hd hr;have HK:=Hd hok;have HN:=Hd hn;clear hp hl hr hok hn;go_enter func132,ntmps132;go_wp2_with (fail)
 go_loopw [8] (fun i wr=>∃k:Nat,k<=l.length∧i=.int .i64 k∧Hid ((l.take k).all (fun c=>c.eQ p)=true)∧Hid (bz w wr)) (fun i _=>l.length - (intOf i).toNat)
 case atStart=>exact⟨0,Nat.zero_le _,rfl,rfl,bR⟩
 case round=>
  obtain⟨k,hk,rfl,HT,HB⟩:=hrel;generalize wr=wA at*;by_cases hlt:k<l.length
  ·have t1:decide (k<l.length)=true:=decide_eq_true hlt;have ik:=Hd hlt
   obtain⟨lb,lo,rA,hcell⟩:=(aU.below HR.o HB.o) (by omega)
   subst rA
   obtain⟨c,hc⟩:∃c,c=l[k]'hlt:=⟨_,rfl⟩
   have o6:Hid (wA.rangeAt lb (lo+k*10) c.cs):=by
    rw[hc];exact fun i v hv=>hcell k hlt i v hv
   have EZ:Hid (ng c.b p):=HK.o _ (HL.o c (by rw[hc];exact List.getElem_mem hlt))
   have uT:Hid ((l.take (k+1)).all (fun c=>c.eQ p)=c.eQ p):=by
    show _=_;rw[List.take_succ_eq_append_getElem hlt,List.all_append,HT.o,←hc];simp
   have ZN:Hid (c.eQ p=false->(l.all fun c=>c.eQ p)=false):=fun e=>by
    rw[Bool.eq_false_iff];intro h;rw[List.all_eq_true.1 h c (by rw[hc];exact List.getElem_mem hlt)]at e;cases e
   have c0:=o6.o 0 (.int .i64 c.b.a) rfl;have i0:lb<wA.heap.size:=World.block_lt_of_cell? wA ⟨lb,_,none⟩ c0;have hjb:(k:Int)<=2000:=by have:=HN.o;omega
   have HC:=Hd (GV c p pb wA EZ.o (HP.o.below' HB.o));clear c0 hcell hc hlt;go_wp2_with ((with_reducible refine gL ?_);refine qy 218 _ rfl rfl _ _ rfl (c.cs) o6.o _ underlying218 rfl ag ?_);refine HC.o.mono ?_;rintro e w2 ⟨rfl,hb⟩;have HB2:=Hd (HB.o.trans (hb.mono HB.o.size));clear hb HC HB i0;cases hcp:c.eQ p with
   |true=>
    rw[hcp]at uT;go_wp2_with (fail)
    go_roundw
    case rel=>exact⟨k+1,ik.o,by go_num,uT,HB2⟩
    case measure=>have:=ik.o;simp[intOf];omega
   |false=>
    go_wp2_with (fail);go_ret;exact⟨k,rfl,by rw[ZN.o hcp];simp,HB2.o⟩
  ·obtain rfl:k=l.length:=by omega
   have t1:decide (l.length<l.length)=false:=by simp
   have HT2:=Hd HT.o;rw[List.take_length]at HT2;go_wp2_with (fail);go_ret;exact⟨-1,rfl,by rw[HT2.o];rfl,HB.o⟩
theorem BF(l:List Cl)(A:Option Addr)(cc:Nat)(p:Pt)(pb:Nat)(w:World)(hl:∀c∈l,c.b.right=true)(hn:l.length<=2000)(hp:az w pb p.cs)(hr:aU 10 Cl.cs w A l)(hok:∀b:Mp,b.right=true->ng b p) :
  Calls prog 113 #[.slice A l.length cc,.func (.func 114) #[] #[.pointer (some ⟨pb,0,none⟩)]] w (aY (.bool (!(l.all fun c=>c.eQ p))) w):=by
 have HC:=Hd (JZ l A cc p pb w hl hn hp hr hok);clear hl hn hp hr hok;go_enter func113,ntmps113;go_wp2_with (fail);refine HC.o.mono ?_;rintro e w2 ⟨z,rfl,hz,hb⟩;have HB:=Hd hb;have HZ:=Hd hz;clear hz hb HC;go_wp2_with (fail);go_ret;exact⟨by rw[←HZ.o];rfl,HB.o⟩
end
section
open Go.RowKit fD fO aF Go.Maps
theorem JP(q:iM)(p:Pt)(w:World)(h:pq w q)(hk:q.it.Ok)(hok:∀b:Mp,b.right=true->ng b p):Calls prog 91 #[.agg q.cs.toArray,.agg p.cs.toArray] w (aY (.bool (q.it.c.all fun c=>c.eQ p)) w):=by
 have HB0:Hid (bz w ((w.alloc (.cells q.cs.toArray 167)).alloc (.cells p.cs.toArray 121))):=(bR.alloc nR _).alloc (by simp) _;have oq:Hid (az ((w.alloc (.cells q.cs.toArray 167)).alloc (.cells p.cs.toArray 121)) w.heap.size q.cs):=(aA w q.cs _).alloc _;have dF:Hid (az ((w.alloc (.cells q.cs.toArray 167)).alloc (.cells p.cs.toArray 121)) (w.heap.size+1) p.cs):=aZ (w.alloc _) _ (by simp) p.cs _
 have HC:=Hd (BF q.it.c q.Ac q.cc p (w.heap.size+1) ((w.alloc (.cells q.cs.toArray 167)).alloc (.cells p.cs.toArray 121)) hk.c hk.few dF.o (aU.below h.rD HB0.o) hok);clear h hk hok;generalize (q.it.c.all fun c=>c.eQ p)=r at*;go_enter func91,ntmps91
 go_upto_region 1 with(fail)
 generalize ((w.alloc (.cells q.cs.toArray 167)).alloc (.cells p.cs.toArray 121))=w0 at*;have c13:=oq.o.c 13 rfl;have i1:=oq.o.inside;go_wp2_with (fail);refine HC.o.mono ?_;rintro e w2 ⟨rfl,hb⟩;have HB:=Hd (HB0.o.trans (hb.mono HB0.o.size));clear hb HC c13 i1;go_wp2_with (fail);go_ret;exact⟨rfl,HB.o⟩
theorem Iq(b:Mp)(r:Bx)(w:World):(Instr.build 218 #[(0,.agg b.cs.toArray),(1,.agg r.cs.toArray)]).run prog w=.ok (.agg (Cl.mk b r).cs.toArray) w:=by kernel_rfl
theorem Pn(q:iM)(x y:Int)(w:World)(h:pq w q)(hk:q.it.Ok)(hx:-32768<=x∧x<=32767)(hy:-32768<=y∧y<=32767):Calls prog 65 #[.agg q.cs.toArray,.int .i64 x,.int .i64 y] w (aY (.bool (q.it.covers x y)) w):=by
 have HCT:=Hd (fun w=>oM x y w (by constructor<;>omega) (by constructor<;>omega));have dX:Hid (∀b:Mp,b.right=true->ng b (sD x y)):=fun b hb=>Aa hb hx hy;have HF:Hid (q.it.free x y=q.it.c.all fun c=>c.eQ (sD x y)):=rfl;have HCV:Hid (q.it.covers x y=((Cl.mk q.it.b (Bx.nrm ⟨0,0,Cc q.it.lk.k q.it.lk.W q.it.lk.iw,Cc q.it.lk.k q.it.lk.H q.it.lk.ih⟩)).eQ (sD x y)&&q.it.free x y)):=rfl;generalize q.it.covers x y=R at*;generalize q.it.free x y=fr at*;generalize sD x y=p at*;have HI:=Hd h;have HKO:=Hd hk
 have HB0:Hid (bz w (w.alloc (.cells q.cs.toArray 167))):=bR.alloc nR _;have pz:Hid (az (w.alloc (.cells q.cs.toArray 167)) w.heap.size q.cs):=aA w q.cs _;have IW:=Hd (fun w h=>JP q p w h HKO.o dX.o);rw[←HF.o]at IW
 have iO:Hid (∀w,Calls prog 21 #[.agg (q.it.lk.cs q.A q.c).toArray] w (aY (.tuple #[.int .i64 (Cc q.it.lk.k q.it.lk.W q.it.lk.iw),.int .i64 (Cc q.it.lk.k q.it.lk.H q.it.lk.ih)]) w)):=fun w=>size_any q.it.lk.k q.it.lk.W q.it.lk.H q.it.lk.p q.it.lk.iw q.it.lk.ih q.A q.it.lk.l.length q.c w;generalize Cc q.it.lk.k q.it.lk.W q.it.lk.iw=sx at*;generalize Cc q.it.lk.k q.it.lk.H q.it.lk.ih=sv at*
 have H1:Hid (∀w,Calls prog 89 #[.int .i64 0,.int .i64 0,.int .i64 sx,.int .i64 sv] w (aY (.agg (Bx.nrm ⟨0,0,sx,sv⟩).cs.toArray) w)):=fun w=>a2x ⟨0,0,sx,sv⟩ w;generalize Bx.nrm ⟨0,0,sx,sv⟩=rr at*;have H2:=Hd (fun w=>Ij (Cl.mk q.it.b rr) p w (dX.o _ hk.b));clear hx hy h hk HF dX;go_enter func65,ntmps65
 go_upto_region 1 with(fail)
 generalize (w.alloc (.cells q.cs.toArray 167))=w0 at*;go_wp2_with (fail);refine(HCT.o _).mono ?_;rintro e w1 ⟨rfl,hb⟩;have HB1:=Hd (HB0.o.trans (hb.mono HB0.o.size));have oq:=Hd (pz.o.below' hb);clear hb HCT HB0 pz;have HZ:Hid (az (w1.alloc (.cells #[.int .i64 0,.int .i64 0] 121)) w1.heap.size [.int .i64 0,.int .i64 0]):=aA w1 [.int .i64 0,.int .i64 0] _;have iQ:Hid (bz w (w1.alloc (.cells #[.int .i64 0,.int .i64 0] 121))):=HB1.o.alloc HB1.o.size _;have HKa:Hid (az (w1.alloc (.cells #[.int .i64 0,.int .i64 0] 121)) w.heap.size q.cs):=oq.o.alloc _
 have Jh:Hid (w.heap.size<w1.heap.size):=oq.o.inside
 go_upto_region 2 with(first|(with_reducible refine gS ?_;first|(refine ay 121 _ _ rfl rfl rfl _ 0 rfl (p.cs) rfl ([.int .i64 0,.int .i64 0]) HZ.o (p.cs) rfl (nE rfl) ag rfl ?_;intro w2 HW2 HP2)))
 have HB2:Hid (bz w w2):=HW2.o.below iQ.o HB1.o.size;have dF:Hid (az w2 w.heap.size q.cs):=HKa.o.stays (HW2.o.far (Nat.ne_of_lt Jh.o));clear HZ iQ HKa HW2 HB1 oq;generalize w1.heap.size=pb at*;have i1:=dF.o.inside;go_wp2_with (first|(with_reducible refine gL ?_;first|(refine wt 75 15 rfl rfl rfl dF.o (q.it.lk.cs q.A q.c) rfl underlying75 rfl ?_)));refine(iO.o w2).mono ?_;rintro e w3 ⟨rfl,hb⟩;have HB3:=Hd (HB2.o.trans (hb.mono HB2.o.size));have dN:=Hd (dF.o.below' hb);have HP3:=Hd (HP2.o.below' hb);clear hb iO HB2 dF HP2 i1
 have H3:=Hd (fun W (hb:bz w3 W)=>IW.o W (HI.o.below (HB3.o.trans (hb.mono HB3.o.size))));have F1:Hid (∀W,bz w3 W->az W w.heap.size q.cs):=fun W hb=>dN.o.below' hb;have F2:Hid (∀W,bz w3 W->az W pb p.cs):=fun W hb=>HP3.o.below' hb;clear dN HP3 HI HKO IW;generalize (Cl.mk q.it.b rr).eQ p=hv at*
 go_upto_region 3 with(fail)
 cases hv with
 |false=>
  refine Rw [19,20,21,22,23,24,25,26,27,28,29,30,31,6] (fun i=>match i with
   |0=>rp w.heap.size 7
   |1=>rV (.agg (q.it.b.cs).toArray)
   |2=>rV (.int .i64 sx)
   |3=>rV (.int .i64 sv)
   |4=>rV (.agg (rr.cs).toArray)
   |5=>rV (.agg ((Cl.mk q.it.b rr).cs).toArray)
   |6=>rV (.agg (p.cs).toArray)
   |7|8|12|13=>rV (.bool false)
   |9|10|11=>rV (undef)
   |_=>ra) ⟨?_,?_,?_,?_,?_,?_,?_,?_,?_,?_,?_,?_,?_,?_,trivial⟩ ?_
  any_goals (first|refine zp fun L a w1 hh=>?_|fail)
  have h3:=hh.p 3 w.heap.size 0;have i0:=(F1.o _ hh.rel).inside;rotate_left
  ·have h19:=rq (hh.d 0 19);have hB:=Hd (F1.o _ hh.rel);have hJ:=Hd hh.st;exact aN 117 _ rfl w.heap.size 7 (by simpa[go_sem]using h19) _ hB.o (q.it.b.cs) rfl _ underlying117 rfl ag ⟨_,rfl,rB,rfl,hJ.o⟩
  have h8:=hh.o 8 (v:=.int .i64 sx) rfl;rotate_left;have h9:=hh.o 9 (v:=.int .i64 sv) rfl;rotate_left
  ·have h21:=rq (hh.d 2 21);have h22:=rq (hh.d 3 22);have hC:=Hd (H1.o w1);have hJ:=hh.j;clear hh;go_simp;refine hC.o.mono ?_;rintro e w9 ⟨rfl,bD⟩;exact⟨_,rfl,bD,rfl,hJ.o⟩
  ·have h20:=rq (hh.d 1 20);have h23:=rq (hh.d 4 23);have hJ:=Hd hh.st;exact wp_build _ _ rfl (by simp[go_sem,h20,h23]) (Iq q.it.b rr w1) ⟨_,rfl,rB,rfl,hJ.o⟩
  ·have h7:=hh.p 7 pb 0;have hB:=Hd (F2.o _ hh.rel);have hJ:=Hd hh.st;exact aN 121 _ rfl pb 0 (by simpa[go_sem]using h7) _ hB.o (p.cs) rfl _ underlying121 rfl ag ⟨_,rfl,rB,rfl,hJ.o⟩
  ·have CY:=rq (hh.d 5 24);have Ew:=rq (hh.d 6 25);have hC:=Hd (H2.o w1);have hJ:=hh.j;clear hh;go_simp;refine hC.o.mono ?_;rintro e w9 ⟨rfl,bD⟩;exact⟨_,rfl,bD,rfl,hJ.o⟩
  have Jb:=rq (hh.d 7 26);rotate_left
  ·refine sz rfl rfl
  ·refine sz rfl rfl
  ·refine sz rfl rfl
  have h27:=rq (hh.d 8 27);rotate_left;have h31:=rq (hh.d 12 31);rotate_left
  any_goals (clear hh;go_simp;exact⟨_,rfl,rB,rfl,trivial⟩)
  intro L w4 val hL hJ hR hv;have h6:val 6=.bool false:=hv 13 6 ag;have HR4:=Hd hR;clear hv hL hJ hR;simp only[regs.aG,List.map_cons,List.map_nil,h6];simp only[Act.put,List.setIfInBounds_toArray,List.set_cons_zero,List.set_cons_succ];clear h6;generalize val 19=v19,val 20=v20,val 21=v21,val 22=v22,val 23=v23,val 24=v24,val 25=v25,val 26=v26,val 27=v27,val 28=v28,val 29=v29,val 30=v30,val 31=v31 at*;go_wp2_with (fail);go_ret;exact⟨by rw[HCV.o];rfl,HB3.o.trans (HR4.o.mono HB3.o.size)⟩
 |true=>
  refine Rw [19,20,21,22,23,24,25,26,27,28,29,30,31,6] (fun i=>match i with
   |0=>rp w.heap.size 7
   |1=>rV (.agg (q.it.b.cs).toArray)
   |2=>rV (.int .i64 sx)
   |3=>rV (.int .i64 sv)
   |4=>rV (.agg (rr.cs).toArray)
   |5=>rV (.agg ((Cl.mk q.it.b rr).cs).toArray)
   |6|10=>rV (.agg (p.cs).toArray)
   |7|8=>rT
   |9=>rV (.agg (q.cs).toArray)
   |11|12|13=>rV (.bool fr)
   |_=>ra) ⟨?_,?_,?_,?_,?_,?_,?_,?_,?_,?_,?_,?_,?_,?_,trivial⟩ ?_
  any_goals (first|refine zp fun L a w1 hh=>?_|fail)
  any_goals (first|refine sy rfl rfl fun L a w1 hh=>?_|fail)
  have h3:=hh.p 3 w.heap.size 0;have i0:=(F1.o _ hh.rel).inside;rotate_left
  ·have h19:=rq (hh.d 0 19);have hB:=Hd (F1.o _ hh.rel);have hJ:=Hd hh.st;exact aN 117 _ rfl w.heap.size 7 (by simpa[go_sem]using h19) _ hB.o (q.it.b.cs) rfl _ underlying117 rfl ag ⟨_,rfl,rB,rfl,hJ.o⟩
  have h8:=hh.o 8 (v:=.int .i64 sx) rfl;rotate_left;have h9:=hh.o 9 (v:=.int .i64 sv) rfl;rotate_left
  ·have h21:=rq (hh.d 2 21);have h22:=rq (hh.d 3 22);have hC:=Hd (H1.o w1);have hJ:=hh.j;clear hh;go_simp;refine hC.o.mono ?_;rintro e w9 ⟨rfl,bD⟩;exact⟨_,rfl,bD,rfl,hJ.o⟩
  ·have h20:=rq (hh.d 1 20);have h23:=rq (hh.d 4 23);have hJ:=Hd hh.st;exact wp_build _ _ rfl (by simp[go_sem,h20,h23]) (Iq q.it.b rr w1) ⟨_,rfl,rB,rfl,hJ.o⟩
  ·have h7:=hh.p 7 pb 0;have hB:=Hd (F2.o _ hh.rel);have hJ:=Hd hh.st;exact aN 121 _ rfl pb 0 (by simpa[go_sem]using h7) _ hB.o (p.cs) rfl _ underlying121 rfl ag ⟨_,rfl,rB,rfl,hJ.o⟩
  ·have CY:=rq (hh.d 5 24);have Ew:=rq (hh.d 6 25);have hC:=Hd (H2.o w1);have hJ:=hh.j;clear hh;go_simp;refine hC.o.mono ?_;rintro e w9 ⟨rfl,bD⟩;exact⟨_,rfl,bD,rfl,hJ.o⟩
  have Jb:=rq (hh.d 7 26);rotate_left
  ·have h3:=hh.p 3 w.heap.size 0;have hB:=Hd (F1.o _ hh.rel);have hJ:=Hd hh.st;exact aN 167 _ rfl w.heap.size 0 (by simpa[go_sem]using h3) _ hB.o (q.cs) rfl _ underlying167 rfl ag ⟨_,rfl,rB,rfl,hJ.o⟩
  ·have h7:=hh.p 7 pb 0;have hB:=Hd (F2.o _ hh.rel);have hJ:=Hd hh.st;exact aN 121 _ rfl pb 0 (by simpa[go_sem]using h7) _ hB.o (p.cs) rfl _ underlying121 rfl ag ⟨_,rfl,rB,rfl,hJ.o⟩
  ·have h28:=rq (hh.d 9 28);have CX:=rq (hh.d 10 29);have hC:=Hd (H3.o w1 hh.rel);have hJ:=hh.j;clear hh;go_simp;refine hC.o.mono ?_;rintro e w9 ⟨rfl,bD⟩;exact⟨_,rfl,bD,rfl,hJ.o⟩
  have h27:=rq (hh.d 8 27);have h30:=rq (hh.d 11 30);rotate_left;have h31:=rq (hh.d 12 31);rotate_left
  any_goals (clear hh;go_simp;exact⟨_,rfl,rB,rfl,trivial⟩)
  intro L w4 val hL hJ hR hv;have h6:val 6=.bool fr:=hv 13 6 ag;have HR4:=Hd hR;clear hv hL hJ hR;simp only[regs.aG,List.map_cons,List.map_nil,h6];simp only[Act.put,List.setIfInBounds_toArray,List.set_cons_zero,List.set_cons_succ];clear h6
  skip
  go_wp2_with (fail);go_ret;exact⟨by rw[HCV.o];rfl,HB3.o.trans (HR4.o.mono HB3.o.size)⟩
end
end
end Go.Proofs.YthmegninhpihkaaGreat
