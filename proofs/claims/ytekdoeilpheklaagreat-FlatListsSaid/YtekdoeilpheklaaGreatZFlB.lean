import Derived.Test.YtekdoeilpheklaaGreatZDcj
set_option maxHeartbeats 16000000
set_option maxRecDepth 100000
open Go.Proofs.Tryz
namespace Go.Proofs.YtekdoeilpheklaaGreat
section
section
open Go.RowKit fK fZ aB Go.Maps BG Go.Shelf
attribute [local go_sem] Oper.semAt_some
theorem KX.below{x:Nat}{A W W':World}(h:KX x A W)(hb:Below A.heap.size W W'):KX x A W':=⟨hb.os.trans h.os,hb.tape.trans h.tape,hb.output.trans h.output,Nat.le_trans h.size hb.size,fun k hk hn=>(hb.block k hk).trans (h.same k hk hn)⟩
theorem KX.set{x:Nat}{A W:World}(h:KX x A W)(v:Value):KX x A (W.setCell ⟨x,0,none⟩ v):=⟨h.os,h.tape,h.output,by simpa[World.setCell] using h.size,fun k hk hn=>(heap_setCell_other _ _ _ _ hn).trans (h.same k hk hn)⟩
theorem KX.bk{x:Nat}{A W W':World}(h:KX x A W)(hb:Bk A.heap.size W W'):KX x A W':=h.below (hb.below nR h.size)
theorem UG(v:Value)(w:World):(invoke (.fn (.method "Walk") #[]) #[.iface 94 v]).run prog w=.ok (.enter 195 #[v]) w:=by kernel_rfl
theorem Wi(m:Mp)(w:World):(Instr.build 53 #[(0,.int .i64 m.a),(1,.int .i64 m.b),(2,.int .i64 m.c),(3,.int .i64 m.d),(4,.int .i64 m.e),(5,.int .i64 m.f)]).run prog w=.ok (.agg m.cs.toArray) w:=by kernel_rfl
theorem a2o{t:T}{j:Nat}(h:j<(wd t 0 0).length)(h2:j<(aB.walk t 0).length):(wd t 0 0)[j]=((aB.walk t 0)[j],depth t (aB.walk t 0)[j]):=by
 simp only[wd,List.getElem_map,Oo];simp
end
end
section
open Go.RowKit
def zH(n d:Int):Int:=if d<0 then nH (-n*4294967296) (-d) else nH (n*4294967296) d
theorem AA{w w':World}(h:cZ w w'):bz w w':=h.below _
theorem qN(n d:Int)(w:World)(h1:-1073741824<=n)(h2:n<=1073741824)(h3:-2305843009213693952<=d)(h4:d<=2305843009213693952)(h0:d≠0) :
  Calls prog 97 #[.int .i64 n,.int .i64 d] w fun e w'=>e=.returned (.int .i64 (zH n d))∧bz w w':=by
 by_cases hd:d<0
 ·have HR:=Hd (fun w=>nN (-n*4294967296) (-d) w (by omega) (by omega) (by omega) (by omega));have e:zH n d=nH (-n*4294967296) (-d):=if_pos hd;rw[e];clear e
  obtain⟨M,hM⟩:∃M,-n=M:=⟨_,rfl⟩
  obtain⟨D,hD⟩:∃D,-d=D:=⟨_,rfl⟩
  rw[hM,hD] at HR ⊢;have b1:-1073741824<=M∧M<=1073741824:=by omega
  have b2:-2305843009213693952<=D∧D<=2305843009213693952:=by omega
  obtain⟨K,hK⟩:∃K,M*65536=K:=⟨_,rfl⟩
  have e:M*4294967296=K*65536:=by omega
  have b3:-70368744177664<=K∧K<=70368744177664:=by omega
  rw[e] at HR ⊢;clear e
  obtain⟨X,hX⟩:∃X,K*65536=X:=⟨_,rfl⟩
  have b4:-4611686018427387904<=X∧X<=4611686018427387904:=by omega
  rw[hX] at HR ⊢;have t1:decide (d<0)=true:=by simpa using hd
  have q1:wrap64 M=M:=IntWalk.wrap64_in _ (by omega);have q2:wrap64 D=D:=IntWalk.wrap64_in _ (by omega);have q3:wrap64 K=K:=IntWalk.wrap64_in _ (by omega);have q4:wrap64 X=X:=IntWalk.wrap64_in _ (by omega);clear hd h1 h2 h3 h4 h0 b1 b2 b3 b4;go_enter func97,ntmps97;go_wp2_with (fail);refine(HR.o _).mono ?_;rintro e w' ⟨rfl,hb⟩;go_wp2_with (fail);go_ret;exact⟨rfl,AA hb⟩
 ·have HR:=Hd (fun w=>nN (n*4294967296) d w (by omega) (by omega) (by omega) (by omega));have e:zH n d=nH (n*4294967296) d:=if_neg hd;rw[e];clear e
  obtain⟨K,hK⟩:∃K,n*65536=K:=⟨_,rfl⟩
  have e:n*4294967296=K*65536:=by omega
  have b3:-70368744177664<=K∧K<=70368744177664:=by omega
  rw[e] at HR ⊢;clear e
  obtain⟨X,hX⟩:∃X,K*65536=X:=⟨_,rfl⟩
  have b4:-4611686018427387904<=X∧X<=4611686018427387904:=by omega
  rw[hX] at HR ⊢;have t1:decide (d<0)=false:=by simpa using hd
  have q3:wrap64 K=K:=IntWalk.wrap64_in _ (by omega);have q4:wrap64 X=X:=IntWalk.wrap64_in _ (by omega);clear hd h1 h2 h3 h4 h0 b3 b4;go_enter func97,ntmps97;go_wp2_with (fail);refine(HR.o _).mono ?_;rintro e w' ⟨rfl,hb⟩;go_wp2_with (fail);go_ret;exact⟨rfl,AA hb⟩
theorem Pv(n:Int):n / 65536+nH (n % 65536) 65536=nH n 65536:=by
 have e1:n % 65536 % 65536=n % 65536:=by omega
 have e2:n % 65536 / 65536=0:=by omega
 unfold nH;rw[e1,e2];split<;>omega
theorem AX(n:Int)(w:World)(h1:-9223372036854775808<=n)(h2:n<=9223372036854775807) :
  Calls prog 75 #[.int .i64 n] w fun e w'=>e=.returned (.int .i64 (nH n 65536))∧bz w w':=by
 have HR:=Hd (fun w=>nN (n % 65536) 65536 w (by omega) (by omega) (by omega) (by omega));have ha:=Qo n;have hs:=Pv n;have b1:-140737488355328<=n / 65536∧n / 65536<=140737488355328:=by omega
 have b2:0<=nH (n % 65536) 65536∧nH (n % 65536) 65536<=1:=by unfold nH;split<;>omega
 obtain⟨R,hR⟩:∃R,nH (n % 65536) 65536=R:=⟨_,rfl⟩
 rw[hR] at HR hs b2;rw[← hs];clear hs hR;generalize n % 65536=m at *;have h2p:n / 2 ^ 16=n / 65536:=rfl
 obtain⟨Q,hQ⟩:∃Q,n / 65536=Q:=⟨_,rfl⟩
 rw[hQ] at h2p b1 ⊢;have q1:wrap64 (Q+R)=Q+R:=IntWalk.wrap64_in _ (by omega);clear h1 h2 b1 b2;go_enter func75,ntmps75;go_wp2_with (fail);refine(HR.o _).mono ?_;rintro e w' ⟨rfl,hb⟩;go_wp2_with (fail);go_ret;exact⟨az q1,AA hb⟩
def Mp.F6(m:Mp):Int:=m.a*m.d - m.b*m.c
def Mp.bk(m:Mp):Mp:=⟨zH m.d m.F6,zH (-m.b) m.F6,zH (-m.c) m.F6,zH m.a m.F6,m.e,m.f⟩
def Mp.l4(m:Mp):List Int:=[m.a,m.b,m.c,m.d]
def Mp.back(m:Mp):Mp×Int:=if m.right=false then (Mp.o,11) else if m.F6=0 then (Mp.o,43) else if dH m.bk.l4=true then (m.bk,0) else (Mp.o,35)
theorem tX{m:Mp}(h:m.right=true):(-1073741824<=m.a∧m.a<=1073741824)∧(-1073741824<=m.b∧m.b<=1073741824)∧(-1073741824<=m.c∧m.c<=1073741824)∧(-1073741824<=m.d∧m.d<=1073741824)∧(-1073741824<=m.e∧m.e<=1073741824)∧(-1073741824<=m.f∧m.f<=1073741824):=by
 unfold Mp.right Mp.l dH at h;simp only[List.all_cons,List.all_nil,Bool.and_true,Bool.and_eq_true] at h;exact⟨iT h.1,iT h.2.1,iT h.2.2.1,iT h.2.2.2.1,iT h.2.2.2.2.1,iT h.2.2.2.2.2⟩
theorem NJ{tmps:Array Value}{W:World}{Q:Ending->World->Prop}{g:Nat}{v:Value}{m:Mp}(hp:tmps.getD 2 undef=.pointer (some ⟨g,0,none⟩))(hq:tmps.getD 3 undef=v)(hB:ax W g m.cs)(h:Q (.returned (.tuple #[m.v,v])) W) :
  bodyPost prog Tryz.f63 Q Exit.ret { tmps:=tmps,defers:=[] } W:=
 aH rfl hp hq hB underlying41 rfl (by kernel_rfl) h
theorem Yw(m:Mp)(w:World):Calls prog 63 #[m.v] w fun e w'=>e=.returned (.tuple #[m.back.1.v,.int .i64 m.back.2])∧bz w w':=by
 have Ff:=Hd (fun w=>um m w);have JK:Hid (m.back=if m.right=false then (Mp.o,11) else if m.F6=0 then (Mp.o,43) else if dH m.bk.l4=true then (m.bk,0) else (Mp.o,35)):=rfl;have SK:=Hd (tX (m:=m))
 obtain⟨R,hR⟩:∃R,m.back=R:=⟨_,rfl⟩
 rw[hR] at JK ⊢;clear hR;obtain⟨RM,RE⟩:=R;have Jt:Hid (m.F6=m.a*m.d - m.b*m.c):=rfl;have nz:Hid (m.bk=⟨zH m.d m.F6,zH (-m.b) m.F6,zH (-m.c) m.F6,zH m.a m.F6,m.e,m.f⟩):=rfl;generalize m.right=y at *;generalize m.F6=D at *;generalize m.bk=K at *;obtain⟨ka,kb,kc,kd,ke,kf⟩:=m;unfold Mp.v at Ff ⊢;simp only at Ff SK Jt nz ⊢;go_enter func63,ntmps63;go_wp2_with (fail);refine(Ff.o _).mono ?_;rintro e1 W1 ⟨rfl,hb⟩;have B1:Hid (bz w W1):=((bR.alloc nR _).alloc (by simp) _).trans (hb.mono (by simp;omega))
 have SE:Hid (ax W1 w.heap.size (Vh ka kb kc kd ke kf)):=((ay w (Vh ka kb kc kd ke kf) _).alloc _).below hb (by simp;omega);have Oz:Hid (ax W1 (w.heap.size+1) Mp.o.cs):=(aN (w.alloc _) _ (by simp) Mp.o.cs _).below hb (by simp);clear hb Ff;cases y with
 | false=>
  have hT:=JK.o.trans (if_pos rfl)
  injection hT with h1 h2
  subst h1;subst h2;obtain⟨⟨c0,c1,c2,c3,c4,c5⟩,⟨f0,f1,f2,f3,f4,f5⟩,ri⟩:=ax.c6 Oz.o;clear JK SK Jt nz SE;go_wp2_with (fail);exact NJ (m:=Mp.o) rfl rfl (ax.oL Oz.o _ _ _ _ _ _) ⟨rfl,gy B1.o (by omega) _ _ _ _ _ _⟩
 | true=>
  have uY:=Hd (JK.o.trans (if_neg (by decide)));obtain⟨ra,rb,rc,rd,re,rf⟩:=SK.o rfl;clear JK SK;obtain⟨⟨m0,m1,m2,m3,m4,m5⟩,-,mi⟩:=ax.c6 SE.o;have EF:=Jt.o;obtain⟨x1,x2⟩:=mP ra.1 ra.2 rd.1 rd.2;obtain⟨y1,y2⟩:=mP rb.1 rb.2 rc.1 rc.2
  obtain⟨X,hX⟩:∃X,ka*kd=X:=⟨_,rfl⟩
  obtain⟨Y,hY⟩:∃Y,kb*kc=Y:=⟨_,rfl⟩
  rw[hX,hY] at EF;rw[hX] at x1 x2;rw[hY] at y1 y2;have q1:wrap64 X=X:=IntWalk.wrap64_in _ (by omega);have q2:wrap64 Y=Y:=IntWalk.wrap64_in _ (by omega);have q3:wrap64 (X - Y)=D:=by rw[EF];exact IntWalk.wrap64_in _ (by omega)
  have tC:Hid (-2305843009213693952<=D∧D<=2305843009213693952):=by rw[EF];show _∧_;omega
  have HRR:=Hd (And.intro ra (And.intro rb (And.intro rc rd)));clear EF x1 x2 y1 y2 Jt ra rb rc rd re rf;by_cases hD:D=0
  ·have t:(D==0)=true:=by simpa using hD
   have hT:=uY.o.trans (if_pos hD)
   injection hT with h1 h2
   subst h1;subst h2;clear hD uY nz tC HRR;obtain⟨⟨c0,c1,c2,c3,c4,c5⟩,⟨f0,f1,f2,f3,f4,f5⟩,ri⟩:=ax.c6 Oz.o;go_wp2_with (fail);exact NJ (m:=Mp.o) rfl rfl (ax.oL Oz.o _ _ _ _ _ _) ⟨rfl,gy B1.o (by omega) _ _ _ _ _ _⟩
  ·have t:(D==0)=false:=by simpa using hD
   have Fq:=Hd (uY.o.trans (if_neg hD));have HO1:=Hd (fun w=>qN kd D w HRR.o.2.2.2.1 HRR.o.2.2.2.2 tC.o.1 tC.o.2 hD);have MW:=Hd (fun w=>qN (-kb) D w (by have:=HRR.o.2.1;omega) (by have:=HRR.o.2.1;omega) tC.o.1 tC.o.2 hD);have HO3:=Hd (fun w=>qN (-kc) D w (by have:=HRR.o.2.2.1;omega) (by have:=HRR.o.2.2.1;omega) tC.o.1 tC.o.2 hD);have Xj:=Hd (fun w=>qN ka D w HRR.o.1.1 HRR.o.1.2 tC.o.1 tC.o.2 hD);generalize zH kd D=z1 at *;generalize zH (-kb) D=z2 at *;generalize zH (-kc) D=z3 at *;generalize zH ka D=z4 at *
   have hK:=nz.o;subst hK;have hw1:wrap64 (-kb)=-kb:=IntWalk.wrap64_in _ (by have:=HRR.o.2.1;omega);have hw2:wrap64 (-kc)=-kc:=IntWalk.wrap64_in _ (by have:=HRR.o.2.2.1;omega);have hv1:IntKind.i64.wrap (-kb)=-kb:=IntWalk.i64_in _ (by have:=HRR.o.2.1;omega);have hv2:IntKind.i64.wrap (-kc)=-kc:=IntWalk.i64_in _ (by have:=HRR.o.2.2.1;omega);clear hD uY nz tC HRR
   have gY:Hid (mg [(w.heap.size,(Vh ka kb kc kd ke kf)),(w.heap.size+1,Mp.o.cs)] W1):=⟨SE.o,Oz.o,trivial⟩
   clear SE Oz;go_wp2_with (fail);simp only[q1,q2,q3];clear m0 m1 m2 m3 m4 m5 mi q1 q2 q3 hX hY
   refine JP (Below W1.heap.size) (fun L V wx=>JN W1.heap.size [(w.heap.size,(Vh ka kb kc kd ke kf)),((w.heap.size+1),Vd)] Vd (Vh z1 z2 z3 z4 ke kf) (L 23) (L 24) (V 5) wx) [24,25,26,27,28,29,30,31,32,33,34,35,36,37,38,39,40,41,42,43,44,45,46,5] (fun _=>bR) (fun _ _ _ h k=>h.trans k) (fun i=>match i with
    |0=>rp w.heap.size 3
    |1=>rV (.int .i64 kd)
    |2|7|12|16=>rV (.int .i64 D)
    |3=>rV (.int .i64 z1)
    |4=>rp w.heap.size 1
    |5=>rV (.int .i64 kb)
    |6=>rV (.int .i64 (-kb))
    |8=>rV (.int .i64 z2)
    |9=>rp w.heap.size 2
    |10=>rV (.int .i64 kc)
    |11=>rV (.int .i64 (-kc))
    |13=>rV (.int .i64 z3)
    |14=>rp w.heap.size 0
    |15=>rV (.int .i64 ka)
    |17=>rV (.int .i64 z4)
    |18=>rp w.heap.size 4
    |19=>rV (.int .i64 ke)
    |20=>rp w.heap.size 5
    |21=>rV (.int .i64 kf)
    |22=>rV (.agg (Vh z1 z2 z3 z4 ke kf).toArray)
    | _=>ra) (bR.drew) (JN.start (w:=W1.drew) gY.o) ⟨?_,?_,?_,?_,?_,?_,?_,?_,?_,?_,?_,?_,?_,?_,?_,?_,?_,?_,?_,?_,?_,?_,?_,?_,?_,trivial⟩ ?_
   any_goals (first|refine fC fun L a w1 hh=>?_|fail)
   have h1:=hh.p 1 w.heap.size 0;rotate_left
   ·have vg:=rq (hh.d 0 24);obtain⟨⟨c0,c1,c2,c3,c4,c5⟩,-,ci⟩:=(hh.st.1.1.1).c6;have hJ:=hh.j;clear hh;go_simp;exact⟨_,rfl,bR,rfl,JN.slots hJ.o sn⟩
   have h4:=hh.o 4 (v:=.int .i64 D) rfl;rotate_left
   ·have yL:=rq (hh.d 1 25);have EJ:=rq (hh.d 2 26);have:=True.intro;have hJ:=hh.j;clear hh;go_simp;refine(HO1.o w1).mono ?_;rintro e w9 ⟨rfl,aU⟩;exact⟨_,rfl,aU.mono hJ.o.1.2.1,rfl,JN.slots (JN.below hJ.o aU) sn⟩
   have h1:=hh.p 1 w.heap.size 0;rotate_left
   ·have h28:=rq (hh.d 4 28);obtain⟨⟨c0,c1,c2,c3,c4,c5⟩,-,ci⟩:=(hh.st.1.1.1).c6;have hJ:=hh.j;clear hh;go_simp;exact⟨_,rfl,bR,rfl,JN.slots hJ.o sn⟩
   have Ag:=rq (hh.d 5 29);rotate_left;have h4:=hh.o 4 (v:=.int .i64 D) rfl;rotate_left
   ·have h30:=rq (hh.d 6 30);have h31:=rq (hh.d 7 31);have:=True.intro;have hJ:=hh.j;clear hh;go_simp;refine(MW.o w1).mono ?_;rintro e w9 ⟨rfl,aU⟩;exact⟨_,rfl,aU.mono hJ.o.1.2.1,rfl,JN.slots (JN.below hJ.o aU) sn⟩
   have h1:=hh.p 1 w.heap.size 0;rotate_left
   ·have Qw:=rq (hh.d 9 33);obtain⟨⟨c0,c1,c2,c3,c4,c5⟩,-,ci⟩:=(hh.st.1.1.1).c6;have hJ:=hh.j;clear hh;go_simp;exact⟨_,rfl,bR,rfl,JN.slots hJ.o sn⟩
   have UY:=rq (hh.d 10 34);rotate_left;have h4:=hh.o 4 (v:=.int .i64 D) rfl;rotate_left
   ·have h35:=rq (hh.d 11 35);have UX:=rq (hh.d 12 36);have:=True.intro;have hJ:=hh.j;clear hh;go_simp;refine(HO3.o w1).mono ?_;rintro e w9 ⟨rfl,aU⟩;exact⟨_,rfl,aU.mono hJ.o.1.2.1,rfl,JN.slots (JN.below hJ.o aU) sn⟩
   have h1:=hh.p 1 w.heap.size 0;rotate_left
   ·have h38:=rq (hh.d 14 38);obtain⟨⟨c0,c1,c2,c3,c4,c5⟩,-,ci⟩:=(hh.st.1.1.1).c6;have hJ:=hh.j;clear hh;go_simp;exact⟨_,rfl,bR,rfl,JN.slots hJ.o sn⟩
   have h4:=hh.o 4 (v:=.int .i64 D) rfl;rotate_left
   ·have Qv:=rq (hh.d 15 39);have SA:=rq (hh.d 16 40);have:=True.intro;have hJ:=hh.j;clear hh;go_simp;refine(Xj.o w1).mono ?_;rintro e w9 ⟨rfl,aU⟩;exact⟨_,rfl,aU.mono hJ.o.1.2.1,rfl,JN.slots (JN.below hJ.o aU) sn⟩
   have h1:=hh.p 1 w.heap.size 0;rotate_left
   ·have h42:=rq (hh.d 18 42);obtain⟨⟨c0,c1,c2,c3,c4,c5⟩,-,ci⟩:=(hh.st.1.1.1).c6;have hJ:=hh.j;clear hh;go_simp;exact⟨_,rfl,bR,rfl,JN.slots hJ.o sn⟩
   have h1:=hh.p 1 w.heap.size 0;rotate_left
   ·have La:=rq (hh.d 20 44);obtain⟨⟨c0,c1,c2,c3,c4,c5⟩,-,ci⟩:=(hh.st.1.1.1).c6;have hJ:=hh.j;clear hh;go_simp;exact⟨_,rfl,bR,rfl,JN.slots hJ.o sn⟩
   have h27:=rq (hh.d 3 27);have h32:=rq (hh.d 8 32);have h37:=rq (hh.d 13 37);have Sz:=rq (hh.d 17 41);have h43:=rq (hh.d 19 43);have h45:=rq (hh.d 21 45);rotate_left
   ·have hJ:=Hd hh.st;have hsz:=Hd hh.size;have hun:=Hd hh.un;clear hh;go_simp;exact⟨_,rfl,bR.alloc hJ.o.1.2.1 _,trivial,JN.new hJ.o hun.o (bI.aW (by rw[hsz.o];simp))⟩
   ·have h46:=rq (hh.d 22 46);obtain⟨g,h0,hg,hB⟩:=hh.st.2.1 (hh.up 23 (by kernel_rfl));have h5:a.tmps[5]?.getD undef=.pointer (some ⟨g,0,none⟩):=rq (h0);rw[hh.un] at hB;obtain⟨⟨c0,c1,c2,c3,c4,c5⟩,⟨f0,f1,f2,f3,f4,f5⟩,ci⟩:=(show ax w1 g Vd from hB).c6;have hP:=Hd (JN.put hh.st rfl (hh.up 23 (by kernel_rfl)) hh.un h0);clear hh h0 hB;go_simp;exact⟨hP.o.2,⟨undef,trivial⟩,hP.o.1⟩
   any_goals (have hJ:=hh.j;clear hh;go_simp;exact⟨_,rfl,bR,rfl,JN.slots hJ.o sn⟩)
   intro L w2 val hL hJ hR hv;obtain⟨g2,e2,hg2,hB2⟩:=hJ.2.1 (hL 23 (by decide));rw[hL 24 (by decide)] at hB2;have Jn:=Hd (And.intro hg2 (show ax w2 g2 (Vh z1 z2 z3 z4 ke kf) from hB2));have bP:=Hd hJ.1.1;clear hg2 hB2;have HR2:=Hd hR;clear hv hL hJ hR;simp only[regs.aA,List.map_cons,List.map_nil];rw[e2];generalize val 24=v24;generalize val 25=v25;generalize val 26=v26;generalize val 27=v27;generalize val 28=v28;generalize val 29=v29;generalize val 30=v30;generalize val 31=v31;generalize val 32=v32;generalize val 33=v33;generalize val 34=v34;generalize val 35=v35
   generalize val 36=v36;generalize val 37=v37;generalize val 38=v38;generalize val 39=v39;generalize val 40=v40;generalize val 41=v41;generalize val 42=v42;generalize val 43=v43;generalize val 44=v44;generalize val 45=v45;generalize val 46=v46;simp only[Act.put,List.setIfInBounds_toArray,List.set_cons_zero,List.set_cons_succ];clear e2;have B2:Hid (bz w w2):=B1.o.trans (HR2.o.mono B1.o.size);have Oy:Hid (ax w2 (w.heap.size+1) Mp.o.cs):=bP.o.2.1
   have HRT:=Hd (fun w g (hg:g=w.heap.size)=>nO _ [z1,z2,z3,z4] 4 _ (jw w [z1,z2,z3,z4] 2 hg) (Nat.le_refl 4) (by decide));have ZT:Hid ((RM,RE)=if dH [z1,z2,z3,z4]=true then (⟨z1,z2,z3,z4,ke,kf⟩,0) else (Mp.o,35)):=Fq.o;clear Fq HR2 bP gY HO1 MW HO3 Xj B1;obtain⟨⟨n0,n1,n2,n3,n4,n5⟩,-,ni⟩:=Jn.o.2.c6;have hgw:=Jn.o.1;generalize dH [z1,z2,z3,z4]=y at *;go_wp2_with (fail);refine(HRT.o _ _ rfl).mono ?_;rintro e3 w3 ⟨rfl,rfl⟩;have B3:Hid (bz w (w2.alloc (.cells (Vm z1 z2 z3 z4).toArray 2))):=B2.o.alloc B2.o.size _
   have br3:Hid (ax (w2.alloc (.cells (Vm z1 z2 z3 z4).toArray 2)) (w.heap.size+1) Mp.o.cs):=Oy.o.alloc _;have bn3:Hid (ax (w2.alloc (.cells (Vm z1 z2 z3 z4).toArray 2)) g2 (Vh z1 z2 z3 z4 ke kf)):=Jn.o.2.alloc _
   have ew:∃w4,(w2.alloc (.cells (Vm z1 z2 z3 z4).toArray 2))=w4:=⟨_,rfl⟩
   obtain⟨w4,ew⟩:=ew;rw[ew] at B3 br3 bn3;simp only[List.map_cons,List.map_nil,eI] at *;rw[ew];clear ew n0 n1 n2 n3 n4 n5 ni hgw B2 Oy Jn HRT;obtain⟨⟨c0,c1,c2,c3,c4,c5⟩,⟨f0,f1,f2,f3,f4,f5⟩,ri⟩:=ax.c6 br3.o;cases y with
   | true=>
    have hT:=ZT.o.trans (if_pos rfl)
    injection hT with h1 h2
    subst h1;subst h2;clear ZT;obtain⟨⟨n0,n1,n2,n3,n4,n5⟩,-,ni⟩:=bn3.o.c6;go_wp2_with (fail);exact NJ (m:=⟨z1,z2,z3,z4,ke,kf⟩) rfl rfl (ax.oL br3.o _ _ _ _ _ _) ⟨rfl,gy B3.o (by omega) _ _ _ _ _ _⟩
   | false=>
    have hT:=ZT.o.trans (if_neg (by decide))
    injection hT with h1 h2
    subst h1;subst h2;clear ZT bn3;go_wp2_with (fail);exact NJ (m:=Mp.o) rfl rfl (ax.oL br3.o _ _ _ _ _ _) ⟨rfl,gy B3.o (by omega) _ _ _ _ _ _⟩
end
section
open Go.RowKit
def Mp.from_(b:Mp)(p:Pt):Pt:=⟨nH (b.a*(p.x - b.e)+b.c*(p.y - b.f)) 65536,nH (b.b*(p.x - b.e)+b.d*(p.y - b.f)) 65536⟩
theorem kE{a b:Int}(h1:-1073741824<=a)(h2:a<=1073741824)(h3:-3221225472<=b)(h4:b<=3221225472):-3458764513820540928<=a*b∧a*b<=3458764513820540928:=by
 have g1:0<=(1073741824 - a)*(3221225472 - b):=Int.mul_nonneg (by omega) (by omega);have g2:0<=(1073741824+a)*(3221225472+b):=Int.mul_nonneg (by omega) (by omega);have g3:0<=(1073741824 - a)*(3221225472+b):=Int.mul_nonneg (by omega) (by omega);have g4:0<=(1073741824+a)*(3221225472 - b):=Int.mul_nonneg (by omega) (by omega);rw[Int.sub_mul,Int.mul_sub,Int.mul_sub] at g1;rw[Int.add_mul,Int.mul_add,Int.mul_add] at g2;rw[Int.sub_mul,Int.mul_add,Int.mul_add] at g3;rw[Int.add_mul,Int.mul_sub,Int.mul_sub] at g4;omega
def lT(b:Mp)(p:Pt):Prop:=b.right=true∧(-2147483648<=p.x∧p.x<=2147483648)∧(-2147483648<=p.y∧p.y<=2147483648)
theorem NQ(b:Mp)(p:Pt)(w:World)(h:lT b p):Calls prog 36 #[b.v,p.v] w fun e w'=>e=.returned (b.from_ p).v∧bz w w':=by
 obtain⟨hr,hx,hy⟩:=h;obtain⟨ra,rb,rc,rd,re,rf⟩:=tX hr;clear hr;obtain⟨ka,kb,kc,kd,ke,kf⟩:=b;obtain⟨px,py⟩:=p;unfold Mp.from_;simp only at ra rb rc rd re rf hx hy ⊢
 obtain⟨U,hU⟩:∃U,px - ke=U:=⟨_,rfl⟩
 obtain⟨V,hV⟩:∃V,py - kf=V:=⟨_,rfl⟩
 rw[hU,hV];have bu:-3221225472<=U∧U<=3221225472:=by omega
 have bv:-3221225472<=V∧V<=3221225472:=by omega
 have p1:=kE ra.1 ra.2 bu.1 bu.2;have p2:=kE rc.1 rc.2 bv.1 bv.2;have p3:=kE rb.1 rb.2 bu.1 bu.2;have p4:=kE rd.1 rd.2 bv.1 bv.2;have u1:wrap64 U=U:=IntWalk.wrap64_in _ (by omega);have u2:wrap64 V=V:=IntWalk.wrap64_in _ (by omega);have u3:IntKind.i64.wrap U=U:=IntWalk.i64_in _ (by omega);have u4:IntKind.i64.wrap V=V:=IntWalk.i64_in _ (by omega)
 obtain⟨P1,hP1⟩:∃P,ka*U=P:=⟨_,rfl⟩
 obtain⟨P2,hP2⟩:∃P,kc*V=P:=⟨_,rfl⟩
 obtain⟨P3,hP3⟩:∃P,kb*U=P:=⟨_,rfl⟩
 obtain⟨P4,hP4⟩:∃P,kd*V=P:=⟨_,rfl⟩
 rw[hP1] at p1;rw[hP2] at p2;rw[hP3] at p3;rw[hP4] at p4;rw[hP1,hP2,hP3,hP4]
 obtain⟨S1,hS1⟩:∃S,P1+P2=S:=⟨_,rfl⟩
 obtain⟨S2,hS2⟩:∃S,P3+P4=S:=⟨_,rfl⟩
 rw[hS1,hS2];have s1:-6917529027641081856<=S1∧S1<=6917529027641081856:=by omega
 have s2:-6917529027641081856<=S2∧S2<=6917529027641081856:=by omega
 have v1:IntKind.i64.wrap P1=P1:=IntWalk.i64_in _ (by omega);have v2:IntKind.i64.wrap P2=P2:=IntWalk.i64_in _ (by omega);have v3:IntKind.i64.wrap P3=P3:=IntWalk.i64_in _ (by omega);have v4:IntKind.i64.wrap P4=P4:=IntWalk.i64_in _ (by omega);have v5:IntKind.i64.wrap S1=S1:=IntWalk.i64_in _ (by omega);have v6:IntKind.i64.wrap S2=S2:=IntWalk.i64_in _ (by omega);have HW1:=Hd (fun w=>AX S1 w (by omega) (by omega));have HW2:=Hd (fun w=>AX S2 w (by omega) (by omega));generalize nH S1 65536=z1 at *;generalize nH S2 65536=z2 at *
 have HU:=Hd (And.intro u1 (And.intro u2 (And.intro hU hV)));clear ra rb rc rd re rf hx hy bu bv p1 p2 p3 p4 s1 s2;unfold Mp.v Pt.v;simp only;go_enter func36,ntmps36;go_wp2_with (fail)
 go_quiet (fail)
 clear hU hV u1 u2 u3 u4;have HB:Hid (bz w ((((w.alloc (.cells (Vh ka kb kc kd ke kf).toArray 41)).alloc (.cells #[.int .i64 px,.int .i64 py] 66)).alloc (.cells #[.int .i64 0,.int .i64 0] 66)).drewN nq)):=Below.drewN' (((bR.alloc nR _).alloc (by simp) _).alloc (by simp;omega) _) _
 have bm:Hid (ax ((((w.alloc (.cells (Vh ka kb kc kd ke kf).toArray 41)).alloc (.cells #[.int .i64 px,.int .i64 py] 66)).alloc (.cells #[.int .i64 0,.int .i64 0] 66)).drewN nq) w.heap.size (Vh ka kb kc kd ke kf)):=(((ay w (Vh ka kb kc kd ke kf) _).alloc _).alloc _).drewN _;have br:Hid (ax ((((w.alloc (.cells (Vh ka kb kc kd ke kf).toArray 41)).alloc (.cells #[.int .i64 px,.int .i64 py] 66)).alloc (.cells #[.int .i64 0,.int .i64 0] 66)).drewN nq) (w.heap.size+1+1) [.int .i64 0,.int .i64 0]):=(aN ((w.alloc _).alloc _) _ (by simp) [.int .i64 0,.int .i64 0] _).drewN _
 generalize ((((w.alloc (.cells (Vh ka kb kc kd ke kf).toArray 41)).alloc (.cells #[.int .i64 px,.int .i64 py] 66)).alloc (.cells #[.int .i64 0,.int .i64 0] 66)).drewN nq)=W1 at *;have HJS:Hid (JS w.heap.size [(w.heap.size,(Vh ka kb kc kd ke kf))] (w.heap.size+1+1) [.int .i64 0,.int .i64 0] [.int .i64 z1,.int .i64 z2] false W1.drew):=JS.start ⟨bm.o,trivial⟩ (by omega) br.o (by intro p hp;simp at hp;subst hp;simp;omega);clear bm br HU;go_wp2_with (fail)
 refine wR (Below w.heap.size) (fun L wx=>JS w.heap.size [(w.heap.size,(Vh ka kb kc kd ke kf))] (w.heap.size+1+1) [.int .i64 0,.int .i64 0] [.int .i64 z1,.int .i64 z2] (L 21) wx) [17,18,19,20,21,22,23,24,25,26,27,28,29,30,31,32,33,34,35,36,37] (fun _=>bR) (fun _ _ _ h k=>h.trans k) (fun i=>match i with
  |0=>rp w.heap.size 0
  |1=>rV (.int .i64 ka)
  |2|12=>rV (.int .i64 U)
  |3=>rV (.int .i64 P1)
  |4=>rp w.heap.size 2
  |5=>rV (.int .i64 kc)
  |6|16=>rV (.int .i64 V)
  |7=>rV (.int .i64 P2)
  |8=>rV (.int .i64 S1)
  |9=>rV (.int .i64 z1)
  |10=>rp w.heap.size 1
  |11=>rV (.int .i64 kb)
  |13=>rV (.int .i64 P3)
  |14=>rp w.heap.size 3
  |15=>rV (.int .i64 kd)
  |17=>rV (.int .i64 P4)
  |18=>rV (.int .i64 S2)
  |19=>rV (.int .i64 z2)
  |20=>rV (.agg #[.int .i64 z1,.int .i64 z2])
  | _=>ra) (bR.drew) (HJS.o) ⟨?_,?_,?_,?_,?_,?_,?_,?_,?_,?_,?_,?_,?_,?_,?_,?_,?_,?_,?_,?_,?_,?_,trivial⟩ ?_
 any_goals (first|refine zp fun L a w1 hh=>?_|fail)
 have h2:=hh.p 2 w.heap.size 0;rotate_left
 ·have h17:=rq (hh.d 0 17);obtain⟨⟨c0,c1,c2,c3,c4,c5⟩,-,ci⟩:=(hh.st.1.1.1).c6;have hJ:=hh.j;clear hh;go_simp;exact⟨_,rfl,bR,rfl,hJ.o⟩
 have h5:=hh.o 5 (v:=.int .i64 U) rfl;rotate_left;have h18:=rq (hh.d 1 18);have h19:=rq (hh.d 2 19);rotate_left;have h2:=hh.p 2 w.heap.size 0;rotate_left
 ·have h21:=rq (hh.d 4 21);obtain⟨⟨c0,c1,c2,c3,c4,c5⟩,-,ci⟩:=(hh.st.1.1.1).c6;have hJ:=hh.j;clear hh;go_simp;exact⟨_,rfl,bR,rfl,hJ.o⟩
 have h6:=hh.o 6 (v:=.int .i64 V) rfl;rotate_left;have h22:=rq (hh.d 5 22);have h23:=rq (hh.d 6 23);rotate_left;have h20:=rq (hh.d 3 20);have vg:=rq (hh.d 7 24);rotate_left
 ·have yL:=rq (hh.d 8 25);have:=True.intro;have hJ:=hh.j;clear hh;go_simp;refine(HW1.o w1).mono ?_;rintro e w9 ⟨rfl,aU⟩;exact⟨_,rfl,aU.mono hJ.o.1.2.1,rfl,JS.below hJ.o aU⟩
 have h2:=hh.p 2 w.heap.size 0;rotate_left
 ·have h27:=rq (hh.d 10 27);obtain⟨⟨c0,c1,c2,c3,c4,c5⟩,-,ci⟩:=(hh.st.1.1.1).c6;have hJ:=hh.j;clear hh;go_simp;exact⟨_,rfl,bR,rfl,hJ.o⟩
 have h5:=hh.o 5 (v:=.int .i64 U) rfl;rotate_left;have h28:=rq (hh.d 11 28);have Ag:=rq (hh.d 12 29);rotate_left;have h2:=hh.p 2 w.heap.size 0;rotate_left
 ·have h31:=rq (hh.d 14 31);obtain⟨⟨c0,c1,c2,c3,c4,c5⟩,-,ci⟩:=(hh.st.1.1.1).c6;have hJ:=hh.j;clear hh;go_simp;exact⟨_,rfl,bR,rfl,hJ.o⟩
 have h6:=hh.o 6 (v:=.int .i64 V) rfl;rotate_left;have h32:=rq (hh.d 15 32);have Qw:=rq (hh.d 16 33);rotate_left;have h30:=rq (hh.d 13 30);have UY:=rq (hh.d 17 34);rotate_left
 ·have h35:=rq (hh.d 18 35);have:=True.intro;have hJ:=hh.j;clear hh;go_simp;refine(HW2.o w1).mono ?_;rintro e w9 ⟨rfl,aU⟩;exact⟨_,rfl,aU.mono hJ.o.1.2.1,rfl,JS.below hJ.o aU⟩
 have EJ:=rq (hh.d 9 26);have UX:=rq (hh.d 19 36);rotate_left
 ·have h4:=hh.o 4 (v:=.pointer (some ⟨w.heap.size+1+1,0,none⟩)) rfl;have h37:=rq (hh.d 20 37);have hB:=hh.st.2.2;rw[hh.un] at hB;obtain⟨⟨c0,c1⟩,⟨f0,f1⟩,ci⟩:=(show ax w1 (w.heap.size+1+1) [.int .i64 0,.int .i64 0] from hB).c2;have hP:=Hd (JS.put hh.st rfl hh.un);clear hh hB;go_simp;exact⟨hP.o.2,⟨undef,trivial⟩,hP.o.1⟩
 any_goals (have hJ:=hh.j;clear hh;go_simp;exact⟨_,rfl,bR,rfl,hJ.o⟩)
 intro L w2 val hL hJ hR hv;have hB2:=hJ.2.2;rw[hL 21 (by decide)] at hB2;have Jn:=Hd (show ax w2 (w.heap.size+1+1) [.int .i64 z1,.int .i64 z2] from hB2);have bP:=Hd hJ.1.1;clear hB2;have HR2:=Hd hR;clear hv hL hJ hR;simp only[regs.aA,List.map_cons,List.map_nil];generalize val 17=v17;generalize val 18=v18;generalize val 19=v19;generalize val 20=v20;generalize val 21=v21;generalize val 22=v22;generalize val 23=v23;generalize val 24=v24;generalize val 25=v25;generalize val 26=v26;generalize val 27=v27;generalize val 28=v28;generalize val 29=v29;generalize val 30=v30
 generalize val 31=v31;generalize val 32=v32;generalize val 33=v33;generalize val 34=v34;generalize val 35=v35;generalize val 36=v36;generalize val 37=v37;simp only[Act.put,List.setIfInBounds_toArray,List.set_cons_zero,List.set_cons_succ];have B2:=Hd (HB.o.trans HR2.o);clear HB HR2 bP HJS;go_wp2_with (fail);exact bD rfl rfl Jn.o underlying66 rfl (by kernel_rfl) ⟨rfl,B2.o⟩
end
section
section
open Go.RowKit fK fZ aB Go.Maps
structure Cl where
 b:Mp
 r:Bx
 deriving DecidableEq
def Cl.cs(c:Cl):List Value:=[.int .i64 c.b.a,.int .i64 c.b.b,.int .i64 c.b.c,.int .i64 c.b.d,.int .i64 c.b.e,.int .i64 c.b.f,.int .i64 c.r.a,.int .i64 c.r.b,.int .i64 c.r.c,.int .i64 c.r.d]
theorem Cl.one(c:Cl):c.cs.all (·.oneCell')=true:=rfl
theorem Cl.aZ(c:Cl):c.cs.length=10:=rfl
structure It where
 i:Int
 w:Mp
 b:Mp
 c:List Cl
 o:Nat
 lk:Lk
structure gQ where
 it:It
 Ac:Option Addr
 cc:Nat
 A:Option Addr
 c:Nat
def gQ.cs(q:gQ):List Value:=[.int .i64 q.it.i,.int .i64 q.it.w.a,.int .i64 q.it.w.b,.int .i64 q.it.w.c,.int .i64 q.it.w.d,.int .i64 q.it.w.e,.int .i64 q.it.w.f,.int .i64 q.it.b.a,.int .i64 q.it.b.b,.int .i64 q.it.b.c,.int .i64 q.it.b.d,.int .i64 q.it.b.e,.int .i64 q.it.b.f,.slice q.Ac q.it.c.length q.cc,.int .i64 (q.it.o:Nat),
 .int .i64 q.it.lk.k,.int .i64 q.it.lk.W,.int .i64 q.it.lk.H,.int .u32 (q.it.lk.p:Nat),.int .i64 q.it.lk.iw,.int .i64 q.it.lk.ih,.slice q.A q.it.lk.l.length q.c]
theorem gQ.aZ(q:gQ):q.cs.length=22:=rfl
theorem gQ.one(q:gQ):q.cs.all (·.oneCell')=true:=rfl
structure It.Ok(q:It):Prop where
 b:q.b.right=true
 c:∀c∈q.c,c.b.right=true
 few:q.c.length<=2000
 o:q.o<256
 lk:yg q.lk.k q.lk.W q.lk.H q.lk.p q.lk.iw q.lk.ih q.lk.l=0
 l:q.lk.l.length<=300
 p:q.lk.p<4294967296
 z:∀z∈q.lk.l,z<4294967296
structure ou(w:World)(q:gQ):Prop where
 ru:aS 10 Cl.cs w q.Ac q.it.c
 px:Row eW w q.A q.it.lk.l
theorem ou.below{w w':World}{q:gQ}(h:ou w q)(hb:bz w w'):ou w' q:=⟨aS.below h.ru hb,Row.below h.px hb⟩
def Ot(x y:Int):Pt:=⟨x*65536+32768,y*65536+32768⟩
def plc(b:Mp)(x y:Int):Int×Int:=((b.from_ (Ot x y)).x / 65536,(b.from_ (Ot x y)).y / 65536)
def Cl.has(c:Cl)(x y:Int):Bool:=c.r.has (plc c.b x y).1 (plc c.b x y).2
def It.free(q:It)(x y:Int):Bool:=q.c.all fun c=>c.has x y
def Lk.sz(q:Lk):Int×Int:=(qA q.k q.W q.iw,qA q.k q.H q.ih)
def It.covers(q:It)(x y:Int):Bool:=(Cl.mk q.b (Bx.nrm ⟨0,0,q.lk.sz.1,q.lk.sz.2⟩)).has x y&&q.free x y
def It.at_(q:It)(x y:Int):Nat:=if q.free x y=true then ((wL (EC q.lk.k q.lk.W q.lk.H q.lk.p q.lk.iw q.lk.ih q.lk.l (plc q.b x y).1 (plc q.b x y).2)).times q.o).num else 0
end
section
open Go.RowKit fK fZ aB Go.Maps
theorem U0{t:T}{i:Int}{f:Int->List Int}(hf:∀k,k∈kids t i->∀pre x post,f k=pre++x::post->x=k∨par t x∈pre)(hk:∀k∈kids t i,par t k=i) :
  ∀(l:List Int),(∀k∈l,k∈kids t i)->∀pre x post,l.flatMap f=pre++x::post->par t x=i∨par t x∈pre:=by
 intro l
 induction l with
 | nil=>intro _ pre x post h;simp at h
 | cons k l ih=>
  intro hl pre x post h;rw[List.flatMap_cons] at h;have ih:=ih fun y hy=>hl y (List.mem_cons_of_mem _ hy);have hkk:=hl k List.mem_cons_self;rcases List.append_eq_append_iff.1 h with ⟨a,h1,h2⟩|⟨c,h1,h2⟩
  ·rcases ih a x post h2 with h3|h3
   ·exact .inl h3
   ·exact .inr (by rw[h1];exact List.mem_append_right _ h3)
  ·cases c with
   | nil=>
    rw[List.append_nil] at h1;rcases ih [] x post (by simpa using h2.symm) with h3|h3
    ·exact .inl h3
    ·cases h3
   | cons y c=>
    rw[List.cons_append] at h2
    injection h2 with h2 h3
    subst h2;rcases hf k hkk pre x c h1 with h4|h4
    ·rw[h4];exact .inl (hk k hkk)
    ·exact .inr h4
theorem CU{t:T}(ok:Ok t):∀(n:Nat) (i:Int) (pre:List Int) (x:Int) (post:List Int),jk t n i=pre++x::post->x=i∨par t x∈pre
 | 0,i,pre,x,post,h=>by rw[jk] at h;simp at h
 | n+1,i,pre,x,post,h=>by
  rw[jk] at h;cases pre with
  | nil=>
   rw[List.nil_append] at h
   injection h with h _
   exact .inl h.symm
  | cons y pre=>
   rw[List.cons_append] at h
   injection h with h1 h2
   subst h1;rcases U0 (fun k _=>CU ok n k) (fun k hk=>(ok.kid hk).2) _ (fun _ h=>h) pre x post h2 with h3|h3
   ·exact .inr (by rw[h3];exact List.mem_cons_self)
   ·exact .inr (List.mem_cons_of_mem _ h3)
theorem Tm{t:T}(ok:Ok t){k:Nat}(hk:k<(aB.walk t 0).length):(aB.walk t 0)[k]=0∨par t (aB.walk t 0)[k]∈(aB.walk t 0).take k:=
 CU ok _ 0 _ _ ((aB.walk t 0).drop (k+1)) (by
  show aB.walk t 0=_
  rw[← List.drop_eq_getElem_cons hk,List.take_append_drop])
structure Dn where
 b:Mp
 o:Nat
 c:List Cl
 deriving DecidableEq
def Dn.top:Dn:=⟨Mp.o,255,[]⟩
def Dn.to(d:Dn)(n:Nd)(w:Mp):Dn:=⟨w.back.1,jH d.o n.op.toNat,if n.cl=true then ⟨w.back.1,n.r⟩::d.c else d.c⟩
def Dn.ok(d:Dn)(n:Nd)(w:Mp):Bool:=!n.hi&&(decide (w.back.2=0)&&decide (¬jH d.o n.op.toNat=0))
def Dn.step(n:Nd)(w:Mp)(d:Option Dn):Option Dn:=d.bind fun d=>if d.ok n w=true then some (d.to n w) else none
def bK(x:aJ)(i:Int):Option Dn:=(line x.t i).foldr (fun j d=>Dn.step (x.nd j) (x.ws j) d) (Dn.step (x.nd 0) (x.ws 0) (some Dn.top))
theorem uJ(x:aJ):bK x 0=Dn.step (x.nd 0) (x.ws 0) (some Dn.top):=by unfold bK;rw[lM];rfl
theorem mW{x:aJ}(ok:Ok x.t){i:Int}(hi:i∈ids x.t):bK x i=Dn.step (x.nd i) (x.ws i) (bK x (par x.t i)):=by
 unfold bK;rw[dR ok hi];rfl
theorem NI{n:Nd}(h:n.chk=0):n.op.toNat<256∧n.op=(n.op.toNat:Nat):=by
 have:=(kH h).2.1;omega
def dB(x:aJ)(i:Int):Option It:=(bK x i).bind fun d=>if (x.nd i).lk.k=0 then none else some ⟨i,x.ws i,d.b,d.c.reverse,d.o,(x.nd i).lk⟩
def items(x:aJ):List It:=(aB.walk x.t 0).filterMap (dB x)
theorem pU{α β:Type}(f:α->Option β){l:List α}{k:Nat}(hk:k<l.length):(l.take (k+1)).filterMap f=(l.take k).filterMap f++(f l[k]).toList:=by
 rw[List.take_succ_eq_append_getElem hk,List.filterMap_append]
 congr 1
end
section
open Go.RowKit fK fZ aB Go.Maps
def Ug(n:Int):Prop:=-1048576<=n∧n<=1048576
theorem zS(n:Int)(w:World)(h:Ug n):Calls prog 32 #[.int .i64 n] w fun e w'=>e=.returned (.int .i64 (n*65536+32768))∧bz w w':=by
 obtain⟨h1,h2⟩:=h
 obtain⟨z,hz⟩:∃z,n*65536=z:=⟨_,rfl⟩
 have v1:IntKind.i64.wrap z=z:=IntWalk.i64_in _ (by omega);have v2:IntKind.i64.wrap (z+32768)=z+32768:=IntWalk.i64_in _ (by omega);have v3:wrap64 (z+32768)=z+32768:=IntWalk.wrap64_in _ (by omega);have b1:-68719476736<=z∧z<=68719476736:=by omega
 rw[hz];clear h1 h2;go_enter func32,ntmps32;go_wp2_with (fail);go_ret;exact⟨rfl,bR⟩
theorem We(p:Pt)(w:World):(Instr.build 66 #[(0,.int .i64 p.x),(1,.int .i64 p.y)]).run prog w=.ok (.agg p.cs.toArray) w:=by kernel_rfl
theorem sH(x y:Int)(w:World)(hx:Ug x)(hy:Ug y):Calls prog 11 #[.int .i64 x,.int .i64 y] w fun e w'=>e=.returned (.agg (Ot x y).cs.toArray)∧bz w w':=by
 have H1:=Hd (fun w=>zS x w hx);have H2:=Hd (fun w=>zS y w hy);unfold Ot Pt.cs;simp only;generalize x*65536+32768=u at *;generalize y*65536+32768=v at *;clear hx hy;go_enter func11,ntmps11;go_wp2_with (fail);refine(H1.o _).mono ?_;rintro e w1 ⟨rfl,hb⟩;have HB1:Hid (bz w w1):=(bR.alloc nR _).trans (hb.mono (by simp));have gY:Hid (ax w1 w.heap.size [.int .i64 0,.int .i64 0]):=(ay w [.int .i64 0,.int .i64 0] _).below hb (by simp);clear hb H1;go_wp2_with (fail);refine(H2.o _).mono ?_;rintro e w2 ⟨rfl,hb⟩
 have HB2:=Hd (HB1.o.trans (hb.mono HB1.o.size));have bP:=Hd (gY.o.below' hb);clear hb H2 HB1 gY;obtain⟨⟨c0,c1⟩,⟨f0,f1⟩,ci⟩:=bP.o.c2;go_wp2_with (fail);exact bD rfl rfl (bP.o.PK _ _) underlying66 rfl (by kernel_rfl) ⟨rfl,below2 HB2.o nR _ _⟩
def ptB(p:Pt):Prop:=(-4611686018427387904<=p.x∧p.x<=4611686018427387904)∧(-4611686018427387904<=p.y∧p.y<=4611686018427387904)
theorem Ai(p:Pt)(w:World)(h:ptB p):Calls prog 35 #[.agg p.cs.toArray] w fun e w'=>e=.returned (.tuple #[.int .i64 (p.x / 65536),.int .i64 (p.y / 65536)])∧bz w w':=by
 have H1:Hid (∀w,Calls prog 74 #[.int .i64 p.x] w fun e w'=>e=.returned (.int .i64 (p.x / 65536))∧bz w w'):=fun w=>pX (Dq p.x w h.1.1 h.1.2);have H2:Hid (∀w,Calls prog 74 #[.int .i64 p.y] w fun e w'=>e=.returned (.int .i64 (p.y / 65536))∧bz w w'):=fun w=>pX (Dq p.y w h.2.1 h.2.2);have HB0:Hid (bz w (w.alloc (.cells p.cs.toArray 66))):=bR.alloc nR _;have sQ:Hid (ax (w.alloc (.cells p.cs.toArray 66)) w.heap.size p.cs):=ay w p.cs _;generalize p.x / 65536=u at *
 generalize p.y / 65536=v at *;clear h;go_enter func35,ntmps35
 go_upto_region 1 with (fail)
 generalize (w.alloc (.cells p.cs.toArray 66))=w0 at *;have F1:Hid (∀W,bz w0 W->ax W w.heap.size p.cs):=fun W hb=>sQ.o.below' hb
 refine Gs [4,5,6,7,8,9,2,3] (fun i=>match i with
  |0=>rp w.heap.size 0
  |1=>rV (.int .i64 p.x)
  |2|6=>rV (.int .i64 u)
  |3=>rp w.heap.size 1
  |4=>rV (.int .i64 p.y)
  |5|7=>rV (.int .i64 v)
  | _=>ra) ⟨?_,?_,?_,?_,?_,?_,?_,?_,trivial⟩ ?_
 any_goals (first|refine zp fun L a w1 hh=>?_|fail)
 have h1:=hh.p 1 w.heap.size 0;have i0:=(F1.o _ hh.rel).inside;rotate_left;have h4:=rq (hh.d 0 4);have ⟨c0,i0⟩:=(F1.o _ hh.rel).ci 0 rfl;rotate_left
 ·have h5:=rq (hh.d 1 5);have hC:=Hd (H1.o w1);have hJ:=hh.j;clear hh;go_simp;refine hC.o.mono ?_;rintro e w9 ⟨rfl,aU⟩;exact⟨_,rfl,aU,rfl,hJ.o⟩
 have h1:=hh.p 1 w.heap.size 0;have i0:=(F1.o _ hh.rel).inside;rotate_left;have h7:=rq (hh.d 3 7);have ⟨c0,i0⟩:=(F1.o _ hh.rel).ci 1 rfl;rotate_left
 ·have h8:=rq (hh.d 4 8);have hC:=Hd (H2.o w1);have hJ:=hh.j;clear hh;go_simp;refine hC.o.mono ?_;rintro e w9 ⟨rfl,aU⟩;exact⟨_,rfl,aU,rfl,hJ.o⟩
 have h6:=rq (hh.d 2 6);rotate_left;have h9:=rq (hh.d 5 9);rotate_left
 any_goals (clear hh;go_simp;exact⟨_,rfl,rB,rfl,trivial⟩)
 intro L w2 val hL hJ hR hv;have h2:val 2=.int .i64 u:=hv 6 2 (by kernel_rfl);have h3:val 3=.int .i64 v:=hv 7 3 (by kernel_rfl);have HR2:=Hd hR;clear hv hL hJ hR;simp only[regs.aA,List.map_cons,List.map_nil,h2,h3];simp only[Act.put,List.setIfInBounds_toArray,List.set_cons_zero,List.set_cons_succ];clear h2 h3
 skip
 go_wp2_with (fail);go_ret2;exact⟨rfl,HB0.o.trans (HR2.o.mono HB0.o.size)⟩
def Cl.dZ(c:Cl)(p:Pt):Bool:=c.r.has ((c.b.from_ p).x / 65536) ((c.b.from_ p).y / 65536)
theorem TP{n:Int}(h1:-9223372036854775808<=n)(h2:n<=9223372036854775807):-4611686018427387904<=nH n 65536∧nH n 65536<=4611686018427387904:=by
 unfold nH;split<;>omega
theorem Io{b:Mp}{p:Pt}(h:lT b p):ptB (b.from_ p):=by
 obtain⟨hr,hx,hy⟩:=h;obtain⟨ra,rb,rc,rd,re,rf⟩:=tX hr;have bu:-3221225472<=p.x - b.e∧p.x - b.e<=3221225472:=by omega
 have bv:-3221225472<=p.y - b.f∧p.y - b.f<=3221225472:=by omega
 have p1:=kE ra.1 ra.2 bu.1 bu.2;have p2:=kE rc.1 rc.2 bv.1 bv.2;have p3:=kE rb.1 rb.2 bu.1 bu.2;have p4:=kE rd.1 rd.2 bv.1 bv.2;unfold ptB Mp.from_;simp only;generalize p.x - b.e=u at *;generalize p.y - b.f=v at *;generalize b.a*u=q1 at *;generalize b.c*v=q2 at *;generalize b.b*u=q3 at *;generalize b.d*v=q4 at *;exact⟨TP (by omega) (by omega),TP (by omega) (by omega)⟩
theorem VY{b:Mp}(hb:b.right=true){x y:Int}(hx:-32768<=x∧x<=32767)(hy:-32768<=y∧y<=32767):lT b (Ot x y):=by
 refine⟨hb,?_,?_⟩
 ·show -2147483648<=x*65536+32768∧x*65536+32768<=2147483648;omega
 ·show -2147483648<=y*65536+32768∧y*65536+32768<=2147483648;omega
theorem IQ(c:Cl)(p:Pt)(w:World)(h:lT c.b p):Calls prog 46 #[.agg c.cs.toArray,.agg p.cs.toArray] w fun e w'=>e=.returned (.bool (c.dZ p))∧bz w w':=by
 have H1:Hid (∀w,Calls prog 36 #[.agg c.b.cs.toArray,.agg p.cs.toArray] w fun e w'=>e=.returned (.agg (c.b.from_ p).cs.toArray)∧bz w w'):=fun w=>NQ c.b p w h;have H2:Hid (∀w,Calls prog 35 #[.agg (c.b.from_ p).cs.toArray] w fun e w'=>e=.returned (.tuple #[.int .i64 ((c.b.from_ p).x / 65536),.int .i64 ((c.b.from_ p).y / 65536)])∧bz w w'):=fun w=>Ai _ w (Io h)
 have H3:Hid (∀w,Calls prog 73 #[.agg c.r.cs.toArray,.int .i64 ((c.b.from_ p).x / 65536),.int .i64 ((c.b.from_ p).y / 65536)] w fun e w'=>e=.returned (.bool (c.dZ p))∧bz w w'):=fun w=>LC c.r _ _ w;have HB0:Hid (bz w ((w.alloc (.cells c.cs.toArray 122)).alloc (.cells p.cs.toArray 66))):=(bR.alloc nR _).alloc (by simp) _;have gY:Hid (ax ((w.alloc (.cells c.cs.toArray 122)).alloc (.cells p.cs.toArray 66)) w.heap.size c.cs):=(ay w c.cs _).alloc _
 have bP:Hid (ax ((w.alloc (.cells c.cs.toArray 122)).alloc (.cells p.cs.toArray 66)) (w.heap.size+1) p.cs):=aN (w.alloc _) _ (by simp) p.cs _;generalize c.dZ p=r at *;generalize (c.b.from_ p).x / 65536=u at *;generalize (c.b.from_ p).y / 65536=v at *;clear h;go_enter func46,ntmps46
 go_upto_region 1 with (fail)
 generalize ((w.alloc (.cells c.cs.toArray 122)).alloc (.cells p.cs.toArray 66))=w0 at *;have F1:Hid (∀W,bz w0 W->ax W w.heap.size c.cs):=fun W hb=>gY.o.below' hb;have F2:Hid (∀W,bz w0 W->ax W (w.heap.size+1) p.cs):=fun W hb=>bP.o.below' hb
 refine Gs [5,6,7,8,9,10,11,12,13,14,4] (fun i=>match i with
  |0=>rp w.heap.size 6
  |1=>rV (.agg (c.r.cs).toArray)
  |2=>rp w.heap.size 0
  |3=>rV (.agg (c.b.cs).toArray)
  |4=>rV (.agg (p.cs).toArray)
  |5=>rV (.agg ((c.b.from_ p).cs).toArray)
  |6=>rV (.tuple #[.int .i64 u,.int .i64 v])
  |7=>rV (.int .i64 u)
  |8=>rV (.int .i64 v)
  |9|10=>rV (.bool r)
  | _=>ra) ⟨?_,?_,?_,?_,?_,?_,?_,?_,?_,?_,?_,trivial⟩ ?_
 any_goals (first|refine zp fun L a w1 hh=>?_|fail)
 have h2:=hh.p 2 w.heap.size 0;have i0:=(F1.o _ hh.rel).inside;rotate_left
 ·have h5:=rq (hh.d 0 5);have hB:=Hd (F1.o _ hh.rel);have hJ:=Hd hh.st;exact aI 75 _ rfl w.heap.size 6 (by simpa[go_sem] using h5) _ hB.o (c.r.cs) rfl _ underlying75 rfl (by kernel_rfl) ⟨_,rfl,rB,rfl,hJ.o⟩
 have h2:=hh.p 2 w.heap.size 0;have i0:=(F1.o _ hh.rel).inside;rotate_left
 ·have h7:=rq (hh.d 2 7);have hB:=Hd (F1.o _ hh.rel);have hJ:=Hd hh.st;exact aI 41 _ rfl w.heap.size 0 (by simpa[go_sem] using h7) _ hB.o (c.b.cs) rfl _ underlying41 rfl (by kernel_rfl) ⟨_,rfl,rB,rfl,hJ.o⟩
 ·have h3:=hh.p 3 ((w.heap.size+1)) 0;have hB:=Hd (F2.o _ hh.rel);have hJ:=Hd hh.st;exact aI 66 _ rfl (w.heap.size+1) 0 (by simpa[go_sem] using h3) _ hB.o (p.cs) rfl _ underlying66 rfl (by kernel_rfl) ⟨_,rfl,rB,rfl,hJ.o⟩
 ·have h8:=rq (hh.d 3 8);have h9:=rq (hh.d 4 9);have hC:=Hd (H1.o w1);have hJ:=hh.j;clear hh;go_simp;refine hC.o.mono ?_;rintro e w9 ⟨rfl,aU⟩;exact⟨_,rfl,aU,rfl,hJ.o⟩
 ·have h10:=rq (hh.d 5 10);have hC:=Hd (H2.o w1);have hJ:=hh.j;clear hh;go_simp;refine hC.o.mono ?_;rintro e w9 ⟨rfl,aU⟩;exact⟨_,rfl,aU,rfl,hJ.o⟩
 have h11:=rq (hh.d 6 11);rotate_left;have h11:=rq (hh.d 6 11);rotate_left
 ·have h6:=rq (hh.d 1 6);have h12:=rq (hh.d 7 12);have h13:=rq (hh.d 8 13);have hC:=Hd (H3.o w1);have hJ:=hh.j;clear hh;go_simp;refine hC.o.mono ?_;rintro e w9 ⟨rfl,aU⟩;exact⟨_,rfl,aU,rfl,hJ.o⟩
 have yh:=rq (hh.d 9 14);rotate_left
 any_goals (clear hh;go_simp;exact⟨_,rfl,rB,rfl,trivial⟩)
 intro L w2 val hL hJ hR hv;have h4:val 4=.bool r:=hv 10 4 (by kernel_rfl);have HR2:=Hd hR;clear hv hL hJ hR;simp only[regs.aA,List.map_cons,List.map_nil,h4];simp only[Act.put,List.setIfInBounds_toArray,List.set_cons_zero,List.set_cons_succ];clear h4
 skip
 go_wp2_with (fail);go_ret;exact⟨rfl,HB0.o.trans (HR2.o.mono HB0.o.size)⟩
theorem H9(c:Cl)(p:Pt)(pb:Nat)(w:World)(h:lT c.b p)(hp:ax w pb p.cs):Calls prog 71 #[.agg c.cs.toArray,.pointer (some ⟨pb,0,none⟩)] w fun e w'=>e=.returned (.bool (!c.dZ p))∧bz w w':=by
 have HC:=Hd (fun w=>IQ c p w h);have HB0:Hid (bz w (w.alloc (.cells c.cs.toArray 122))):=bR.alloc nR _;have gY:Hid (ax (w.alloc (.cells c.cs.toArray 122)) w.heap.size c.cs):=ay w c.cs _;have bP:Hid (ax (w.alloc (.cells c.cs.toArray 122)) pb p.cs):=hp.alloc _;generalize c.dZ p=r at *;clear h hp;go_enter func71,ntmps71
 go_upto_region 1 with (fail)
 generalize (w.alloc (.cells c.cs.toArray 122))=w0 at *;have i1:=gY.o.inside;have i2:=bP.o.inside;go_wp2_with (first|(with_reducible refine gL ?_;first|(refine wt 122 0 rfl rfl rfl gY.o (c.cs) rfl underlying122 rfl ?_)|(refine wt 66 0 rfl rfl rfl bP.o (p.cs) rfl underlying66 rfl ?_)));refine(HC.o _).mono ?_;rintro e w1 ⟨rfl,hb⟩;have HB1:=Hd (HB0.o.trans (hb.mono HB0.o.size));clear hb HC;go_wp2_with (fail);go_ret;exact⟨rfl,HB1.o⟩
theorem Au:Enters prog 71:=enters_of func71 (by kernel_rfl) rfl
theorem KL(l:List Cl)(A:Option Addr)(cc:Nat)(p:Pt)(pb:Nat)(w:World)(hl:∀c∈l,c.b.right=true)(hn:l.length<=2000)(hp:ax w pb p.cs)(hr:aS 10 Cl.cs w A l)(hok:∀b:Mp,b.right=true->lT b p) :
  Calls prog 101 #[.slice A l.length cc,.func (.func 71) #[] #[.pointer (some ⟨pb,0,none⟩)]] w fun e w'=>∃z:Int,e=.returned (.int .i64 z)∧decide (0<=z)=!(l.all fun c=>c.dZ p)∧bz w w':=by
 have he':∀(args:Array Value) (w:World),(callFunc 71 args).run prog w=.ok (.enter 71 args) w:=Au;have HP:=Hd hp;have HL:=Hd hl;have HR:=Hd hr;have HK:=Hd hok;have HN:=Hd hn;clear hp hl hr hok hn;go_enter func101,ntmps101;go_wp2_with (fail)
 go_loopw [8] (fun i wr=>∃k:Nat,k<=l.length∧i=.int .i64 k∧Hid ((l.take k).all (fun c=>c.dZ p)=true)∧Hid (bz w wr)) (fun i _=>l.length - (intOf i).toNat)
 case atStart=>exact⟨0,Nat.zero_le _,rfl,rfl,bR⟩
 case round=>
  obtain⟨k,hk,rfl,HT,HB⟩:=hrel;generalize wr=wA at *;by_cases hlt:k<l.length
  ·have t1:decide (k<l.length)=true:=decide_eq_true hlt;have eU:=Hd hlt
   obtain⟨lb,lo,rA,hcell⟩:=(aS.below HR.o HB.o) (by omega)
   subst rA
   obtain⟨c,hc⟩:∃c,c=l[k]'hlt:=⟨_,rfl⟩
   have qX:Hid (wA.rangeAt lb (lo+k*10) c.cs):=by
    rw[hc];exact fun i v hv=>hcell k hlt i v hv
   have Fv:Hid (lT c.b p):=HK.o _ (HL.o c (by rw[hc];exact List.getElem_mem hlt))
   have rD:Hid ((l.take (k+1)).all (fun c=>c.dZ p)=c.dZ p):=by
    show _=_;rw[List.take_succ_eq_append_getElem hlt,List.all_append,HT.o,← hc];simp
   have HAL:Hid (c.dZ p=false->(l.all fun c=>c.dZ p)=false):=fun e=>by
    rw[Bool.eq_false_iff];intro h;rw[List.all_eq_true.1 h c (by rw[hc];exact List.getElem_mem hlt)] at e;cases e
   have c0:=qX.o 0 (.int .i64 c.b.a) rfl;have i0:lb<wA.heap.size:=World.block_lt_of_cell? wA ⟨lb,_,none⟩ c0;have hjb:(k:Int)<=2000:=by have:=HN.o;omega
   have HC:=Hd (H9 c p pb wA Fv.o (HP.o.below' HB.o));clear c0 hcell hc hlt;go_wp2_with ((with_reducible refine gL ?_);refine oH 122 _ rfl rfl _ _ rfl (c.cs) qX.o _ underlying122 rfl (by kernel_rfl) ?_);refine HC.o.mono ?_;rintro e w2 ⟨rfl,hb⟩;have HB2:=Hd (HB.o.trans (hb.mono HB.o.size));clear hb HC HB i0;cases hcp:c.dZ p with
   | true=>
    rw[hcp] at rD;go_wp2_with (fail)
    go_roundw
    case rel=>exact⟨k+1,eU.o,by go_num,rD,HB2⟩
    case measure=>have:=eU.o;simp[intOf];omega
   | false=>
    go_wp2_with (fail);go_ret;exact⟨k,rfl,by rw[HAL.o hcp];simp,HB2.o⟩
  ·obtain rfl:k=l.length:=by omega
   have t1:decide (l.length<l.length)=false:=by simp
   have HT2:=Hd HT.o;rw[List.take_length] at HT2;go_wp2_with (fail);go_ret;exact⟨-1,rfl,by rw[HT2.o];rfl,HB.o⟩
theorem Cf(l:List Cl)(A:Option Addr)(cc:Nat)(p:Pt)(pb:Nat)(w:World)(hl:∀c∈l,c.b.right=true)(hn:l.length<=2000)(hp:ax w pb p.cs)(hr:aS 10 Cl.cs w A l)(hok:∀b:Mp,b.right=true->lT b p) :
  Calls prog 70 #[.slice A l.length cc,.func (.func 71) #[] #[.pointer (some ⟨pb,0,none⟩)]] w fun e w'=>e=.returned (.bool (!(l.all fun c=>c.dZ p)))∧bz w w':=by
 have HC:=Hd (KL l A cc p pb w hl hn hp hr hok);clear hl hn hp hr hok;go_enter func70,ntmps70;go_wp2_with (fail);refine HC.o.mono ?_;rintro e w2 ⟨z,rfl,hz,hb⟩;have HB:=Hd hb;have HZ:=Hd hz;clear hz hb HC;go_wp2_with (fail);go_ret;exact⟨by rw[← HZ.o];rfl,HB.o⟩
end
end
end Go.Proofs.YtekdoeilpheklaaGreat
