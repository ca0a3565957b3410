import Derived.Test.YthmegninhpihkaaGreatWFlI
set_option maxHeartbeats 16000000
set_option maxRecDepth 100000
open Go.Proofs.Tryz
namespace Go.Proofs.YthmegninhpihkaaGreat
section
open Go.RowKit
theorem a00(n:Int):(n.tmod 65536<0->n / 65536=n.tdiv 65536 - 1∧n % 65536=n.tmod 65536+65536)∧(0<=n.tmod 65536->n / 65536=n.tdiv 65536∧n % 65536=n.tmod 65536)∧(-65536<n.tmod 65536∧n.tmod 65536<65536):=by
 have g1:=Int.emod_nonneg n (show(65536:Int)≠0 by omega);have g2:=Int.emod_lt_of_pos n (show(0:Int)<65536 by omega);have g3:=Int.tdiv_eq_ediv (a:=n) (b:=65536);have g4:=Int.tmod_eq_emod (a:=n) (b:=65536);have hs:(65536:Int).sign=1:=rfl;have hn:((65536:Int).natAbs:Int)=65536:=rfl;rw[hs]at g3
 have hdv:(65536 ∣ n)↔n % 65536=0:=⟨Int.emod_eq_zero_of_dvd,Int.dvd_of_emod_eq_zero⟩
 by_cases h:0<=n∨(65536:Int) ∣ n
 ·rw[if_pos h]at g3 g4;omega
 ·rw[if_neg h]at g3 g4;rw[hn]at g4;rw[hdv]at h;omega
theorem BC(n:Int)(w:World)(h1:-9223372036854710272<=n)(h2:n<=9223372036854710272) :
  Calls prog 45 #[.int .i64 n,.int .i64 65536] w fun e w'=>e=.returned (.int .i64 (n / 65536))∧w=w':=by
 obtain⟨a5,a6,a3,a4⟩:=a00 n;have hmul:n.tdiv 65536*65536+n.tmod 65536=n:=by rw[Int.mul_comm];exact Int.mul_tdiv_add_tmod n 65536
 by_cases hn:n.tmod 65536<0
 ·have HF:=Hd (a5 hn).1
  obtain⟨Q,hQ⟩:=aB (n.tdiv 65536)
  rw[hQ]at HF hmul;have b1:-140737488355329<=Q∧Q<=140737488355329:=by omega
  obtain⟨M,hM⟩:=aB (Q*65536)
  have hM2:(Q - 1)*65536=M - 65536:=by omega
  rw[hM]at hmul;have q3:wrap64 Q=Q:=IntWalk.wrap64_in _ (by omega);have q4:wrap64 M=M:=IntWalk.wrap64_in _ (by omega);have q5:wrap64 (Q - 1)=Q - 1:=IntWalk.wrap64_in _ (by omega);have q6:wrap64 (M - 65536)=M - 65536:=IntWalk.wrap64_in _ (by omega);have t1:decide (n<M)=true:=by simp;omega
  have t2:decide (n<M - 65536)=false:=by simp;omega
  obtain⟨b1,b2⟩:=b1;have b3:-9223372036854775808<=M∧M<=9223372036854775807:=by omega
  obtain⟨b3,b4⟩:=b3;clear a3 a4 a5 a6 hmul hn h1 h2;go_enter func45,ntmps45;go_wp2_with (fail)
  go_loop [5] (fun q=>q=.int .i64 Q∨q=.int .i64 (Q - 1)) (fun q=>(intOf q - (Q - 1)).toNat)
  case atStart=>exact .inl rfl
  case round=>
   rcases hrel with rfl|rfl
   ·go_wp2_with (fail)
    go_round
    case rel=>exact .inr rfl
    case measure=>simp[intOf];omega
   ·go_wp2_with (fail);go_ret;exact⟨aC HF.o.symm,rfl⟩
 ·have HF:=Hd (a6 (by omega)).1
  obtain⟨Q,hQ⟩:=aB (n.tdiv 65536)
  rw[hQ]at HF hmul;have b1:-140737488355329<=Q∧Q<=140737488355329:=by omega
  obtain⟨M,hM⟩:=aB (Q*65536)
  rw[hM]at hmul;have q3:wrap64 Q=Q:=IntWalk.wrap64_in _ (by omega);have q4:wrap64 M=M:=IntWalk.wrap64_in _ (by omega);have t1:decide (n<M)=false:=by simp;omega
  obtain⟨b1,b2⟩:=b1;have b3:-9223372036854775808<=M∧M<=9223372036854775807:=by omega
  obtain⟨b3,b4⟩:=b3;clear a3 a4 a5 a6 hmul hn h1 h2;go_enter func45,ntmps45;go_wp2_with (fail)
  go_loop [5] (fun q=>q=.int .i64 Q) (fun q=>0)
  case atStart=>rfl
  case round=>
   obtain rfl:=hrel;go_wp2_with (fail);go_ret;exact⟨aC HF.o.symm,rfl⟩
theorem Jg(n:Int)(w:World)(h1:-9223372036854710272<=n)(h2:n<=9223372036854710272) :
  Calls prog 42 #[.int .i64 n,.int .i64 65536] w (aX (.int .i64 (kS n 65536)) w):=by
 have HR:Hid (kS n 65536=if 65536 - n % 65536<=n % 65536 then n / 65536+1 else n / 65536):=rfl;have HD:=Hd (BC n w h1 h2);have g1:=Int.emod_nonneg n (show(65536:Int)≠0 by omega);have g2:=Int.emod_lt_of_pos n (show(0:Int)<65536 by omega);have g3:-140737488355329<=n / 65536∧n / 65536<=140737488355329:=by omega
 have hm:n - n / 65536*65536=n % 65536:=by omega
 generalize n / 65536=Q at*;generalize n % 65536=R at*
 obtain⟨M,hM⟩:=aB (Q*65536)
 rw[hM]at hm;have q4:wrap64 M=M:=IntWalk.wrap64_in _ (by omega);have q5:wrap64 (n - M)=R:=by rw[hm];exact IntWalk.wrap64_in _ (by omega)
 have q5':n - M=R:=hm;have q6:wrap64 (65536 - R)=65536 - R:=IntWalk.wrap64_in _ (by omega);obtain⟨g3,g4⟩:=g3;have b3:-9223372036854775808<=M∧M<=9223372036854775807:=by omega
 obtain⟨b3,b4⟩:=b3;clear hm h1 h2;go_enter func42,ntmps42;go_wp2_with (fail);refine HD.o.mono ?_;rintro e w' ⟨rfl,rfl⟩;by_cases t:65536 - R<=R
 ·have t1:decide (65536 - R<=R)=true:=by simpa using t
  rw[if_pos t]at HR;clear t;go_wp2_with (fail);go_ret;exact⟨aC HR.o.symm,bR⟩
 ·have t1:decide (65536 - R<=R)=false:=by simpa using t
  rw[if_neg t]at HR;clear t;go_wp2_with (fail);go_ret;exact⟨aC HR.o.symm,bR⟩
theorem U3(b:Mp)(p:Pt)(w:World)(h:mP b p):Calls prog 44 #[b.v,.int .i64 p.x,.int .i64 p.y] w (aX (.tuple #[.int .i64 (b.from_ p).x,.int .i64 (b.from_ p).y]) w):=by
 obtain⟨hr,hx,hy⟩:=h;obtain⟨ra,rb,rc,rd,re,rf⟩:=lY hr;clear hr;obtain⟨ka,kb,kc,kd,ke,kf⟩:=b;obtain⟨px,py⟩:=p;unfold Mp.from_;simp only at ra rb rc rd re rf hx hy ⊢
 obtain⟨U,hU⟩:=aB (px - ke)
 obtain⟨V,hV⟩:=aB (py - kf)
 rw[hU,hV];have bu:-3221225472<=U∧U<=3221225472:=by omega
 have bv:-3221225472<=V∧V<=3221225472:=by omega
 have p1:=eH ra.1 ra.2 bu.1 bu.2;have p2:=eH rc.1 rc.2 bv.1 bv.2;have p3:=eH rb.1 rb.2 bu.1 bu.2;have p4:=eH rd.1 rd.2 bv.1 bv.2;have u1:wrap64 U=U:=IntWalk.wrap64_in _ (by omega);have u2:wrap64 V=V:=IntWalk.wrap64_in _ (by omega);have u3:IntKind.i64.wrap U=U:=IntWalk.i64_in _ (by omega);have u4:IntKind.i64.wrap V=V:=IntWalk.i64_in _ (by omega)
 obtain⟨P1,hP1⟩:∃P,ka*U=P:=⟨_,rfl⟩
 obtain⟨P2,hP2⟩:∃P,kc*V=P:=⟨_,rfl⟩
 obtain⟨P3,hP3⟩:∃P,kb*U=P:=⟨_,rfl⟩
 obtain⟨P4,hP4⟩:∃P,kd*V=P:=⟨_,rfl⟩
 rw[hP1]at p1;rw[hP2]at p2;rw[hP3]at p3;rw[hP4]at p4;rw[hP1,hP2,hP3,hP4]
 obtain⟨S1,hS1⟩:∃S,P1+P2=S:=⟨_,rfl⟩
 obtain⟨S2,hS2⟩:∃S,P3+P4=S:=⟨_,rfl⟩
 rw[hS1,hS2];have s1:-6917529027641081856<=S1∧S1<=6917529027641081856:=by omega
 have s2:-6917529027641081856<=S2∧S2<=6917529027641081856:=by omega
 have v1:IntKind.i64.wrap P1=P1:=IntWalk.i64_in _ (by omega);have v2:IntKind.i64.wrap P2=P2:=IntWalk.i64_in _ (by omega);have v3:IntKind.i64.wrap P3=P3:=IntWalk.i64_in _ (by omega);have v4:IntKind.i64.wrap P4=P4:=IntWalk.i64_in _ (by omega);have v5:IntKind.i64.wrap S1=S1:=IntWalk.i64_in _ (by omega);have v6:IntKind.i64.wrap S2=S2:=IntWalk.i64_in _ (by omega);have HW1:=Hd (fun w=>Jg S1 w (by omega) (by omega));have HW2:=Hd (fun w=>Jg S2 w (by omega) (by omega));generalize kS S1 65536=z1 at*;generalize kS S2 65536=z2 at*;have HU:=Hd (And.intro u1 (And.intro u2 (And.intro hU hV)))
 clear ra rb rc rd re rf hx hy bu bv p1 p2 p3 p4 s1 s2;unfold Mp.v;simp only;go_enter func44,ntmps44;go_wp2_with (fail)
 go_quiet (fail)
 clear hU hV u1 u2 u3 u4;have HB:Hid (bz w ((w.alloc (.cells (Vh ka kb kc kd ke kf).toArray 38)).drewN nq)):=Below.drewN' (bR.alloc nR _) _
 have bm:Hid (og [(w.heap.size,(Vh ka kb kc kd ke kf))] ((w.alloc (.cells (Vh ka kb kc kd ke kf).toArray 38)).drewN nq)):=⟨(az w (Vh ka kb kc kd ke kf) _).drewN _,trivial⟩
 generalize ((w.alloc (.cells (Vh ka kb kc kd ke kf).toArray 38)).drewN nq)=W1 at*;clear HU;go_wp2_with (fail)
 refine wR (regs.bl) (fun _ wx=>og [(w.heap.size,(Vh ka kb kc kd ke kf))] wx) [18,19,20,21,22,23,24,25,26,27,28,29,30,31,32,33,34,35,36,37,6,7] (fun _=>regs.F9 _) (regs.Ju) (fun i=>match i with
  |0=>rp w.heap.size 0
  |1=>rV (.int .i64 ka)
  |2|12=>rV (.int .i64 U)
  |3=>rV (.int .i64 P1)
  |4=>rp w.heap.size 2
  |5=>rV (.int .i64 kc)
  |6|16=>rV (.int .i64 V)
  |7=>rV (.int .i64 P2)
  |8=>rV (.int .i64 S1)
  |9|20=>rV (.int .i64 z1)
  |10=>rp w.heap.size 1
  |11=>rV (.int .i64 kb)
  |13=>rV (.int .i64 P3)
  |14=>rp w.heap.size 3
  |15=>rV (.int .i64 kd)
  |17=>rV (.int .i64 P4)
  |18=>rV (.int .i64 S2)
  |19|21=>rV (.int .i64 z2)
  |_=>ra) (bR.drew) (bm.o) ⟨?_,?_,?_,?_,?_,?_,?_,?_,?_,?_,?_,?_,?_,?_,?_,?_,?_,?_,?_,?_,?_,?_,trivial⟩ ?_
 any_goals (first|refine zp fun L a w1 hh=>?_|fail)
 have h3:=hh.p 3 w.heap.size 0;rotate_left
 ·have h18:=rq (hh.d 0 18);obtain⟨⟨c0,c1,c2,c3,c4,c5⟩,-,ci⟩:=(hh.st.1).c6;have hJ:=hh.j;clear hh;go_simp;exact⟨_,rfl,rB,rfl,hJ.o⟩
 have h8:=hh.o 8 (v:=.int .i64 U) rfl;rotate_left;have h19:=rq (hh.d 1 19);have h20:=rq (hh.d 2 20);rotate_left;have h3:=hh.p 3 w.heap.size 0;rotate_left
 ·have h22:=rq (hh.d 4 22);obtain⟨⟨c0,c1,c2,c3,c4,c5⟩,-,ci⟩:=(hh.st.1).c6;have hJ:=hh.j;clear hh;go_simp;exact⟨_,rfl,rB,rfl,hJ.o⟩
 have h9:=hh.o 9 (v:=.int .i64 V) rfl;rotate_left;have h23:=rq (hh.d 5 23);have Ba:=rq (hh.d 6 24);rotate_left;have h21:=rq (hh.d 3 21);have Dj:=rq (hh.d 7 25);rotate_left
 ·have IZ:=rq (hh.d 8 26);have:=True.intro;have hJ:=hh.j;clear hh;go_simp;refine(HW1.o w1).mono ?_;rintro e w9 ⟨rfl,aY⟩;exact⟨_,rfl,aY,rfl,og.below hJ.o aY⟩
 have h3:=hh.p 3 w.heap.size 0;rotate_left
 ·have h28:=rq (hh.d 10 28);obtain⟨⟨c0,c1,c2,c3,c4,c5⟩,-,ci⟩:=(hh.st.1).c6;have hJ:=hh.j;clear hh;go_simp;exact⟨_,rfl,rB,rfl,hJ.o⟩
 have h8:=hh.o 8 (v:=.int .i64 U) rfl;rotate_left;have CS:=rq (hh.d 11 29);have h30:=rq (hh.d 12 30);rotate_left;have h3:=hh.p 3 w.heap.size 0;rotate_left
 ·have h32:=rq (hh.d 14 32);obtain⟨⟨c0,c1,c2,c3,c4,c5⟩,-,ci⟩:=(hh.st.1).c6;have hJ:=hh.j;clear hh;go_simp;exact⟨_,rfl,rB,rfl,hJ.o⟩
 have h9:=hh.o 9 (v:=.int .i64 V) rfl;rotate_left;have TG:=rq (hh.d 15 33);have V9:=rq (hh.d 16 34);rotate_left;have h31:=rq (hh.d 13 31);have h35:=rq (hh.d 17 35);rotate_left
 ·have TF:=rq (hh.d 18 36);have:=True.intro;have hJ:=hh.j;clear hh;go_simp;refine(HW2.o w1).mono ?_;rintro e w9 ⟨rfl,aY⟩;exact⟨_,rfl,aY,rfl,og.below hJ.o aY⟩
 have h27:=rq (hh.d 9 27);rotate_left;have h37:=rq (hh.d 19 37);rotate_left
 any_goals (have hJ:=hh.j;clear hh;go_simp;exact⟨_,rfl,rB,rfl,hJ.o⟩)
 intro L w2 val hL hJ hR hv;have h6:val 6=.int .i64 z1:=hv 20 6 ag;have h7:val 7=.int .i64 z2:=hv 21 7 ag;have dh:=Hd hJ;have HR2:=Hd hR;clear hv hL hJ hR;simp only[regs.aG,List.map_cons,List.map_nil];rw[h6,h7];generalize val 18=v18;generalize val 19=v19;generalize val 20=v20;generalize val 21=v21;generalize val 22=v22;generalize val 23=v23;generalize val 24=v24;generalize val 25=v25;generalize val 26=v26;generalize val 27=v27;generalize val 28=v28;generalize val 29=v29;generalize val 30=v30;generalize val 31=v31;generalize val 32=v32;generalize val 33=v33
 generalize val 34=v34;generalize val 35=v35;generalize val 36=v36;generalize val 37=v37;simp only[Act.put,List.setIfInBounds_toArray,List.set_cons_zero,List.set_cons_succ];clear h6 h7;have B2:=Hd (HB.o.trans (HR2.o.mono HB.o.size));clear HB HR2 dh;go_wp2_with (fail);go_ret2;exact⟨rfl,B2.o⟩
end
section
open Go.RowKit
def yH(Z:List Int)(t:List Value)(k:Nat):List Value:=(Z.take k).map eI++(List.replicate (Z.length - k) (eI 0)++t)
theorem Qz(Z:List Int)(t:List Value){k:Nat}(hk:k<Z.length):(yH Z t k).set k (eI Z[k])=yH Z t (k+1):=by
 unfold yH;have e:Z.length - k=(Z.length - (k+1))+1:=by omega
 rw[List.take_succ_eq_append_getElem hk,List.map_append,e,List.replicate_succ,List.set_append,if_neg (by simp[Nat.min_eq_left (Nat.le_of_lt hk)])];simp[Nat.min_eq_left (Nat.le_of_lt hk)]
theorem YM(Z:List Int)(t:List Value){k:Nat}(hk:k<Z.length):(yH Z t k)[k]?=some (.int .i64 0):=by
 unfold yH;rw[List.getElem?_append_right (by simp[Nat.min_eq_left (Nat.le_of_lt hk)]),List.getElem?_append_left (by simp[Nat.min_eq_left (Nat.le_of_lt hk)];omega)];simp only[List.length_map,List.length_take,Nat.min_eq_left (Nat.le_of_lt hk),Nat.sub_self,List.getElem?_replicate];rw[if_pos (by omega)];rfl
theorem UM(Z:List Int)(t:List Value){k:Nat}(hk:k<Z.length):(yH Z t (k+1))[k]?=some (.int .i64 Z[k]):=by
 unfold yH;rw[List.getElem?_append_left (by simp;omega),List.getElem?_map,List.getElem?_take_of_lt (Nat.lt_succ_self _),List.getElem?_eq_getElem hk];rfl
def Mp.l4b(m:Mp):List Int:=[m.d,-m.b,-m.c,m.a]
theorem a3W(m:Mp):m.bk.l4=m.l4b.map fun x=>Ai x m.GU:=rfl
theorem a1g(m:Mp)(w:World)(hr:m.right=true):Calls prog 18 #[m.v] w (aX (.tuple #[m.back.1.v,.int .i64 m.back.2]) w):=by
 have vP:Hid (m.back=if m.GU=0 then (Mp.o,43) else if dM m.bk.l4=true then (m.bk,0) else (Mp.o,35)):=by
  show _=_;unfold Mp.back;rw[if_neg (by rw[hr];decide)]
 obtain⟨ra,rb,rc,rd,re,rf⟩:=lY hr
 obtain⟨R,hR⟩:=aB m.back
 rw[hR]at vP ⊢;clear hR hr;obtain⟨RM,RE⟩:=R;have Ko:Hid (m.GU=m.a*m.d - m.b*m.c):=rfl
 obtain⟨Z,hZ⟩:=aB m.bk.l4
 obtain⟨L4,hL4⟩:∃L,m.l4b=L:=⟨_,rfl⟩
 have HLZ:Hid (L4.length=4∧Z.length=4):=by rw[←hZ,←hL4];exact⟨rfl,rfl⟩
 have HZ4:Hid (∀k (h:k<Z.length) (h':k<L4.length),Z[k]=Ai L4[k] m.GU):=by
  intro k h h';subst hZ;subst hL4;simp[a3W]
 have a2i:Hid (∀x∈L4,-1073741824<=x∧x<=1073741824):=by
  intro x hx;rw[←hL4]at hx;simp only[Mp.l4b,List.mem_cons,List.not_mem_nil,or_false]at hx;rcases hx with rfl|rfl|rfl|rfl<;>omega
 have PT:Hid (yH Z [.int .i64 m.e,.int .i64 m.f] 4=m.bk.cs):=by rw[←hZ];rfl
 have PU:Hid (yH Z [.int .i64 m.e,.int .i64 m.f] 0=[.int .i64 0,.int .i64 0,.int .i64 0,.int .i64 0,.int .i64 m.e,.int .i64 m.f]):=by rw[←hZ];rfl
 have mX:Hid (L4.map eI=(Vm m.d (-m.b) (-m.c) m.a)):=by rw[←hL4];rfl
 rw[hZ]at vP;clear hZ hL4;generalize m.GU=D at*;generalize m.bk=K at*;obtain⟨ka,kb,kc,kd,ke,kf⟩:=m;unfold Mp.v;simp only at ra rb rc rd re rf Ko PT PU mX ⊢;have Fz:=Ko.o;obtain⟨x1,x2⟩:=nI ra.1 ra.2 rd.1 rd.2;obtain⟨y1,y2⟩:=nI rb.1 rb.2 rc.1 rc.2
 obtain⟨X,hX⟩:=aB (ka*kd)
 obtain⟨Y,hY⟩:=aB (kb*kc)
 rw[hX,hY]at Fz;rw[hX]at x1 x2;rw[hY]at y1 y2;have q3:X - Y=D:=Fz.symm;have sJ:Hid (-2305843009213693952<=D∧D<=2305843009213693952):=by rw[Fz];show _∧_;omega
 obtain⟨d1,d2⟩:=sJ.o;obtain⟨rb1,rb2⟩:=rb;obtain⟨rc1,rc2⟩:=rc
 obtain⟨NB,hNB⟩:∃x,-kb=x:=⟨_,rfl⟩
 obtain⟨NC,hNC⟩:∃x,-kc=x:=⟨_,rfl⟩
 rw[hNB,hNC]at mX;have nb1:-1073741824<=NB∧NB<=1073741824:=by omega
 have nc1:-1073741824<=NC∧NC<=1073741824:=by omega
 obtain⟨nb1,nb2⟩:=nb1;obtain⟨nc1,nc2⟩:=nc1;clear Fz Ko ra rd re rf;by_cases hD:D=0
 ·have t:(D==0)=true:=by simpa using hD
  have hT:=vP.o.trans (if_pos hD)
  injection hT with h1 h2
  subst h1;subst h2;clear hD vP sJ HLZ HZ4 a2i PT PU mX;go_enter func18,ntmps18;go_wp2_with (fail);exact aK rfl rfl rfl (aW (w.alloc _) _ (by simp) Mp.o.cs _) underlying38 rfl ag ⟨rfl,(bR.alloc nR _).alloc (by simp) _⟩
 ·have t:(D==0)=false:=by simpa using hD
  have Gw:=Hd (vP.o.trans (if_neg hD));have HD0:=Hd hD;clear hD vP;go_enter func18,ntmps18;go_wp2_with (fail)
  go_loopw [7] (fun i wr=>∃k:Nat,k<=4∧i=.int .i64 k∧Hid (dM (Z.take k)=true)∧Hid (bz w wr)∧Hid (aA wr w.heap.size (Vh ka kb kc kd ke kf))∧Hid (aA wr (w.heap.size+1) Mp.o.cs)∧Hid (aA wr (w.heap.size+1+1) (L4.map eI))∧Hid (aA wr (w.heap.size+1+1+1) (yH Z [.int .i64 ke,.int .i64 kf] k))) (fun i _=>4 - (intOf i).toNat)
  case atStart=>
   refine⟨0,Nat.zero_le _,rfl,by simp[Hid,dM],?_,?_,?_,?_,?_⟩
   ·show Below _ _ _;refine Below.alloc (Below.alloc (Below.alloc (bR.alloc nR _) ?_ _) ?_ _) ?_ _
    all_goals simp only[World.size_alloc]
    all_goals omega
   ·exact(((az w (Vh ka kb kc kd ke kf) _).alloc _).alloc _).alloc _
   ·exact((aW (w.alloc _) _ (by simp) Mp.o.cs _).alloc _).alloc _
   ·rw[mX.o];exact(aW _ _ (by simp) (Vm kd NB NC ka) _).alloc _
   ·rw[PU.o];exact aW _ _ (by simp) [.int .i64 0,.int .i64 0,.int .i64 0,.int .i64 0,.int .i64 ke,.int .i64 kf] _
  case round=>
   obtain⟨k,hk,rfl,HK,HB,HM,HR,HL,HN⟩:=hrel;clear hX hY q3 x1 x2 y1 y2 hNB hNC rb1 rb2 rc1 rc2 nb1 nb2 nc1 nc2 PU mX;by_cases hlt:k<4
   ·have hkl:k<L4.length:=by rw[HLZ.o.1];exact hlt
    have hkz:k<Z.length:=by rw[HLZ.o.2];exact hlt
    have hc:=HL.o.at6 hkl;have H1:=Hd (rO HK.o hkz);have H0:=Hd (vI (l:=Z) hkz);have HS:=Hd (Qz Z [.int .i64 ke,.int .i64 kf] hkz);have a2L:=Hd (UM Z [.int .i64 ke,.int .i64 kf] hkz);have hz0:=(HN.o.cell k).trans (YM Z [.int .i64 ke,.int .i64 kf] hkz);have hzf:=HN.o.free k;obtain⟨b1,b2⟩:=a2i.o _ (List.getElem_mem hkl);rw[HZ4.o k hkz hkl]at H1 H0 HS a2L;generalize L4[k]=x at*
    obtain⟨N,hN⟩:=aB (x*4294967296)
    have n1:-4611686018427387904<=N∧N<=4611686018427387904:=by omega
    obtain⟨n1,n2⟩:=n1;have hl4:=HL.o.inside;have Zd:=HN.o.inside;clear HK hkl hkz;by_cases hneg:D<0
    ·clear t;have t2:decide (D<0)=true:=by simpa using hneg
     have HZ:Hid (Ai x D=kS (-N) (-D)):=by
      show _=_;unfold Ai;rw[if_pos hneg,show -x*4294967296=-N by omega]
     have hd0:D≠0:=HD0.o;have Dt:=Hd (fun w=>tK (-N) (-D) w (by omega) (by omega) (by omega) (by omega));rw[←HZ.o]at Dt
     obtain⟨NN,hNN⟩:∃x,-N=x:=⟨_,rfl⟩
     obtain⟨DD,hDD⟩:∃x,-D=x:=⟨_,rfl⟩
     rw[hNN,hDD]at Dt;have n3:-4611686018427387904<=NN∧NN<=4611686018427387904:=by omega
     have n4:-2305843009213693952<=DD∧DD<=2305843009213693952:=by omega
     obtain⟨n3,n5⟩:=n3;obtain⟨n4,n6⟩:=n4;clear hneg HZ hd0;generalize Ai x D=z at*;go_wp2_with (fail);refine(Dt.o _).mono ?_;rintro e2 w2 ⟨rfl,rfl⟩
     have bn:Hid (aA (wr.setCell ⟨w.heap.size+1+1+1,k,none⟩ (.int .i64 z)) (w.heap.size+1+1+1) (yH Z [.int .i64 ke,.int .i64 kf] (k+1))):=by
      show aA _ _ _;rw[←HS.o];exact HN.o.set k _
     have c0:(wr.setCell ⟨w.heap.size+1+1+1,k,none⟩ (.int .i64 z)).cell? ⟨w.heap.size+1+1+1,k,none⟩=some (.int .i64 z):=(bn.o.cell k).trans a2L.o;have hB2:=Hd (dB (i:=k) (v:=.int .i64 z) HB.o (show w.heap.size<=w.heap.size+1+1+1 by omega));have hm2:=Hd (HM.o.other (show w.heap.size≠w.heap.size+1+1+1 by omega) k (.int .i64 z));have hr2:=Hd (HR.o.other (show w.heap.size+1≠w.heap.size+1+1+1 by omega) k (.int .i64 z));have hl2:=Hd (HL.o.other (show w.heap.size+1+1≠w.heap.size+1+1+1 by omega) k (.int .i64 z));clear Dt HD0
     go_wp2_with (fail);generalize wr.setCell ⟨w.heap.size+1+1+1,k,none⟩ (.int .i64 z)=wx at*;refine(kF z wx).mono ?_;cases hx:bZ z with
     |true=>
      rw[hx]at H1;have HB2:=Hd (H1.o rfl);clear H1 H0 hx c0 hc hz0 hzf;rintro e3 w3 ⟨rfl,rfl⟩;go_wp2_with (fail)
      go_roundw
      case rel=>exact⟨k+1,by omega,by go_num,HB2,hB2,hm2,hr2,hl2,bn⟩
      case measure=>simp[intOf];omega
     |false=>
      rw[hx]at H0;have hT:=Gw.o.trans (if_neg (by rw[H0.o rfl];decide))
      injection hT with h1 h2
      subst h1;subst h2;clear H1 H0 hx c0 hc hz0 hzf Gw;obtain⟨⟨c0,c1,c2,c3,c4,c5⟩,⟨f0,f1,f2,f3,f4,f5⟩,ri⟩:=aA.c6 hr2.o;rintro e3 w3 ⟨rfl,rfl⟩;go_wp2_with (fail);exact aK rfl rfl rfl (aA.pz hr2.o _ _ _ _ _ _) underlying38 rfl ag ⟨rfl,gW hB2.o (by omega) _ _ _ _ _ _⟩
    ·clear t;have t2:decide (D<0)=false:=by simpa using hneg
     have HZ:Hid (Ai x D=kS N D):=by
      show _=_;unfold Ai;rw[if_neg hneg,hN]
     have hd0:D≠0:=HD0.o;have Dt:=Hd (fun w=>tK N D w (by omega) (by omega) (by omega) (by omega));rw[←HZ.o]at Dt;clear hneg HZ hd0;generalize Ai x D=z at*;go_wp2_with (fail);refine(Dt.o _).mono ?_;rintro e2 w2 ⟨rfl,rfl⟩
     have bn:Hid (aA (wr.setCell ⟨w.heap.size+1+1+1,k,none⟩ (.int .i64 z)) (w.heap.size+1+1+1) (yH Z [.int .i64 ke,.int .i64 kf] (k+1))):=by
      show aA _ _ _;rw[←HS.o];exact HN.o.set k _
     have c0:(wr.setCell ⟨w.heap.size+1+1+1,k,none⟩ (.int .i64 z)).cell? ⟨w.heap.size+1+1+1,k,none⟩=some (.int .i64 z):=(bn.o.cell k).trans a2L.o;have hB2:=Hd (dB (i:=k) (v:=.int .i64 z) HB.o (show w.heap.size<=w.heap.size+1+1+1 by omega));have hm2:=Hd (HM.o.other (show w.heap.size≠w.heap.size+1+1+1 by omega) k (.int .i64 z));have hr2:=Hd (HR.o.other (show w.heap.size+1≠w.heap.size+1+1+1 by omega) k (.int .i64 z));have hl2:=Hd (HL.o.other (show w.heap.size+1+1≠w.heap.size+1+1+1 by omega) k (.int .i64 z));clear Dt HD0
     go_wp2_with (fail);generalize wr.setCell ⟨w.heap.size+1+1+1,k,none⟩ (.int .i64 z)=wx at*;refine(kF z wx).mono ?_;cases hx:bZ z with
     |true=>
      rw[hx]at H1;have HB2:=Hd (H1.o rfl);clear H1 H0 hx c0 hc hz0 hzf;rintro e3 w3 ⟨rfl,rfl⟩;go_wp2_with (fail)
      go_roundw
      case rel=>exact⟨k+1,by omega,by go_num,HB2,hB2,hm2,hr2,hl2,bn⟩
      case measure=>simp[intOf];omega
     |false=>
      rw[hx]at H0;have hT:=Gw.o.trans (if_neg (by rw[H0.o rfl];decide))
      injection hT with h1 h2
      subst h1;subst h2;clear H1 H0 hx c0 hc hz0 hzf Gw;obtain⟨⟨c0,c1,c2,c3,c4,c5⟩,⟨f0,f1,f2,f3,f4,f5⟩,ri⟩:=aA.c6 hr2.o;rintro e3 w3 ⟨rfl,rfl⟩;go_wp2_with (fail);exact aK rfl rfl rfl (aA.pz hr2.o _ _ _ _ _ _) underlying38 rfl ag ⟨rfl,gW hB2.o (by omega) _ _ _ _ _ _⟩
   ·have hk4:k=Z.length:=by rw[HLZ.o.2];omega
    have HA:Hid (dM Z=true):=by
     have h:=HK.o;rw[hk4,List.take_length]at h;exact h
    have hT:=Gw.o.trans (if_pos HA.o)
    injection hT with h1 h2
    subst h1;subst h2
    have bn:Hid (aA wr (w.heap.size+1+1+1) RM.cs):=by
     show aA _ _ _;rw[←PT.o,←HLZ.o.2,←hk4];exact HN.o
    obtain rfl:k=4:=by rw[hk4,HLZ.o.2]
    clear Gw PT HK HA HN hk4 HZ4 a2i HLZ sJ;obtain⟨va,vb,vc,vd,ve,vf⟩:=RM;obtain⟨⟨c0,c1,c2,c3,c4,c5⟩,⟨f0,f1,f2,f3,f4,f5⟩,ri⟩:=aA.c6 HR.o;obtain⟨⟨e0,e1,e2,e3,e4,e5⟩,-,ei⟩:=aA.c6 bn.o;simp only at e0 e1 e2 e3 e4 e5;go_wp2_with (fail);exact aK rfl rfl rfl (aA.pz HR.o _ _ _ _ _ _) underlying38 rfl ag ⟨rfl,gW HB.o (by omega) _ _ _ _ _ _⟩
end
section
section
open Go.RowKit fF fO aF Go.Maps
theorem Xa{P:Program}{fn:Func}{p q:Tmp}{ty:TypeId}{tmps:Array Value}{w:World}{g:Nat}{cs:List Value}{d:TypeDesc}{v:Value}{Q:Ending->World->Prop}(hfn:fn.results=#[.tmp q,.cell p ty])
  (hp:tmps.getD p undef=.pointer (some ⟨g,0,none⟩)) (hq:tmps.getD q undef=v) (hB:aA w g cs) (hu:P.underlying ty=some d) (hd:(match d with|.struct _|.array _ _=>true|_=>false)=true) (hi:(P.info? ty).map (·.size)=some cs.length)
  (h:Q (.returned (.tuple #[v,.agg cs.toArray])) w):bodyPost P fn Q Exit.ret { tmps:=tmps,defers:=[] } w:=by
 obtain⟨T,hg⟩:=hB;refine bodyPost_ret_by (v:=.tuple #[v,.agg cs.toArray]) ?_ rfl h;have hp':tmps[p]?.getD undef=.pointer (some ⟨g,0,none⟩):=by simpa using hp
 have hq':tmps[q]?.getD undef=v:=by simpa using hq
 simp[results,hfn,hp',hq',asAddr,run_loadVar_row w g T ty _ _ d hg hu hd (by simpa using hi)]
section
variable {w w':World}{g:Nat}{cs:List Value}{T:TypeId}
theorem xW.kx{v:Value}{n:Nd}(h:xW w v n)(hb:aA w g cs)(hc:kU cs)(hk:KX g w w'):xW w' v n:=by
 obtain⟨A,c,e,hr⟩:=h;refine⟨A,c,e,hr.stays fun a ea hne=>hk.same _ (Row.lt hr.row ea hne) fun e2=>?_⟩;obtain⟨b,off,e3,hcl⟩:=hr.row (List.length_pos_iff.2 hne);rw[ea]at e3;obtain rfl:=Option.some.inj e3;have h1:=hcl 0 (List.length_pos_iff.2 hne);obtain rfl:b=g:=e2;have h2:=hb.cell (off+0);rw[h1]at h2;exact hc _ (List.mem_of_getElem? h2.symm) _ rfl
theorem eX.kx{v:Value}{a b M:Int}{x:aJ}(h:eX w v a b M x)(hb:au w g cs T)(hT:T≠128)(hc:kU cs)(hk:KX g w w'):eX w' v a b M x:=by
 obtain⟨tv,m,e,h1,h2⟩:=h;refine⟨tv,m,e,h1.stays fun _ _ a _ hy ea=>hk.same _ (by obtain⟨cs,fz,h3⟩:=hy a ea;exact lt_of_block h3) (hy.dX ea hb hT),?_⟩;have hne:=h2.uK hb.blk;obtain⟨es,g1,g2,g3⟩:=h2.ex;refine⟨es,g1.stays (hk.same _ g1.inside (Ne.symm hne)),g2,fun i hi=>?_⟩;obtain⟨v,e,hv⟩:=g3 i hi;exact⟨v,e,hv.kx hb.blk hc hk⟩
end
def Qa(p r:Nat):bI:=fun k=>k=p∨k=r
abbrev z5:List Value:=Vf
structure PlD(w0:World)(p r g b m:Nat)(s:Sh)(x:aJ)(w:World):Prop where
 blk:∃A c dm,au w p (Vb 8 8 30 A x.t.length c dm) 30∧aQ w (.slice A x.t.length c) x.t∧dQ w dm (has x.t) x.nd
 res:au w r z5 30
 my:Xq w0 g b m s ⟨8,⟨8,30⟩,Qa p r⟩ x w
 pge:w0.heap.size<=p
 rlt:r<w0.heap.size
structure RV(r:Nat)(cs0 cs:List Value)(d:Bool)(w:World):Prop where
 no:d=false->aA w r cs0
 yes:d=true->aA w r cs
def PK(w:World)(e:Ending)(w':World):Prop:=∃g b m s v y,e=.returned (.tuple #[.pointer (some ⟨g,0,none⟩),v])∧Xq w g b m s ⟨8,⟨8,30⟩,fun _=>False⟩ y w'∧eX w' v 8 8 30 y∧mV y∧y.t.length<=120
theorem Lp(A:Option Addr)(L:List vU)(c:Nat)(w:World)(h1:Ns w A L)(hf:fits L) :
  Calls prog 9 (Vo 8 8 A L.length c).toArray w (PK w):=by
 have HT:=Hd h1;have HF:=Hd hf;have hlb:(L.length:Int)<=30:=by have:=hf.2.1;omega
 clear h1 hf;go_enter func9,ntmps9
 go_upto_region 1 with(fail)
 have ZM:Hid (au (w.alloc (.cells Vf.toArray 30)) w.heap.size z5 30):=au.new w z5 30;have Yl:Hid (Below w.heap.size w (w.alloc (.cells Vf.toArray 30))):=bR.alloc nR _;generalize (w.alloc (.cells Vf.toArray 30))=wA at*
 obtain⟨r,hr⟩:=aB w.heap.size
 rw[hr]at ZM Yl ⊢;have HRR:=Hd hr;clear hr;go_wp2_with (fail);refine(Wy 8 8 30 wA).mono ?_;rintro e wB ⟨v3,rfl,hd3,hb3⟩;obtain⟨A2,c2,m2,rfl,ht3,VU⟩:=hd3.ex;have zF:Hid (au wB r z5 30):=ZM.o.stays (hb3.block _ ZM.o.inside);have CE:Hid (Below r w wB):=Yl.o.trans (hb3.mono (Nat.le_of_lt ZM.o.inside));have HT3:Hid (aQ wB (.slice A2 aJ.new.t.length c2) aJ.new.t):=ht3;have uj:Hid (dQ wB m2 (has aJ.new.t) aJ.new.nd):=VU;have HZ:Hid (au (wB.alloc (.cells Vf.toArray 30)) wB.heap.size z5 30):=au.new wB z5 30
 have PY:Hid (Below wB.heap.size wB (wB.alloc (.cells Vf.toArray 30))):=bR.alloc nR _;clear hd3 hb3 ht3 VU ZM Yl
 go_upto_region 2 with(first|(with_reducible refine gS ?_;first|(refine ay 30 _ _ rfl rfl rfl _ 0 rfl ((Vb 8 8 30 A2 aJ.new.t.length c2 m2)) rfl (Vf) HZ.o.blk ((Vb 8 8 30 A2 aJ.new.t.length c2 m2)) rfl (nE rfl) ag rfl ?_;intro wC Yw xR)))
 have NJ:Hid (au wC wB.heap.size (Vb 8 8 30 A2 aJ.new.t.length c2 m2) 30):=HZ.o.wrote Yw.o xR.o;have Gy:Hid (Below wB.heap.size wB wC):=Yw.o.below PY.o nR;have TS:Hid (au wC r z5 30):=zF.o.stays (Gy.o.block _ zF.o.inside);have qR:Hid (r<wB.heap.size):=zF.o.inside;have Cc:Hid (aQ wC (.slice A2 aJ.new.t.length c2) aJ.new.t):=HT3.o.below Gy.o;have HMC:Hid (dQ wC m2 (has aJ.new.t) aJ.new.nd):=uj.o.below Gy.o;clear HZ PY Yw xR zF HT3 uj
 obtain⟨p,hp⟩:=aB wB.heap.size
 have Gq:=Hd hp;rw[hp]at NJ Gy qR ⊢;clear hp;have yM:=Hd (UW (w:=wC) ⟨8,⟨8,30⟩,Qa p r⟩ (fun k hk=>hk.elim (fun e=>by rw[e];exact NJ.o.inside) fun e=>by rw[e];exact TS.o.inside) ⟨show(1:Int)<=8 by decide,show(8:Int)<=4096 by decide⟩ ⟨show(1:Int)<=8 by decide,show(8:Int)<=4096 by decide⟩ ⟨show(1:Int)<=30 by decide,show(30:Int)<=65536 by decide⟩);go_wp2_with (fail);refine yM.o.mono ?_;unfold ZB;rintro e w2 ⟨g,b,m,s0,rfl,hs1,hb2,hf2,-⟩
 have HPL:Hid (PlD wB p r g b m s0 aJ.new w2):=⟨⟨A2,c2,m2,NJ.o.stays (hb2.block _ NJ.o.inside),Cc.o.below hb2,HMC.o.below hb2⟩,TS.o.stays (hb2.block _ TS.o.inside),⟨hs1,fun k hk=>by have h1:=hf2 k hk;have h2:=NJ.o.inside;rw[Gq.o];omega,by show Below _ _ _;rw[Gq.o];exact Gy.o.trans (hb2.mono (Nat.le_of_lt NJ.o.inside))⟩,Nat.le_of_eq Gq.o,by rw[Gq.o];exact qR.o⟩
 clear hs1 hb2 hf2 yM NJ Gy TS Cc HMC
 go_upto_region 6 with(fail)
 go_loopw [36] (fun zI wr=>∃j:Nat,j<=L.length∧zI=.int .i64 j∧Hid (∃s x,PlD wB p r g b m s x wr∧mV x∧x.t.length<=total (L.take j))) (fun zI _=>L.length - (intOf zI).toNat)
 case atStart=>exact⟨0,Nat.zero_le _,rfl,s0,aJ.new,HPL.o,aJ.Aq,Nat.zero_le _⟩
 case round=>
  obtain⟨j,hj,rfl,HX⟩:=hrel;generalize wr=wD at*;obtain⟨s,x,hpl,hsx,hlx⟩:=HX.o;obtain⟨Ad,cd,dm,hpb,hdt,hdm⟩:=hpl.blk;have Dw:=Hd hpb;have HDT:=Hd hdt;have HDM:=Hd hdm;have KH:=Hd hpl.my;have NI:=Hd hpl.res;have HPG:Hid (wB.heap.size<=p):=hpl.pge;have HSX:=Hd hsx;have HLX:=Hd hlx;clear hpl hsx hlx HX hpb hdt hdm HPL;by_cases hlt:j<L.length
  ·have t4:decide (j<L.length)=true:=by simpa using hlt
   have dV:=Hd hlt
   have pY:Hid (Below w.heap.size w wD):=by
    rw[HRR.o];exact CE.o.trans (KH.o.bel.mono (by have:=qR.o;have:=Gq.o;omega))
   obtain⟨lb,lo,rA,hcell⟩:=(HT.o.below pY.o).row (by omega);subst rA
   obtain⟨q,hq⟩:∃q,q=L[j]'hlt:=⟨_,rfl⟩
   have hqc:wD.cell? ⟨lb,lo+j,none⟩=some (.slice q.A q.l.length q.c):=by
    have:=hcell j hlt 0 (.slice q.A q.l.length q.c) (by rw[hq];rfl)
    rwa [Nat.mul_one,Nat.add_zero]at this
   have Dv:Hid (q∈L):=by rw[hq];exact List.getElem_mem hlt
   have qQ:Hid (L.take (j+1)=L.take j++[q]):=by rw[hq];exact List.take_succ_eq_append_getElem hlt
   have i0:=World.block_lt_of_cell? wD ⟨lb,_,none⟩ hqc
   have HQL:Hid (x.t.length+q.l.length<=total (L.take (j+1))∧total (L.take (j+1))<=120):=by
    refine⟨?_,Nat.le_trans (KP (j+1)) HF.o.2.2⟩;rw[qQ.o,zQ];have:=HLX.o;omega
   have a4e:Hid (∀o∈q.l,o.o.lk.l.length<=300):=HF.o.1 q Dv.o
   have Gn:Hid (q.l.length<=1024->Room 30 x q.l.length):=fun _=>by
    have:=HQL.o;exact⟨by omega,.inl (by omega)⟩
   have NK:Hid (BX wD q.A q.l):=(HT.o.below pY.o).ops q Dv.o;have dW:Hid (∀q'∈q.l,mW q'.o):=fun q' hq'=>(NK.o.px q' hq').2.ok (a4e.o q' hq');have HN:Hid (q.l.length<=100000):=by have:=HQL.o;show _<=_;omega
   have HA:=Hd (applied KH.o.at_ HSX.o q.l q.A q.c ((HT.o.ops q Dv.o).at_ pY.o fun k hk=>by have h1:=KH.o.ft k hk;have h2:=qR.o;have h3:=Gq.o;have h4:=HRR.o;omega) dW.o Gn.o (by have:=HN.o;omega))
   have KF:Hid (mV (cO 30 setSt x (q.l.map (·.o))).1):=HSX.o.apply fun o ho'=>by
    obtain⟨q',h1,h2⟩:=List.mem_map.1 ho';rw[←h2];exact dW.o q' h1
   have HYL:Hid ((cO 30 setSt x (q.l.map (·.o))).1.t.length<=total (L.take (j+1))):=by
    have h1:=(Nj (M:=30) (l:=q.l.map (·.o)) HSX.o.ok).1;rw[List.length_map]at h1;exact Nat.le_trans h1 HQL.o.1
   obtain⟨os,hos⟩:=aB (q.l.map (·.o))
   have HOS:=Hd hos;rw[hos]at HA KF HYL
   obtain⟨⟨y,ri,re⟩,hR⟩:∃R,cO 30 setSt x os=R:=⟨_,rfl⟩
   have HRQ:=Hd hR;have HA2:Hid (Calls prog 22 #[.pointer (some ⟨g,0,none⟩),.slice q.A q.l.length q.c] wD (CP g b m ⟨8,⟨8,30⟩,Qa p r⟩ s x (y,ri,re) wD)):=by rw[←hR];exact HA.o
   rw[hR]at KF HYL;have HFP:Hid (¬af b m s x.t p):=(KH.o.at_.old p (.inl rfl)).2.1;have HFR:Hid (¬af b m s x.t r):=(KH.o.at_.old r (.inr rfl)).2.1;clear hcell hq hlt hos hR HA hj
   go_upto_region 8 with(fail)
   clear hqc i0;go_wp2_with (fail);refine HA2.o.mono ?_;unfold CP;rintro e w1 ⟨s1,rfl,hs1,ht1⟩;simp only at hs1 ht1 ⊢;have kZ:=Hd hs1;have GZ:Hid (Xq wB g b m s1 ⟨8,⟨8,30⟩,Qa p r⟩ y w1):=KH.o.turn hs1 ht1;have ZO:Hid (au w1 p (Vb 8 8 30 Ad x.t.length cd dm) 30):=Dw.o.stays (ht1.far p Dw.o.inside HFP.o).2;have XJ:Hid (au w1 r z5 30):=NI.o.stays (ht1.far r NI.o.inside HFR.o).2;have a4Y:Hid (aQ w1 (.slice Ad x.t.length cd) x.t):=aQ.turn KH.o.at_ ht1 HDT.o
   have Ye:Hid (dQ w1 dm (has x.t) x.nd):=dQ.turn KH.o.at_ ht1 HDM.o (aj.2 (.inl rfl));have a6f:=Hd ((HT.o.ops q Dv.o));have FP:Hid (∀W,DR w1.heap.size w1 W->aA W p (Vb 8 8 30 Ad x.t.length cd dm)):=fun W hr=>ZO.o.blk.below' hr.bel
   have FR:Hid (∀W,DR w1.heap.size w1 W->Calls prog 27 #[.slice q.A q.l.length q.c] W (zD os W)):=fun W hr=>by
    have h1:=Le q.l q.A q.c W (a6f.o.below (by
     show Below _ _ _;rw[HRR.o];have h2:r<=wB.heap.size:=by have:=qR.o;have:=Gq.o;omega
     exact CE.o.trans ((GZ.o.bel.mono h2).trans (hr.bel.mono (Nat.le_trans h2 GZ.o.bel.size))))) a4e.o HN.o
    rw[HOS.o]at h1;exact h1
   have FC:Hid (∀W,DR w1.heap.size w1 W->∀A8 c8 l8,yK W A8 l8->l8.map (·.o)=os->Calls prog 26 #[.agg (Vb 8 8 30 Ad x.t.length cd dm).toArray,.slice A8 (l8:List iZ).length c8] W fun e w'=>∃v',e=.returned (.tuple #[v',.int .i64 ri,.int .i64 re])∧DP 8 8 30 y 0 v' w'∧bz W w'):=fun W hr A8 c8 l8 hod QZ=>by
    have hlen:l8.length=q.l.length:=by
     have h1:=congrArg List.length (QZ.trans HOS.o.symm)
     rwa [List.length_map,List.length_map]at h1
    have h1:=ML l8 A8 c8 8 8 30 (.agg (Vb 8 8 30 Ad x.t.length cd dm).toArray) x HSX.o W (GH.doc (a4Y.o.below hr.bel) (Ye.o.below hr.bel)) hod (fun q' hq'=>by
     have h2:q'.o∈q.l.map (·.o):=by rw[HOS.o,←QZ];exact List.mem_map_of_mem hq'
     obtain⟨q2,h3,h4⟩:=List.mem_map.1 h2;rw[←h4]
     exact dW.o q2 h3) (by (try show Below _ _ _);rw[hlen];exact Gn.o) (by rw[hlen];have:=HN.o;omega)
    rw[QZ,HRQ.o]at h1;refine h1.mono ?_;unfold a2O;rintro e w' ⟨v',h2,h3,h4⟩;refine⟨v',h2,⟨?_,fun _=>h3⟩,h4⟩;obtain⟨A7,c7,m7,h5,-,-⟩:=h3.ex;rw[h5];exact TI _ _ _ _ _ _ _
   clear hs1 ht1 KH Dw NI HDT HDM HA2 HFP HFR
   go_upto_region 9 with(fail)
   generalize w1=wS at*
   refine Kr (DR wS.heap.size) (fun L V wx=>VJ wS.heap.size (L 8) (L 9) (V 15) (V 51) wx∧(L 9=true->L 5=true)∧(L 9=true->L 8=true)) [47,48,49,50,46,51,52,53,15,16,17] (fun _=>DR.refl _ _) (fun _ _ _ h k=>h.trans k) (fun i=>match i with
    |0=>rV (.agg ((Vb 8 8 30 Ad x.t.length cd dm)).toArray)
    |1=>rV (.slice q.A q.l.length q.c)
    |2=>a04 wS.heap.size os
    |3=>(⟨fun v wv=>∃v',v=.tuple #[v',.int .i64 ri,.int .i64 re]∧DP 8 8 30 y 0 v' wv,fun v q1 q2 h hb=>h.elim fun v' h=>⟨v',h.1,h.2.dr hb⟩⟩:regs.kX (DR wS.heap.size))
    |4=>(⟨fun v wv=>∃v',v=.tuple #[v',.int .i64 ri,.int .i64 re]∧DP 8 8 30 y 0 v' wv,fun v q1 q2 h hb=>h.elim fun v' h=>⟨v',h.1,h.2.dr hb⟩⟩:regs.kX (DR wS.heap.size))
    |5=>(⟨fun v wv=>DP 8 8 30 y 0 v wv,fun v q1 q2 h hb=>h.dr hb⟩:regs.kX (DR wS.heap.size))
    |6|10=>rV (.int .i64 ri)
    |7|11=>rV (.int .i64 re)
    |_=>ra) (DR.below bR.drew nR) (⟨VJ.start (Below.refl 0 _).drew.size,nofun,nofun⟩) ⟨?_,?_,?_,?_,?_,?_,?_,?_,?_,?_,?_,?_,trivial⟩ ?_
   ·refine fK fun L a CQ hh=>?_;have h8:=hh.p 8 p 0;have hB:=Hd (FP.o _ hh.rel);have hJ:=Hd hh.st;exact aN 30 _ rfl p 0 (by simpa[go_sem]using h8) _ hB.o ((Vb 8 8 30 Ad x.t.length cd dm)) rfl _ underlying30 rfl ag ⟨_,rfl,DR.refl _ _,rfl,⟨VJ.slots hJ.o.1 sn sn,hJ.o.2⟩⟩
   ·refine fK fun L a CQ hh=>?_;have h12:=hh.o 12 (v:=.slice q.A q.l.length q.c) rfl;have hJ:=hh.j;clear hh;go_simp;exact⟨_,rfl,DR.refl _ _,rfl,⟨VJ.slots hJ.o.1 sn sn,hJ.o.2⟩⟩
   ·refine fK fun L a CQ hh=>?_;have h48:=rq (hh.d 1 48);have hC:=Hd (FR.o CQ hh.rel);have hbz:=Hd (show wS.heap.size<=CQ.heap.size from hh.rel.bel.size);have hJ:=Hd hh.st;have hsz:=Hd hh.size;have hun:=Hd hh.un;clear hh;go_simp;refine hC.o.mono ?_;unfold zD;rintro e w9 ⟨A9,c9,l9,rfl,a5z,a5y,aY⟩;exact⟨_,rfl,DR.below aY hbz.o,⟨A9,c9,l9,rfl,a5z,a5y⟩,⟨VJ.slots (VJ.below hJ.o.1 aY) sn sn,hJ.o.2⟩⟩
   ·refine fK fun L a CQ hh=>?_;have h47:=rq (hh.d 0 47)
    obtain⟨A8,c8,l8,e8,a3u,QZ⟩:=(show ∃A c l9,(a.tmps.getD 49 undef)=.slice A (l9:List iZ).length c∧yK CQ A l9∧l9.map (·.o)=os from hh.d 2 49)
    have h49:a.tmps[49]?.getD undef=.slice A8 l8.length c8:=rq (e8);have hC:=Hd (FC.o CQ hh.rel A8 c8 l8 a3u QZ);have hbz:=Hd (show wS.heap.size<=CQ.heap.size from hh.rel.bel.size);have hJ:=Hd hh.st;have hsz:=Hd hh.size;have hun:=Hd hh.un;clear hh e8 a3u QZ;go_simp;refine hC.o.mono ?_;rintro e w9 ⟨v9,rfl,qj,aY⟩;exact⟨_,rfl,DR.below aY hbz.o,⟨v9,rfl,qj⟩,⟨VJ.slots (VJ.below hJ.o.1 aY) sn sn,hJ.o.2⟩⟩
   ·refine fK fun L a CQ hh=>?_
    obtain⟨v8,e8,tJ⟩:=(show ∃v',(a.tmps.getD 50 undef)=.tuple #[v',.int .i64 ri,.int .i64 re]∧DP 8 8 30 y 0 v' CQ from hh.d 3 50)
    have h50:a.tmps[50]?.getD undef=.tuple #[v8,.int .i64 ri,.int .i64 re]:=rq (e8);have KG:=Hd tJ;have hJ:=Hd hh.st;have hsz:=Hd hh.size;have hun:=Hd hh.un;clear hh e8 tJ;go_simp;exact⟨_,rfl,DR.refl _ _,⟨v8,rfl,KG.o⟩,⟨VJ.slots hJ.o.1 sn sn,hJ.o.2⟩⟩
   ·refine fK fun L a CQ hh=>?_
    obtain⟨v8,e8,tJ⟩:=(show ∃v',(a.tmps.getD 46 undef)=.tuple #[v',.int .i64 ri,.int .i64 re]∧DP 8 8 30 y 0 v' CQ from hh.d 4 46)
    have h46:a.tmps[46]?.getD undef=.tuple #[v8,.int .i64 ri,.int .i64 re]:=rq (e8);have KG:=Hd tJ;have NR:=Hd (bU hh.st.2.1 hh.un);have hJ:=Hd hh.st;have hsz:=Hd hh.size;have hun:=Hd hh.un;clear hh e8 tJ;go_simp;exact⟨_,rfl,DR.refl _ _,KG.o,⟨VJ.told hJ.o.1 NR.o sn,fun _=>rfl,hJ.o.2.2⟩⟩
   ·refine fK fun L a CQ hh=>?_
    obtain⟨v8,e8,tJ⟩:=(show ∃v',(a.tmps.getD 46 undef)=.tuple #[v',.int .i64 ri,.int .i64 re]∧DP 8 8 30 y 0 v' CQ from hh.d 4 46)
    have h46:a.tmps[46]?.getD undef=.tuple #[v8,.int .i64 ri,.int .i64 re]:=rq (e8);have KG:=Hd tJ;have hJ:=Hd hh.st;have hsz:=Hd hh.size;have hun:=Hd hh.un;clear hh e8 tJ;go_simp;exact⟨_,rfl,DR.refl _ _,rfl,⟨VJ.slots hJ.o.1 sn sn,hJ.o.2⟩⟩
   ·refine fK fun L a CQ hh=>?_
    obtain⟨v8,e8,tJ⟩:=(show ∃v',(a.tmps.getD 46 undef)=.tuple #[v',.int .i64 ri,.int .i64 re]∧DP 8 8 30 y 0 v' CQ from hh.d 4 46)
    have h46:a.tmps[46]?.getD undef=.tuple #[v8,.int .i64 ri,.int .i64 re]:=rq (e8);have KG:=Hd tJ;have hJ:=Hd hh.st;have hsz:=Hd hh.size;have hun:=Hd hh.un;clear hh e8 tJ;go_simp;exact⟨_,rfl,DR.refl _ _,rfl,⟨VJ.slots hJ.o.1 sn sn,hJ.o.2⟩⟩
   ·refine fK fun L a CQ hh=>?_;have NR:=Hd (bU hh.st.2.2 hh.un);have hbz:=Hd (show wS.heap.size<=CQ.heap.size from hh.rel.bel.size);have hJ:=Hd hh.st;have hsz:=Hd hh.size;have hun:=Hd hh.un;clear hh;go_simp;exact⟨_,rfl,DR.below (bR.alloc nR _) hbz.o,trivial,⟨VJ.made hJ.o.1 NR.o (bJ.aZ (by rw[hsz.o];simp)),hJ.o.2.1,fun _=>rfl⟩⟩
   ·refine fK fun L a CQ hh=>?_;have hup:=hh.up 8 ag;obtain⟨g9,c9,h9,jA,fJ,Yt,TB,-⟩:=hh.st.1.ex hup
    obtain⟨⟨WO,e8,TC,Q3,ho8⟩,hd8⟩:=(show DP 8 8 30 y 0 (a.tmps.getD 51 undef) CQ from hh.d 5 51)
    have hJ:=Hd hh.st;have VS:=Hd (hh.up 5 ag);refine bW 30 _ _ rfl g9 0 (by have h:=h9;unfold bJ.sl at h;simpa[go_sem]using h) WO (by simpa[go_sem]using e8) _ fJ.blk (by rw[TC,TB];decide) (by rw[TC];kernel_rfl) ho8 ?_;intro w9 lu xg
    have V6:aA w9 g9 WO:=by
     have e:c9.take 0++WO++c9.drop (0+WO.length)=WO:=by rw[TC,List.drop_of_length_le (by rw[TB];decide)];simp
     rw[←e];exact xg
    have hP:=hJ.o.1.put h9 jA fJ Yt lu V6 Q3 TC e8;exact⟨undef,rfl,hP.2,trivial,⟨hP.1,fun _=>VS.o,fun _=>hup⟩⟩
   ·refine fK fun L a CQ hh=>?_;have h52:=rq (hh.d 6 52);have hJ:=hh.j;clear hh;go_simp;exact⟨_,rfl,DR.refl _ _,rfl,⟨VJ.slots hJ.o.1 sn sn,hJ.o.2⟩⟩
   ·refine fK fun L a CQ hh=>?_;have h53:=rq (hh.d 7 53);have hJ:=hh.j;clear hh;go_simp;exact⟨_,rfl,DR.refl _ _,rfl,⟨VJ.slots hJ.o.1 sn sn,hJ.o.2⟩⟩
   intro L w4 val hL hJ hR hv;have h16:val 16=.int .i64 ri:=hv 10 16 ag;have h17:val 17=.int .i64 re:=hv 11 17 ag;have HR4:=Hd hR;obtain⟨g9,c9,e9,jA,aY,Yt,TB,hv9⟩:=hJ.1.ex (hL 8 (by decide));have hv34:=hv9 (hL 9 (by decide));have hd34:DP 8 8 30 y 0 (val 51) w4:=hv 5 51 ag;have Yg:=Hd hd34;have Xy:=Hd hv34;have pV:=Hd (And.intro jA aY);clear hv hL hJ hR hd34 hv34 jA aY Yt TB hv9;simp only[regs.aG,List.map_cons,List.map_nil,h16,h17];simp only[Act.put,List.setIfInBounds_toArray,List.set_cons_zero,List.set_cons_succ];clear h16 h17
   skip
   rw[e9];clear e9;have ZN:Hid (au w4 p (Vb 8 8 30 Ad x.t.length cd dm) 30):=ZO.o.stays (HR4.o.bel.block _ ZO.o.inside);have a6b:Hid (au w4 r z5 30):=XJ.o.stays (HR4.o.bel.block _ XJ.o.inside);have iE:Hid (Xq wB g b m s1 ⟨8,⟨8,30⟩,Qa p r⟩ y w4):=GZ.o.below HR4.o.bel;obtain⟨An,cn,mn,hvn,htn,hmn⟩:=(Yg.o.2 rfl).ex
   have hcn:c9=(Vb 8 8 30 An y.t.length cn mn):=by
    have h1:=Xy.o.symm.trans hvn
    injection h1 with h1
    have h2:=congrArg Array.toList h1
    simpa using h2
   subst hcn;have HTN:=Hd htn;have HMN:=Hd hmn;clear hvn htn hmn Yg Xy FP FR FC ZO XJ GZ a4Y Ye kZ;have q2:(re != re)=false:=by simp
   have q3:decide (re=re)=true:=by simp
   go_upto_region 13 with(first|(with_reducible refine gL ?_;first|(refine kM 30 _ rfl rfl _ 0 rfl ((Vb 8 8 30 An y.t.length cn mn)) pV.o.2.blk ((Vb 8 8 30 An y.t.length cn mn)) rfl _ underlying30 rfl ag ?_))|(with_reducible refine gS ?_;first|(refine ay 30 _ _ rfl rfl rfl _ 0 rfl ((Vb 8 8 30 An y.t.length cn mn)) rfl ((Vb 8 8 30 Ad x.t.length cd dm)) ZN.o.blk ((Vb 8 8 30 An y.t.length cn mn)) rfl (nE rfl) ag rfl ?_;intro w5 vM vW)))
   go_wp2_with (fail)
   go_roundw
   case rel=>
    refine⟨j+1,dV.o,by go_num,s1,y,⟨⟨An,cn,mn,ZN.o.wrote vM.o vW.o,HTN.o.wrote ZN.o (by decide) vM.o,HMN.o.wrote ZN.o.blk (by unfold kU;simp) vM.o⟩,a6b.o.stays (vM.o.far (by have:=qR.o;omega)),⟨iE.o.at_.part (E':=Qa p r) (fun k _ hk=>vM.o.far fun e=>hk (.inl e)) (fun k hk=>?_),iE.o.ft,vM.o.below iE.o.bel HPG.o⟩,HPG.o,by rw[Gq.o];exact qR.o⟩,KF.o,HYL.o⟩;have hk':=iE.o.at_.old k hk;exact⟨by rw[vM.o.size];exact hk'.1,.inl hk⟩
   case measure=>have:=dV.o;simp[intOf];omega
  ·obtain rfl:j=L.length:=by omega
   have t4:decide (L.length<L.length)=false:=by simp
   clear hlt
   go_upto_region 14 with(fail)
   have FP:Hid (∀W,KX r wD W->aA W p (Vb 8 8 30 Ad x.t.length cd dm)):=fun W hr=>by
    exact(Dw.o.stays (hr.same p Dw.o.inside (by have:=qR.o;omega))).blk
   refine wR (KX r) (fun L wx=>RV r z5 (Vb 8 8 30 Ad x.t.length cd dm) (L 3) wx) [60,61,6] (fun _=>KX.refl _ _) (fun _ _ _ h k=>h.trans k) (fun i=>match i with
    |0|2=>rp g 0
    |1=>rV (.agg ((Vb 8 8 30 Ad x.t.length cd dm)).toArray)
    |_=>ra) (KX.of_below bR.drew) (⟨fun _=>NI.o.blk.below' bR.drew,nofun⟩) ⟨?_,?_,?_,?_,trivial⟩ ?_
   any_goals (first|refine zp fun L a w1 hh=>?_|fail)
   have h9:=hh.p 9 g 0;rotate_left
   ·have h8:=hh.p 8 p 0;have hB:=Hd (FP.o _ hh.rel);have hJ:=Hd hh.st;exact aN 30 _ rfl p 0 (by simpa[go_sem]using h8) _ hB.o ((Vb 8 8 30 Ad x.t.length cd dm)) rfl _ underlying30 rfl ag ⟨_,rfl,KX.refl _ _,rfl,hJ.o⟩
   have h60:=rq (hh.d 0 60);rotate_left
   ·have h7:=hh.p 7 r 0;have h61:=rq (hh.d 1 61);have ql:=hh.st.no hh.un;refine bW 30 _ _ rfl r 0 (by simpa[go_sem]using h7) (Vb 8 8 30 Ad x.t.length cd dm) (by simpa[go_sem]using h61) _ ql (nE rfl) ag (by rfl) ?_;intro w9 lu fJ;exact⟨undef,rfl,KX.wrote lu,trivial,⟨nofun,fun _=>fJ⟩⟩
   any_goals (have hJ:=hh.j;clear hh;go_simp;exact⟨_,rfl,KX.refl _ _,rfl,hJ.o⟩)
   intro L w4 val hL hJ hR hv;have h60:val 60=.pointer (some ⟨g,0,none⟩):=hv 0 60 ag;have h6:val 6=.pointer (some ⟨g,0,none⟩):=hv 2 6 ag;have HR4:=Hd hR;have HV4:=Hd (hJ.yes (hL 3 (by decide)));clear hv hL hJ hR;simp only[regs.aG,List.map_cons,List.map_nil,h60,h6];simp only[Act.put,List.setIfInBounds_toArray,List.set_cons_zero,List.set_cons_succ];clear h60 h6
   skip
   go_wp2_with (fail);refine Xa rfl rfl rfl HV4.o underlying30 rfl ag ?_;refine⟨g,b,m,s,.agg (Vb 8 8 30 Ad x.t.length cd dm).toArray,x,rfl,⟨KH.o.at_.part (E':=fun _=>False) (fun k hk hn=>HR4.o.same k hk fun e=>hn (.inr e)) (fun k hk=>hk.elim),fun k hk=>?_,?_⟩,?_,HSX.o,?_⟩
   ·have h1:=KH.o.ft k hk;have h2:=qR.o;have h3:=Gq.o;have h4:=HRR.o;omega
   ·show Below _ _ _;rw[HRR.o];have h2:r<=wB.heap.size:=by have:=qR.o;have:=Gq.o;omega
    exact CE.o.trans ((KH.o.bel.mono h2).trans (HR4.o.aS nR (Nat.le_trans h2 KH.o.bel.size)))
   ·exact(GH.doc HDT.o HDM.o).kx NI.o (by decide) (by unfold kU;simp) HR4.o
   ·have:=HLX.o;rw[List.take_length]at this;exact Nat.le_trans this HF.o.2.2
end
section
open Go.RowKit fF fO aF Go.Maps
def kept(t:T)(i:Int)(q:It):Bool:=!(decide (q.i=i)||within t q.i i)
theorem Ri{α:Type}(p:α->Bool){l:List α}{j:Nat}(hj:j<l.length)(h:p l[j]=true):(l.filter p)[((l.take j).filter p).length]?=some l[j]:=by
 have e:l.filter p=(l.take j).filter p++l[j]::(l.drop (j+1)).filter p:=by
  have e1:l=l.take j++l[j]::l.drop (j+1):=by rw[←List.drop_eq_getElem_cons hj,List.take_append_drop]
  conv=>lhs;rw[e1]
  rw[List.filter_append,List.filter_cons,if_pos h]
 rw[e,List.getElem?_append_right nR,Nat.sub_self];rfl
theorem I8{α:Type}(p:α->Bool){l:List α}{j:Nat}(hj:j<l.length):((l.take (j+1)).filter p).length=((l.take j).filter p).length+if p l[j]=true then 1 else 0:=by
 rw[List.take_succ_eq_append_getElem hj,List.filter_append,List.length_append]
 congr 1
 by_cases h:p l[j]=true
 ·rw[List.filter_cons,if_pos h,if_pos h];rfl
 ·rw[List.filter_cons,if_neg h,if_neg h];rfl
end
section
open Go.RowKit fF fO aF Go.Maps
def gz(t:T)(i:Int):List Int:=0::(line t i).reverse
theorem Ug(t:T):gz t 0=[0]:=by unfold gz;rw[mF];rfl
theorem zL{t:T}(ok:Ok t){i:Int}(hi:i∈ids t):gz t i=gz t (par t i)++[i]:=by
 unfold gz;rw[dZ ok hi,List.reverse_cons,List.cons_append]
def pX(n:Nd)(w:Mp)(d:Dn):Option Dn:=if n.hi=true∨¬w.back.2=0 then none else some (d.to n w)
def Dl(x:aJ):List Int->Dn->Option Dn
 |[],d=>some d
 |j::l,d=>(pX (x.nd j) (x.ws j) d).bind (Dl x l)
theorem zo(x:aJ):∀(l m:List Int) (d:Dn),Dl x (l++m) d=(Dl x l d).bind (Dl x m)
 |[],_,_=>rfl
 |j::l,m,d=>by
  rw[List.cons_append,Dl,Dl];cases pX (x.nd j) (x.ws j) d with
  |none=>rfl
  |some d=>rw[Option.bind_some,Option.bind_some,zo]
theorem by_zero(q:Nat):kG 0 q=0:=by
 unfold kG;simp
theorem step_seen(n:Nd)(w:Mp)(z:Option Dn):Dn.step n w (z.filter fun d=>decide (¬d.o=0))=(z.bind (pX n w)).filter fun d=>decide (¬d.o=0):=by
 cases z with
 |none=>rfl
 |some d=>
  rw[Option.bind_some];by_cases h0:d.o=0
  ·rw[Option.filter_some,if_neg (by simp[h0])];unfold pX;split
   ·rfl
   ·rw[Option.filter_some,if_neg]
    ·rfl
    ·unfold Dn.to;simp[h0,by_zero]
  ·rw[Option.filter_some,if_pos (by simp[h0])];unfold Dn.step pX;rw[Option.bind_some];unfold Dn.ok;by_cases h1:n.hi=true∨¬w.back.2=0
   ·rw[if_pos h1,if_neg]
    ·rfl
    ·rcases h1 with h1|h1<;>simp[h1]
   ·rw[if_neg h1,Option.filter_some]
    have h2:n.hi=false:=by
     cases h:n.hi with
     |false=>rfl
     |true=>exact absurd (.inl h) h1
    have h3:w.back.2=0:=Decidable.not_not.1 fun h=>h1 (.inr h);by_cases h4:kG d.o n.op.toNat=0
    ·rw[if_neg (by simp[h4]),if_neg (by unfold Dn.to;simp[h4])]
    ·rw[if_pos (by simp[h2,h3,h4]),if_pos (by unfold Dn.to;simp[h4])]
theorem Ws{x:aJ}(ok:Ok x.t){i:Int}(hi:i=0∨i∈ids x.t):bT x i=(Dl x (gz x.t i) Dn.top).filter fun d=>decide (¬d.o=0):=by
 refine ok.qJ (P:=fun i=>bT x i=(Dl x (gz x.t i) Dn.top).filter fun d=>decide (¬d.o=0)) ?_ (fun i hi ih=>?_) hi
 ·rw[vg,Ug];have h:=step_seen (x.nd 0) (x.ws 0) (some Dn.top);rw[Option.filter_some,if_pos (by decide),Option.bind_some]at h;rw[h,Dl];cases pX (x.nd 0) (x.ws 0) Dn.top with
  |none=>rfl
  |some d=>rfl
 ·rw[nK ok hi,ih,zL ok hi,zo,step_seen]
  congr 1
  cases Dl x (gz x.t (par x.t i)) Dn.top with
  |none=>rfl
  |some d=>
   rw[Option.bind_some,Option.bind_some,Dl];cases pX (x.nd i) (x.ws i) d with
   |none=>rfl
   |some d=>rfl
end
section
open Go.RowKit fF fO aF Go.Maps
theorem a0N(i:Int)(w:World):(Instr.buildSlice bQ 1 #[(0,.int .i64 i)]).run prog w=.ok (.slice (some ⟨w.heap.size,0,none⟩) 1 1) (w.alloc (.cells #[.int .i64 i] jD)):=by kernel_rfl
theorem Oe{t:T}(ok:Ok t){i:Int}(hi:i=0∨i∈ids t):(gz t i).length<=t.length+1:=by
 unfold gz;rw[List.length_cons,List.length_reverse];have:=mJ ok hi;unfold depth at this;omega
structure WJ(B:Nat)(pl:List Int)(i:Int)(lA lB lC lD:Bool)(vA vB vC vD:Value)(w:World):Prop where
 sz:B<=w.heap.size
 a:lA=true->lC=false->aP w B vA pl
 b:lB=true->lC=false->∃g,vB=.slice (some ⟨g,0,none⟩) 1 1∧aA w g [.int .i64 i]
 c:lC=true->aP w B vC (pl++[i])
 d:lD=true->lC=true∧vD=vC
section
variable {B:Nat}{pl:List Int}{i:Int}{lA lB lC lD:Bool}{vA vB vC vD uA uB uC uD v9:Value}{w w':World}
theorem WJ.below(h:WJ B pl i lA lB lC lD vA vB vC vD w)(hb:bz w w'):WJ B pl i lA lB lC lD vA vB vC vD w':=⟨Nat.le_trans h.sz hb.size,fun e f=>ak.below (h.a e f) hb,fun e f=>by
 obtain⟨g,e1,e2⟩:=h.b e f
 exact⟨g,e1,e2.below' hb⟩,fun e=>ak.below (h.c e) hb,h.d⟩
theorem WJ.slots(h:WJ B pl i lA lB lC lD vA vB vC vD w)(e1:uA=vA)(e2:uB=vB)(e3:uC=vC)(e4:uD=vD):WJ B pl i lA lB lC lD uA uB uC uD w:=by rw[e1,e2,e3,e4];exact h
theorem WJ.a5H(h:WJ B pl i lA lB lC lD vA vB vC vD w)(ho:aP w' w.heap.size v9 pl)(hb:bz w w')(e1:uA=v9)(e2:uB=vB)(e3:uC=vC)(e4:uD=vD):WJ B pl i true lB lC lD uA uB uC uD w':=by
 rw[e1,e2,e3,e4];have h':=h.below hb;exact⟨h'.sz,fun _ _=>ak.weaken ho h.sz,h'.b,h'.c,h'.d⟩
theorem WJ.a5G(h:WJ B pl i lA lB lC lD vA vB vC vD w)(e1:uA=vA)(e2:uB=.slice (some ⟨w.heap.size,0,none⟩) 1 1)(e3:uC=vC)(e4:uD=vD):WJ B pl i lA true lC lD uA uB uC uD (w.alloc (.cells #[.int .i64 i] jD)):=by
 rw[e1,e2,e3,e4];have h':=h.below (bR.alloc nR (.cells #[.int .i64 i] jD));exact⟨h'.sz,h'.a,fun _ _=>⟨_,rfl,az w [.int .i64 i] _⟩,h'.c,h'.d⟩
theorem WJ.run(h:WJ B pl i lA lB lC lD vA vB vC vD w)(hA:lA=true)(hB:lB=true)(hC:lC=false)(hn:pl.length<=100000):∃g v9 w9,vB=.slice (some ⟨g,0,none⟩) 1 1∧(Builtin.append_ #[bQ,bQ] bQ #[vA,.slice (some ⟨g,0,none⟩) 1 1]).run prog w=.ok v9 w9∧aP w9 B v9 (pl++[i])∧Below B w w9:=by
 obtain⟨g,e,hb⟩:=h.b hB hC;obtain⟨v9,w9,h1,h2,h3,-⟩:=ak.app (P:=prog) (xs:=[i]) (c:=1) (g:=g) (o:=0) (ts:=bQ) underlying35 kV rfl (by decide) (by decide) ig uV (h.a hA hC) (fun _=>qy ig (by simpa[ic]using hb)) (by simp;omega) h.sz;exact⟨g,v9,w9,e,h1,h2,bR.grown h3 h.sz fun k hk=>((h.a hA hC).block hk).1⟩
theorem WJ.a5F(h:WJ B pl i lA lB lC lD vA vB vC vD w)(hD:lD=false)(ho:aP w' B v9 (pl++[i]))(hb:w.heap.size<=w'.heap.size)(e3:uC=v9):WJ B pl i lA lB true lD uA uB uC uD w':=by
 rw[e3,hD];exact⟨Nat.le_trans h.sz hb,(fun _ e=>nomatch e),(fun _ e=>nomatch e),fun _=>ho,fun e=>nomatch e⟩
theorem WJ.a5E(h:WJ B pl i lA lB lC lD vA vB vC vD w)(hC:lC=true)(e1:uA=vA)(e2:uB=vB)(e3:uC=vC)(e4:uD=vC):WJ B pl i lA lB lC true uA uB uC uD w:=by
 rw[e1,e2,e3,e4];exact⟨h.sz,h.a,h.b,h.c,fun _=>⟨hC,rfl⟩⟩
end
theorem Wp(wi aH M:Int)(tv:Value)(t:T)(m:Nat)(w:World)(ht:aQ w tv t) :
  Calls prog 58 #[.agg #[.int .i64 wi,.int .i64 aH,.int .i64 M,tv,.map (some m)],.int .i64 0] w fun e w'=>∃v,e=.returned v∧aP w' w.heap.size v (gz t 0)∧bz w w':=by
 rw[Ug];obtain⟨At,ct,rfl,hr,hy⟩:=ht;have HR:=Hd hr;have HY:=Hd hy;clear hr hy;have HB1:Hid (bz w (w.alloc (.cells (Vb wi aH M At t.length ct m).toArray 30))):=bR.alloc nR _;have jR:Hid (aA (w.alloc (.cells (Vb wi aH M At t.length ct m).toArray 30)) w.heap.size (Vb wi aH M At t.length ct m)):=az w (Vb wi aH M At t.length ct m) _;go_enter func58,ntmps58
 go_upto_region 1 with(fail)
 generalize (w.alloc (.cells (Vb wi aH M At t.length ct m).toArray 30))=w0 at*;have hbs:=a0N 0 w0;have HO:Hid (aP (w0.alloc (.cells #[.int .i64 0] jD)) w.heap.size (.slice (some ⟨w0.heap.size,0,none⟩) 1 1) [0]):=ak.lit ig w0 [0] HB1.o.size (by decide);have HB2:Hid (bz w (w0.alloc (.cells #[.int .i64 0] jD))):=HB1.o.alloc HB1.o.size _;go_wp2_with (fail);go_ret;exact⟨_,rfl,HO.o,HB2.o⟩
theorem a1B(wi aH M:Int)(tv:Value)(t:T)(m:Nat)(ok:Ok t)(hn:t.length<=1000)(nJ:Int)(w:World)(ht:aQ w tv t)(hi:nJ∈ids t)
  (ih:∀W,aQ W tv t->Calls prog 58 #[.agg #[.int .i64 wi,.int .i64 aH,.int .i64 M,tv,.map (some m)],.int .i64 (par t nJ)] W fun e w'=>∃v,e=.returned v∧aP w' W.heap.size v (gz t (par t nJ))∧bz W w') :
  Calls prog 58 #[.agg #[.int .i64 wi,.int .i64 aH,.int .i64 M,tv,.map (some m)],.int .i64 nJ] w fun e w'=>∃v,e=.returned v∧aP w' w.heap.size v (gz t nJ)∧bz w w':=by
 have hne:=ok.wU hi;have q:(nJ==0)=false:=by simpa using hne
 have HP:=Hd (fun A c W hr=>a1C A t c nJ W hr (by omega));have HIH:=Hd ih
 have HPN:Hid ((gz t (par t nJ)).length<=100000):=by
  have:=Oe ok (ok.fG hi);show _<=_;omega
 rw[zL ok hi];generalize gz t (par t nJ)=PL at*;generalize par t nJ=pp at*;clear ih ok hi hne hn;obtain⟨At,ct,rfl,hr,hy⟩:=ht;have HR:=Hd hr;have HY:=Hd hy;clear hr hy;have HB1:Hid (bz w (w.alloc (.cells (Vb wi aH M At t.length ct m).toArray 30))):=bR.alloc nR _;have jR:Hid (aA (w.alloc (.cells (Vb wi aH M At t.length ct m).toArray 30)) w.heap.size (Vb wi aH M At t.length ct m)):=az w (Vb wi aH M At t.length ct m) _;go_enter func58,ntmps58
 go_upto_region 1 with(fail)
 generalize (w.alloc (.cells (Vb wi aH M At t.length ct m).toArray 30))=w0 at*;have FS:Hid (∀W,bz w0 W->aA W w.heap.size (Vb wi aH M At t.length ct m)):=fun W hb=>jR.o.below' hb;have FP:Hid (∀W,bz w0 W->Calls prog 40 #[.slice At t.length ct,.int .i64 nJ] W (aX (.int .i64 pp) W)):=fun W hb=>HP.o At ct W (aU.below HR.o (HB1.o.trans (hb.mono HB1.o.size)))
 have FW:Hid (∀W,bz w0 W->Calls prog 58 #[.agg (Vb wi aH M At t.length ct m).toArray,.int .i64 pp] W fun e w'=>∃v,e=.returned v∧aP w' W.heap.size v PL∧bz W w'):=fun W hb=>HIH.o W (aQ.below ⟨At,ct,rfl,HR.o,HY.o⟩ (HB1.o.trans (hb.mono HB1.o.size)))
 go_upto_region 3 with(fail)
 refine Kr (Below w0.heap.size) (fun L V wx=>WJ w0.heap.size PL nJ (L 5) (L 7) (L 8) (L 9) (V 13) (V 15) (V 16) (V 4) wx) [8,9,10,11,12,13,14,15,16,4] (fun _=>bR) (fun _ _ _ h k=>h.trans k) (fun i=>match i with
  |0=>rV (.agg ((Vb wi aH M At t.length ct m)).toArray)
  |1=>rp w.heap.size 3
  |2=>rV (.slice At t.length ct)
  |3|6=>rV (.int .i64 nJ)
  |4=>rV (.int .i64 pp)
  |_=>ra) (bR.drew) (⟨nR,nofun,nofun,nofun,fun e=>nomatch e⟩) ⟨?_,?_,?_,?_,?_,?_,?_,?_,?_,?_,trivial⟩ ?_
 any_goals (first|refine fK fun L a w1 hh=>?_|fail)
 ·have h2:=hh.p 2 w.heap.size 0;have hB:=Hd (FS.o _ hh.rel);have hJ:=Hd hh.st;exact aN 30 _ rfl w.heap.size 0 (by simpa[go_sem]using h2) _ hB.o ((Vb wi aH M At t.length ct m)) rfl _ underlying30 rfl ag ⟨_,rfl,bR,rfl,WJ.slots hJ.o sn sn sn sn⟩
 have h2:=hh.p 2 w.heap.size 0;have i0:=(FS.o _ hh.rel).inside;rotate_left;have h9:=rq (hh.d 1 9);have ⟨c0,i0⟩:=(FS.o _ hh.rel).ci 3 rfl;rotate_left;have h1:=hh.o 1 (v:=.int .i64 nJ) rfl;rotate_left
 ·have h10:=rq (hh.d 2 10);have h11:=rq (hh.d 3 11);have hC:=Hd (FP.o _ hh.rel);have hJ:=Hd hh.st;have hsz:=Hd hh.size;clear hh;go_simp;refine hC.o.mono ?_;rintro e w9 ⟨rfl,aY⟩;exact⟨_,rfl,aY.mono hJ.o.sz,rfl,WJ.slots (hJ.o.below aY) sn sn sn sn⟩
 ·have h8:=rq (hh.d 0 8);have h12:=rq (hh.d 4 12);have hC:=Hd (FW.o w1 hh.rel);have hJ:=Hd hh.st;have hsz:=Hd hh.size;clear hh;go_simp;refine hC.o.mono ?_;rintro e w9 ⟨v9,rfl,L9,aY⟩;exact⟨_,rfl,aY.mono hJ.o.sz,trivial,WJ.a5H hJ.o L9 aY (bJ.aZ (by rw[hsz.o];simp)) sn sn sn⟩
 have h1:=hh.o 1 (v:=.int .i64 nJ) rfl;rotate_left
 ·have xh:=rq (hh.d 6 14);have hJ:=Hd hh.st;have hsz:=Hd hh.size;exact zJ _ _ _ rfl (by simp[go_sem,xh]) (a0N nJ w1) ⟨_,rfl,bR.alloc hJ.o.sz _,trivial,WJ.a5G hJ.o sn (bJ.aZ (by rw[hsz.o];simp)) sn sn⟩
 ·have hsz:=Hd hh.size;obtain⟨g9,v9,w9,e15,hrn,L9,aY⟩:=hh.st.run (hh.up 5 ag) (hh.up 7 ag) hh.un HPN.o;have h13:a.tmps[13]?.getD undef=bJ.sl a 13:=by rw[←Array.getD_eq_getD_getElem?];rfl
  have h15:a.tmps[15]?.getD undef=.slice (some ⟨g9,0,none⟩) 1 1:=rq (e15);have hnd:L 9=false:=bU (fun e=>(hh.st.d e).1) hh.un;have hJ:=Hd hh.st;refine vX _ _ bQ bQ bQ rfl rfl (by simpa[go_sem]using h13) (by simpa[go_sem]using h15) hrn ⟨v9,rfl,aY,trivial,WJ.a5F hJ.o hnd L9 aY.size (bJ.aZ (by rw[hsz.o];simp))⟩
 ·have h16:a.tmps[16]?.getD undef=bJ.sl a 16:=by rw[←Array.getD_eq_getD_getElem?];rfl
  have hup:=hh.up 8 ag;have hJ:=Hd hh.st;have hsz:=Hd hh.size;clear hh;go_simp;exact⟨_,rfl,bR,trivial,WJ.a5E hJ.o hup sn sn sn (bJ.aZ (by rw[hsz.o];simp))⟩
 any_goals (have hJ:=hh.j;clear hh;go_simp;exact⟨_,rfl,bR,rfl,WJ.slots hJ.o sn sn sn sn⟩)
 intro L w4 val hL hJ hR hv;have HR4:=Hd hR;have hc:=hJ.c (hL 8 (by decide));obtain⟨-,hd⟩:=hJ.d (hL 9 (by decide));rw[←hd]at hc;have HC:=Hd hc;clear hv hL hJ hR hd hc;simp only[regs.aG,List.map_cons,List.map_nil];simp only[Act.put,List.setIfInBounds_toArray,List.set_cons_zero,List.set_cons_succ]
 skip
 go_wp2_with (fail);go_ret;exact⟨_,rfl,ak.weaken HC.o HB1.o.size,HB1.o.trans (HR4.o.mono HB1.o.size)⟩
theorem Wn(wi aH M:Int)(tv:Value)(t:T)(m:Nat)(ok:Ok t)(hn:t.length<=1000)(k:Nat):∀(i:Int) (w:World),aQ w tv t->has t i=true->depth t i<=k ->
  Calls prog 58 #[.agg #[.int .i64 wi,.int .i64 aH,.int .i64 M,tv,.map (some m)],.int .i64 i] w fun e w'=>∃v,e=.returned v∧aP w' w.heap.size v (gz t i)∧bz w w':=by
 induction k with
 |zero=>
  intro i w ht hh hd
  have h0:i=0:=by
   rcases aj.1 hh with e|e
   ·exact e
   ·rw[bM ok e]at hd;omega
  subst h0;exact Wp wi aH M tv t m w ht
 |succ k ih=>
  intro i w ht hh hd;by_cases h0:i=0
  ·subst h0;exact Wp wi aH M tv t m w ht
  have hi:=(aj.1 hh).resolve_left h0;rw[bM ok hi]at hd;exact a1B wi aH M tv t m ok hn i w ht hi fun W ht=>ih (par t i) W ht (aj.2 (ok.fG hi)) (by omega)
end
end
end Go.Proofs.YthmegninhpihkaaGreat
