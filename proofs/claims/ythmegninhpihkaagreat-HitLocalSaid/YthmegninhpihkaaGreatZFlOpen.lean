import Derived.Test.YthmegninhpihkaaGreatZSdg
import Derived.Test.YthmegninhpihkaaGreatZFlC
import Derived.Test.YthmegninhpihkaaGreatRows
import Derived.ProofKit
import Derived.OpenShut
import Derived.ChangeOld
import Derived.Carry
import Derived.Deep.Fields
import Derived.Deep.Slices
import Derived.SizedLaws
set_option maxHeartbeats 16000000
set_option maxRecDepth 100000
open Go.Proofs.Tryz
namespace Go.Proofs.YthmegninhpihkaaGreat
section
open Go.RowKit
theorem ZO(n:Int):(n.tmod 65536<0->n / 65536=n.tdiv 65536 - 1∧n % 65536=n.tmod 65536+65536)∧(0<=n.tmod 65536->n / 65536=n.tdiv 65536∧n % 65536=n.tmod 65536)∧(-65536<n.tmod 65536∧n.tmod 65536<65536):=by
 have g1:=Int.emod_nonneg n (show(65536:Int)≠0 by omega);have g2:=Int.emod_lt_of_pos n (show(0:Int)<65536 by omega);have g3:=Int.tdiv_eq_ediv (a:=n) (b:=65536);have g4:=Int.tmod_eq_emod (a:=n) (b:=65536);have hs:(65536:Int).sign=1:=rfl;have hn:((65536:Int).natAbs:Int)=65536:=rfl;rw[hs]at g3
 have hdv:(65536 ∣ n)↔n % 65536=0:=⟨Int.emod_eq_zero_of_dvd,Int.dvd_of_emod_eq_zero⟩
 by_cases h:0<=n∨(65536:Int) ∣ n
 ·rw[if_pos h]at g3 g4;omega
 ·rw[if_neg h]at g3 g4;rw[hn]at g4;rw[hdv]at h;omega
theorem Ai(n:Int)(w:World)(h1:-9223372036854710272<=n)(h2:n<=9223372036854710272) :
  Calls prog 45 #[.int .i64 n,.int .i64 65536] w fun e w'=>e=.returned (.int .i64 (n / 65536))∧w=w':=by
 obtain⟨a5,a6,a3,a4⟩:=ZO n;have hmul:n.tdiv 65536*65536+n.tmod 65536=n:=by rw[Int.mul_comm];exact Int.mul_tdiv_add_tmod n 65536
 by_cases hn:n.tmod 65536<0
 ·have HF:=Hd (a5 hn).1
  obtain⟨Q,hQ⟩:=aC (n.tdiv 65536)
  rw[hQ]at HF hmul;have b1:-140737488355329<=Q∧Q<=140737488355329:=by omega
  obtain⟨M,hM⟩:=aC (Q*65536)
  have hM2:(Q - 1)*65536=M - 65536:=by omega
  rw[hM]at hmul;have q3:wrap64 Q=Q:=IntWalk.wrap64_in _ (by omega);have q4:wrap64 M=M:=IntWalk.wrap64_in _ (by omega);have q5:wrap64 (Q - 1)=Q - 1:=IntWalk.wrap64_in _ (by omega);have q6:wrap64 (M - 65536)=M - 65536:=IntWalk.wrap64_in _ (by omega);have t1:decide (n<M)=true:=by simp;omega
  have t2:decide (n<M - 65536)=false:=by simp;omega
  obtain⟨b1,b2⟩:=b1;have b3:-9223372036854775808<=M∧M<=9223372036854775807:=by omega
  obtain⟨b3,b4⟩:=b3;clear a3 a4 a5 a6 hmul hn h1 h2;go_enter func45,ntmps45;go_wp2_with (fail)
  go_loop [5] (fun q=>q=.int .i64 Q∨q=.int .i64 (Q - 1)) (fun q=>(intOf q - (Q - 1)).toNat)
  case atStart=>exact .inl rfl
  case round=>
   rcases hrel with rfl|rfl
   ·go_wp2_with (fail)
    go_round
    case rel=>exact .inr rfl
    case measure=>simp[intOf];omega
   ·go_wp2_with (fail);go_ret;exact⟨aB HF.o.symm,rfl⟩
 ·have HF:=Hd (a6 (by omega)).1
  obtain⟨Q,hQ⟩:=aC (n.tdiv 65536)
  rw[hQ]at HF hmul;have b1:-140737488355329<=Q∧Q<=140737488355329:=by omega
  obtain⟨M,hM⟩:=aC (Q*65536)
  rw[hM]at hmul;have q3:wrap64 Q=Q:=IntWalk.wrap64_in _ (by omega);have q4:wrap64 M=M:=IntWalk.wrap64_in _ (by omega);have t1:decide (n<M)=false:=by simp;omega
  obtain⟨b1,b2⟩:=b1;have b3:-9223372036854775808<=M∧M<=9223372036854775807:=by omega
  obtain⟨b3,b4⟩:=b3;clear a3 a4 a5 a6 hmul hn h1 h2;go_enter func45,ntmps45;go_wp2_with (fail)
  go_loop [5] (fun q=>q=.int .i64 Q) (fun q=>0)
  case atStart=>rfl
  case round=>
   obtain rfl:=hrel;go_wp2_with (fail);go_ret;exact⟨aB HF.o.symm,rfl⟩
theorem Ic(n:Int)(w:World)(h1:-9223372036854710272<=n)(h2:n<=9223372036854710272) :
  Calls prog 42 #[.int .i64 n,.int .i64 65536] w (aX (.int .i64 (kG n 65536)) w):=by
 have HR:Hid (kG n 65536=if 65536 - n % 65536<=n % 65536 then n / 65536+1 else n / 65536):=rfl;have HD:=Hd (Ai n w h1 h2);have g1:=Int.emod_nonneg n (show(65536:Int)≠0 by omega);have g2:=Int.emod_lt_of_pos n (show(0:Int)<65536 by omega);have g3:-140737488355329<=n / 65536∧n / 65536<=140737488355329:=by omega
 have hm:n - n / 65536*65536=n % 65536:=by omega
 generalize n / 65536=Q at*;generalize n % 65536=R at*
 obtain⟨M,hM⟩:=aC (Q*65536)
 rw[hM]at hm;have q4:wrap64 M=M:=IntWalk.wrap64_in _ (by omega);have q5:wrap64 (n - M)=R:=by rw[hm];exact IntWalk.wrap64_in _ (by omega)
 have q5':n - M=R:=hm;have q6:wrap64 (65536 - R)=65536 - R:=IntWalk.wrap64_in _ (by omega);obtain⟨g3,g4⟩:=g3;have b3:-9223372036854775808<=M∧M<=9223372036854775807:=by omega
 obtain⟨b3,b4⟩:=b3;clear hm h1 h2;go_enter func42,ntmps42;go_wp2_with (fail);refine HD.o.mono ?_;rintro e w' ⟨rfl,rfl⟩;by_cases t:65536 - R<=R
 ·have t1:decide (65536 - R<=R)=true:=by simpa using t
  rw[if_pos t]at HR;clear t;go_wp2_with (fail);go_ret;exact⟨aB HR.o.symm,bR⟩
 ·have t1:decide (65536 - R<=R)=false:=by simpa using t
  rw[if_neg t]at HR;clear t;go_wp2_with (fail);go_ret;exact⟨aB HR.o.symm,bR⟩
theorem SV(b:Mp)(p:Pt)(w:World)(h:lS b p):Calls prog 44 #[b.v,.int .i64 p.x,.int .i64 p.y] w (aX (.tuple #[.int .i64 (b.from_ p).x,.int .i64 (b.from_ p).y]) w):=by
 obtain⟨hr,hx,hy⟩:=h;obtain⟨ra,rb,rc,rd,re,rf⟩:=lH hr;clear hr;obtain⟨ka,kb,kc,kd,ke,kf⟩:=b;obtain⟨px,py⟩:=p;unfold Mp.from_;simp only at ra rb rc rd re rf hx hy ⊢
 obtain⟨U,hU⟩:=aC (px - ke)
 obtain⟨V,hV⟩:=aC (py - kf)
 rw[hU,hV];have bu:-3221225472<=U∧U<=3221225472:=by omega
 have bv:-3221225472<=V∧V<=3221225472:=by omega
 have p1:=dX ra.1 ra.2 bu.1 bu.2;have p2:=dX rc.1 rc.2 bv.1 bv.2;have p3:=dX rb.1 rb.2 bu.1 bu.2;have p4:=dX rd.1 rd.2 bv.1 bv.2;have u1:wrap64 U=U:=IntWalk.wrap64_in _ (by omega);have u2:wrap64 V=V:=IntWalk.wrap64_in _ (by omega);have u3:IntKind.i64.wrap U=U:=IntWalk.i64_in _ (by omega);have u4:IntKind.i64.wrap V=V:=IntWalk.i64_in _ (by omega)
 obtain⟨P1,hP1⟩:∃P,ka*U=P:=⟨_,rfl⟩
 obtain⟨P2,hP2⟩:∃P,kc*V=P:=⟨_,rfl⟩
 obtain⟨P3,hP3⟩:∃P,kb*U=P:=⟨_,rfl⟩
 obtain⟨P4,hP4⟩:∃P,kd*V=P:=⟨_,rfl⟩
 rw[hP1]at p1;rw[hP2]at p2;rw[hP3]at p3;rw[hP4]at p4;rw[hP1,hP2,hP3,hP4]
 obtain⟨S1,hS1⟩:∃S,P1+P2=S:=⟨_,rfl⟩
 obtain⟨S2,hS2⟩:∃S,P3+P4=S:=⟨_,rfl⟩
 rw[hS1,hS2];have s1:-6917529027641081856<=S1∧S1<=6917529027641081856:=by omega
 have s2:-6917529027641081856<=S2∧S2<=6917529027641081856:=by omega
 have v1:IntKind.i64.wrap P1=P1:=IntWalk.i64_in _ (by omega);have v2:IntKind.i64.wrap P2=P2:=IntWalk.i64_in _ (by omega);have v3:IntKind.i64.wrap P3=P3:=IntWalk.i64_in _ (by omega);have v4:IntKind.i64.wrap P4=P4:=IntWalk.i64_in _ (by omega);have v5:IntKind.i64.wrap S1=S1:=IntWalk.i64_in _ (by omega);have v6:IntKind.i64.wrap S2=S2:=IntWalk.i64_in _ (by omega);have HW1:=Hd (fun w=>Ic S1 w (by omega) (by omega));have HW2:=Hd (fun w=>Ic S2 w (by omega) (by omega));generalize kG S1 65536=z1 at*;generalize kG S2 65536=z2 at*;have HU:=Hd (And.intro u1 (And.intro u2 (And.intro hU hV)))
 clear ra rb rc rd re rf hx hy bu bv p1 p2 p3 p4 s1 s2;unfold Mp.v;simp only;go_enter func44,ntmps44;go_wp2_with (fail)
 go_quiet (fail)
 clear hU hV u1 u2 u3 u4;have HB:Hid (bz w ((w.alloc (.cells (Vh ka kb kc kd ke kf).toArray 38)).drewN nq)):=Below.drewN' (bR.alloc nR _) _
 have bm:Hid (nH [(w.heap.size,(Vh ka kb kc kd ke kf))] ((w.alloc (.cells (Vh ka kb kc kd ke kf).toArray 38)).drewN nq)):=⟨(aA w (Vh ka kb kc kd ke kf) _).drewN _,trivial⟩
 generalize ((w.alloc (.cells (Vh ka kb kc kd ke kf).toArray 38)).drewN nq)=W1 at*;clear HU;go_wp2_with (fail)
 refine wR (regs.bl) (fun _ wx=>nH [(w.heap.size,(Vh ka kb kc kd ke kf))] wx) [18,19,20,21,22,23,24,25,26,27,28,29,30,31,32,33,34,35,36,37,6,7] (fun _=>regs.EH _) (regs.Iy) (fun i=>match i with
  |0=>rp w.heap.size 0
  |1=>rV (.int .i64 ka)
  |2|12=>rV (.int .i64 U)
  |3=>rV (.int .i64 P1)
  |4=>rp w.heap.size 2
  |5=>rV (.int .i64 kc)
  |6|16=>rV (.int .i64 V)
  |7=>rV (.int .i64 P2)
  |8=>rV (.int .i64 S1)
  |9|20=>rV (.int .i64 z1)
  |10=>rp w.heap.size 1
  |11=>rV (.int .i64 kb)
  |13=>rV (.int .i64 P3)
  |14=>rp w.heap.size 3
  |15=>rV (.int .i64 kd)
  |17=>rV (.int .i64 P4)
  |18=>rV (.int .i64 S2)
  |19|21=>rV (.int .i64 z2)
  |_=>ra) (bR.drew) (bm.o) ⟨?_,?_,?_,?_,?_,?_,?_,?_,?_,?_,?_,?_,?_,?_,?_,?_,?_,?_,?_,?_,?_,?_,trivial⟩ ?_
 any_goals (first|refine zp fun L a w1 hh=>?_|fail)
 have h3:=hh.p 3 w.heap.size 0;rotate_left
 ·have h18:=rq (hh.d 0 18);obtain⟨⟨c0,c1,c2,c3,c4,c5⟩,-,ci⟩:=(hh.st.1).c6;have hJ:=hh.j;clear hh;go_simp;exact⟨_,rfl,rB,rfl,hJ.o⟩
 have h8:=hh.o 8 (v:=.int .i64 U) rfl;rotate_left;have h19:=rq (hh.d 1 19);have h20:=rq (hh.d 2 20);rotate_left;have h3:=hh.p 3 w.heap.size 0;rotate_left
 ·have h22:=rq (hh.d 4 22);obtain⟨⟨c0,c1,c2,c3,c4,c5⟩,-,ci⟩:=(hh.st.1).c6;have hJ:=hh.j;clear hh;go_simp;exact⟨_,rfl,rB,rfl,hJ.o⟩
 have h9:=hh.o 9 (v:=.int .i64 V) rfl;rotate_left;have h23:=rq (hh.d 5 23);have BG:=rq (hh.d 6 24);rotate_left;have h21:=rq (hh.d 3 21);have C9:=rq (hh.d 7 25);rotate_left
 ·have Hq:=rq (hh.d 8 26);have:=True.intro;have hJ:=hh.j;clear hh;go_simp;refine(HW1.o w1).mono ?_;rintro e w9 ⟨rfl,bC⟩;exact⟨_,rfl,bC,rfl,nH.below hJ.o bC⟩
 have h3:=hh.p 3 w.heap.size 0;rotate_left
 ·have h28:=rq (hh.d 10 28);obtain⟨⟨c0,c1,c2,c3,c4,c5⟩,-,ci⟩:=(hh.st.1).c6;have hJ:=hh.j;clear hh;go_simp;exact⟨_,rfl,rB,rfl,hJ.o⟩
 have h8:=hh.o 8 (v:=.int .i64 U) rfl;rotate_left;have BF:=rq (hh.d 11 29);have h30:=rq (hh.d 12 30);rotate_left;have h3:=hh.p 3 w.heap.size 0;rotate_left
 ·have h32:=rq (hh.d 14 32);obtain⟨⟨c0,c1,c2,c3,c4,c5⟩,-,ci⟩:=(hh.st.1).c6;have hJ:=hh.j;clear hh;go_simp;exact⟨_,rfl,rB,rfl,hJ.o⟩
 have h9:=hh.o 9 (v:=.int .i64 V) rfl;rotate_left;have TZ:=rq (hh.d 15 33);have We:=rq (hh.d 16 34);rotate_left;have h31:=rq (hh.d 13 31);have h35:=rq (hh.d 17 35);rotate_left
 ·have V9:=rq (hh.d 18 36);have:=True.intro;have hJ:=hh.j;clear hh;go_simp;refine(HW2.o w1).mono ?_;rintro e w9 ⟨rfl,bC⟩;exact⟨_,rfl,bC,rfl,nH.below hJ.o bC⟩
 have h27:=rq (hh.d 9 27);rotate_left;have h37:=rq (hh.d 19 37);rotate_left
 any_goals (have hJ:=hh.j;clear hh;go_simp;exact⟨_,rfl,rB,rfl,hJ.o⟩)
 intro L w2 val hL hJ hR hv;have h6:val 6=.int .i64 z1:=hv 20 6 ag;have h7:val 7=.int .i64 z2:=hv 21 7 ag;have dn:=Hd hJ;have HR2:=Hd hR;clear hv hL hJ hR;simp only[regs.aG,List.map_cons,List.map_nil];rw[h6,h7];generalize val 18=v18;generalize val 19=v19;generalize val 20=v20;generalize val 21=v21;generalize val 22=v22;generalize val 23=v23;generalize val 24=v24;generalize val 25=v25;generalize val 26=v26;generalize val 27=v27;generalize val 28=v28;generalize val 29=v29;generalize val 30=v30;generalize val 31=v31;generalize val 32=v32;generalize val 33=v33
 generalize val 34=v34;generalize val 35=v35;generalize val 36=v36;generalize val 37=v37;simp only[Act.put,List.setIfInBounds_toArray,List.set_cons_zero,List.set_cons_succ];clear h6 h7;have B2:=Hd (HB.o.trans (HR2.o.mono HB.o.size));clear HB HR2 dn;go_wp2_with (fail);go_ret2;exact⟨rfl,B2.o⟩
end
section
open Go.RowKit
def xG(Z:List Int)(t:List Value)(k:Nat):List Value:=(Z.take k).map eI++(List.replicate (Z.length - k) (eI 0)++t)
theorem OU(Z:List Int)(t:List Value){k:Nat}(hk:k<Z.length):(xG Z t k).set k (eI Z[k])=xG Z t (k+1):=by
 unfold xG;have e:Z.length - k=(Z.length - (k+1))+1:=by omega
 rw[List.take_succ_eq_append_getElem hk,List.map_append,e,List.replicate_succ,List.set_append,if_neg (by simp[Nat.min_eq_left (Nat.le_of_lt hk)])];simp[Nat.min_eq_left (Nat.le_of_lt hk)]
theorem WT(Z:List Int)(t:List Value){k:Nat}(hk:k<Z.length):(xG Z t k)[k]?=some (.int .i64 0):=by
 unfold xG;rw[List.getElem?_append_right (by simp[Nat.min_eq_left (Nat.le_of_lt hk)]),List.getElem?_append_left (by simp[Nat.min_eq_left (Nat.le_of_lt hk)];omega)];simp only[List.length_map,List.length_take,Nat.min_eq_left (Nat.le_of_lt hk),Nat.sub_self,List.getElem?_replicate];rw[if_pos (by omega)];rfl
theorem Sz(Z:List Int)(t:List Value){k:Nat}(hk:k<Z.length):(xG Z t (k+1))[k]?=some (.int .i64 Z[k]):=by
 unfold xG;rw[List.getElem?_append_left (by simp;omega),List.getElem?_map,List.getElem?_take_of_lt (Nat.lt_succ_self _),List.getElem?_eq_getElem hk];rfl
def Mp.l4b(m:Mp):List Int:=[m.d,-m.b,-m.c,m.a]
theorem a2q(m:Mp):m.bk.l4=m.l4b.map fun x=>yZ x m.Fq:=rfl
theorem a0f(m:Mp)(w:World)(hr:m.right=true):Calls prog 18 #[m.v] w (aX (.tuple #[m.back.1.v,.int .i64 m.back.2]) w):=by
 have uN:Hid (m.back=if m.Fq=0 then (Mp.o,43) else if dI m.bk.l4=true then (m.bk,0) else (Mp.o,35)):=by
  show _=_;unfold Mp.back;rw[if_neg (by rw[hr];decide)]
 obtain⟨ra,rb,rc,rd,re,rf⟩:=lH hr
 obtain⟨R,hR⟩:=aC m.back
 rw[hR]at uN ⊢;clear hR hr;obtain⟨RM,RE⟩:=R;have Jc:Hid (m.Fq=m.a*m.d - m.b*m.c):=rfl
 obtain⟨Z,hZ⟩:=aC m.bk.l4
 obtain⟨L4,hL4⟩:∃L,m.l4b=L:=⟨_,rfl⟩
 have HLZ:Hid (L4.length=4∧Z.length=4):=by rw[←hZ,←hL4];exact⟨rfl,rfl⟩
 have Zm:Hid (∀k (h:k<Z.length) (h':k<L4.length),Z[k]=yZ L4[k] m.Fq):=by
  intro k h h';subst hZ;subst hL4;simp[a2q]
 have a02:Hid (∀x∈L4,-1073741824<=x∧x<=1073741824):=by
  intro x hx;rw[←hL4]at hx;simp only[Mp.l4b,List.mem_cons,List.not_mem_nil,or_false]at hx;rcases hx with rfl|rfl|rfl|rfl<;>omega
 have Ob:Hid (xG Z [.int .i64 m.e,.int .i64 m.f] 4=m.bk.cs):=by rw[←hZ];rfl
 have Oc:Hid (xG Z [.int .i64 m.e,.int .i64 m.f] 0=[.int .i64 0,.int .i64 0,.int .i64 0,.int .i64 0,.int .i64 m.e,.int .i64 m.f]):=by rw[←hZ];rfl
 have ou:Hid (L4.map eI=(Vl m.d (-m.b) (-m.c) m.a)):=by rw[←hL4];rfl
 rw[hZ]at uN;clear hZ hL4;generalize m.Fq=D at*;generalize m.bk=K at*;obtain⟨ka,kb,kc,kd,ke,kf⟩:=m;unfold Mp.v;simp only at ra rb rc rd re rf Jc Ob Oc ou ⊢;have Ep:=Jc.o;obtain⟨x1,x2⟩:=mJ ra.1 ra.2 rd.1 rd.2;obtain⟨y1,y2⟩:=mJ rb.1 rb.2 rc.1 rc.2
 obtain⟨X,hX⟩:=aC (ka*kd)
 obtain⟨Y,hY⟩:=aC (kb*kc)
 rw[hX,hY]at Ep;rw[hX]at x1 x2;rw[hY]at y1 y2;have q3:X - Y=D:=Ep.symm;have yC:Hid (-2305843009213693952<=D∧D<=2305843009213693952):=by rw[Ep];show _∧_;omega
 obtain⟨d1,d2⟩:=yC.o;obtain⟨rb1,rb2⟩:=rb;obtain⟨rc1,rc2⟩:=rc
 obtain⟨NB,hNB⟩:∃x,-kb=x:=⟨_,rfl⟩
 obtain⟨NC,hNC⟩:∃x,-kc=x:=⟨_,rfl⟩
 rw[hNB,hNC]at ou;have nb1:-1073741824<=NB∧NB<=1073741824:=by omega
 have nc1:-1073741824<=NC∧NC<=1073741824:=by omega
 obtain⟨nb1,nb2⟩:=nb1;obtain⟨nc1,nc2⟩:=nc1;clear Ep Jc ra rd re rf;by_cases hD:D=0
 ·have t:(D==0)=true:=by simpa using hD
  have hT:=uN.o.trans (if_pos hD)
  injection hT with h1 h2
  subst h1;subst h2;clear hD uN yC HLZ Zm a02 Ob Oc ou;go_enter func18,ntmps18;go_wp2_with (fail);exact aJ rfl rfl rfl (aV (w.alloc _) _ (by simp) Mp.o.cs _) underlying38 rfl ag ⟨rfl,(bR.alloc nR _).alloc (by simp) _⟩
 ·have t:(D==0)=false:=by simpa using hD
  have E8:=Hd (uN.o.trans (if_neg hD));have HD0:=Hd hD;clear hD uN;go_enter func18,ntmps18;go_wp2_with (fail)
  go_loopw [7] (fun i wr=>∃k:Nat,k<=4∧i=.int .i64 k∧Hid (dI (Z.take k)=true)∧Hid (bz w wr)∧Hid (az wr w.heap.size (Vh ka kb kc kd ke kf))∧Hid (az wr (w.heap.size+1) Mp.o.cs)∧Hid (az wr (w.heap.size+1+1) (L4.map eI))∧Hid (az wr (w.heap.size+1+1+1) (xG Z [.int .i64 ke,.int .i64 kf] k))) (fun i _=>4 - (intOf i).toNat)
  case atStart=>
   refine⟨0,Nat.zero_le _,rfl,by simp[Hid,dI],?_,?_,?_,?_,?_⟩
   ·show Below _ _ _;refine Below.alloc (Below.alloc (Below.alloc (bR.alloc nR _) ?_ _) ?_ _) ?_ _
    all_goals simp only[World.size_alloc]
    all_goals omega
   ·exact(((aA w (Vh ka kb kc kd ke kf) _).alloc _).alloc _).alloc _
   ·exact((aV (w.alloc _) _ (by simp) Mp.o.cs _).alloc _).alloc _
   ·rw[ou.o];exact(aV _ _ (by simp) (Vl kd NB NC ka) _).alloc _
   ·rw[Oc.o];exact aV _ _ (by simp) [.int .i64 0,.int .i64 0,.int .i64 0,.int .i64 0,.int .i64 ke,.int .i64 kf] _
  case round=>
   obtain⟨k,hk,rfl,HK,HB,HM,HR,HL,HN⟩:=hrel;clear hX hY q3 x1 x2 y1 y2 hNB hNC rb1 rb2 rc1 rc2 nb1 nb2 nc1 nc2 Oc ou;by_cases hlt:k<4
   ·have hkl:k<L4.length:=by rw[HLZ.o.1];exact hlt
    have hkz:k<Z.length:=by rw[HLZ.o.2];exact hlt
    have hc:=HL.o.at6 hkl;have H1:=Hd (qM HK.o hkz);have H0:=Hd (uG (l:=Z) hkz);have HS:=Hd (OU Z [.int .i64 ke,.int .i64 kf] hkz);have a1m:=Hd (Sz Z [.int .i64 ke,.int .i64 kf] hkz);have hz0:=(HN.o.cell k).trans (WT Z [.int .i64 ke,.int .i64 kf] hkz);have hzf:=HN.o.free k;obtain⟨b1,b2⟩:=a02.o _ (List.getElem_mem hkl);rw[Zm.o k hkz hkl]at H1 H0 HS a1m;generalize L4[k]=x at*
    obtain⟨N,hN⟩:=aC (x*4294967296)
    have n1:-4611686018427387904<=N∧N<=4611686018427387904:=by omega
    obtain⟨n1,n2⟩:=n1;have hl4:=HL.o.inside;have Xu:=HN.o.inside;clear HK hkl hkz;by_cases hneg:D<0
    ·clear t;have t2:decide (D<0)=true:=by simpa using hneg
     have HZ:Hid (yZ x D=kG (-N) (-D)):=by
      show _=_;unfold yZ;rw[if_pos hneg,show -x*4294967296=-N by omega]
     have hd0:D≠0:=HD0.o;have Fv:=Hd (fun w=>rX (-N) (-D) w (by omega) (by omega) (by omega) (by omega));rw[←HZ.o]at Fv
     obtain⟨NN,hNN⟩:∃x,-N=x:=⟨_,rfl⟩
     obtain⟨DD,hDD⟩:∃x,-D=x:=⟨_,rfl⟩
     rw[hNN,hDD]at Fv;have n3:-4611686018427387904<=NN∧NN<=4611686018427387904:=by omega
     have n4:-2305843009213693952<=DD∧DD<=2305843009213693952:=by omega
     obtain⟨n3,n5⟩:=n3;obtain⟨n4,n6⟩:=n4;clear hneg HZ hd0;generalize yZ x D=z at*;go_wp2_with (fail);refine(Fv.o _).mono ?_;rintro e2 w2 ⟨rfl,rfl⟩
     have bn:Hid (az (wr.setCell ⟨w.heap.size+1+1+1,k,none⟩ (.int .i64 z)) (w.heap.size+1+1+1) (xG Z [.int .i64 ke,.int .i64 kf] (k+1))):=by
      show az _ _ _;rw[←HS.o];exact HN.o.set k _
     have c0:(wr.setCell ⟨w.heap.size+1+1+1,k,none⟩ (.int .i64 z)).cell? ⟨w.heap.size+1+1+1,k,none⟩=some (.int .i64 z):=(bn.o.cell k).trans a1m.o;have hB2:=Hd (dG (i:=k) (v:=.int .i64 z) HB.o (show w.heap.size<=w.heap.size+1+1+1 by omega));have hm2:=Hd (HM.o.other (show w.heap.size≠w.heap.size+1+1+1 by omega) k (.int .i64 z));have hr2:=Hd (HR.o.other (show w.heap.size+1≠w.heap.size+1+1+1 by omega) k (.int .i64 z));have hl2:=Hd (HL.o.other (show w.heap.size+1+1≠w.heap.size+1+1+1 by omega) k (.int .i64 z));clear Fv HD0
     go_wp2_with (fail);generalize wr.setCell ⟨w.heap.size+1+1+1,k,none⟩ (.int .i64 z)=wx at*;refine(jV z wx).mono ?_;cases hx:bU z with
     |true=>
      rw[hx]at H1;have HB2:=Hd (H1.o rfl);clear H1 H0 hx c0 hc hz0 hzf;rintro e3 w3 ⟨rfl,rfl⟩;go_wp2_with (fail)
      go_roundw
      case rel=>exact⟨k+1,by omega,by go_num,HB2,hB2,hm2,hr2,hl2,bn⟩
      case measure=>simp[intOf];omega
     |false=>
      rw[hx]at H0;have hT:=E8.o.trans (if_neg (by rw[H0.o rfl];decide))
      injection hT with h1 h2
      subst h1;subst h2;clear H1 H0 hx c0 hc hz0 hzf E8;obtain⟨⟨c0,c1,c2,c3,c4,c5⟩,⟨f0,f1,f2,f3,f4,f5⟩,ri⟩:=az.c6 hr2.o;rintro e3 w3 ⟨rfl,rfl⟩;go_wp2_with (fail);exact aJ rfl rfl rfl (az.oK hr2.o _ _ _ _ _ _) underlying38 rfl ag ⟨rfl,gz hB2.o (by omega) _ _ _ _ _ _⟩
    ·clear t;have t2:decide (D<0)=false:=by simpa using hneg
     have HZ:Hid (yZ x D=kG N D):=by
      show _=_;unfold yZ;rw[if_neg hneg,hN]
     have hd0:D≠0:=HD0.o;have Fv:=Hd (fun w=>rX N D w (by omega) (by omega) (by omega) (by omega));rw[←HZ.o]at Fv;clear hneg HZ hd0;generalize yZ x D=z at*;go_wp2_with (fail);refine(Fv.o _).mono ?_;rintro e2 w2 ⟨rfl,rfl⟩
     have bn:Hid (az (wr.setCell ⟨w.heap.size+1+1+1,k,none⟩ (.int .i64 z)) (w.heap.size+1+1+1) (xG Z [.int .i64 ke,.int .i64 kf] (k+1))):=by
      show az _ _ _;rw[←HS.o];exact HN.o.set k _
     have c0:(wr.setCell ⟨w.heap.size+1+1+1,k,none⟩ (.int .i64 z)).cell? ⟨w.heap.size+1+1+1,k,none⟩=some (.int .i64 z):=(bn.o.cell k).trans a1m.o;have hB2:=Hd (dG (i:=k) (v:=.int .i64 z) HB.o (show w.heap.size<=w.heap.size+1+1+1 by omega));have hm2:=Hd (HM.o.other (show w.heap.size≠w.heap.size+1+1+1 by omega) k (.int .i64 z));have hr2:=Hd (HR.o.other (show w.heap.size+1≠w.heap.size+1+1+1 by omega) k (.int .i64 z));have hl2:=Hd (HL.o.other (show w.heap.size+1+1≠w.heap.size+1+1+1 by omega) k (.int .i64 z));clear Fv HD0
     go_wp2_with (fail);generalize wr.setCell ⟨w.heap.size+1+1+1,k,none⟩ (.int .i64 z)=wx at*;refine(jV z wx).mono ?_;cases hx:bU z with
     |true=>
      rw[hx]at H1;have HB2:=Hd (H1.o rfl);clear H1 H0 hx c0 hc hz0 hzf;rintro e3 w3 ⟨rfl,rfl⟩;go_wp2_with (fail)
      go_roundw
      case rel=>exact⟨k+1,by omega,by go_num,HB2,hB2,hm2,hr2,hl2,bn⟩
      case measure=>simp[intOf];omega
     |false=>
      rw[hx]at H0;have hT:=E8.o.trans (if_neg (by rw[H0.o rfl];decide))
      injection hT with h1 h2
      subst h1;subst h2;clear H1 H0 hx c0 hc hz0 hzf E8;obtain⟨⟨c0,c1,c2,c3,c4,c5⟩,⟨f0,f1,f2,f3,f4,f5⟩,ri⟩:=az.c6 hr2.o;rintro e3 w3 ⟨rfl,rfl⟩;go_wp2_with (fail);exact aJ rfl rfl rfl (az.oK hr2.o _ _ _ _ _ _) underlying38 rfl ag ⟨rfl,gz hB2.o (by omega) _ _ _ _ _ _⟩
   ·have hk4:k=Z.length:=by rw[HLZ.o.2];omega
    have HA:Hid (dI Z=true):=by
     have h:=HK.o;rw[hk4,List.take_length]at h;exact h
    have hT:=E8.o.trans (if_pos HA.o)
    injection hT with h1 h2
    subst h1;subst h2
    have bn:Hid (az wr (w.heap.size+1+1+1) RM.cs):=by
     show az _ _ _;rw[←Ob.o,←HLZ.o.2,←hk4];exact HN.o
    obtain rfl:k=4:=by rw[hk4,HLZ.o.2]
    clear E8 Ob HK HA HN hk4 Zm a02 HLZ yC;obtain⟨va,vb,vc,vd,ve,vf⟩:=RM;obtain⟨⟨c0,c1,c2,c3,c4,c5⟩,⟨f0,f1,f2,f3,f4,f5⟩,ri⟩:=az.c6 HR.o;obtain⟨⟨e0,e1,e2,e3,e4,e5⟩,-,ei⟩:=az.c6 bn.o;simp only at e0 e1 e2 e3 e4 e5;go_wp2_with (fail);exact aJ rfl rfl rfl (az.oK HR.o _ _ _ _ _ _) underlying38 rfl ag ⟨rfl,gz HB.o (by omega) _ _ _ _ _ _⟩
end
section
section
open Go.RowKit Go.ChangeShapes Go.WideShapes Go.ChangeAt Go.Deep
theorem own:ownKnob prog.godebug=none:=by kernel_rfl
theorem laidOut:laidOutB prog=true:=by kernel_rfl
theorem qg(b off j:Nat):(⟨b,off,none⟩:Addr).add j=⟨b,off+j,none⟩:=by unfold Addr.add;split<;>simp_all
theorem Dh{α:Type}{n:Nat}{p:Nat->α->Prop}(h:∀i,i<n->∃x,p i x):∃l:List α,l.length=n∧∀i (hi:i<l.length),p i l[i]:=by
 induction n with
 |zero=>exact⟨[],rfl,fun i hi=>by simp at hi⟩
 |succ n ih=>
  obtain⟨l,hl,hp⟩:=ih (fun i hi=>h i (by omega));obtain⟨x,hx⟩:=h n (by omega);refine⟨l++[x],by simp[hl],fun i hi=>?_⟩;rw[List.length_append,List.length_cons,List.length_nil]at hi;by_cases hin:i<l.length
  ·rw[List.getElem_append_left hin];exact hp i hin
  ·have:i=n:=by omega
   subst this
   have e:(l++[x])[i]'(by rw[List.length_append,List.length_cons,List.length_nil];omega)=x:=by
    rw[List.getElem_append_right (by omega)];simp[hl]
   rw[e];exact hx
end
section
open Go.RowKit Go.ChangeShapes Go.WideShapes Go.ChangeAt Go.Deep fB fK
section
variable {H:Type}{enc:TypeId×Value->H}{w:World}{base:Nat}{held:Bool}{k:Nat}
theorem WN{x:Value}{y:DataW H×List MemPlace}(h:DataW.trod enc prog w base (fun _=>true) held k 71 [x]=some y):∃(A:Option Addr) (l:List Nat) (c:Nat),x=.slice A l.length c∧Row eW w A l∧l.length<=c∧c<=maxLen∧∀z∈l,z<4294967296:=by
 rcases open_ints underlying71 underlying70 ag h with ⟨hcs,_⟩|⟨a,l,c,zs,hcs,_,hl,hm,hz,_,hcell,hwz⟩
 ·obtain rfl:=List.singleton_inj.1 hcs;exact⟨none,[],0,rfl,Row.none_ rfl,nR,by unfold maxLen;omega,fun z hz=>by cases hz⟩
 ·obtain rfl:=List.singleton_inj.1 hcs;have hzl:zs.length=c:=by simpa using hz
  have hb:∀z∈zs,0<=z∧z<=4294967295:=fun z hz=>bounds_u32 (hwz z hz);have hll:((zs.take l).map Int.toNat).length=l:=by simp;omega
  refine⟨some a,(zs.take l).map Int.toNat,c,by rw[hll],fun hn=>?_,by rw[hll];exact hl,hm,fun z hz=>?_⟩
  ·rw[hll]at hn;obtain⟨b,off,spot⟩:=a;have h0:=hcell 0 (by omega);have hspot:spot=none:=by simpa[Addr.add]using World.cell?_spot h0
   subst hspot;refine⟨b,off,rfl,fun j hj=>?_⟩;rw[hll]at hj;have hc:=hcell j (by omega);rw[qg]at hc;rw[hc];have hj':j<zs.length:=by omega
   have h3:=hb zs[j] (List.getElem_mem hj');simp only[List.getElem_map,List.getElem_take,List.getD_eq_getElem?_getD,List.getElem?_eq_getElem hj',Option.getD_some,eW,Option.some.injEq,Value.int.injEq,true_and];omega
  ·simp only[List.mem_map]at hz;obtain⟨y,hy,rfl⟩:=hz;have:=hb y (List.mem_of_mem_take hy);omega
theorem O8{cs:List Value}{y:DataW H×List MemPlace}(hc:cs.length=6)(h:DataW.trod enc prog w base (fun _=>true) held k 67 cs=some y):∃m:Mp,cs=m.cs:=by
 obtain⟨c0,c1,c2,c3,c4,c5,rfl⟩:∃c0 c1 c2 c3 c4 c5,cs=[c0,c1,c2,c3,c4,c5]:=by
  match cs,hc with
  |[c0,c1,c2,c3,c4,c5],_=>exact⟨_,_,_,_,_,_,rfl⟩
 obtain⟨d,p⟩:=y;obtain⟨ys,n',_,hy,hlen,hyl,hfl⟩:=DataW.trod_struct underlying67 h;have Xp:ys.length=6:=hyl;have z0:prog.cellsOf 2=1:=by kernel_rfl
 have g0:DataW.trod enc prog w base (fun _=>true) held n' 2 ((([c0,c1,c2,c3,c4,c5]:List Value).drop 0).take (prog.cellsOf 2))=ys[0]?:=hfl 0 _ rfl;rw[z0]at g0;try simp only[List.drop_zero,List.take_succ_cons,List.take_zero]at g0
 rw[List.getElem?_eq_getElem (by omega)]at g0;have z1:prog.cellsOf 2=1:=by kernel_rfl
 have g1:DataW.trod enc prog w base (fun _=>true) held n' 2 ((([c0,c1,c2,c3,c4,c5]:List Value).drop 1).take (prog.cellsOf 2))=ys[1]?:=hfl 1 _ rfl;rw[z1]at g1;try simp only[List.drop_succ_cons,List.drop_zero,List.take_succ_cons,List.take_zero]at g1
 rw[List.getElem?_eq_getElem (by omega)]at g1;have z2:prog.cellsOf 2=1:=by kernel_rfl
 have g2:DataW.trod enc prog w base (fun _=>true) held n' 2 ((([c0,c1,c2,c3,c4,c5]:List Value).drop 2).take (prog.cellsOf 2))=ys[2]?:=hfl 2 _ rfl;rw[z2]at g2;try simp only[List.drop_succ_cons,List.drop_zero,List.take_succ_cons,List.take_zero]at g2
 rw[List.getElem?_eq_getElem (by omega)]at g2;have z3:prog.cellsOf 2=1:=by kernel_rfl
 have g3:DataW.trod enc prog w base (fun _=>true) held n' 2 ((([c0,c1,c2,c3,c4,c5]:List Value).drop 3).take (prog.cellsOf 2))=ys[3]?:=hfl 3 _ rfl;rw[z3]at g3;try simp only[List.drop_succ_cons,List.drop_zero,List.take_succ_cons,List.take_zero]at g3
 rw[List.getElem?_eq_getElem (by omega)]at g3;have z4:prog.cellsOf 2=1:=by kernel_rfl
 have g4:DataW.trod enc prog w base (fun _=>true) held n' 2 ((([c0,c1,c2,c3,c4,c5]:List Value).drop 4).take (prog.cellsOf 2))=ys[4]?:=hfl 4 _ rfl;rw[z4]at g4;try simp only[List.drop_succ_cons,List.drop_zero,List.take_succ_cons,List.take_zero]at g4
 rw[List.getElem?_eq_getElem (by omega)]at g4;have z5:prog.cellsOf 2=1:=by kernel_rfl
 have g5:DataW.trod enc prog w base (fun _=>true) held n' 2 ((([c0,c1,c2,c3,c4,c5]:List Value).drop 5).take (prog.cellsOf 2))=ys[5]?:=hfl 5 _ rfl;rw[z5]at g5;try simp only[List.drop_succ_cons,List.drop_zero,List.take_succ_cons,List.take_zero]at g5
 rw[List.getElem?_eq_getElem (by omega)]at g5;obtain⟨x0,e0,-,w0⟩:=DataW.trod_int underlying2 g0;obtain rfl:=List.singleton_inj.1 e0;obtain⟨x1,e1,-,w1⟩:=DataW.trod_int underlying2 g1;obtain rfl:=List.singleton_inj.1 e1;obtain⟨x2,e2,-,w2⟩:=DataW.trod_int underlying2 g2;obtain rfl:=List.singleton_inj.1 e2;obtain⟨x3,e3,-,w3⟩:=DataW.trod_int underlying2 g3;obtain rfl:=List.singleton_inj.1 e3;obtain⟨x4,e4,-,w4⟩:=DataW.trod_int underlying2 g4;obtain rfl:=List.singleton_inj.1 e4;obtain⟨x5,e5,-,w5⟩:=DataW.trod_int underlying2 g5;obtain rfl:=List.singleton_inj.1 e5
 exact⟨⟨x0,x1,x2,x3,x4,x5⟩,rfl⟩
theorem JC{cs:List Value}{y:DataW H×List MemPlace}(hc:cs.length=4)(h:DataW.trod enc prog w base (fun _=>true) held k 69 cs=some y):∃m:Bx,cs=m.cs:=by
 obtain⟨c0,c1,c2,c3,rfl⟩:∃c0 c1 c2 c3,cs=[c0,c1,c2,c3]:=by
  match cs,hc with
  |[c0,c1,c2,c3],_=>exact⟨_,_,_,_,rfl⟩
 obtain⟨d,p⟩:=y;obtain⟨ys,n',_,hy,hlen,hyl,hfl⟩:=DataW.trod_struct underlying69 h;have Xp:ys.length=4:=hyl;have z0:prog.cellsOf 3=1:=by kernel_rfl
 have g0:DataW.trod enc prog w base (fun _=>true) held n' 3 ((([c0,c1,c2,c3]:List Value).drop 0).take (prog.cellsOf 3))=ys[0]?:=hfl 0 _ rfl;rw[z0]at g0;try simp only[List.drop_zero,List.take_succ_cons,List.take_zero]at g0
 rw[List.getElem?_eq_getElem (by omega)]at g0;have z1:prog.cellsOf 3=1:=by kernel_rfl
 have g1:DataW.trod enc prog w base (fun _=>true) held n' 3 ((([c0,c1,c2,c3]:List Value).drop 1).take (prog.cellsOf 3))=ys[1]?:=hfl 1 _ rfl;rw[z1]at g1;try simp only[List.drop_succ_cons,List.drop_zero,List.take_succ_cons,List.take_zero]at g1
 rw[List.getElem?_eq_getElem (by omega)]at g1;have z2:prog.cellsOf 3=1:=by kernel_rfl
 have g2:DataW.trod enc prog w base (fun _=>true) held n' 3 ((([c0,c1,c2,c3]:List Value).drop 2).take (prog.cellsOf 3))=ys[2]?:=hfl 2 _ rfl;rw[z2]at g2;try simp only[List.drop_succ_cons,List.drop_zero,List.take_succ_cons,List.take_zero]at g2
 rw[List.getElem?_eq_getElem (by omega)]at g2;have z3:prog.cellsOf 3=1:=by kernel_rfl
 have g3:DataW.trod enc prog w base (fun _=>true) held n' 3 ((([c0,c1,c2,c3]:List Value).drop 3).take (prog.cellsOf 3))=ys[3]?:=hfl 3 _ rfl;rw[z3]at g3;try simp only[List.drop_succ_cons,List.drop_zero,List.take_succ_cons,List.take_zero]at g3
 rw[List.getElem?_eq_getElem (by omega)]at g3;obtain⟨x0,e0,-,w0⟩:=DataW.trod_int underlying3 g0;obtain rfl:=List.singleton_inj.1 e0;obtain⟨x1,e1,-,w1⟩:=DataW.trod_int underlying3 g1;obtain rfl:=List.singleton_inj.1 e1;obtain⟨x2,e2,-,w2⟩:=DataW.trod_int underlying3 g2;obtain rfl:=List.singleton_inj.1 e2;obtain⟨x3,e3,-,w3⟩:=DataW.trod_int underlying3 g3;obtain rfl:=List.singleton_inj.1 e3;exact⟨⟨x0,x1,x2,x3⟩,rfl⟩
theorem G8{cs:List Value}{y:DataW H×List MemPlace}(hc:cs.length=3)(h:DataW.trod enc prog w base (fun _=>true) held k 73 cs=some y):∃(iw ih:Int) (A:Option Addr) (l:List Nat) (c:Nat),cs=(Vn iw ih A l.length c)∧Row eW w A l∧l.length<=c∧c<=maxLen∧∀z∈l,z<4294967296:=by
 obtain⟨c0,c1,c2,rfl⟩:∃c0 c1 c2,cs=[c0,c1,c2]:=by
  match cs,hc with
  |[c0,c1,c2],_=>exact⟨_,_,_,rfl⟩
 obtain⟨d,p⟩:=y;obtain⟨ys,n',_,hy,hlen,hyl,hfl⟩:=DataW.trod_struct underlying73 h;have Xp:ys.length=3:=hyl;have z0:prog.cellsOf 3=1:=by kernel_rfl
 have g0:DataW.trod enc prog w base (fun _=>true) held n' 3 ((([c0,c1,c2]:List Value).drop 0).take (prog.cellsOf 3))=ys[0]?:=hfl 0 _ rfl;rw[z0]at g0;try simp only[List.drop_zero,List.take_succ_cons,List.take_zero]at g0
 rw[List.getElem?_eq_getElem (by omega)]at g0;have z1:prog.cellsOf 3=1:=by kernel_rfl
 have g1:DataW.trod enc prog w base (fun _=>true) held n' 3 ((([c0,c1,c2]:List Value).drop 1).take (prog.cellsOf 3))=ys[1]?:=hfl 1 _ rfl;rw[z1]at g1;try simp only[List.drop_succ_cons,List.drop_zero,List.take_succ_cons,List.take_zero]at g1
 rw[List.getElem?_eq_getElem (by omega)]at g1;have z2:prog.cellsOf 71=1:=by kernel_rfl
 have g2:DataW.trod enc prog w base (fun _=>true) held n' 71 ((([c0,c1,c2]:List Value).drop 2).take (prog.cellsOf 71))=ys[2]?:=hfl 2 _ rfl;rw[z2]at g2;try simp only[List.drop_succ_cons,List.drop_zero,List.take_succ_cons,List.take_zero]at g2
 rw[List.getElem?_eq_getElem (by omega)]at g2;obtain⟨x0,e0,-,w0⟩:=DataW.trod_int underlying3 g0;obtain rfl:=List.singleton_inj.1 e0;obtain⟨x1,e1,-,w1⟩:=DataW.trod_int underlying3 g1;obtain rfl:=List.singleton_inj.1 e1;obtain⟨A,l,c,rfl,r1,r2,r3,r4⟩:=WN g2;exact⟨x0,x1,A,l,c,rfl,r1,r2,r3,r4⟩
theorem JU{cs:List Value}{y:DataW H×List MemPlace}(hc:cs.length=7)(h:DataW.trod enc prog w base (fun _=>true) held k 75 cs=some y):∃(kk WW HH:Int) (pp:Nat) (iw ih:Int) (A:Option Addr) (l:List Nat) (c:Nat),cs=(Vj kk WW HH pp iw ih A l.length c)∧pp<4294967296∧Row eW w A l∧l.length<=c∧c<=maxLen∧∀z∈l,z<4294967296:=by
 obtain⟨c0,c1,c2,c3,c4,c5,c6,rfl⟩:∃c0 c1 c2 c3 c4 c5 c6,cs=[c0,c1,c2,c3,c4,c5,c6]:=by
  match cs,hc with
  |[c0,c1,c2,c3,c4,c5,c6],_=>exact⟨_,_,_,_,_,_,_,rfl⟩
 obtain⟨d,p⟩:=y;obtain⟨ys,n',_,hy,hlen,hyl,hfl⟩:=DataW.trod_struct underlying75 h;have Xp:ys.length=5:=hyl;have z0:prog.cellsOf 3=1:=by kernel_rfl
 have g0:DataW.trod enc prog w base (fun _=>true) held n' 3 ((([c0,c1,c2,c3,c4,c5,c6]:List Value).drop 0).take (prog.cellsOf 3))=ys[0]?:=hfl 0 _ rfl;rw[z0]at g0;try simp only[List.drop_zero,List.take_succ_cons,List.take_zero]at g0
 rw[List.getElem?_eq_getElem (by omega)]at g0;have z1:prog.cellsOf 3=1:=by kernel_rfl
 have g1:DataW.trod enc prog w base (fun _=>true) held n' 3 ((([c0,c1,c2,c3,c4,c5,c6]:List Value).drop 1).take (prog.cellsOf 3))=ys[1]?:=hfl 1 _ rfl;rw[z1]at g1;try simp only[List.drop_succ_cons,List.drop_zero,List.take_succ_cons,List.take_zero]at g1
 rw[List.getElem?_eq_getElem (by omega)]at g1;have z2:prog.cellsOf 3=1:=by kernel_rfl
 have g2:DataW.trod enc prog w base (fun _=>true) held n' 3 ((([c0,c1,c2,c3,c4,c5,c6]:List Value).drop 2).take (prog.cellsOf 3))=ys[2]?:=hfl 2 _ rfl;rw[z2]at g2;try simp only[List.drop_succ_cons,List.drop_zero,List.take_succ_cons,List.take_zero]at g2
 rw[List.getElem?_eq_getElem (by omega)]at g2;have z3:prog.cellsOf 70=1:=by kernel_rfl
 have g3:DataW.trod enc prog w base (fun _=>true) held n' 70 ((([c0,c1,c2,c3,c4,c5,c6]:List Value).drop 3).take (prog.cellsOf 70))=ys[3]?:=hfl 3 _ rfl;rw[z3]at g3;try simp only[List.drop_succ_cons,List.drop_zero,List.take_succ_cons,List.take_zero]at g3
 rw[List.getElem?_eq_getElem (by omega)]at g3;have z4:prog.cellsOf 73=3:=by kernel_rfl
 have g4:DataW.trod enc prog w base (fun _=>true) held n' 73 ((([c0,c1,c2,c3,c4,c5,c6]:List Value).drop 4).take (prog.cellsOf 73))=ys[4]?:=hfl 4 _ rfl;rw[z4]at g4;try simp only[List.drop_succ_cons,List.drop_zero,List.take_succ_cons,List.take_zero]at g4
 rw[List.getElem?_eq_getElem (by omega)]at g4;obtain⟨x0,e0,-,w0⟩:=DataW.trod_int underlying3 g0;obtain rfl:=List.singleton_inj.1 e0;obtain⟨x1,e1,-,w1⟩:=DataW.trod_int underlying3 g1;obtain rfl:=List.singleton_inj.1 e1;obtain⟨x2,e2,-,w2⟩:=DataW.trod_int underlying3 g2;obtain rfl:=List.singleton_inj.1 e2;obtain⟨x3,e3,-,w3⟩:=DataW.trod_int underlying70 g3;obtain rfl:=List.singleton_inj.1 e3;have b3:=bounds_u32 w3;obtain⟨iw,ih,A,l,c,ei,r1,r2,r3,r4⟩:=G8 rfl g4;simp only[List.cons.injEq,and_true]at ei;obtain⟨rfl,rfl,rfl⟩:=ei
 obtain⟨pp,rfl⟩:∃pp:Nat,x3=(pp:Nat):=⟨x3.toNat,by omega⟩
 exact⟨x0,x1,x2,pp,iw,ih,A,l,c,rfl,by omega,r1,r2,r3,r4⟩
theorem SC{cs:List Value}{y:DataW H×List MemPlace}(hc:cs.length=23)(h:DataW.trod enc prog w base (fun _=>true) held k 85 cs=some y):∃q:iT,cs=q.cs∧Row eW w q.A q.o.lk.l∧IJ q.o:=by
 obtain⟨c0,c1,c2,c3,c4,c5,c6,c7,c8,c9,c10,c11,c12,c13,c14,c15,c16,c17,c18,c19,c20,c21,Qd,rfl⟩:∃c0 c1 c2 c3 c4 c5 c6 c7 c8 c9 c10 c11 c12 c13 c14 c15 c16 c17 c18 c19 c20 c21 Qd,cs=[c0,c1,c2,c3,c4,c5,c6,c7,c8,c9,c10,c11,c12,c13,c14,c15,c16,c17,c18,c19,c20,c21,Qd]:=by
  match cs,hc with
  |[c0,c1,c2,c3,c4,c5,c6,c7,c8,c9,c10,c11,c12,c13,c14,c15,c16,c17,c18,c19,c20,c21,Qd],_=>exact⟨_,_,_,_,_,_,_,_,_,_,_,_,_,_,_,_,_,_,_,_,_,_,_,rfl⟩
 obtain⟨d,p⟩:=y;obtain⟨ys,n',_,hy,hlen,hyl,hfl⟩:=DataW.trod_struct underlying85 h;have Xp:ys.length=9:=hyl;have z0:prog.cellsOf 3=1:=by kernel_rfl
 have g0:DataW.trod enc prog w base (fun _=>true) held n' 3 ((([c0,c1,c2,c3,c4,c5,c6,c7,c8,c9,c10,c11,c12,c13,c14,c15,c16,c17,c18,c19,c20,c21,Qd]:List Value).drop 0).take (prog.cellsOf 3))=ys[0]?:=hfl 0 _ rfl;rw[z0]at g0;try simp only[List.drop_zero,List.take_succ_cons,List.take_zero]at g0
 rw[List.getElem?_eq_getElem (by omega)]at g0;have z1:prog.cellsOf 3=1:=by kernel_rfl
 have g1:DataW.trod enc prog w base (fun _=>true) held n' 3 ((([c0,c1,c2,c3,c4,c5,c6,c7,c8,c9,c10,c11,c12,c13,c14,c15,c16,c17,c18,c19,c20,c21,Qd]:List Value).drop 1).take (prog.cellsOf 3))=ys[1]?:=hfl 1 _ rfl;rw[z1]at g1;try simp only[List.drop_succ_cons,List.drop_zero,List.take_succ_cons,List.take_zero]at g1
 rw[List.getElem?_eq_getElem (by omega)]at g1;have z2:prog.cellsOf 3=1:=by kernel_rfl
 have g2:DataW.trod enc prog w base (fun _=>true) held n' 3 ((([c0,c1,c2,c3,c4,c5,c6,c7,c8,c9,c10,c11,c12,c13,c14,c15,c16,c17,c18,c19,c20,c21,Qd]:List Value).drop 2).take (prog.cellsOf 3))=ys[2]?:=hfl 2 _ rfl;rw[z2]at g2;try simp only[List.drop_succ_cons,List.drop_zero,List.take_succ_cons,List.take_zero]at g2
 rw[List.getElem?_eq_getElem (by omega)]at g2;have z3:prog.cellsOf 3=1:=by kernel_rfl
 have g3:DataW.trod enc prog w base (fun _=>true) held n' 3 ((([c0,c1,c2,c3,c4,c5,c6,c7,c8,c9,c10,c11,c12,c13,c14,c15,c16,c17,c18,c19,c20,c21,Qd]:List Value).drop 3).take (prog.cellsOf 3))=ys[3]?:=hfl 3 _ rfl;rw[z3]at g3;try simp only[List.drop_succ_cons,List.drop_zero,List.take_succ_cons,List.take_zero]at g3
 rw[List.getElem?_eq_getElem (by omega)]at g3;have z4:prog.cellsOf 67=6:=by kernel_rfl
 have g4:DataW.trod enc prog w base (fun _=>true) held n' 67 ((([c0,c1,c2,c3,c4,c5,c6,c7,c8,c9,c10,c11,c12,c13,c14,c15,c16,c17,c18,c19,c20,c21,Qd]:List Value).drop 4).take (prog.cellsOf 67))=ys[4]?:=hfl 4 _ rfl;rw[z4]at g4;try simp only[List.drop_succ_cons,List.drop_zero,List.take_succ_cons,List.take_zero]at g4
 rw[List.getElem?_eq_getElem (by omega)]at g4;have z5:prog.cellsOf 69=4:=by kernel_rfl
 have g5:DataW.trod enc prog w base (fun _=>true) held n' 69 ((([c0,c1,c2,c3,c4,c5,c6,c7,c8,c9,c10,c11,c12,c13,c14,c15,c16,c17,c18,c19,c20,c21,Qd]:List Value).drop 10).take (prog.cellsOf 69))=ys[5]?:=hfl 5 _ rfl;rw[z5]at g5;try simp only[List.drop_succ_cons,List.drop_zero,List.take_succ_cons,List.take_zero]at g5
 rw[List.getElem?_eq_getElem (by omega)]at g5;have z6:prog.cellsOf 4=1:=by kernel_rfl
 have g6:DataW.trod enc prog w base (fun _=>true) held n' 4 ((([c0,c1,c2,c3,c4,c5,c6,c7,c8,c9,c10,c11,c12,c13,c14,c15,c16,c17,c18,c19,c20,c21,Qd]:List Value).drop 14).take (prog.cellsOf 4))=ys[6]?:=hfl 6 _ rfl;rw[z6]at g6;try simp only[List.drop_succ_cons,List.drop_zero,List.take_succ_cons,List.take_zero]at g6
 rw[List.getElem?_eq_getElem (by omega)]at g6;have z7:prog.cellsOf 3=1:=by kernel_rfl
 have g7:DataW.trod enc prog w base (fun _=>true) held n' 3 ((([c0,c1,c2,c3,c4,c5,c6,c7,c8,c9,c10,c11,c12,c13,c14,c15,c16,c17,c18,c19,c20,c21,Qd]:List Value).drop 15).take (prog.cellsOf 3))=ys[7]?:=hfl 7 _ rfl;rw[z7]at g7;try simp only[List.drop_succ_cons,List.drop_zero,List.take_succ_cons,List.take_zero]at g7
 rw[List.getElem?_eq_getElem (by omega)]at g7;have z8:prog.cellsOf 75=7:=by kernel_rfl
 have g8:DataW.trod enc prog w base (fun _=>true) held n' 75 ((([c0,c1,c2,c3,c4,c5,c6,c7,c8,c9,c10,c11,c12,c13,c14,c15,c16,c17,c18,c19,c20,c21,Qd]:List Value).drop 16).take (prog.cellsOf 75))=ys[8]?:=hfl 8 _ rfl;rw[z8]at g8;try simp only[List.drop_succ_cons,List.drop_zero,List.take_succ_cons,List.take_zero]at g8
 rw[List.getElem?_eq_getElem (by omega)]at g8;obtain⟨x0,e0,-,w0⟩:=DataW.trod_int underlying3 g0;obtain rfl:=List.singleton_inj.1 e0;obtain⟨x1,e1,-,w1⟩:=DataW.trod_int underlying3 g1;obtain rfl:=List.singleton_inj.1 e1;obtain⟨x2,e2,-,w2⟩:=DataW.trod_int underlying3 g2;obtain rfl:=List.singleton_inj.1 e2;obtain⟨x3,e3,-,w3⟩:=DataW.trod_int underlying3 g3;obtain rfl:=List.singleton_inj.1 e3;obtain⟨x7,e7,-,w7⟩:=DataW.trod_int underlying3 g7;obtain rfl:=List.singleton_inj.1 e7;obtain⟨m,em⟩:=O8 rfl g4;obtain⟨r,er⟩:=JC rfl g5
 obtain⟨x6,e6,-⟩:=DataW.trod_bool underlying4 g6;obtain rfl:=List.singleton_inj.1 e6;obtain⟨kk,WW,HH,pp,iw,ih,A,l,c,el,hp,r1,r2,r3,r4⟩:=JU rfl g8;unfold Mp.cs at em;unfold Bx.cs at er;simp only[List.cons.injEq,and_true]at em er el;obtain⟨rfl,rfl,rfl,rfl,rfl,rfl⟩:=em;obtain⟨rfl,rfl,rfl,rfl⟩:=er;obtain⟨rfl,rfl,rfl,rfl,rfl,rfl,rfl⟩:=el;exact⟨⟨⟨x0,x1,x2,x3,m,r,x6,x7,⟨kk,WW,HH,pp,iw,ih,l⟩⟩,A,c⟩,rfl,r1,⟨bounds_i64 w1,bounds_i64 w2,hp,r4,Nat.le_trans r2 r3⟩⟩
def Held(d:DataW H)(n:Nat):Prop:=n=0∨∃e s,d=.slice e s∧n<=e.length+s.length
theorem Oy{x:Value}{y:DataW H×List MemPlace}(h:DataW.trod enc prog w base (fun _=>true) held k 98 [x]=some y):∃(A:Option Addr) (l:List iT) (cc:Nat),x=.slice A l.length cc∧AP w A l∧l.length<=maxLen∧Held y.1 l.length:=by
 rcases open_slice underlying98 h with ⟨hcs,_⟩|⟨⟨b,off,spot⟩,n,c,m,k',D,Pl,hcs,_,hl,hm,hmm,hy,hi⟩
 ·obtain rfl:=List.singleton_inj.1 hcs;exact⟨none,[],0,rfl,⟨fun h=>absurd h (by simp),fun z hz=>by cases hz⟩,by simp,.inl rfl⟩
 ·obtain rfl:=List.singleton_inj.1 hcs;simp only[if_true]at hmm;subst hmm;have hC:prog.cellsOf 85=23:=by kernel_rfl
  have hsp:0<n->spot=none:=fun h0=>by
   obtain⟨cs',hc,_⟩:=hi 0 (by omega);rw[hC]at hc;obtain⟨_,hcl,hat⟩:=World.cells?_some hc;have a0:=hat 0 (by omega);rw[List.getElem?_eq_getElem (by omega)]at a0
   simpa[Addr.add]using World.cell?_spot a0
  have one:∀i,i<n->∃q:iT,(∀j v,q.cs[j]?=some v->w.cell? ⟨b,off+i*23+j,none⟩=some v)∧Row eW w q.A q.o.lk.l∧IJ q.o:=fun i hin=>by
   obtain⟨cs',hc,ht⟩:=hi i (by omega);rw[hC]at hc;obtain⟨_,hcl,hat⟩:=World.cells?_some hc;obtain⟨q,rfl,hr,ho⟩:=SC hcl ht;have hspot:spot=none:=hsp (by omega);subst hspot;refine⟨q,fun j v hj=>?_,hr,ho⟩
   have hlt:j<23:=by
    have:=(List.getElem?_eq_some_iff.1 hj).1
    rwa [iT.bV]at this
   have a0:=hat j hlt;rw[hj,qg,qg]at a0;exact a0
  obtain⟨xs,hxl,hxs⟩:=Dh one;refine⟨some ⟨b,off,spot⟩,xs,m,by rw[hxl],⟨fun hn=>⟨b,off,by rw[hsp (by omega)],fun j hj i v hv=>(hxs j hj).1 i v hv⟩,fun q hq=>?_⟩,by omega,.inr ⟨_,_,by rw[hy],by simp;omega⟩⟩;obtain⟨j,hj,rfl⟩:=List.mem_iff_getElem.1 hq;exact(hxs j hj).2
structure UL(w:World)(A:Option Addr)(L:List uQ):Prop where
 row:aW 1 uQ.cs w A L
 ops:∀q∈L,AP w q.A q.l
theorem Ju{x:Value}{y:DataW H×List MemPlace}(h:DataW.trod enc prog w base (fun _=>true) held k 22 [x]=some y):∃(A:Option Addr) (L:List uQ) (cc:Nat),x=.slice A L.length cc∧UL w A L∧L.length<=maxLen ∧
  (L=[]∨∃e s,y.1=.slice e s∧L.length<=e.length+s.length∧∀q∈L,∃d∈e,Held d q.l.length):=by
 rcases open_slice underlying22 h with ⟨hcs,_⟩|⟨⟨b,off,spot⟩,n,c,m,k',D,Pl,hcs,_,hl,hm,hmm,hy,hi⟩
 ·obtain rfl:=List.singleton_inj.1 hcs;exact⟨none,[],0,rfl,⟨fun h=>absurd h (by simp),fun z hz=>by cases hz⟩,by simp,.inl rfl⟩
 ·obtain rfl:=List.singleton_inj.1 hcs;simp only[if_true]at hmm;subst hmm;have hC:prog.cellsOf 98=1:=by kernel_rfl
  have hsp:0<n->spot=none:=fun h0=>by
   obtain⟨cs',hc,_⟩:=hi 0 (by omega);rw[hC]at hc;obtain⟨_,hcl,hat⟩:=World.cells?_some hc;have a0:=hat 0 (by omega);rw[List.getElem?_eq_getElem (by omega)]at a0
   simpa[Addr.add]using World.cell?_spot a0
  have one:∀i,i<n->∃q:uQ,w.cell? ⟨b,off+i,none⟩=some (.slice q.A q.l.length q.c)∧AP w q.A q.l∧Held (D i) q.l.length:=fun i hin=>by
   obtain⟨cs',hc,ht⟩:=hi i (by omega);rw[hC]at hc;obtain⟨_,hcl,hat⟩:=World.cells?_some hc
   obtain⟨c0,rfl⟩:∃c0,cs'=[c0]:=by
    match cs',hcl with
    |[c0],_=>exact⟨_,rfl⟩
   obtain⟨A,l,cc,rfl,ho,_,hh⟩:=Oy ht;have hspot:spot=none:=hsp (by omega);subst hspot;have a0:=hat 0 (by omega);rw[qg,qg]at a0;simp only[Nat.add_zero,Nat.mul_one]at a0;exact⟨⟨A,cc,l⟩,a0,ho,hh⟩
  obtain⟨xs,hxl,hxs⟩:=Dh one;refine⟨some ⟨b,off,spot⟩,xs,m,by rw[hxl],⟨fun hn=>⟨b,off,by rw[hsp (by omega)],fun j hj i v hv=>?_⟩,fun q hq=>?_⟩,by omega,.inr ⟨_,_,by rw[hy],by simp;omega,fun q hq=>?_⟩⟩
  ·have hi0:i=0:=by
    have:=(List.getElem?_eq_some_iff.1 hv).1;rw[uQ.bV]at this;omega
   subst hi0
   have e:(.slice xs[j].A xs[j].l.length xs[j].c:Value)=v:=by
    have h2:=hv;unfold uQ.cs at h2
    simpa using h2
   rw[←e]
   simpa using(hxs j hj).1
  ·obtain⟨j,hj,rfl⟩:=List.mem_iff_getElem.1 hq;exact(hxs j hj).2.1
  ·obtain⟨j,hj,rfl⟩:=List.mem_iff_getElem.1 hq;exact⟨D j,List.mem_map.2 ⟨j,by simp;omega,rfl⟩,(hxs j hj).2.2⟩
end
section
variable {H:Type}{enc:TypeId×Value->H}{w:World}{base:Nat}{held:Bool}{a:Option Addr}{n c:Nat}{d:DataW H}{p:List MemPlace}
theorem RG(h:DataW.Trod enc prog w base (fun _=>true) held 22 (.slice a n c) d p):∃L:List uQ,n=L.length∧UL w a L∧L.length<=maxLen ∧
  (L=[]∨∃e s,d=.slice e s∧L.length<=e.length+s.length∧∀q∈L,∃d'∈e,Held d' q.l.length):=by
 obtain⟨fuel,hf⟩:=h;obtain⟨A,l,cc,e,h1,h2,h3⟩:=Ju hf
 injection e with e1 e2 e3
 subst e1;exact⟨l,e2,h1,h2,h3⟩
end
section
variable {H:Type}{enc:TypeId×Value->H}{w:World}{base b0:Nat}{held:Bool}{r:Reach}{v:Value}{d:DataW H}{p:List MemPlace}
end
section
variable {H:Type}{ts:List TypeId}{ds:List (DataW H)}
theorem weightsAll_mem{e:TypeId}:∀{l:List (DataW H)} {d:DataW H},d∈l->∀n∈d.weights prog e,n∈DataW.weightsAll prog e l
 |d'::r,d,hd,n,hn=>by
  simp only[DataW.weightsAll,List.mem_append];rcases List.mem_cons.1 hd with rfl|h
  ·exact Or.inl hn
  ·exact Or.inr (weightsAll_mem h n hn)
theorem CB(h:(DataW.weightsEach prog ts ds).all (·<=reachBytes)=true){j:Nat}{d:DataW H}{w:World}{A:Option Addr}{L:List uQ}(ht:ts[j]?=some 22)(hd:ds[j]?=some d)(hr:UL w A L)(hm:L.length<=maxLen)
  (hh:L=[]∨∃e s,d=.slice e s∧L.length<=e.length+s.length∧∀q∈L,∃d'∈e,Held d' q.l.length):Lj w A L∧L.length*24<=140737488351232:=by
 have hm2:L.length<=9223372036854775807:=by unfold maxLen at hm;omega
 rcases hh with rfl|⟨e,s,rfl,hle,hq⟩
 ·exact⟨⟨hr.row,hr.ops,(fun q hq=>by cases hq),hm2⟩,by simp⟩
 have h1:=sized_slice h ht hd underlying22;rw[show prog.bytesOf 98=24 from by kernel_rfl,show reachBytes=140737488351232 from rfl]at h1;refine⟨⟨hr.row,hr.ops,fun q hq'=>?_,hm2⟩,by omega⟩;obtain⟨d',hd',hh⟩:=hq q hq';rcases hh with h0|⟨e',s',rfl,a4W⟩
 ·omega
 have h2:(e'.length+s'.length)*prog.bytesOf 85<=reachBytes:=by
  refine of_decide_eq_true (List.all_eq_true.1 h _ (DataW.weights_mem_each ht hd _ ?_));simp only[DataW.weights,underlying22,List.mem_cons,List.mem_append];exact Or.inr (Or.inl (weightsAll_mem hd' _ (by simp[DataW.weights,underlying98])))
 rw[show prog.bytesOf 85=200 from by kernel_rfl,show reachBytes=140737488351232 from rfl]at h2;omega
end
end
section
open Go.RowKit Go.ChangeShapes Go.WideShapes Go.ChangeAt Go.Deep fB fK
section
variable {H:Type}{enc:TypeId×Value->H}{w:World}{base b0:Nat}{held:Bool}{r:Reach}{v:Value}{d:DataW H}{p:List MemPlace}
theorem Ol{k:Nat}{c0 c1:Value}{y:DataW H×List MemPlace}(h:DataW.trod enc prog w base (fun _=>true) held k 55 [c0,c1]=some y) :
  ∃z0 z1 n,DataW.trod enc prog w base (fun _=>true) held n 3 [c0]=some z0∧DataW.trod enc prog w base (fun _=>true) held n 3 [c1]=some z1:=by
 have hce:prog.cellsOf 3=1:=by kernel_rfl
 cases k with
 |zero=>simp[DataW.trod]at h
 |succ n=>
  unfold DataW.trod at h;rw[underlying55]at h;have r2:List.range 2=[0,1]:=rfl;simp[r2,hce]at h;obtain⟨_,h⟩:=h;cases h0:DataW.trod enc prog w base (fun _=>true) held n 3 [c0]with
  |none=>rw[h0]at h;simp at h
  |some z0=>
   cases h1:DataW.trod enc prog w base (fun _=>true) held n 3 [c1]with
   |none=>rw[h0,h1]at h;simp at h
   |some z1=>exact⟨z0,z1,n,h0,h1⟩
theorem XP(hv:Value.okWide prog w r b0 55 v)(h:DataW.Trod enc prog w base (fun _=>true) held 55 v d p):∃x:Int×Int,v=.agg #[.int .i64 x.1,.int .i64 x.2]:=by
 obtain⟨cs,rfl,hsz,_⟩:∃cs,v=.agg cs∧cs.size=prog.cellsOf 55∧Row.okWide prog w r b0 55 cs:=by
  simpa[Value.okWide,underlying55]using hv
 obtain⟨fuel,hf⟩:=h;have hl:cs.toList.length=2:=by rw[Array.length_toList,hsz];kernel_rfl
 obtain⟨l⟩:=cs
 obtain⟨c0,c1,rfl⟩:∃c0 c1,l=[c0,c1]:=by
  match l,hl with
  |[c0,c1],_=>exact⟨_,_,rfl⟩
 obtain⟨z0,z1,n,h0,h1⟩:=Ol hf;obtain⟨x0,e0,-,-⟩:=DataW.trod_int underlying3 h0;obtain⟨x1,e1,-,-⟩:=DataW.trod_int underlying3 h1;obtain rfl:=List.singleton_inj.1 e0;obtain rfl:=List.singleton_inj.1 e1;exact⟨(x0,x1),rfl⟩
end
end
end
end Go.Proofs.YthmegninhpihkaaGreat
