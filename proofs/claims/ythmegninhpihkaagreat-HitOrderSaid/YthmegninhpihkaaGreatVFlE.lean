import Derived.Test.YthmegninhpihkaaGreatVDck
import Derived.Test.YthmegninhpihkaaGreatVFlC
import Derived.Deep.LoopGhost
set_option maxHeartbeats 16000000
set_option maxRecDepth 100000
open Go.Proofs.Tryz
namespace Go.Proofs.YthmegninhpihkaaGreat
section
open Go.RowKit fG gm aF Go.Maps
abbrev pF:TypeId:=234
def pv(p:Option Nat):Value:=.pointer (p.map fun b=>⟨b,0,none⟩)
def clC(c:Cl)(up:Option Nat)(n:Nat):List Value:=[.int .i64 c.b.a,.int .i64 c.b.b,.int .i64 c.b.c,.int .i64 c.b.d,.int .i64 c.b.e,.int .i64 c.b.f,.int .i64 c.r.a,.int .i64 c.r.b,.int .i64 c.r.c,.int .i64 c.r.d,pv up,.int .i64 (n:Nat)]
def xR(w:World):Option Nat->List Cl->Prop
 |p,[]=>p=none
 |p,c::l=>∃b up,p=some b∧au w b (clC c up (l.length+1)) pF∧xR w up l
theorem xR.keep{w w':World}(h:∀(k:Nat) (cu:Array Value) (fr:Nat×Nat),w.heap[k]?=some (Obj.cells cu pF fr)->w'.heap[k]?=w.heap[k]?):∀{l:List Cl} {p:Option Nat},xR w p l->xR w' p l
 |[],_,hp=>hp
 |_::_,_,⟨b,up,e,hb,hu⟩=>⟨b,up,e,hb.stays (h _ _ _ hb),xR.keep h hu⟩
theorem xR.below{w w':World}{l:List Cl}{p:Option Nat}(hp:xR w p l)(hb:bz w w'):xR w' p l:=hp.keep fun _ _ _ hk=>hb.block _ (Array.getElem?_eq_some_iff.1 hk).1
theorem xR.size{w:World}{l:List Cl}{p:Option Nat}(hp:xR w p l):∀{j:Nat},j<=l.length->∃q,xR w q (l.drop j):=by
 intro j hj
 induction l generalizing p j with
 |nil=>exact⟨p,by rw[List.drop_nil];exact hp⟩
 |cons c l ih=>
  obtain⟨b,up,e,hb,hu⟩:=hp;cases j with
  |zero=>exact⟨p,b,up,e,hb,hu⟩
  |succ j=>exact ih hu (by simpa using hj)
theorem Hz(l:List Cl)(p:Option Nat)(w:World)(h:xR w p l):Calls prog 109 #[pv p] w (aZ (.int .i64 (l.length:Nat)) w):=by
 cases l with
 |nil=>
  obtain rfl:p=none:=h;unfold pv;simp only[Option.map_none];go_enter func109,ntmps109;go_wp2_with (fail);go_ret;exact⟨rfl,bR⟩
 |cons c l=>
  obtain⟨b,up,rfl,hb,-⟩:=h;have c11:=hb.blk.c 11 rfl;have bi:=hb.inside;clear hb;rw[List.length_cons];generalize l.length+1=n at*;unfold pv;simp only[Option.map_some];go_enter func109,ntmps109;go_wp2_with (fail);go_ret;exact⟨rfl,bR⟩
theorem Xa(n:Nat)(hn:n<=2000):∃zs:List Value,zs.length=n*10∧∀w:World,(Instr.makeSlice 165 (.int .i64 (n:Nat)) (.int .i64 (n:Nat))).run prog w=.ok (.slice (some ⟨w.heap.size,0,none⟩) n n) (w.alloc (.cells zs.toArray 218)):=by
 have info:(prog.info? 218).map (fun i=>(i.zero,i.size,i.bytes))=some (some (.agg #[.int .i64 0,.int .i64 0,.int .i64 0,.int .i64 0,.int .i64 0,.int .i64 0,.int .i64 0,.int .i64 0,.int .i64 0,.int .i64 0]),10,80):=by kernel_rfl
 obtain⟨i,hi,hz,hsize,hby⟩:=info_parts info;refine⟨(madeCells (Value.agg #[.int .i64 0,.int .i64 0,.int .i64 0,.int .i64 0,.int .i64 0,.int .i64 0,.int .i64 0,.int .i64 0,.int .i64 0,.int .i64 0]).cells (n*10)).toList,by rw[Array.length_toList,size_madeCells],fun w=>?_⟩;have h:=run_make (P:=prog) w 165 218 i _ underlying165 hi hz .i64 .i64 n n (by omega) (by omega) (by rw[hby];omega) (by omega);rw[hsize,Int.toNat_natCast]at h;rw[Array.toArray_toList];exact h
structure PJ(g:Nat)(c0 c1:List Value)(d:Bool)(w:World):Prop where
 no:d=false->az w g c0
 yes:d=true->az w g c1
theorem PJ.below{g:Nat}{c0 c1:List Value}{d:Bool}{w w':World}(h:PJ g c0 c1 d w)(hb:bz w w'):PJ g c0 c1 d w':=⟨fun e=>(h.no e).below' hb,fun e=>(h.yes e).below' hb⟩
def Ug(zs:List Value)(l:List Cl)(j:Nat):List Value:=zs.take ((l.length - j)*10)++(l.take j).reverse.flatMap Cl.cs
theorem JX(l:List Cl):(l.flatMap Cl.cs).length=l.length*10:=by
 induction l with
 |nil=>rfl
 |cons c l ih=>rw[List.flatMap_cons,List.length_append,Cl.bZ,ih,List.length_cons];omega
theorem XA{zs:List Value}{l:List Cl}{j:Nat}(hz:zs.length=l.length*10)(hj:j<=l.length):(Ug zs l j).length=l.length*10:=by
 unfold Ug;rw[List.length_append,List.length_take,JX,List.length_reverse,List.length_take,hz];omega
theorem Uf{zs:List Value}{l:List Cl}{j:Nat}(hz:zs.length=l.length*10)(hj:j<l.length):(Ug zs l j).take ((l.length - (j+1))*10)++l[j].cs++(Ug zs l j).drop ((l.length - (j+1))*10+l[j].cs.length)=Ug zs l (j+1):=by
 have h1:(zs.take ((l.length - j)*10)).length=(l.length - j)*10:=by rw[List.length_take,hz];omega
 unfold Ug;rw[Cl.bZ,List.take_append_of_le_length (by rw[h1];omega),List.take_take,Nat.min_eq_left (by omega),show(l.length - (j+1))*10+10=(zs.take ((l.length - j)*10)).length by rw[h1];omega,List.drop_left,List.take_succ_eq_append_getElem hj,List.reverse_append,List.flatMap_append,List.append_assoc];simp
theorem PT(l:List Cl)(p:Option Nat)(w:World)(h:xR w p l)(hn:l.length<=2000):Calls prog 88 #[pv p] w fun e w'=>∃g,e=.returned (.slice (some ⟨g,0,none⟩) l.length l.length)∧w.heap.size<=g∧az w' g (l.reverse.flatMap Cl.cs)∧bz w w':=by
 obtain⟨zs,hz,hmk⟩:=Xa l.length hn;have AX:=Hd (Hz l p w h);have HMK:=Hd hmk;have HZ:=Hd hz;have HC:=Hd h;have HN:=Hd hn;clear hmk hz h hn;go_enter func88,ntmps88;go_wp2_with (fail);refine AX.o.mono ?_;rintro e w1 ⟨rfl,hb⟩;have HB1:Hid (bz w w1):=hb;have hmk:=HMK.o w1;clear hb AX HMK
 obtain⟨g,hg⟩:=aC w1.heap.size
 have HGW:Hid (w.heap.size<=g):=by rw[←hg];exact HB1.o.size
 have dE:Hid (az (w1.alloc (.cells zs.toArray 218)) w1.heap.size zs):=aA w1 zs _;have HB2:Hid (bz w (w1.alloc (.cells zs.toArray 218))):=HB1.o.alloc HB1.o.size _
 obtain⟨n,hln⟩:=aC l.length
 have ql:=Hd hln;rw[hln]at hmk ⊢
 go_upto_region 2 with(fail)
 generalize (w1.alloc (.cells zs.toArray 218))=w2 at*;rw[hg]at dE;clear hmk hg hln HB1
 go_loopg [0] n (fun k x0 wr=>∃(j:Nat) (q:Option Nat),j<=n∧k=n - j∧x0=pv q∧Hid (xR w q (l.drop j))∧Hid (az wr g (Ug zs l j))∧Hid (bz w wr))
 case atStart=>exact⟨0,p,Nat.zero_le _,rfl,rfl,HC.o,by
  show az _ _ _;unfold Ug;rw[Nat.sub_zero,←HZ.o,List.take_length]
  simpa using dE.o,HB2.o⟩
 case round=>
  obtain⟨j,q,hj,hgk,rfl,HQ,Ye,HB⟩:=hrel;generalize wr=wA at*;by_cases hlt:j<n
  ·have HJL:Hid (j<n):=hlt;have hjl:j<l.length:=by rw[ql.o];exact hlt
   have hq:=HQ.o;rw[List.drop_eq_getElem_cons hjl]at hq;obtain⟨pb,up,rfl,hbc,hup⟩:=hq
   obtain⟨c,hc⟩:=aC (l[j]'hjl)
   obtain⟨M,hM⟩:=aC (n - (j+1))
   have HML:Hid (M<n):=by show _<_;omega
   obtain⟨c0,hc0⟩:=aC (Ug zs l j)
   obtain⟨c1,hc1⟩:=aC (Ug zs l (j+1))
   have HC1:=Hd hc1
   have HST:Hid (c0.take (M*10)++c.cs++c0.drop (M*10+c.cs.length)=c1):=by
    have h:=Uf (by have:=HZ.o;exact this) hjl;rw[hc0,hc1,hc,ql.o,hM]at h;exact h
   have xO:Hid (c0.length=n*10):=by
    have h:=XA (by have:=HZ.o;exact this) (Nat.le_of_lt hjl);rw[hc0,ql.o]at h;exact h
   rw[hc0]at Ye;rw[hc]at hbc
   obtain⟨z,hz⟩:∃z:Int,((((l.drop (j+1)).length+1:Nat):Int))=z:=⟨_,rfl⟩
   have hz2:z=(M:Nat)+1:=by
    rw[←hz,List.length_drop,ql.o,hM];simp
   have HBc:Hid (au wA pb (clC c up ((l.drop (j+1)).length+1)) pF):=hbc.stays (HB.o.block _ hbc.inside);unfold clC at HBc;rw[hz]at HBc;have Zh:=Hd hup;have hMb:(M:Int)<=2000:=by have:=HN.o;have:=ql.o;omega
   have hz3:IntKind.i64.wrap (z - 1)=(M:Nat):=by
    rw[hz2];exact IntWalk.i64_in _ (by omega) |>.trans (by omega)
   have hz4:wrap64 (z - 1)=(M:Nat):=by
    rw[hz2];exact IntWalk.wrap64_in _ (by omega) |>.trans (by omega)
   have I8:Hid (pb≠g):=by
    show _≠_;have:=hbc.inside;have:=HGW.o;omega
   have gQ:=Hd (And.intro hlt hM);have c10:=HBc.o.blk.c 10 rfl;have bi:=HBc.o.inside;have gi:=Ye.o.inside;have FB:Hid (∀W,KX g wA W->az W pb [.int .i64 c.b.a,.int .i64 c.b.b,.int .i64 c.b.c,.int .i64 c.b.d,.int .i64 c.b.e,.int .i64 c.b.f,.int .i64 c.r.a,.int .i64 c.r.b,.int .i64 c.r.c,.int .i64 c.r.d,pv up,.int .i64 z]):=fun W hk=>(HBc.o.stays (hk.same _ HBc.o.inside I8.o)).blk;have FG:Hid (∀W,KX g wA W->g<W.heap.size):=fun W hk=>Nat.lt_of_lt_of_le Ye.o.inside hk.size;clear hbc hup hc hc0 hc1 hz hz2 hjl hlt hM HQ;unfold pv at*;simp only[Option.map_some]at *
   go_upto_region 4 with(fail)
   refine wR (KX g) (fun L wx=>PJ g c0 c1 (L 11) wx) [13,14,15,16,17,18,19,20,21,22,23] (fun _=>KX.refl _ _) (fun _ _ _ h k=>h.trans k) (fun i=>match i with
    |0=>rV (.slice (some ⟨g,0,none⟩) n n)
    |1|2|6|7|8=>rp pb 0
    |3=>rp pb 11
    |4=>rV (.int .i64 z)
    |5=>rV (.int .i64 (M:Nat))
    |9=>rV (.agg (c.cs).toArray)
    |10=>rV (.pointer (some ⟨g,(M*10),none⟩))
    |_=>ra) (KX.of_below bR.drew) (⟨fun _=>Ye.o.below' bR.drew,nofun⟩) ⟨?_,?_,?_,?_,?_,?_,?_,?_,?_,?_,?_,?_,trivial⟩ ?_
   any_goals (first|refine zp fun L a w1 hh=>?_|fail)
   have h3:=hh.o 3 (v:=.slice (some ⟨g,0,none⟩) n n) rfl;rotate_left;have h0:=hh.p 0 pb 0;rotate_left;have xI:=rq (hh.d 1 14);rotate_left;have h15:=rq (hh.d 2 15);have i0:=(FB.o _ hh.rel).inside;rotate_left;have h16:=rq (hh.d 3 16);have ⟨c0,i0⟩:=(FB.o _ hh.rel).ci 11 rfl;rotate_left;have h17:=rq (hh.d 4 17);rotate_left;have h0:=hh.p 0 pb 0;rotate_left;have h19:=rq (hh.d 6 19);rotate_left;have h20:=rq (hh.d 7 20);have i0:=(FB.o _ hh.rel).inside;rotate_left
   ·have h21:=rq (hh.d 8 21);have hB:=Hd (FB.o _ hh.rel);have hJ:=Hd hh.st;exact aK 218 _ rfl pb 0 (by simpa[go_sem]using h21) _ hB.o (c.cs) rfl _ underlying218 rfl ag ⟨_,rfl,KX.refl _ _,rfl,hJ.o⟩
   have h13:=rq (hh.d 0 13);have h18:=rq (hh.d 5 18);have hlt:=HML.o;have gi:=FG.o _ hh.rel;rotate_left
   ·have h22:=rq (hh.d 9 22);have h23:=rq (hh.d 10 23);have rQ:=hh.st.no hh.un;refine dn 218 _ _ rfl g (M*10) (by simpa[go_sem]using h23) c.cs (by simpa[go_sem]using h22) _ rQ (by rw[xO.o,Cl.bZ];have:=HML.o;omega) ag (by rfl) ?_;intro w9 ng gK;rw[HST.o]at gK;exact⟨undef,rfl,KX.wrote ng,trivial,⟨nofun,fun _=>gK⟩⟩
   any_goals (have hJ:=hh.j;clear hh;go_simp;exact⟨_,rfl,KX.refl _ _,rfl,hJ.o⟩)
   intro L w4 val hL hJ hR hv;have HR4:=Hd hR;have nZ:=Hd (hJ.yes (hL 11 (by decide)));clear hv hL hJ hR;simp only[regs.aG,List.map_cons,List.map_nil];simp only[Act.put,List.setIfInBounds_toArray,List.set_cons_zero,List.set_cons_succ]
   skip
   have HB4:=Hd (HB.o.trans (HR4.o.aQ HGW.o HB.o.size));have c10:=(FB.o w4 HR4.o).c 10 rfl;have bi:=(FB.o w4 HR4.o).inside;clear HBc FB FG Ye HB HR4;go_wp2_with (fail)
   go_roundg (n - (j+1))
   case rel=>exact⟨j+1,up,gQ.o.1,rfl,rfl,Zh.o,by rw[HC1.o];exact nZ.o,HB4.o⟩
   case measure=>have:=gQ.o.1;omega
  ·obtain rfl:j=n:=by omega
   have hq:=HQ.o;rw[List.drop_of_length_le (by rw[ql.o];exact nR)]at hq;obtain rfl:q=none:=hq
   have HKE:Hid (az wA g (l.reverse.flatMap Cl.cs)):=by
    have h:=Ye.o;unfold Ug at h;rw[ql.o,Nat.sub_self,Nat.zero_mul,List.take_zero,List.nil_append,←ql.o,List.take_length]at h;exact h
   clear HQ Ye;unfold pv;simp only[Option.map_none];go_wp2_with (fail);go_ret;exact⟨g,by rw[ql.o];rfl,HGW.o,HKE.o,HB.o⟩
def lX(d:Dn)(p:Option Nat):List Value:=[.int .i64 d.b.a,.int .i64 d.b.b,.int .i64 d.b.c,.int .i64 d.b.d,.int .i64 d.b.e,.int .i64 d.b.f,.int .i64 (d.o:Nat),pv p]
theorem Xv(d:Dn)(p:Option Nat):(lX d p).all (·.oneCell')=true:=by cases p<;>rfl
theorem Kq(b:Mp)(r:Bx)(w:World):(Instr.build 218 #[(0,.agg b.cs.toArray),(1,.agg r.QL.toArray)]).run prog w=.ok (.agg (Cl.mk b r).cs.toArray) w:=by kernel_rfl
theorem Ia(c:Cl)(up:Option Nat)(n:Nat)(z:Int)(hz:z=(n:Nat))(w:World):(Instr.build pF #[(0,.agg c.cs.toArray),(1,pv up),(2,.int .i64 z)]).run prog w=.ok (.agg (clC c up n).toArray) w:=by
 subst hz;cases up<;>kernel_rfl
structure TJ(A:Nat)(c6:Mp)(o:Value)(p:Option Nat)(b6:Mp)(o2:Value)(i j:Bool)(w:World):Prop where
 blk:az w A ((bif i then b6 else c6).cs++[(bif j then o2 else o),pv p])
theorem TJ.below{A:Nat}{c6:Mp}{o:Value}{p:Option Nat}{b6:Mp}{o2:Value}{i j:Bool}{w w':World}(h:TJ A c6 o p b6 o2 i j w)(hb:bz w w'):TJ A c6 o p b6 o2 i j w':=⟨h.blk.below' hb⟩
structure BJ(A:Nat)(b:Mp)(o:Value)(p:Option Nat)(c:List Value)(iB iS:Bool)(v:Value)(w:World):Prop where
 no:iS=false->az w A (b.cs++[o,pv p])
 box:iB=true->∃g,v=pv (some g)∧g≠A∧au w g c pF
 yes:iS=true->∃g,v=pv (some g)∧az w A (b.cs++[o,pv (some g)])
 lt:A<w.heap.size
theorem BJ.below{A:Nat}{b:Mp}{o:Value}{p:Option Nat}{c:List Value}{iB iS:Bool}{v:Value}{w w':World}(h:BJ A b o p c iB iS v w)(hb:bz w w'):BJ A b o p c iB iS v w':=⟨fun e=>(h.no e).below' hb,fun e=>by
 obtain⟨g,h1,h2,h3⟩:=h.box e;exact⟨g,h1,h2,h3.stays (hb.block _ h3.inside)⟩,fun e=>by
 obtain⟨g,h1,h2⟩:=h.yes e
 exact⟨g,h1,h2.below' hb⟩,Nat.lt_of_lt_of_le h.lt hb.size⟩
theorem BJ.made{A:Nat}{b:Mp}{o:Value}{p:Option Nat}{c:List Value}{iB iS:Bool}{v u:Value}{w:World}(h:BJ A b o p c iB iS v w)(e:u=.pointer (some ⟨w.heap.size,0,none⟩))(hi:iS=false):BJ A b o p c true iS u (w.alloc (.cells c.toArray pF)):=by
 subst hi;exact⟨fun _=>(h.no rfl).alloc _,fun _=>⟨w.heap.size,e,fun e=>by have:=h.lt;omega,au.new w c _⟩,nofun,by have:=h.lt;simp;omega⟩
theorem BJ.put{A:Nat}{b:Mp}{o:Value}{p:Option Nat}{c:List Value}{iB:Bool}{v:Value}{w:World}{g:Nat}(h:BJ A b o p c iB false v w)(hB:az w A (b.cs++[o,pv p]))(e:v=pv (some g))(hg:g≠A)(hb:au w g c pF):BJ A b o p c iB true v (w.setCell ⟨A,7,none⟩ (pv (some g))):=
 ⟨nofun,fun _=>⟨g,e,hg,hb.stays (heap_setCell_other _ _ _ _ hg)⟩,fun _=>⟨g,e,hB.set 7 (pv (some g))⟩,by have:=h.lt;simpa[World.setCell]using this⟩
theorem BJ.slots{A:Nat}{b:Mp}{o:Value}{p:Option Nat}{c:List Value}{iB iS:Bool}{v u:Value}{w:World}(h:BJ A b o p c iB iS v w)(e:u=v):BJ A b o p c iB iS u w:=by rw[e];exact h
theorem ZG(d:Dn)(p:Option Nat)(n:Nd)(An:Option Addr)(cn:Nat)(u:Mp)(w:World)(hd:d.o<256)(hn:n.chk=0)(hp:xR w p d.c)(hl:d.c.length<=1900) :
  Calls prog 87 #[.agg (lX d p).toArray,.agg (n.cs An cn).toArray,.agg u.cs.toArray] w fun e w'=>∃p',e=.returned (.tuple #[.agg (lX (d.to n u) p').toArray,.bool (d.ok n u)])∧xR w' p' (d.to n u).c∧Below w.heap.size w w':=by
 have HB0:Hid (Below w.heap.size w ((((w.alloc (.cells (lX d p).toArray 208)).alloc (.cells (n.cs An cn).toArray 77)).alloc (.cells u.cs.toArray 67)).alloc (.cells #[.int .i64 0,.int .i64 0,.int .i64 0,.int .i64 0,.int .i64 0,.int .i64 0,.int .i64 0,.pointer none] 208))):=(((bR.alloc nR _).alloc (by simp) _).alloc (by simp;omega) _).alloc (by simp;omega) _
 have HD0:Hid (az ((((w.alloc (.cells (lX d p).toArray 208)).alloc (.cells (n.cs An cn).toArray 77)).alloc (.cells u.cs.toArray 67)).alloc (.cells #[.int .i64 0,.int .i64 0,.int .i64 0,.int .i64 0,.int .i64 0,.int .i64 0,.int .i64 0,.pointer none] 208)) w.heap.size (lX d p)):=(((aA w (lX d p) _).alloc _).alloc _).alloc _
 have Zq:Hid (az ((((w.alloc (.cells (lX d p).toArray 208)).alloc (.cells (n.cs An cn).toArray 77)).alloc (.cells u.cs.toArray 67)).alloc (.cells #[.int .i64 0,.int .i64 0,.int .i64 0,.int .i64 0,.int .i64 0,.int .i64 0,.int .i64 0,.pointer none] 208)) (w.heap.size+1) (n.cs An cn)):=((aY (w.alloc _) _ (by simp) (n.cs An cn) _).alloc _).alloc _
 have HU0:Hid (az ((((w.alloc (.cells (lX d p).toArray 208)).alloc (.cells (n.cs An cn).toArray 77)).alloc (.cells u.cs.toArray 67)).alloc (.cells #[.int .i64 0,.int .i64 0,.int .i64 0,.int .i64 0,.int .i64 0,.int .i64 0,.int .i64 0,.pointer none] 208)) (w.heap.size+1+1) u.cs):=(aY ((w.alloc _).alloc _) _ (by simp) u.cs _).alloc _
 have HR0:Hid (au ((((w.alloc (.cells (lX d p).toArray 208)).alloc (.cells (n.cs An cn).toArray 77)).alloc (.cells u.cs.toArray 67)).alloc (.cells #[.int .i64 0,.int .i64 0,.int .i64 0,.int .i64 0,.int .i64 0,.int .i64 0,.int .i64 0,.pointer none] 208)) (w.heap.size+1+1+1) [.int .i64 0,.int .i64 0,.int .i64 0,.int .i64 0,.int .i64 0,.int .i64 0,.int .i64 0,.pointer none] 208):=jJ (((w.alloc _).alloc _).alloc _) _ (by simp) [.int .i64 0,.int .i64 0,.int .i64 0,.int .i64 0,.int .i64 0,.int .i64 0,.int .i64 0,.pointer none] _
 have XU:Hid (((((w.alloc (.cells (lX d p).toArray 208)).alloc (.cells (n.cs An cn).toArray 77)).alloc (.cells u.cs.toArray 67)).alloc (.cells #[.int .i64 0,.int .i64 0,.int .i64 0,.int .i64 0,.int .i64 0,.int .i64 0,.int .i64 0,.pointer none] 208)).heap.size=w.heap.size+4):=by show _=_;simp
 have yD:Hid (∀w,Calls prog 36 #[.agg u.cs.toArray] w fun e w'=>e=.returned (.tuple #[.agg u.back.1.cs.toArray,.int .i64 u.back.2])∧Below w.heap.size w w'):=fun w=>ML u w
 have HBY:Hid (∀w,Calls prog 108 #[.int .i64 (d.o:Nat),.int .i64 n.op] w fun e w'=>e=.returned (.int .i64 (sG d.o n.op.toNat:Nat))∧Below w.heap.size w w'):=fun w=>by
  have h:=mO (a0y d.o n.op.toNat hd (RU hn).1 w);rw[←(RU hn).2]at h;exact h
 have HP:=Hd hp;have HL:=Hd hl;have HT1:Hid ((d.to n u).c=if n.cl=true then ⟨u.back.1,n.r⟩::d.c else d.c):=rfl;have HT2:Hid (∀q,lX (d.to n u) q=u.back.1.cs++[.int .i64 (sG d.o n.op.toNat:Nat),pv q]):=fun q=>rfl;have dY:Hid (d.ok n u=(!n.hi&&(decide (u.back.2=0)&&decide (¬sG d.o n.op.toNat=0)))):=rfl;generalize (d.to n u).c=tc at*;generalize lX (d.to n u)=YG at*;generalize d.ok n u=ok at*;generalize sG d.o n.op.toNat=o2 at*
 obtain⟨⟨b2,e2⟩,hb2⟩:∃q,u.back=q:=⟨_,rfl⟩
 rw[hb2]at yD HT1 HT2 dY;clear hd hn hp hl hb2;go_enter func87,ntmps87
 go_upto_region 1 with(fail)
 generalize ((((w.alloc (.cells (lX d p).toArray 208)).alloc (.cells (n.cs An cn).toArray 77)).alloc (.cells u.cs.toArray 67)).alloc (.cells #[.int .i64 0,.int .i64 0,.int .i64 0,.int .i64 0,.int .i64 0,.int .i64 0,.int .i64 0,.pointer none] 208))=w0 at*;have i0:=HU0.o.inside;go_wp2_with (first|(with_reducible refine gL ?_;first|(refine wt 67 0 rfl rfl rfl HU0.o (u.cs) rfl underlying67 rfl ?_)));refine(yD.o _).mono ?_;rintro e w1 ⟨rfl,hb⟩;have HB1:=Hd (HB0.o.trans (hb.mono HB0.o.size));have HD1:=Hd (HD0.o.below' hb);have X9:=Hd (Zq.o.below' hb)
 have HR1:=Hd (HR0.o.stays (hb.block _ HR0.o.inside));have kH:Hid (w.heap.size+4<=w1.heap.size):=by have:=hb.size;have:=XU.o;show _<=_;omega
 clear hb yD HB0 HD0 Zq HU0 HR0 XU i0;have HZ:Hid (az (w1.alloc (.cells Vd.toArray 117)) w1.heap.size Vd):=aA w1 Vd _;have iO:Hid (Below w1.heap.size w1 (w1.alloc (.cells Vd.toArray 117))):=bR.alloc nR _
 go_upto_region 2 with(first|(with_reducible refine gS ?_;first|(refine ay 117 _ _ rfl rfl rfl _ 0 rfl (b2.cs) rfl (Vd) HZ.o (b2.cs) rfl (nE rfl) ag rfl ?_;intro w2 HW2 dE)))
 have xE:Hid (Below w1.heap.size w1 w2):=HW2.o.below iO.o nR;have HB2:=Hd (HB1.o.trans (xE.o.mono HB1.o.size));have HD2:=Hd (HD1.o.below' xE.o);have Dw:=Hd (X9.o.below' xE.o);have HR2:=Hd (HR1.o.stays (xE.o.block _ HR1.o.inside))
 obtain⟨kb,hkb⟩:=aC w1.heap.size
 rw[hkb]at dE kH ⊢;have HS2:Hid (kb<w2.heap.size):=dE.o.inside;clear HZ iO HW2 xE HB1 HD1 X9 HR1 hkb
 obtain⟨d0,hd0⟩:=aC w.heap.size
 have HWd:=Hd hd0;rw[hd0]at HB2 HD2 Dw HR2 kH ⊢;clear hd0;have I8:Hid (d0+4<=kb):=kH.o
 have AY:Hid (TJ d0 d.b (.int .i64 (d.o:Nat)) p b2 (.int .i64 (o2:Nat)) false false w2.drew):=⟨HD2.o.below' bR.drew⟩
 have F1:Hid (∀W,KX d0 w2 W->az W (d0+1) (n.cs An cn)∧az W kb b2.cs):=fun W hk=>⟨Dw.o.stays (hk.same _ Dw.o.inside (by omega)),dE.o.stays (hk.same _ dE.o.inside (by have:=I8.o;omega))⟩
 go_upto_region 2 with(fail)
 refine wR (KX d0) (fun L wx=>TJ d0 d.b (.int .i64 (d.o:Nat)) p b2 (.int .i64 (o2:Nat)) (L 7) (L 9) wx∧(L 9=true->L 5=true)∧(L 5=true->L 2=true)) [15,16,17,18,19,20,21,22] (fun _=>KX.refl _ _) (fun _ _ _ h k=>h.trans k) (fun i=>match i with
  |0=>rV (.agg (b2.cs).toArray)
  |1|8=>rp d0 6
  |2=>rV (.int .i64 (d.o:Nat))
  |3=>rp (d0+1) 6
  |4=>rV (.int .i64 n.op)
  |5=>rV (.int .i64 (o2:Nat))
  |6=>rp d0 0
  |_=>ra) (KX.of_below bR.drew) (⟨AY.o,nofun,nofun⟩) ⟨?_,?_,?_,?_,?_,?_,?_,?_,?_,?_,trivial⟩ ?_
 any_goals (first|refine zp fun L a w1 hh=>?_|fail)
 ·have h8:=hh.p 8 kb 0;have hB:=Hd ((F1.o _ hh.rel).2);have hJ:=Hd hh.st;exact aK 117 _ rfl kb 0 (by simpa[go_sem]using h8) _ hB.o (b2.cs) rfl _ underlying117 rfl ag ⟨_,rfl,KX.refl _ _,rfl,hJ.o⟩
 have h3:=hh.p 3 d0 0;have i0:=(hh.st.1.blk).inside;rotate_left
 ·have h16:=rq (hh.d 1 16);have h5:=cO hh.st.2.2 hh.un;have h9:=cO hh.st.2.1 h5;have hB:=hh.st.1.blk;rw[h9]at hB;have c0:=hB.c 6 rfl;have i0:=hB.inside;clear hB h9 h5;have hJ:=hh.j;clear hh;go_simp;exact⟨_,rfl,KX.refl _ _,rfl,hJ.o.1,hJ.o.2.1,fun _=>rfl⟩
 have h4:=hh.p 4 ((d0+1)) 0;have i0:=((F1.o _ hh.rel).1).inside;rotate_left;have h18:=rq (hh.d 3 18);have ⟨c0,i0⟩:=((F1.o _ hh.rel).1).ci 6 rfl;rotate_left
 ·have h17:=rq (hh.d 2 17);have h19:=rq (hh.d 4 19);have hC:=Hd (HBY.o w1);have hup:=Hd (hh.up 2 ag);have hJ:=hh.j;clear hh;go_simp;refine hC.o.mono ?_;rintro e w9 ⟨rfl,bD⟩;exact⟨_,rfl,KX.of_below bD,rfl,hJ.o.1.below bD,fun _=>rfl,fun _=>hup.o⟩
 have h3:=hh.p 3 d0 0;have i0:=(hh.st.1.blk).inside;rotate_left
 ·have h15:=rq (hh.d 0 15);have h21:=rq (hh.d 6 21);have hJ:=Hd hh.st;have hun:=hh.un;have rQ:=hh.st.1.blk;rw[hun]at rQ;refine dn 117 _ _ rfl d0 0 (by simpa[go_sem]using h21) b2.cs (by simpa[go_sem]using h15) _ rQ (nE rfl) ag (by rfl) ?_;intro w9 ng gK;exact⟨undef,rfl,KX.wrote ng,trivial,⟨gK⟩,hJ.o.2⟩
 have h3:=hh.p 3 d0 0;have i0:=(hh.st.1.blk).inside;rotate_left
 ·have h20:=rq (hh.d 5 20);have h22:=rq (hh.d 8 22);have hJ:=Hd hh.st;have hun:=hh.un;have rQ:=hh.st.1.blk;rw[hun]at rQ;have f0:=rQ.free 6;have i0:=rQ.inside;have uT:=Hd rQ
  obtain⟨v6,c6⟩:∃v,w1.cell? ⟨d0,6,none⟩=some v:=⟨_,rQ.cell 6⟩
  have hup:=Hd (hh.up 5 ag);clear hh hun rQ;go_simp;exact⟨KX.wrote ⟨6,[.int .i64 (o2:Nat)],rfl⟩,⟨undef,trivial⟩,⟨uT.o.set 6 (.int .i64 (o2:Nat))⟩,fun _=>hup.o,hJ.o.2.2⟩
 any_goals (have hJ:=hh.j;clear hh;go_simp;exact⟨_,rfl,KX.refl _ _,rfl,hJ.o⟩)
 intro L w3 val hL hJ hR hv;have HR3:=Hd hR
 have HD3:Hid (az w3 d0 (b2.cs++[.int .i64 (o2:Nat),pv p])):=by
  have h:=hJ.1.blk;rw[hL 7 (by decide),hL 9 (by decide)]at h;exact h
 clear hv hL hJ hR;simp only[regs.aG,List.map_cons,List.map_nil];simp only[Act.put,List.setIfInBounds_toArray,List.set_cons_zero,List.set_cons_succ]
 skip
 have HB3:Hid (Below d0 w w3):=HB2.o.trans (HR3.o.aQ nR (by have:=HB2.o.size;have:=HWd.o;omega));have HN3:=Hd (F1.o w3 HR3.o).1;have dM:=Hd (F1.o w3 HR3.o).2;have a0N:Hid (au w3 (d0+3) [.int .i64 0,.int .i64 0,.int .i64 0,.int .i64 0,.int .i64 0,.int .i64 0,.int .i64 0,.pointer none] 208):=HR2.o.stays (HR3.o.same _ HR2.o.inside (by omega));clear AY F1 HBY HD2 Dw dE HR2 HR3 HB2 HS2;have c8:=HN3.o.c 8 rfl;have i1:=HN3.o.inside
 go_upto_region 3 with(fail)
 go_cut [24] from 23 (fun u9 wx=>u9=.bool n.cl∧wx=w3)
 case first=>
  go_wp2_with (fail)
  go_meet
  case rel=>exact⟨rfl,rfl⟩
 case rest=>
 obtain⟨rfl,rfl⟩:=hcut
 rename_i K1 hK1 K2 hK2
 refine hK2 _ _ ?_;clear c8 i1;generalize wc=wm at*;have II:Hid (w.heap.size=d0):=HWd.o
 go_cut [25] from 24 (fun u9 wx=>Hid (∃p',az wx d0 (b2.cs++[.int .i64 (o2:Nat),pv p'])∧xR wx p' tc)∧Hid (KX d0 wm wx))
 case first=>
  have Yp:Hid (xR wm p d.c):=HP.o.below (by show Below _ _ _;rw[II.o];exact HB3.o);cases hcl:n.cl with
  |false=>
   rw[hcl]at HT1;have AP:Hid (tc=d.c):=HT1.o.trans (if_neg (by decide));go_wp2_with (fail)
   go_meet
   case rel=>exact⟨⟨p,HD3,by rw[AP.o];exact Yp.o⟩,KX.refl _ _⟩
  |true=>
   rw[hcl]at HT1;have AP:Hid (tc=⟨b2,n.r⟩::d.c):=HT1.o.trans (if_pos rfl);have VG:=Hd HD3;have HCW:=Hd HB3.o;clear HT1 HD3 hcl
   have NU:Hid (∀v,BJ d0 b2 (.int .i64 (o2:Nat)) p (clC ⟨b2,n.r⟩ p (d.c.length+1)) false false v wm.drew):=fun v=>⟨fun _=>VG.o.below' bR.drew,nofun,nofun,VG.o.inside⟩
   have F1:Hid (∀W,KX d0 wm W->az W (d0+1) (n.cs An cn)∧az W kb b2.cs):=fun W hk=>⟨HN3.o.stays (hk.same _ HN3.o.inside (by omega)),dM.o.stays (hk.same _ dM.o.inside (by have:=I8.o;omega))⟩
   have HCK:Hid (∀W,KX d0 wm W->xR W p d.c):=fun W hk=>HP.o.keep fun k cu fr h=>by
    have h1:=(Array.getElem?_eq_some_iff.1 h).1;have h2:=HB3.o.size;have h3:=II.o;exact(hk.same k (by omega) (by omega)).trans (HB3.o.block k (by omega))
   have EI:Hid (∀W,KX d0 wm W->Calls prog 109 #[pv p] W (aZ (.int .i64 (d.c.length:Nat)) W)):=fun W hk=>Hz d.c p W (HCK.o W hk);have hlb:((d.c.length:Nat):Int)<=1900:=by have:=HL.o;omega
   obtain⟨nl,hnl⟩:=aC d.c.length
   rw[hnl]at NU EI hlb;have U0:=Hd hnl;have hw1:IntKind.i64.wrap ((nl:Nat)+1:Int)=(nl:Nat)+1:=IntWalk.i64_in _ (by omega);clear hnl
   go_upto_region 4 with(fail)
   refine QC (KX d0) (fun L V wx=>BJ d0 b2 (.int .i64 (o2:Nat)) p (clC ⟨b2,n.r⟩ p (nl+1)) (L 11) (L 13) (V 36) wx∧(L 13=true->L 5=true)∧(L 13=true->L 7=true)∧(L 13=true->L 11=true)) [25,26,27,28,29,30,31,32,33,34,35,36,37] (fun _=>KX.refl _ _) (fun _ _ _ h k=>h.trans k) (fun i=>match i with
    |0=>rV (.agg (b2.cs).toArray)
    |1=>rp (d0+1) 9
    |2=>rV (.agg (n.r.QL).toArray)
    |3=>rV (.agg ((Cl.mk b2 n.r).cs).toArray)
    |4|6|12=>rp d0 7
    |5|7=>rV (pv p)
    |8=>rV (.int .i64 (nl:Nat))
    |9=>rV (.int .i64 ((nl:Nat)+1))
    |10=>rV (.agg (clC ⟨b2,n.r⟩ p (nl+1)).toArray)
    |_=>ra) (KX.of_below bR.drew) (⟨NU.o _,nofun,nofun,nofun⟩) ⟨?_,?_,?_,?_,?_,?_,?_,?_,?_,?_,?_,?_,?_,?_,trivial⟩ ?_
   any_goals (first|refine fK fun L a w1 hh=>?_|fail)
   ·have h8:=hh.p 8 kb 0;have hB:=Hd ((F1.o _ hh.rel).2);have hJ:=Hd hh.st;exact aK 117 _ rfl kb 0 (by simpa[go_sem]using h8) _ hB.o (b2.cs) rfl _ underlying117 rfl ag ⟨_,rfl,KX.refl _ _,rfl,⟨BJ.slots hJ.o.1 sn,hJ.o.2⟩⟩
   have h4:=hh.p 4 ((d0+1)) 0;have i0:=((F1.o _ hh.rel).1).inside;rotate_left
   ·have IX:=rq (hh.d 1 26);have hB:=Hd ((F1.o _ hh.rel).1);have hJ:=Hd hh.st;exact aK 69 _ rfl (d0+1) 9 (by simpa[go_sem]using IX) _ hB.o (n.r.QL) rfl _ underlying69 rfl ag ⟨_,rfl,KX.refl _ _,rfl,⟨BJ.slots hJ.o.1 sn,hJ.o.2⟩⟩
   ·have pO:=rq (hh.d 0 25);have h27:=rq (hh.d 2 27);have hJ:=Hd hh.st;exact wp_build _ _ rfl (by simp[go_sem,pO,h27]) (Kq b2 n.r w1) ⟨_,rfl,KX.refl _ _,rfl,⟨BJ.slots hJ.o.1 sn,hJ.o.2⟩⟩
   have h3:=hh.p 3 d0 0;have i0:=hh.st.1.lt;rotate_left
   ·have CW:=rq (hh.d 4 29);have hS:=cO hh.st.2.1 hh.un;have hB:=hh.st.1.no hS;have c0:=hB.c 7 rfl;have i0:=hB.inside;clear hB hS;have hJ:=hh.j;clear hh;go_simp;exact⟨_,rfl,KX.refl _ _,rfl,BJ.slots hJ.o.1 sn,fun _=>rfl,hJ.o.2.2⟩
   have h3:=hh.p 3 d0 0;have i0:=hh.st.1.lt;rotate_left
   ·have h31:=rq (hh.d 6 31);have hS:=cO hh.st.2.2.1 hh.un;have hB:=hh.st.1.no hS;have c0:=hB.c 7 rfl;have i0:=hB.inside;clear hB hS;have hJ:=hh.j;clear hh;go_simp;exact⟨_,rfl,KX.refl _ _,rfl,BJ.slots hJ.o.1 sn,hJ.o.2.1,(fun _=>rfl),hJ.o.2.2.2⟩
   ·have h32:=rq (hh.d 7 32);have hC:=Hd (EI.o w1 hh.rel);have hJ:=Hd hh.st;have hsz:=Hd hh.size;clear hh;go_simp;refine hC.o.mono ?_;rintro e w9 ⟨rfl,bD⟩;exact⟨_,rfl,KX.of_below bD,rfl,BJ.slots (hJ.o.1.below bD) sn,hJ.o.2⟩
   have VV:=rq (hh.d 8 33);rotate_left
   ·have h28:=rq (hh.d 3 28);have h30:=rq (hh.d 5 30);have Xm:=rq (hh.d 9 34);have hJ:=Hd hh.st;exact wp_build _ _ rfl (by simp[go_sem,h28,h30,Xm]) (Ia ⟨b2,n.r⟩ p (nl+1) ((nl:Nat)+1:Int) (by simp) w1) ⟨_,rfl,KX.refl _ _,rfl,⟨BJ.slots hJ.o.1 sn,hJ.o.2⟩⟩
   ·have h35:=rq (hh.d 10 35);have hJ:=Hd hh.st;have hsz:=Hd hh.size;have hun:=Hd (cO hh.st.2.2.2 hh.un);clear hh;go_simp;exact⟨_,rfl,KX.of_below (bR.alloc nR _),trivial,⟨BJ.made (iS:=L 13) hJ.o.1 (bM.bI (by rw[hsz.o];simp)) hun.o,hJ.o.2.1,hJ.o.2.2.1,fun _=>rfl⟩⟩
   have h3:=hh.p 3 d0 0;have i0:=hh.st.1.lt;rotate_left
   ·have h37:=rq (hh.d 12 37);have hup:=hh.up 11 ag;obtain⟨g9,h9,mZ,bD⟩:=hh.st.1.box hup;have Xl:a.tmps[36]?.getD undef=.pointer (some ⟨g9,0,none⟩):=rq (h9);have rQ:=hh.st.1.no hh.un;have hj1:=hh.st.1;rw[hh.un]at hj1;have HJ1:=Hd hj1;have Xd:=Hd hup;have f0:=rQ.free 7;have i0:=rQ.inside;have c7:=rQ.c 7 rfl;have a3O:=Hd (hh.up 5 ag);have a3N:=Hd (hh.up 7 ag);have hJ:=Hd hh.st;have Zz:=Hd (And.intro rQ (And.intro h9 (And.intro mZ bD)));clear hh h9 mZ bD rQ hup hj1;go_simp
    exact⟨KX.wrote ⟨7,[pv (some g9)],rfl⟩,⟨undef,trivial⟩,BJ.put (iB:=L 11) HJ1.o Zz.o.1 Zz.o.2.1 Zz.o.2.2.1 Zz.o.2.2.2,(fun _=>a3O.o),(fun _=>a3N.o),fun _=>Xd.o⟩
   any_goals (have hJ:=hh.j;clear hh;go_simp;exact⟨_,rfl,KX.refl _ _,rfl,⟨BJ.slots hJ.o.1 sn,hJ.o.2⟩⟩)
   intro L w4 val hL hJ hR hv;have HR4:=Hd hR;obtain⟨g9,mZ,bD⟩:=hJ.1.yes (hL 13 (by decide));obtain⟨g8,JQ,Ph,hb8⟩:=hJ.1.box (hL 11 (by decide));have uT:=Hd bD;have Zz:=Hd hb8
   have a4H:Hid (g8=g9):=by
    show g8=g9;have h:=JQ.symm.trans mZ;unfold pv at h
    simpa using h
   clear hv hL hJ hR bD hb8 mZ JQ Ph;simp only[regs.aG,List.map_cons,List.map_nil];simp only[Act.put,List.setIfInBounds_toArray,List.set_cons_zero,List.set_cons_succ]
   skip
   go_wp2_with (fail)
   go_meet
   case rel=>exact⟨⟨some g9,uT.o,by rw[AP.o];exact⟨g9,p,rfl,by rw[←a4H.o,U0.o];exact Zz.o,HCK.o _ HR4.o⟩⟩,HR4.o⟩
 case rest=>
 obtain⟨HX,HKX⟩:=hcut;obtain⟨p',hx1,hx2⟩:=HX.o;have HD4:=Hd hx1;have xP:=Hd hx2;have We:Hid (az wc (d0+1) (n.cs An cn)):=HN3.o.stays (HKX.o.same _ HN3.o.inside (by omega));have HR4:Hid (au wc (d0+3) [.int .i64 0,.int .i64 0,.int .i64 0,.int .i64 0,.int .i64 0,.int .i64 0,.int .i64 0,.pointer none] 208):=a0N.o.stays (HKX.o.same _ a0N.o.inside (by omega))
 have HB4:Hid (Below w.heap.size w wc):=by
  show Below _ _ _;rw[II.o];exact HB3.o.trans (HKX.o.aQ nR (by have:=HB3.o.size;have:=II.o;omega))
 clear hx1 hx2 HX HKX HN3 dM a0N HB3 HD3 HT1 HP HL
 obtain⟨qx,a0b⟩:=aC (YG p')
 have HTV:Hid (qx=b2.cs++[.int .i64 (o2:Nat),pv p']):=by rw[←a0b];exact HT2.o p'
 have XO:Hid (qx.all (·.oneCell')=true):=by
  show _=_;rw[HTV.o];cases p'<;>rfl
 have nX:Hid (qx.length=8):=by rw[HTV.o];rfl
 have HD5:Hid (az wc d0 qx):=by rw[HTV.o];exact HD4.o
 have iM:Hid (∃q,YG q=qx∧xR wc q tc):=⟨p',a0b,xP.o⟩
 have F1:Hid (∀W,KX (d0+3) wc W->az W (d0+1) (n.cs An cn)∧az W d0 qx∧az W d0 (b2.cs++[.int .i64 (o2:Nat),pv p'])):=fun W hk=>⟨We.o.stays (hk.same _ We.o.inside (by omega)),HD5.o.stays (hk.same _ HD5.o.inside (by omega)),HD4.o.stays (hk.same _ HD4.o.inside (by omega))⟩
 clear a0b HD4 xP We HD5
 go_upto_region 5 with(fail)
 obtain⟨hi,hhi⟩:=aC n.hi
 have IP:=Hd hhi;rw[hhi]at dY;clear hhi;cases hi with
 |true=>
 have Lh:Hid (ok=false):=dY.o
 refine wR (KX (d0+3)) (fun L wx=>PJ (d0+3) [.int .i64 0,.int .i64 0,.int .i64 0,.int .i64 0,.int .i64 0,.int .i64 0,.int .i64 0,.pointer none] qx (L 13) wx) [38,39,40,41,42,43,44,45,46,47,48,49,50,7] (fun _=>KX.refl _ _) (fun _ _ _ h k=>h.trans k) (fun i=>match i with
  |0=>rV (.agg (qx).toArray)
  |1=>rp (d0+1) 7
  |2=>rT
  |3|4|7|8|12|14=>rV (.bool false)
  |5|6|9|10|11=>rV (undef)
  |_=>ra) (KX.of_below bR.drew) (⟨fun _=>HR4.o.blk.below' bR.drew,nofun⟩) ⟨?_,?_,?_,?_,?_,?_,?_,?_,?_,?_,?_,?_,?_,?_,?_,trivial⟩ ?_
 any_goals (first|refine zp fun L a w1 hh=>?_|fail)
 ·have h3:=hh.p 3 d0 0;have hB:=Hd (F1.o _ hh.rel).2.1;have hJ:=Hd hh.st;exact aK 208 _ rfl d0 0 (by simpa[go_sem]using h3) _ hB.o (qx) (by rw[List.drop_zero,List.take_length]) _ underlying208 rfl (by rw[nX.o];kernel_rfl) ⟨_,rfl,KX.refl _ _,rfl,hJ.o⟩
 have h4:=hh.p 4 ((d0+1)) 0;have i0:=((F1.o _ hh.rel).1).inside;rotate_left;have TD:=rq (hh.d 1 39);have hB:=Hd ((F1.o _ hh.rel).1);have c0:w1.cell? ⟨(d0+1),7,none⟩=some (.bool true):=by rw[←IP.o];exact hB.o.cell 7
 have i0:=hB.o.inside;rotate_left;have VU:=rq (hh.d 2 40);rotate_left;have VT:=rq (hh.d 3 41);rotate_left
 ·refine sz rfl rfl
 ·refine sz rfl rfl
 have h42:=rq (hh.d 4 42);rotate_left;have h45:=rq (hh.d 7 45);rotate_left
 ·refine sz rfl rfl
 ·refine sz rfl rfl
 ·refine sz rfl rfl
 have h46:=rq (hh.d 8 46);rotate_left
 ·have h6:=hh.p 6 ((d0+3)) 0;have h38:=rq (hh.d 0 38);have rQ:=hh.st.no hh.un;refine dn 208 _ _ rfl (d0+3) 0 (by simpa[go_sem]using h6) qx (by simpa[go_sem]using h38) _ rQ (by rw[nX.o];decide) (by rw[nX.o];kernel_rfl) XO.o ?_;intro w9 ng gK;have e9:([.int .i64 0,.int .i64 0,.int .i64 0,.int .i64 0,.int .i64 0,.int .i64 0,.int .i64 0,.pointer none]:List Value).take 0++qx++([.int .i64 0,.int .i64 0,.int .i64 0,.int .i64 0,.int .i64 0,.int .i64 0,.int .i64 0,.pointer none]:List Value).drop (0+qx.length)=qx:=by rw[nX.o];simp
  rw[e9]at gK;exact⟨undef,rfl,KX.wrote ng,trivial,⟨nofun,fun _=>gK⟩⟩
 have h50:=rq (hh.d 12 50);rotate_left
 any_goals (have hJ:=hh.j;clear hh;go_simp;exact⟨_,rfl,KX.refl _ _,rfl,hJ.o⟩)
 intro L w5 val hL hJ hR hv;have h7:val 7=.bool false:=hv 14 7 ag;have kL:=Hd hR;have uS:=Hd (hJ.yes (hL 13 (by decide)));clear hv hL hJ hR;simp only[regs.aG,List.map_cons,List.map_nil,h7];simp only[Act.put,List.setIfInBounds_toArray,List.set_cons_zero,List.set_cons_succ];clear h7;generalize val 38=v38,val 39=v39,val 40=v40,val 41=v41,val 42=v42,val 43=v43,val 44=v44,val 45=v45,val 46=v46,val 47=v47,val 48=v48,val 49=v49,val 50=v50 at*;go_wp2_with (fail);obtain⟨q9,QG,GR⟩:=iM.o;have UW:=Hd QG
 exact aS rfl rfl rfl uS.o underlying208 rfl (by rw[nX.o];kernel_rfl) ⟨q9,by rw[Lh.o,UW.o];rfl,GR.keep fun k cu fr h=>kL.o.same k (Array.getElem?_eq_some_iff.1 h).1 (fun e=>by
  rw[e]at h
  exact absurd (Option.some.inj (h.symm.trans HR4.o)) (fun x2=>by injection x2 with _ x2 _;exact absurd x2 (by decide))),HB4.o.trans (kL.o.aQ (by have:=II.o;omega) HB4.o.size)⟩
 |false=>
 by_cases he2:¬e2=0
 ·have q2:(e2==0)=false:=by simpa using he2
  have Lh:Hid (ok=false):=by
   show _=_;rw[dY.o,decide_eq_false he2];rfl
  clear he2
  refine wR (KX (d0+3)) (fun L wx=>PJ (d0+3) [.int .i64 0,.int .i64 0,.int .i64 0,.int .i64 0,.int .i64 0,.int .i64 0,.int .i64 0,.pointer none] qx (L 13) wx) [38,39,40,41,42,43,44,45,46,47,48,49,50,7] (fun _=>KX.refl _ _) (fun _ _ _ h k=>h.trans k) (fun i=>match i with
   |0=>rV (.agg (qx).toArray)
   |1=>rp (d0+1) 7
   |2|6|7|8|12|14=>rV (.bool false)
   |3|4=>rT
   |5=>rV (.int .i64 e2)
   |9|10|11=>rV (undef)
   |_=>ra) (KX.of_below bR.drew) (⟨fun _=>HR4.o.blk.below' bR.drew,nofun⟩) ⟨?_,?_,?_,?_,?_,?_,?_,?_,?_,?_,?_,?_,?_,?_,?_,trivial⟩ ?_
  any_goals (first|refine zp fun L a w1 hh=>?_|fail)
  any_goals (first|refine sy rfl rfl fun L a w1 hh=>?_|fail)
  ·have h3:=hh.p 3 d0 0;have hB:=Hd (F1.o _ hh.rel).2.1;have hJ:=Hd hh.st;exact aK 208 _ rfl d0 0 (by simpa[go_sem]using h3) _ hB.o (qx) (by rw[List.drop_zero,List.take_length]) _ underlying208 rfl (by rw[nX.o];kernel_rfl) ⟨_,rfl,KX.refl _ _,rfl,hJ.o⟩
  have h4:=hh.p 4 ((d0+1)) 0;have i0:=((F1.o _ hh.rel).1).inside;rotate_left;have TD:=rq (hh.d 1 39);have hB:=Hd ((F1.o _ hh.rel).1);have c0:w1.cell? ⟨(d0+1),7,none⟩=some (.bool false):=by rw[←IP.o];exact hB.o.cell 7
  have i0:=hB.o.inside;rotate_left;have VU:=rq (hh.d 2 40);rotate_left;have VT:=rq (hh.d 3 41);rotate_left;have h9:=hh.o 9 (v:=.int .i64 e2) rfl;rotate_left;have h43:=rq (hh.d 5 43);rotate_left;have h42:=rq (hh.d 4 42);have QJ:=rq (hh.d 6 44);rotate_left;have h45:=rq (hh.d 7 45);rotate_left
  ·refine sz rfl rfl
  ·refine sz rfl rfl
  ·refine sz rfl rfl
  have h46:=rq (hh.d 8 46);rotate_left
  ·have h6:=hh.p 6 ((d0+3)) 0;have h38:=rq (hh.d 0 38);have rQ:=hh.st.no hh.un;refine dn 208 _ _ rfl (d0+3) 0 (by simpa[go_sem]using h6) qx (by simpa[go_sem]using h38) _ rQ (by rw[nX.o];decide) (by rw[nX.o];kernel_rfl) XO.o ?_;intro w9 ng gK;have e9:([.int .i64 0,.int .i64 0,.int .i64 0,.int .i64 0,.int .i64 0,.int .i64 0,.int .i64 0,.pointer none]:List Value).take 0++qx++([.int .i64 0,.int .i64 0,.int .i64 0,.int .i64 0,.int .i64 0,.int .i64 0,.int .i64 0,.pointer none]:List Value).drop (0+qx.length)=qx:=by rw[nX.o];simp
   rw[e9]at gK;exact⟨undef,rfl,KX.wrote ng,trivial,⟨nofun,fun _=>gK⟩⟩
  have h50:=rq (hh.d 12 50);rotate_left
  any_goals (have hJ:=hh.j;clear hh;go_simp;exact⟨_,rfl,KX.refl _ _,rfl,hJ.o⟩)
  intro L w5 val hL hJ hR hv;have h7:val 7=.bool false:=hv 14 7 ag;have kL:=Hd hR;have uS:=Hd (hJ.yes (hL 13 (by decide)));clear hv hL hJ hR;simp only[regs.aG,List.map_cons,List.map_nil,h7];simp only[Act.put,List.setIfInBounds_toArray,List.set_cons_zero,List.set_cons_succ];clear h7;generalize val 38=v38,val 39=v39,val 40=v40,val 41=v41,val 42=v42,val 43=v43,val 44=v44,val 45=v45,val 46=v46,val 47=v47,val 48=v48,val 49=v49,val 50=v50 at*;go_wp2_with (fail);obtain⟨q9,QG,GR⟩:=iM.o;have UW:=Hd QG
  exact aS rfl rfl rfl uS.o underlying208 rfl (by rw[nX.o];kernel_rfl) ⟨q9,by rw[Lh.o,UW.o];rfl,GR.keep fun k cu fr h=>kL.o.same k (Array.getElem?_eq_some_iff.1 h).1 (fun e=>by
   rw[e]at h
   exact absurd (Option.some.inj (h.symm.trans HR4.o)) (fun x2=>by injection x2 with _ x2 _;exact absurd x2 (by decide))),HB4.o.trans (kL.o.aQ (by have:=II.o;omega) HB4.o.size)⟩
 obtain rfl:e2=0:=Decidable.not_not.1 he2;have q2:((0:Int)==0)=true:=by decide
 by_cases ho2:o2=0
 ·subst ho2;have Lh:Hid (ok=false):=dY.o;have q3:(((0:Nat):Int)==0)=true:=by decide
  have q5:(((0:Nat):Int) != 0)=false:=by decide
  refine wR (KX (d0+3)) (fun L wx=>PJ (d0+3) [.int .i64 0,.int .i64 0,.int .i64 0,.int .i64 0,.int .i64 0,.int .i64 0,.int .i64 0,.pointer none] qx (L 13) wx) [38,39,40,41,42,43,44,45,46,47,48,49,50,7] (fun _=>KX.refl _ _) (fun _ _ _ h k=>h.trans k) (fun i=>match i with
   |0=>rV (.agg (qx).toArray)
   |1=>rp (d0+1) 7
   |2|11|12|14=>rV (.bool false)
   |3|4|6|7|8=>rT
   |5=>rV (.int .i64 0)
   |9=>rp d0 6
   |10=>rV (.int .i64 ((0:Nat):Nat))
   |_=>ra) (KX.of_below bR.drew) (⟨fun _=>HR4.o.blk.below' bR.drew,nofun⟩) ⟨?_,?_,?_,?_,?_,?_,?_,?_,?_,?_,?_,?_,?_,?_,?_,trivial⟩ ?_
  any_goals (first|refine zp fun L a w1 hh=>?_|fail)
  any_goals (first|refine sy rfl rfl fun L a w1 hh=>?_|fail)
  ·have h3:=hh.p 3 d0 0;have hB:=Hd (F1.o _ hh.rel).2.1;have hJ:=Hd hh.st;exact aK 208 _ rfl d0 0 (by simpa[go_sem]using h3) _ hB.o (qx) (by rw[List.drop_zero,List.take_length]) _ underlying208 rfl (by rw[nX.o];kernel_rfl) ⟨_,rfl,KX.refl _ _,rfl,hJ.o⟩
  have h4:=hh.p 4 ((d0+1)) 0;have i0:=((F1.o _ hh.rel).1).inside;rotate_left;have TD:=rq (hh.d 1 39);have hB:=Hd ((F1.o _ hh.rel).1);have c0:w1.cell? ⟨(d0+1),7,none⟩=some (.bool false):=by rw[←IP.o];exact hB.o.cell 7
  have i0:=hB.o.inside;rotate_left;have VU:=rq (hh.d 2 40);rotate_left;have VT:=rq (hh.d 3 41);rotate_left;have h9:=hh.o 9 (v:=.int .i64 0) rfl;rotate_left;have h43:=rq (hh.d 5 43);rotate_left;have h42:=rq (hh.d 4 42);have QJ:=rq (hh.d 6 44);rotate_left;have h45:=rq (hh.d 7 45);rotate_left;have h3:=hh.p 3 d0 0;have i0:=((F1.o _ hh.rel).2.2).inside;rotate_left;have h47:=rq (hh.d 9 47);have ⟨c0,i0⟩:=((F1.o _ hh.rel).2.2).ci 6 rfl;rotate_left;have h48:=rq (hh.d 10 48);rotate_left;have h46:=rq (hh.d 8 46);have h49:=rq (hh.d 11 49);rotate_left
  ·have h6:=hh.p 6 ((d0+3)) 0;have h38:=rq (hh.d 0 38);have rQ:=hh.st.no hh.un;refine dn 208 _ _ rfl (d0+3) 0 (by simpa[go_sem]using h6) qx (by simpa[go_sem]using h38) _ rQ (by rw[nX.o];decide) (by rw[nX.o];kernel_rfl) XO.o ?_;intro w9 ng gK;have e9:([.int .i64 0,.int .i64 0,.int .i64 0,.int .i64 0,.int .i64 0,.int .i64 0,.int .i64 0,.pointer none]:List Value).take 0++qx++([.int .i64 0,.int .i64 0,.int .i64 0,.int .i64 0,.int .i64 0,.int .i64 0,.int .i64 0,.pointer none]:List Value).drop (0+qx.length)=qx:=by rw[nX.o];simp
   rw[e9]at gK;exact⟨undef,rfl,KX.wrote ng,trivial,⟨nofun,fun _=>gK⟩⟩
  have h50:=rq (hh.d 12 50);rotate_left
  any_goals (have hJ:=hh.j;clear hh;go_simp;exact⟨_,rfl,KX.refl _ _,rfl,hJ.o⟩)
  intro L w5 val hL hJ hR hv;have h7:val 7=.bool false:=hv 14 7 ag;have kL:=Hd hR;have uS:=Hd (hJ.yes (hL 13 (by decide)));clear hv hL hJ hR;simp only[regs.aG,List.map_cons,List.map_nil,h7];simp only[Act.put,List.setIfInBounds_toArray,List.set_cons_zero,List.set_cons_succ];clear h7;generalize val 38=v38,val 39=v39,val 40=v40,val 41=v41,val 42=v42,val 43=v43,val 44=v44,val 45=v45,val 46=v46,val 47=v47,val 48=v48,val 49=v49,val 50=v50 at*;go_wp2_with (fail);obtain⟨q9,QG,GR⟩:=iM.o;have UW:=Hd QG
  exact aS rfl rfl rfl uS.o underlying208 rfl (by rw[nX.o];kernel_rfl) ⟨q9,by rw[Lh.o,UW.o];rfl,GR.keep fun k cu fr h=>kL.o.same k (Array.getElem?_eq_some_iff.1 h).1 (fun e=>by
   rw[e]at h
   exact absurd (Option.some.inj (h.symm.trans HR4.o)) (fun x2=>by injection x2 with _ x2 _;exact absurd x2 (by decide))),HB4.o.trans (kL.o.aQ (by have:=II.o;omega) HB4.o.size)⟩
 have Lh:Hid (ok=true):=by
  show _=_;rw[dY.o,decide_eq_true ho2];rfl
 have q3:(((o2:Nat):Int)==0)=false:=by simpa using ho2
 have q5:(((o2:Nat):Int) != 0)=true:=by simpa using ho2
 refine wR (KX (d0+3)) (fun L wx=>PJ (d0+3) [.int .i64 0,.int .i64 0,.int .i64 0,.int .i64 0,.int .i64 0,.int .i64 0,.int .i64 0,.pointer none] qx (L 13) wx) [38,39,40,41,42,43,44,45,46,47,48,49,50,7] (fun _=>KX.refl _ _) (fun _ _ _ h k=>h.trans k) (fun i=>match i with
  |0=>rV (.agg (qx).toArray)
  |1=>rp (d0+1) 7
  |2=>rV (.bool false)
  |3|4|6|7|8|11|12|14=>rT
  |5=>rV (.int .i64 0)
  |9=>rp d0 6
  |10=>rV (.int .i64 (o2:Nat))
  |_=>ra) (KX.of_below bR.drew) (⟨fun _=>HR4.o.blk.below' bR.drew,nofun⟩) ⟨?_,?_,?_,?_,?_,?_,?_,?_,?_,?_,?_,?_,?_,?_,?_,trivial⟩ ?_
 any_goals (first|refine zp fun L a w1 hh=>?_|fail)
 any_goals (first|refine sy rfl rfl fun L a w1 hh=>?_|fail)
 ·have h3:=hh.p 3 d0 0;have hB:=Hd (F1.o _ hh.rel).2.1;have hJ:=Hd hh.st;exact aK 208 _ rfl d0 0 (by simpa[go_sem]using h3) _ hB.o (qx) (by rw[List.drop_zero,List.take_length]) _ underlying208 rfl (by rw[nX.o];kernel_rfl) ⟨_,rfl,KX.refl _ _,rfl,hJ.o⟩
 have h4:=hh.p 4 ((d0+1)) 0;have i0:=((F1.o _ hh.rel).1).inside;rotate_left;have TD:=rq (hh.d 1 39);have hB:=Hd ((F1.o _ hh.rel).1);have c0:w1.cell? ⟨(d0+1),7,none⟩=some (.bool false):=by rw[←IP.o];exact hB.o.cell 7
 have i0:=hB.o.inside;rotate_left;have VU:=rq (hh.d 2 40);rotate_left;have VT:=rq (hh.d 3 41);rotate_left;have h9:=hh.o 9 (v:=.int .i64 0) rfl;rotate_left;have h43:=rq (hh.d 5 43);rotate_left;have h42:=rq (hh.d 4 42);have QJ:=rq (hh.d 6 44);rotate_left;have h45:=rq (hh.d 7 45);rotate_left;have h3:=hh.p 3 d0 0;have i0:=((F1.o _ hh.rel).2.2).inside;rotate_left;have h47:=rq (hh.d 9 47);have ⟨c0,i0⟩:=((F1.o _ hh.rel).2.2).ci 6 rfl;rotate_left;have h48:=rq (hh.d 10 48);rotate_left;have h46:=rq (hh.d 8 46);have h49:=rq (hh.d 11 49);rotate_left
 ·have h6:=hh.p 6 ((d0+3)) 0;have h38:=rq (hh.d 0 38);have rQ:=hh.st.no hh.un;refine dn 208 _ _ rfl (d0+3) 0 (by simpa[go_sem]using h6) qx (by simpa[go_sem]using h38) _ rQ (by rw[nX.o];decide) (by rw[nX.o];kernel_rfl) XO.o ?_;intro w9 ng gK;have e9:([.int .i64 0,.int .i64 0,.int .i64 0,.int .i64 0,.int .i64 0,.int .i64 0,.int .i64 0,.pointer none]:List Value).take 0++qx++([.int .i64 0,.int .i64 0,.int .i64 0,.int .i64 0,.int .i64 0,.int .i64 0,.int .i64 0,.pointer none]:List Value).drop (0+qx.length)=qx:=by rw[nX.o];simp
  rw[e9]at gK;exact⟨undef,rfl,KX.wrote ng,trivial,⟨nofun,fun _=>gK⟩⟩
 have h50:=rq (hh.d 12 50);rotate_left
 any_goals (have hJ:=hh.j;clear hh;go_simp;exact⟨_,rfl,KX.refl _ _,rfl,hJ.o⟩)
 intro L w5 val hL hJ hR hv;have h7:val 7=.bool true:=hv 14 7 ag;have kL:=Hd hR;have uS:=Hd (hJ.yes (hL 13 (by decide)));clear hv hL hJ hR;simp only[regs.aG,List.map_cons,List.map_nil,h7];simp only[Act.put,List.setIfInBounds_toArray,List.set_cons_zero,List.set_cons_succ];clear h7
 skip
 go_wp2_with (fail);obtain⟨q9,QG,GR⟩:=iM.o;have UW:=Hd QG
 exact aS rfl rfl rfl uS.o underlying208 rfl (by rw[nX.o];kernel_rfl) ⟨q9,by rw[Lh.o,UW.o];rfl,GR.keep fun k cu fr h=>kL.o.same k (Array.getElem?_eq_some_iff.1 h).1 (fun e=>by
  rw[e]at h
  exact absurd (Option.some.inj (h.symm.trans HR4.o)) (fun x2=>by injection x2 with _ x2 _;exact absurd x2 (by decide))),HB4.o.trans (kL.o.aQ (by have:=II.o;omega) HB4.o.size)⟩
end
section
open Go.RowKit fG gm aF Go.Maps xk
theorem He{m:Mp}(h:m.right=true)(h0:m.back.2=0):m.back.1.right=true:=by
 unfold Mp.back at h0 ⊢;rw[if_neg (by rw[h];decide)]at h0 ⊢;by_cases hd:m.PQ=0
 ·rw[if_pos hd]at h0;cases h0
 ·rw[if_neg hd]at h0 ⊢;by_cases h4:dO m.bk.l4=true
  ·rw[if_pos h4];unfold Mp.right dO Mp.l at h ⊢;unfold dO Mp.l4 at h4;simp only[List.all_cons,List.all_nil,Bool.and_true,Bool.and_eq_true]at h h4 ⊢;exact⟨h4.1,h4.2.1,h4.2.2.1,h4.2.2.2,h.2.2.2.2.1,h.2.2.2.2.2⟩
  ·rw[if_neg h4]at h0;cases h0
def Fj(x:aJ)(i:Int):Option Dn:=if i=0 then some Dn.top else dB x (par x.t i)
theorem PK{x:aJ}(ok:Ok x.t){i:Int}(hi:i=0∨i∈ids x.t):dB x i=Dn.step (x.nd i) (x.ws i) (Fj x i):=by
 unfold Fj;rcases hi with rfl|hi
 ·rw[if_pos rfl,zY]
 ·rw[if_neg (ok.uK hi),pR ok hi]
theorem step_some{n:Nd}{w:Mp}{d:Option Dn}{q:Dn}(h:Dn.step n w d=some q):∃d0,d=some d0∧d0.ok n w=true∧q=d0.to n w:=by
 cases d with
 |none=>cases h
 |some d=>
  simp only[Dn.step,Option.bind_some]at h;split at h
  ·injection h with h
   exact⟨d,rfl,by assumption,h.symm⟩
  ·cases h
theorem Dn.WM{d:Dn}{n:Nd}{w:Mp}(h:d.ok n w=true):w.back.2=0:=by
 unfold Dn.ok at h;simp only[Bool.and_eq_true,decide_eq_true_eq]at h;exact h.2.1
structure a1j(d:Dn)(n:Nat):Prop where
 b:d.b.right=true
 c:∀c∈d.c,c.b.right=true
 len:d.c.length<=n
 o:d.o<256
theorem step_ok{n:Nd}{w:Mp}{d:Option Dn}{q:Dn}{k:Nat}(h:Dn.step n w d=some q)(hn:n.chk=0)(hw:w.right=true)(hd:∀d0,d=some d0->(∀c∈d0.c,c.b.right=true)∧d0.c.length<=k∧d0.o<256):a1j q (k+1):=by
 obtain⟨d0,hd0,hok,rfl⟩:=step_some h;obtain⟨h1,h2,h3⟩:=hd d0 hd0;have hb:=He hw (Dn.WM hok);refine⟨hb,fun c hc=>?_,?_,a2l h3 (RU hn).1⟩
 ·unfold Dn.to at hc;simp only at hc;split at hc
  ·rcases List.mem_cons.1 hc with e|e
   ·rw[e];exact hb
   ·exact h1 c e
  ·exact h1 c hc
 ·unfold Dn.to;simp only;split
  ·rw[List.length_cons];omega
  ·omega
theorem Nh{x:aJ}(hg:Good x)(ok:Ok x.t)(hw:∀i,has x.t i=true->(x.ws i).right=true):∀{i:Int},i=0∨i∈ids x.t->∀q,dB x i=some q->a1j q (depth x.t i+1):=by
 intro i hi;refine ok.pV (P:=fun i=>∀q,dB x i=some q->a1j q (depth x.t i+1)) (fun q h=>?_) (fun i hi ih q h=>?_) hi
 ·rw[zY]at h;have h1:=step_ok (k:=0) h (hg 0) (hw 0 (ah.2 (.inl rfl))) (fun d0 e=>by injection e with e;rw[←e];exact⟨(fun _ hc=>nomatch hc),nR,by decide⟩);exact⟨h1.b,h1.c,by have:=h1.len;omega,h1.o⟩
 ·rw[pR ok hi]at h;rw[bP ok hi]
  exact step_ok h (hg i) (hw i (ah.2 (.inr hi))) fun d0 e=>⟨(ih d0 e).c,(ih d0 e).len,(ih d0 e).o⟩
theorem MQ{x:aJ}(hg:Good x)(hf:∀i,Fit (x.nd i))(ok:Ok x.t)(hw:∀i,has x.t i=true->(x.ws i).right=true)(hn:x.t.length<=900){i:Int}(hi:i=0∨i∈ids x.t){q:It}(h:fA x i=some q):q.Ok:=by
 unfold fA at h;cases hd:dB x i with
 |none=>rw[hd]at h;cases h
 |some d=>
  rw[hd,Option.bind_some]at h;split at h
  ·cases h
  ·injection h with h
   subst h;have h1:=Nh hg ok hw hi d hd;have h2:=nN ok hi;exact⟨h1.b,fun c hc=>h1.c c (List.mem_reverse.1 hc),by rw[List.length_reverse];have:=h1.len;omega,h1.o,(lJ (hg i)).2.2.1,(hf i).len,(hf i).p,(hf i).l⟩
abbrev FD:TypeId:=167
abbrev jR:TypeId:=164
abbrev FH:TypeId:=208
abbrev yM:TypeId:=209
theorem uX:prog.underlying yM=some (.map 3 FH):=underlying209
theorem NY(w:World):(zeroValue FH).run prog w=.ok (.agg (lX ⟨Mp.o,0,[]⟩ none).toArray) w:=by kernel_rfl
theorem O6:(prog.info? FD).map (fun i=>(i.zero,i.size,i.bytes))=some (some (.agg Vm.toArray),22,208):=by kernel_rfl
theorem jl.plain(q:jl):∀u∈q.cs,u.oneCell'=true:=fun u hu=>List.all_eq_true.1 q.one u hu
theorem aV.a1w{α:Type}{k:Nat}{enc:α->List Value}{w w':World}{A:Option Addr}{l:List α}(h:aV k enc w A l)(hb:∀a,A=some a->l≠[]->w'.heap[a.block]?=w.heap[a.block]?):aV k enc w' A l:=fun hn=>by
 obtain⟨b,o,e,hc⟩:=h hn;have hne:l≠[]:=fun e=>by rw[e]at hn;exact absurd hn (by simp)
 refine⟨b,o,e,fun j hj i u hu=>?_⟩;rw[←hc j hj i u hu];unfold World.cell?;rw[hb _ e hne]
theorem aV.cells2{α:Type}{k:Nat}{enc:α->List Value}{w w':World}{A:Option Addr}{l:List α}(h:aV k enc w A l)(hk:∀a v,w.cell? a=some v->w'.cell? a=some v):aV k enc w' A l:=fun hn=>by
 obtain⟨b,o,e,hc⟩:=h hn;exact⟨b,o,e,fun j hj i u hu=>hk _ _ (hc j hj i u hu)⟩
theorem Row.cells2{w w':World}{A:Option Addr}{l:List Nat}(h:Row eW w A l)(hk:∀a v,w.cell? a=some v->w'.cell? a=some v):Row eW w' A l:=fun hn=>by
 obtain⟨b,o,e,hc⟩:=h hn;exact⟨b,o,e,fun j hj=>hk _ _ (hc j hj)⟩
structure NP(base:Nat)(v:Value)(q:jl):Prop where
 c:∀a,q.Ac=some a->q.it.c≠[]->base<=a.block∧v.ownBlock≠some a.block
 p:∀a,q.A=some a->q.it.lk.l≠[]->base<=a.block∧v.ownBlock≠some a.block
structure Its(w:World)(base:Nat)(v:Value)(l:List jl):Prop where
 own:ax FD 22 jl.cs w base v l
 at_:∀q∈l,qR w q∧NP base v q
theorem Ae(c:Cl):∃v r,c.cs=v::r:=⟨_,_,rfl⟩
theorem qR.stays{w w':World}{q:jl}(h:qR w q)(h1:∀a,q.Ac=some a->q.it.c≠[]->w'.heap[a.block]?=w.heap[a.block]?)(h2:∀a,q.A=some a->q.it.lk.l≠[]->w'.heap[a.block]?=w.heap[a.block]?):qR w' q:=⟨h.xy.a1w h1,Row.stays h.px h2⟩
theorem Its.stays{w w':World}{base:Nat}{v:Value}{l:List jl}(h:Its w base v l)(hb:∀k,base<=k->k<w.heap.size->w'.heap[k]?=w.heap[k]?):Its w' base v l:=
 ⟨ax.stays h.own fun g hg=>hb g (h.own.block hg).1 (h.own.block hg).2,fun q hq=>⟨(h.at_ q hq).1.stays (fun a ea hne=>hb _ ((h.at_ q hq).2.c a ea hne).1 (aV.blt (h.at_ q hq).1.xy Ae ea hne)) (fun a ea hne=>hb _ ((h.at_ q hq).2.p a ea hne).1 (Row.lt (h.at_ q hq).1.px ea hne)),(h.at_ q hq).2⟩⟩
theorem Its.below{w w':World}{base:Nat}{v:Value}{l:List jl}(h:Its w base v l)(hb:bz w w'):Its w' base v l:=h.stays fun k _ hk=>hb.block k hk
theorem Its.bk{w w':World}{base B:Nat}{v:Value}{l:List jl}(h:Its w base v l)(hb:Bk B w w'):Its w' base v l:=
 ⟨ax.bk h.own hb,fun q hq=>⟨⟨(h.at_ q hq).1.xy.cells2 fun _ _=>eG hb,Row.cells2 (h.at_ q hq).1.px fun _ _=>eG hb⟩,(h.at_ q hq).2⟩⟩
theorem Its.nil(w:World)(base:Nat):Its w base (.slice none 0 0) []:=⟨ax.nil _ _,fun _ hq=>nomatch hq⟩
theorem Its.app{w:World}{base:Nat}{v:Value}{l:List jl}(h:Its w base v l)(q:jl){g c:Nat}(hx:aV 22 jl.cs w (some ⟨g,0,none⟩) [q])(hq:qR w q)(hf:NP base v q)(hn:l.length<=2000)(hbase:base<=w.heap.size) :
  ∃v' w',(Builtin.append_ #[jR,jR] jR #[v,.slice (some ⟨g,0,none⟩) 1 c]).run prog w=.ok v' w'∧Its w' base v' (l++[q])∧w.grownBy w' v.ownBlock∧(v'.ownBlock=v.ownBlock∨v'.ownBlock=some w.heap.size):=by
 obtain⟨v',w',h1,h2,h3,h4⟩:=ax.app (P:=prog) (xs:=[q]) (c:=c) (g:=g) (o:=0) underlying164 O6 rfl (by decide) (by decide) jl.bZ jl.plain h.own (fun _=>hx) (by simp;omega) hbase
 have keep:∀p:jl,qR w p->NP base v p->qR w' p∧NP base v' p:=fun p hp hpf=>by
  have hne:∀k,k<w.heap.size->v.ownBlock≠some k->v'.ownBlock≠some k:=fun k hk hn e=>by
   rcases h4 with e4|e4
   ·exact hn (e4 ▸ e)
   ·rw[e4]at e;have:=Option.some.inj e;omega
  refine⟨hp.stays (fun a ea hne=>h3.block _ (aV.blt hp.xy Ae ea hne) (Ne.symm (hpf.c a ea hne).2)) fun a ea hne=>h3.block _ (Row.lt hp.px ea hne) (Ne.symm (hpf.p a ea hne).2),⟨fun a ea he=>⟨(hpf.c a ea he).1,hne _ (aV.blt hp.xy Ae ea he) (hpf.c a ea he).2⟩,fun a ea he=>⟨(hpf.p a ea he).1,hne _ (Row.lt hp.px ea he) (hpf.p a ea he).2⟩⟩⟩
 refine⟨v',w',h1,⟨h2,fun p hp=>?_⟩,h3,h4⟩;rcases List.mem_append.1 hp with hp|hp
 ·exact keep p (h.at_ p hp).1 (h.at_ p hp).2
 ·rw[List.mem_singleton.1 hp];exact keep q hq hf
structure Shown(x:aJ)(w:World)(es:LV)(l:List Int):Prop where
 top:omap.look es (-1)=some (.agg (lX Dn.top none).toArray)
 yes:∀i∈l,∀d,dB x i=some d->∃p,omap.look es i=some (.agg (lX d p).toArray)∧xR w p d.c
 no:∀i∈l,dB x i=none->omap.look es i=none
 o:∀i,i∉l->i≠-1->omap.look es i=none
 few:es.length<=l.length+1
theorem Shown.keep{x:aJ}{w w':World}{es:LV}{l:List Int}(h:Shown x w es l)(hb:∀(k:Nat) (cu:Array Value) (fr:Nat×Nat),w.heap[k]?=some (Obj.cells cu pF fr)->w'.heap[k]?=w.heap[k]?):Shown x w' es l:=
 ⟨h.top,fun i hi d hd=>by
  obtain⟨p,h1,h2⟩:=h.yes i hi d hd
  exact⟨p,h1,h2.keep hb⟩,h.no,h.o,h.few⟩
theorem Shown.bk{x:aJ}{w w':World}{es:LV}{l:List Int}{B:Nat}(h:Shown x w es l)(hb:Bk B w w'):Shown x w' es l:=h.keep fun _ _ _ hk=>(hb.keep hk rfl).trans hk.symm
theorem D7{t:T}(ok:Ok t):(0:Int)∉ids t:=fun h=>ok.uK h rfl
theorem Shown.look{x:aJ}{w:World}{es:LV}{k:Nat}(ok:Ok x.t)(hk:k<(aF.walk x.t 0).length)(h:Shown x w es ((aF.walk x.t 0).take k)) :
  ∃d p okb,(omap.look es (par x.t (aF.walk x.t 0)[k])).getD (.agg (lX ⟨Mp.o,0,[]⟩ none).toArray)=.agg (lX d p).toArray∧(omap.look es (par x.t (aF.walk x.t 0)[k])).isSome=okb∧(okb=true->Fj x (aF.walk x.t 0)[k]=some d∧xR w p d.c)∧(okb=false->Fj x (aF.walk x.t 0)[k]=none):=by
 have hw:=Q3 ok hk;generalize (aF.walk x.t 0)[k]=i at*;by_cases h0:i=0
 ·subst h0;rw[par_none (D7 ok),h.top];exact⟨Dn.top,none,true,rfl,rfl,fun _=>⟨if_pos rfl,rfl⟩,fun e=>nomatch e⟩
 ·have hp:=hw.resolve_left h0;have e:Fj x i=dB x (par x.t i):=if_neg h0;rw[e];cases hd:dB x (par x.t i) with
  |none=>
   rw[h.no _ hp hd];exact⟨_,none,false,rfl,rfl,nofun,fun _=>rfl⟩
  |some d=>
   obtain⟨p,h1,h2⟩:=h.yes _ hp d hd;rw[h1];exact⟨d,p,true,rfl,rfl,fun _=>⟨rfl,h2⟩,fun e=>nomatch e⟩
theorem Shown.skip{x:aJ}{w:World}{es:LV}{l:List Int}{i:Int}(h:Shown x w es l)(hi:i∉l)(h1:i≠-1)(hd:dB x i=none):Shown x w es (l++[i]):=by
 refine⟨h.top,fun j hj d hd'=>?_,fun j hj hd'=>?_,fun j hj hn=>h.o j (fun e=>hj (List.mem_append_left _ e)) hn,by have:=h.few;simp;omega⟩
 ·rcases List.mem_append.1 hj with hj|hj
  ·exact h.yes j hj d hd'
  ·rw[List.mem_singleton.1 hj,hd]at hd';cases hd'
 ·rcases List.mem_append.1 hj with hj|hj
  ·exact h.no j hj hd'
  ·rw[List.mem_singleton.1 hj];exact h.o i hi h1
theorem Shown.put{x:aJ}{w:World}{es:LV}{l:List Int}{i:Int}(h:Shown x w es l)(hi:i∉l)(h1:i≠-1){d:Dn}{p:Option Nat}(hd:dB x i=some d)(hp:xR w p d.c):Shown x w (omap.put lt i (.agg (lX d p).toArray) es) (l++[i]):=by
 refine⟨by rw[omap.dw,if_neg (Ne.symm h1)];exact h.top,fun j hj d' hd'=>?_,fun j hj hd'=>?_,fun j hj hn=>?_,?_⟩
 ·rw[omap.dw];rcases List.mem_append.1 hj with hj|hj
  ·rw[if_neg (fun e=>hi (by rw[←e];exact hj))];exact h.yes j hj d' hd'
  ·rw[if_pos (List.mem_singleton.1 hj)];rw[List.mem_singleton.1 hj,hd]at hd'
   injection hd' with hd'
   exact⟨p,by rw[hd'],by rw[←hd'];exact hp⟩
 ·rw[omap.dw];rcases List.mem_append.1 hj with hj|hj
  ·rw[if_neg (fun e=>hi (by rw[←e];exact hj))];exact h.no j hj hd'
  ·rw[List.mem_singleton.1 hj,hd]at hd';cases hd'
 ·rw[omap.dw,if_neg (fun e=>hj (by rw[e];simp))];exact h.o j (fun e=>hj (List.mem_append_left _ e)) hn
 ·have h2:=h.few;have h3:=iF i (.agg (lX d p).toArray) es;simp;omega
theorem Q4{t:T}(ok:Ok t){k:Nat}(hk:k<(aF.walk t 0).length):(aF.walk t 0)[k]∉(aF.walk t 0).take k∧(aF.walk t 0)[k]≠-1∧(aF.walk t 0).take (k+1)=(aF.walk t 0).take k++[(aF.walk t 0)[k]]:=by
 have h1:=List.take_succ_eq_append_getElem hk;refine⟨fun h=>?_,fun e=>?_,h1⟩
 ·have hn:((aF.walk t 0).take (k+1)).Nodup:=(List.take_sublist _ _).nodup (rC ok 0);rw[h1]at hn;exact(List.nodup_append.1 hn).2.2 _ h _ List.mem_cons_self rfl
 ·have h2:=(jw ok).1 (List.getElem_mem hk);rw[e]at h2;rcases ah.1 h2 with h3|h3
  ·exact absurd h3 (by decide)
  ·obtain⟨p,hp⟩:=bg.1 h3;have:=(ok.Rw _ hp).1;simp at this
theorem mD{P:Program}{ln:Nat}{ops:Array Oper}{rest:List Oper}{o:Oper}{a:Act}{Q:Exit->Act->World->Prop}{w:World}(ty:TypeId)(x:Operand)(ho:o.op=.load ty x)(hgd:Region.wanted o (yielded ops a.tmps)=true)(g f:Nat)(hx:a.eval x=.pointer (some ⟨g,f,none⟩))(cs:List Value)(hB:az w g cs)(ls:List Value)(hls:(cs.drop f).take ls.length=ls)
  (d:TypeDesc) (hu:P.underlying ty=some d) (hd:d.isRow=true) (hi:(P.info? ty).map (·.size)=some ls.length) (h:wpListIn (Fence.wide.inRound ln) 0 P ops Q rest (a.put o.dst (.agg ls.toArray)) w):wpListIn (Fence.wide.inRound ln) 0 P ops Q (o::rest) a w:=by
 unfold wpListIn;rw[if_pos hgd];exact DY (fun c e=>by rw[ho]at e;cases e) (aK ty x ho g f hx cs hB ls hls d hu hd hi h)
theorem pg{P:Program}{ln:Nat}{ops:Array Oper}{rest:List Oper}{o:Oper}{a:Act}{Q:Exit->Act->World->Prop}{w:World}(ty:TypeId)(x y:Operand)(ho:o.op=.store ty x y)(hgd:Region.wanted o (yielded ops a.tmps)=true)(hd:o.dst=none)(g f:Nat)(hx:a.eval x=.pointer (some ⟨g,f,none⟩))(ls:List Value)(hy:a.eval y=.agg ls.toArray)
  (cs:List Value) (hB:az w g cs) (cs':List Value) (hc:cs.take f++ls++cs.drop (f+ls.length)=cs') (hl:f+ls.length<=cs.length) (hi:(P.info? ty).map (·.size)=some ls.length) (h1:ls.all (·.oneCell')=true)
  (h:∀w',Hid (Wrote g w w')->Hid (az w' g cs')->wpListIn (Fence.wide.inRound ln) 0 P ops Q rest a w'):wpListIn (Fence.wide.inRound ln) 0 P ops Q (o::rest) a w:=by
 unfold wpListIn;rw[if_pos hgd];refine DY (fun c e=>by rw[ho]at e;cases e) (dn ty x y ho g f hx ls hy cs hB hl hi h1 fun w' hW hB'=>?_);have e:a.put o.dst undef=a:=by rw[hd];rfl
 show wpListIn _ 0 P ops Q rest (a.put o.dst undef) w';rw[e];exact h w' hW (by rw[←hc];exact hB')
end
end Go.Proofs.YthmegninhpihkaaGreat
