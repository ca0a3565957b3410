import Derived.Test.YtekdoeilpheklaaGreatZFlC
import Derived.Deep.LoopGhost
set_option maxHeartbeats 16000000
set_option maxRecDepth 100000
open Go.Proofs.Tryz
namespace Go.Proofs.YtekdoeilpheklaaGreat
section
open Go.RowKit fK fZ aB Go.Maps
abbrev pI:TypeId:=170
def pv(p:Option Nat):Value:=.pointer (p.map fun b=>⟨b,0,none⟩)
def clC(c:Cl)(up:Option Nat)(n:Nat):List Value:=[.int .i64 c.b.a,.int .i64 c.b.b,.int .i64 c.b.c,.int .i64 c.b.d,.int .i64 c.b.e,.int .i64 c.b.f,.int .i64 c.r.a,.int .i64 c.r.b,.int .i64 c.r.c,.int .i64 c.r.d,pv up,.int .i64 (n:Nat)]
def yC(w:World):Option Nat->List Cl->Prop
 | p,[]=>p=none
 | p,c::l=>∃b up,p=some b∧ak w b (clC c up (l.length+1)) pI∧yC w up l
theorem yC.keep{w w':World}(h:∀(k:Nat) (cu:Array Value) (fr:Nat×Nat),w.heap[k]?=some (Obj.cells cu pI fr)->w'.heap[k]?=w.heap[k]?):∀{l:List Cl} {p:Option Nat},yC w p l->yC w' p l
 | [],_,hp=>hp
 | _::_,_,⟨b,up,e,hb,hu⟩=>⟨b,up,e,hb.stays (h _ _ _ hb),yC.keep h hu⟩
theorem yC.below{w w':World}{l:List Cl}{p:Option Nat}(hp:yC w p l)(hb:bz w w'):yC w' p l:=hp.keep fun _ _ _ hk=>hb.block _ (Array.getElem?_eq_some_iff.1 hk).1
theorem yC.size{w:World}{l:List Cl}{p:Option Nat}(hp:yC w p l):∀{j:Nat},j<=l.length->∃q,yC w q (l.drop j):=by
 intro j hj
 induction l generalizing p j with
 | nil=>exact⟨p,by rw[List.drop_nil];exact hp⟩
 | cons c l ih=>
  obtain⟨b,up,e,hb,hu⟩:=hp;cases j with
  | zero=>exact⟨p,b,up,e,hb,hu⟩
  | succ j=>exact ih hu (by simpa using hj)
theorem IU(l:List Cl)(p:Option Nat)(w:World)(h:yC w p l):Calls prog 65 #[pv p] w fun e w'=>e=.returned (.int .i64 (l.length:Nat))∧bz w w':=by
 cases l with
 | nil=>
  obtain rfl:p=none:=h;unfold pv;simp only[Option.map_none];go_enter func65,ntmps65;go_wp2_with (fail);go_ret;exact⟨rfl,bR⟩
 | cons c l=>
  obtain⟨b,up,rfl,hb,-⟩:=h;have c11:=hb.blk.c 11 rfl;have bi:=hb.inside;clear hb;rw[List.length_cons];generalize l.length+1=n at *;unfold pv;simp only[Option.map_some];go_enter func65,ntmps65;go_wp2_with (fail);go_ret;exact⟨rfl,bR⟩
theorem Yz(n:Nat)(hn:n<=2000):∃zs:List Value,zs.length=n*10∧∀w:World,(Instr.makeSlice 42 (.int .i64 (n:Nat)) (.int .i64 (n:Nat))).run prog w=.ok (.slice (some ⟨w.heap.size,0,none⟩) n n) (w.alloc (.cells zs.toArray 122)):=by
 have info:(prog.info? 122).map (fun i=>(i.zero,i.size,i.bytes))=some (some (.agg Vo.toArray),10,80):=by kernel_rfl
 obtain⟨i,hi,hz,hsize,hby⟩:=info_parts info;refine⟨(madeCells (Value.agg Vo.toArray).cells (n*10)).toList,by rw[Array.length_toList,size_madeCells],fun w=>?_⟩;have h:=run_make (P:=prog) w 42 122 i _ underlying42 hi hz .i64 .i64 n n (by omega) (by omega) (by rw[hby];omega) (by omega);rw[hsize,Int.toNat_natCast] at h;rw[Array.toArray_toList];exact h
structure PJ(g:Nat)(c0 c1:List Value)(d:Bool)(w:World):Prop where
 no:d=false->ax w g c0
 yes:d=true->ax w g c1
theorem PJ.below{g:Nat}{c0 c1:List Value}{d:Bool}{w w':World}(h:PJ g c0 c1 d w)(hb:bz w w'):PJ g c0 c1 d w':=⟨fun e=>(h.no e).below' hb,fun e=>(h.yes e).below' hb⟩
def V5(zs:List Value)(l:List Cl)(j:Nat):List Value:=zs.take ((l.length - j)*10)++(l.take j).reverse.flatMap Cl.cs
theorem Le(l:List Cl):(l.flatMap Cl.cs).length=l.length*10:=by
 induction l with
 | nil=>rfl
 | cons c l ih=>rw[List.flatMap_cons,List.length_append,Cl.aZ,ih,List.length_cons];omega
theorem YY{zs:List Value}{l:List Cl}{j:Nat}(hz:zs.length=l.length*10)(hj:j<=l.length):(V5 zs l j).length=l.length*10:=by
 unfold V5;rw[List.length_append,List.length_take,Le,List.length_reverse,List.length_take,hz];omega
theorem V4{zs:List Value}{l:List Cl}{j:Nat}(hz:zs.length=l.length*10)(hj:j<l.length):(V5 zs l j).take ((l.length - (j+1))*10)++l[j].cs++(V5 zs l j).drop ((l.length - (j+1))*10+l[j].cs.length)=V5 zs l (j+1):=by
 have h1:(zs.take ((l.length - j)*10)).length=(l.length - j)*10:=by rw[List.length_take,hz];omega
 unfold V5;rw[Cl.aZ,List.take_append_of_le_length (by rw[h1];omega),List.take_take,Nat.min_eq_left (by omega),show(l.length - (j+1))*10+10=(zs.take ((l.length - j)*10)).length by rw[h1];omega,List.drop_left,List.take_succ_eq_append_getElem hj,List.reverse_append,List.flatMap_append,List.append_assoc];simp
theorem QT(l:List Cl)(p:Option Nat)(w:World)(h:yC w p l)(hn:l.length<=2000):Calls prog 28 #[pv p] w fun e w'=>∃g,e=.returned (.slice (some ⟨g,0,none⟩) l.length l.length)∧w.heap.size<=g∧ax w' g (l.reverse.flatMap Cl.cs)∧bz w w':=by
 obtain⟨zs,hz,hmk⟩:=Yz l.length hn;have Fj:=Hd (IU l p w h);have HMK:=Hd hmk;have HZ:=Hd hz;have HC:=Hd h;have HN:=Hd hn;clear hmk hz h hn;go_enter func28,ntmps28;go_wp2_with (fail);refine Fj.o.mono ?_;rintro e w1 ⟨rfl,hb⟩;have HB1:Hid (bz w w1):=hb;have hmk:=HMK.o w1;clear hb Fj HMK
 obtain⟨g,hg⟩:∃g,w1.heap.size=g:=⟨_,rfl⟩
 have HGW:Hid (w.heap.size<=g):=by rw[← hg];exact HB1.o.size
 have bP:Hid (ax (w1.alloc (.cells zs.toArray 122)) w1.heap.size zs):=ay w1 zs _;have HB2:Hid (bz w (w1.alloc (.cells zs.toArray 122))):=HB1.o.alloc HB1.o.size _
 obtain⟨n,hln⟩:∃n,l.length=n:=⟨_,rfl⟩
 have nJ:=Hd hln;rw[hln] at hmk ⊢
 go_upto_region 2 with (fail)
 generalize (w1.alloc (.cells zs.toArray 122))=w2 at *;rw[hg] at bP;clear hmk hg hln HB1
 go_loopg [0] n (fun k x0 wr=>∃(j:Nat) (q:Option Nat),j<=n∧k=n - j∧x0=pv q∧Hid (yC w q (l.drop j))∧Hid (ax wr g (V5 zs l j))∧Hid (bz w wr))
 case atStart=>exact⟨0,p,Nat.zero_le _,rfl,rfl,HC.o,by
  show ax _ _ _;unfold V5;rw[Nat.sub_zero,← HZ.o,List.take_length]
  simpa using bP.o,HB2.o⟩
 case round=>
  obtain⟨j,q,hj,hgk,rfl,HQ,HKg,HB⟩:=hrel;generalize wr=wA at *;by_cases hlt:j<n
  ·have HJL:Hid (j<n):=hlt;have hjl:j<l.length:=by rw[nJ.o];exact hlt
   have hq:=HQ.o;rw[List.drop_eq_getElem_cons hjl] at hq;obtain⟨pb,up,rfl,hbc,hup⟩:=hq
   obtain⟨c,hc⟩:∃c,l[j]'hjl=c:=⟨_,rfl⟩
   obtain⟨M,hM⟩:∃M,n - (j+1)=M:=⟨_,rfl⟩
   have HML:Hid (M<n):=by show _<_;omega
   obtain⟨c0,hc0⟩:∃c0,V5 zs l j=c0:=⟨_,rfl⟩
   obtain⟨c1,hc1⟩:∃c1,V5 zs l (j+1)=c1:=⟨_,rfl⟩
   have HC1:=Hd hc1
   have HST:Hid (c0.take (M*10)++c.cs++c0.drop (M*10+c.cs.length)=c1):=by
    have h:=V4 (by have:=HZ.o;exact this) hjl;rw[hc0,hc1,hc,nJ.o,hM] at h;exact h
   have yz:Hid (c0.length=n*10):=by
    have h:=YY (by have:=HZ.o;exact this) (Nat.le_of_lt hjl);rw[hc0,nJ.o] at h;exact h
   rw[hc0] at HKg;rw[hc] at hbc
   obtain⟨z,hz⟩:∃z:Int,((((l.drop (j+1)).length+1:Nat):Int))=z:=⟨_,rfl⟩
   have hz2:z=(M:Nat)+1:=by
    rw[← hz,List.length_drop,nJ.o,hM];simp
   have HBc:Hid (ak wA pb (clC c up ((l.drop (j+1)).length+1)) pI):=hbc.stays (HB.o.block _ hbc.inside);unfold clC at HBc;rw[hz] at HBc;have HUP:=Hd hup;have hMb:(M:Int)<=2000:=by have:=HN.o;have:=nJ.o;omega
   have hz3:IntKind.i64.wrap (z - 1)=(M:Nat):=by
    rw[hz2];exact IntWalk.i64_in _ (by omega) |>.trans (by omega)
   have hz4:wrap64 (z - 1)=(M:Nat):=by
    rw[hz2];exact IntWalk.wrap64_in _ (by omega) |>.trans (by omega)
   have CG:Hid (pb≠g):=by
    show _≠_;have:=hbc.inside;have:=HGW.o;omega
   have eU:=Hd (And.intro hlt hM);have c10:=HBc.o.blk.c 10 rfl;have bi:=HBc.o.inside;have gi:=HKg.o.inside;have FB:Hid (∀W,KX g wA W->ax W pb [.int .i64 c.b.a,.int .i64 c.b.b,.int .i64 c.b.c,.int .i64 c.b.d,.int .i64 c.b.e,.int .i64 c.b.f,.int .i64 c.r.a,.int .i64 c.r.b,.int .i64 c.r.c,.int .i64 c.r.d,pv up,.int .i64 z]):=fun W hk=>(HBc.o.stays (hk.same _ HBc.o.inside CG.o)).blk;have FG:Hid (∀W,KX g wA W->g<W.heap.size):=fun W hk=>Nat.lt_of_lt_of_le HKg.o.inside hk.size;clear hbc hup hc hc0 hc1 hz hz2 hjl hlt hM HQ;unfold pv at *;simp only[Option.map_some] at *
   go_upto_region 4 with (fail)
   refine wR (KX g) (fun L wx=>PJ g c0 c1 (L 11) wx) [13,14,15,16,17,18,19,20,21,22,23] (fun _=>KX.refl _ _) (fun _ _ _ h k=>h.trans k) (fun i=>match i with
    |0=>rV (.slice (some ⟨g,0,none⟩) n n)
    |1|2|6|7|8=>rp pb 0
    |3=>rp pb 11
    |4=>rV (.int .i64 z)
    |5=>rV (.int .i64 (M:Nat))
    |9=>rV (.agg (c.cs).toArray)
    |10=>rV (.pointer (some ⟨g,(M*10),none⟩))
    | _=>ra) (KX.of_below bR.drew) (⟨fun _=>HKg.o.below' bR.drew,nofun⟩) ⟨?_,?_,?_,?_,?_,?_,?_,?_,?_,?_,?_,?_,trivial⟩ ?_
   any_goals (first|refine zp fun L a w1 hh=>?_|fail)
   have h3:=hh.o 3 (v:=.slice (some ⟨g,0,none⟩) n n) rfl;rotate_left;have h0:=hh.p 0 pb 0;rotate_left;have yh:=rq (hh.d 1 14);rotate_left;have h15:=rq (hh.d 2 15);have i0:=(FB.o _ hh.rel).inside;rotate_left;have h16:=rq (hh.d 3 16);have ⟨c0,i0⟩:=(FB.o _ hh.rel).ci 11 rfl;rotate_left;have h17:=rq (hh.d 4 17);rotate_left;have h0:=hh.p 0 pb 0;rotate_left;have h19:=rq (hh.d 6 19);rotate_left;have h20:=rq (hh.d 7 20);have i0:=(FB.o _ hh.rel).inside;rotate_left
   ·have h21:=rq (hh.d 8 21);have hB:=Hd (FB.o _ hh.rel);have hJ:=Hd hh.st;exact aI 122 _ rfl pb 0 (by simpa[go_sem] using h21) _ hB.o (c.cs) rfl _ underlying122 rfl (by kernel_rfl) ⟨_,rfl,KX.refl _ _,rfl,hJ.o⟩
   have h13:=rq (hh.d 0 13);have h18:=rq (hh.d 5 18);have hlt:=HML.o;have gi:=FG.o _ hh.rel;rotate_left
   ·have h22:=rq (hh.d 9 22);have h23:=rq (hh.d 10 23);have qH:=hh.st.no hh.un;refine dn 122 _ _ rfl g (M*10) (by simpa[go_sem] using h23) c.cs (by simpa[go_sem] using h22) _ qH (by rw[yz.o,Cl.aZ];have:=HML.o;omega) (by kernel_rfl) (by rfl) ?_;intro w9 mV fV;rw[HST.o] at fV;exact⟨undef,rfl,KX.wrote mV,trivial,⟨nofun,fun _=>fV⟩⟩
   any_goals (have hJ:=hh.j;clear hh;go_simp;exact⟨_,rfl,KX.refl _ _,rfl,hJ.o⟩)
   intro L w4 val hL hJ hR hv;have HR4:=Hd hR;have lX:=Hd (hJ.yes (hL 11 (by decide)));clear hv hL hJ hR;simp only[regs.aA,List.map_cons,List.map_nil];simp only[Act.put,List.setIfInBounds_toArray,List.set_cons_zero,List.set_cons_succ]
   skip
   have HB4:=Hd (HB.o.trans (HR4.o.aP HGW.o HB.o.size));have c10:=(FB.o w4 HR4.o).c 10 rfl;have bi:=(FB.o w4 HR4.o).inside;clear HBc FB FG HKg HB HR4;go_wp2_with (fail)
   go_roundg (n - (j+1))
   case rel=>exact⟨j+1,up,eU.o.1,rfl,rfl,HUP.o,by rw[HC1.o];exact lX.o,HB4.o⟩
   case measure=>have:=eU.o.1;omega
  ·obtain rfl:j=n:=by omega
   have hq:=HQ.o;rw[List.drop_of_length_le (by (try show Below _ _ _);rw[nJ.o];exact nR)] at hq;obtain rfl:q=none:=hq
   have OZ:Hid (ax wA g (l.reverse.flatMap Cl.cs)):=by
    have h:=HKg.o;unfold V5 at h;rw[nJ.o,Nat.sub_self,Nat.zero_mul,List.take_zero,List.nil_append,← nJ.o,List.take_length] at h;exact h
   clear HQ HKg;unfold pv;simp only[Option.map_none];go_wp2_with (fail);go_ret;exact⟨g,by rw[nJ.o];rfl,HGW.o,OZ.o,HB.o⟩
def lY(d:Dn)(p:Option Nat):List Value:=[.int .i64 d.b.a,.int .i64 d.b.b,.int .i64 d.b.c,.int .i64 d.b.d,.int .i64 d.b.e,.int .i64 d.b.f,.int .i64 (d.o:Nat),pv p]
theorem YR(d:Dn)(p:Option Nat):(lY d p).all (·.oneCell')=true:=by cases p<;>rfl
theorem LH(b:Mp)(r:Bx)(w:World):(Instr.build 122 #[(0,.agg b.cs.toArray),(1,.agg r.uM.toArray)]).run prog w=.ok (.agg (Cl.mk b r).cs.toArray) w:=by kernel_rfl
theorem IX(c:Cl)(up:Option Nat)(n:Nat)(z:Int)(hz:z=(n:Nat))(w:World):(Instr.build pI #[(0,.agg c.cs.toArray),(1,pv up),(2,.int .i64 z)]).run prog w=.ok (.agg (clC c up n).toArray) w:=by
 subst hz;cases up<;>kernel_rfl
structure TJ(A:Nat)(c6:Mp)(o:Value)(p:Option Nat)(b6:Mp)(o2:Value)(i j:Bool)(w:World):Prop where
 blk:ax w A ((bif i then b6 else c6).cs++[(bif j then o2 else o),pv p])
theorem TJ.below{A:Nat}{c6:Mp}{o:Value}{p:Option Nat}{b6:Mp}{o2:Value}{i j:Bool}{w w':World}(h:TJ A c6 o p b6 o2 i j w)(hb:bz w w'):TJ A c6 o p b6 o2 i j w':=⟨h.blk.below' hb⟩
structure BJ(A:Nat)(b:Mp)(o:Value)(p:Option Nat)(c:List Value)(iB iS:Bool)(v:Value)(w:World):Prop where
 no:iS=false->ax w A (b.cs++[o,pv p])
 box:iB=true->∃g,v=pv (some g)∧g≠A∧ak w g c pI
 yes:iS=true->∃g,v=pv (some g)∧ax w A (b.cs++[o,pv (some g)])
 lt:A<w.heap.size
theorem BJ.below{A:Nat}{b:Mp}{o:Value}{p:Option Nat}{c:List Value}{iB iS:Bool}{v:Value}{w w':World}(h:BJ A b o p c iB iS v w)(hb:bz w w'):BJ A b o p c iB iS v w':=⟨fun e=>(h.no e).below' hb,fun e=>by
 obtain⟨g,h1,h2,h3⟩:=h.box e;exact⟨g,h1,h2,h3.stays (hb.block _ h3.inside)⟩,fun e=>by
 obtain⟨g,h1,h2⟩:=h.yes e
 exact⟨g,h1,h2.below' hb⟩,Nat.lt_of_lt_of_le h.lt hb.size⟩
theorem BJ.made{A:Nat}{b:Mp}{o:Value}{p:Option Nat}{c:List Value}{iB iS:Bool}{v u:Value}{w:World}(h:BJ A b o p c iB iS v w)(e:u=.pointer (some ⟨w.heap.size,0,none⟩))(hi:iS=false):BJ A b o p c true iS u (w.alloc (.cells c.toArray pI)):=by
 subst hi;exact⟨fun _=>(h.no rfl).alloc _,fun _=>⟨w.heap.size,e,fun e=>by have:=h.lt;omega,ak.new w c _⟩,nofun,by have:=h.lt;simp;omega⟩
theorem BJ.put{A:Nat}{b:Mp}{o:Value}{p:Option Nat}{c:List Value}{iB:Bool}{v:Value}{w:World}{g:Nat}(h:BJ A b o p c iB false v w)(hB:ax w A (b.cs++[o,pv p]))(e:v=pv (some g))(hg:g≠A)(hb:ak w g c pI):BJ A b o p c iB true v (w.setCell ⟨A,7,none⟩ (pv (some g))):=
 ⟨nofun,fun _=>⟨g,e,hg,hb.stays (heap_setCell_other _ _ _ _ hg)⟩,fun _=>⟨g,e,hB.set 7 (pv (some g))⟩,by have:=h.lt;simpa[World.setCell] using this⟩
theorem BJ.slots{A:Nat}{b:Mp}{o:Value}{p:Option Nat}{c:List Value}{iB iS:Bool}{v u:Value}{w:World}(h:BJ A b o p c iB iS v w)(e:u=v):BJ A b o p c iB iS u w:=by rw[e];exact h
theorem a0A(d:Dn)(p:Option Nat)(n:Nd)(An:Option Addr)(cn:Nat)(u:Mp)(w:World)(hd:d.o<256)(hn:n.chk=0)(hp:yC w p d.c)(hl:d.c.length<=1900) :
  Calls prog 27 #[.agg (lY d p).toArray,.agg (n.cs An cn).toArray,.agg u.cs.toArray] w fun e w'=>∃p',e=.returned (.tuple #[.agg (lY (d.to n u) p').toArray,.bool (d.ok n u)])∧yC w' p' (d.to n u).c∧Below w.heap.size w w':=by
 have HB0:Hid (Below w.heap.size w ((((w.alloc (.cells (lY d p).toArray 102)).alloc (.cells (n.cs An cn).toArray 109)).alloc (.cells u.cs.toArray 39)).alloc (.cells #[.int .i64 0,.int .i64 0,.int .i64 0,.int .i64 0,.int .i64 0,.int .i64 0,.int .i64 0,.pointer none] 102))):=(((bR.alloc nR _).alloc (by simp) _).alloc (by simp;omega) _).alloc (by simp;omega) _
 have HD0:Hid (ax ((((w.alloc (.cells (lY d p).toArray 102)).alloc (.cells (n.cs An cn).toArray 109)).alloc (.cells u.cs.toArray 39)).alloc (.cells #[.int .i64 0,.int .i64 0,.int .i64 0,.int .i64 0,.int .i64 0,.int .i64 0,.int .i64 0,.pointer none] 102)) w.heap.size (lY d p)):=(((ay w (lY d p) _).alloc _).alloc _).alloc _
 have X3:Hid (ax ((((w.alloc (.cells (lY d p).toArray 102)).alloc (.cells (n.cs An cn).toArray 109)).alloc (.cells u.cs.toArray 39)).alloc (.cells #[.int .i64 0,.int .i64 0,.int .i64 0,.int .i64 0,.int .i64 0,.int .i64 0,.int .i64 0,.pointer none] 102)) (w.heap.size+1) (n.cs An cn)):=((aN (w.alloc _) _ (by simp) (n.cs An cn) _).alloc _).alloc _
 have HU0:Hid (ax ((((w.alloc (.cells (lY d p).toArray 102)).alloc (.cells (n.cs An cn).toArray 109)).alloc (.cells u.cs.toArray 39)).alloc (.cells #[.int .i64 0,.int .i64 0,.int .i64 0,.int .i64 0,.int .i64 0,.int .i64 0,.int .i64 0,.pointer none] 102)) (w.heap.size+1+1) u.cs):=(aN ((w.alloc _).alloc _) _ (by simp) u.cs _).alloc _
 have HR0:Hid (ak ((((w.alloc (.cells (lY d p).toArray 102)).alloc (.cells (n.cs An cn).toArray 109)).alloc (.cells u.cs.toArray 39)).alloc (.cells #[.int .i64 0,.int .i64 0,.int .i64 0,.int .i64 0,.int .i64 0,.int .i64 0,.int .i64 0,.pointer none] 102)) (w.heap.size+1+1+1) [.int .i64 0,.int .i64 0,.int .i64 0,.int .i64 0,.int .i64 0,.int .i64 0,.int .i64 0,.pointer none] 102):=mY (((w.alloc _).alloc _).alloc _) _ (by simp) [.int .i64 0,.int .i64 0,.int .i64 0,.int .i64 0,.int .i64 0,.int .i64 0,.int .i64 0,.pointer none] _
 have Jf:Hid (((((w.alloc (.cells (lY d p).toArray 102)).alloc (.cells (n.cs An cn).toArray 109)).alloc (.cells u.cs.toArray 39)).alloc (.cells #[.int .i64 0,.int .i64 0,.int .i64 0,.int .i64 0,.int .i64 0,.int .i64 0,.int .i64 0,.pointer none] 102)).heap.size=w.heap.size+4):=by show _=_;simp
 have JK:Hid (∀w,Calls prog 63 #[.agg u.cs.toArray] w fun e w'=>e=.returned (.tuple #[.agg u.back.1.cs.toArray,.int .i64 u.back.2])∧Below w.heap.size w w'):=fun w=>Yw u w
 have HBY:Hid (∀w,Calls prog 64 #[.int .i64 (d.o:Nat),.int .i64 n.op] w fun e w'=>e=.returned (.int .i64 (jH d.o n.op.toNat:Nat))∧Below w.heap.size w w'):=fun w=>by
  have h:=pX (V8 d.o n.op.toNat hd (NI hn).1 w);rw[← (NI hn).2] at h;exact h
 have HP:=Hd hp;have HL:=Hd hl;have HT1:Hid ((d.to n u).c=if n.cl=true then ⟨u.back.1,n.r⟩::d.c else d.c):=rfl;have HT2:Hid (∀q,lY (d.to n u) q=u.back.1.cs++[.int .i64 (jH d.o n.op.toNat:Nat),pv q]):=fun q=>rfl;have dO:Hid (d.ok n u=(!n.hi&&(decide (u.back.2=0)&&decide (¬jH d.o n.op.toNat=0)))):=rfl;generalize (d.to n u).c=tc at *;generalize lY (d.to n u)=tcs at *;generalize d.ok n u=ok at *;generalize jH d.o n.op.toNat=o2 at *
 obtain⟨⟨b2,e2⟩,hb2⟩:∃q,u.back=q:=⟨_,rfl⟩
 rw[hb2] at JK HT1 HT2 dO;clear hd hn hp hl hb2;go_enter func27,ntmps27
 go_upto_region 1 with (fail)
 generalize ((((w.alloc (.cells (lY d p).toArray 102)).alloc (.cells (n.cs An cn).toArray 109)).alloc (.cells u.cs.toArray 39)).alloc (.cells #[.int .i64 0,.int .i64 0,.int .i64 0,.int .i64 0,.int .i64 0,.int .i64 0,.int .i64 0,.pointer none] 102))=w0 at *;have i0:=HU0.o.inside;go_wp2_with (first|(with_reducible refine gL ?_;first|(refine wt 39 0 rfl rfl rfl HU0.o (u.cs) rfl underlying39 rfl ?_)));refine(JK.o _).mono ?_;rintro e w1 ⟨rfl,hb⟩;have HB1:=Hd (HB0.o.trans (hb.mono HB0.o.size));have HD1:=Hd (HD0.o.below' hb);have HN1:=Hd (X3.o.below' hb)
 have HR1:=Hd (HR0.o.stays (hb.block _ HR0.o.inside));have ny:Hid (w.heap.size+4<=w1.heap.size):=by have:=hb.size;have:=Jf.o;show _<=_;omega
 clear hb JK HB0 HD0 X3 HU0 HR0 Jf i0;have HZ:Hid (ax (w1.alloc (.cells Vd.toArray 41)) w1.heap.size Vd):=ay w1 Vd _;have jL:Hid (Below w1.heap.size w1 (w1.alloc (.cells Vd.toArray 41))):=bR.alloc nR _
 go_upto_region 2 with (first|(with_reducible refine gS ?_;first|(refine au 41 _ _ rfl rfl rfl _ 0 rfl (b2.cs) rfl (Vd) HZ.o (b2.cs) rfl (nE rfl) (by kernel_rfl) rfl ?_;intro w2 HW2 bP)))
 have uX:Hid (Below w1.heap.size w1 w2):=HW2.o.below jL.o nR;have HB2:=Hd (HB1.o.trans (uX.o.mono HB1.o.size));have HD2:=Hd (HD1.o.below' uX.o);have Jn:=Hd (HN1.o.below' uX.o);have HR2:=Hd (HR1.o.stays (uX.o.block _ HR1.o.inside))
 obtain⟨kb,hkb⟩:∃kb,w1.heap.size=kb:=⟨_,rfl⟩
 rw[hkb] at bP ny ⊢;have HS2:Hid (kb<w2.heap.size):=bP.o.inside;clear HZ jL HW2 uX HB1 HD1 HN1 HR1 hkb
 obtain⟨d0,hd0⟩:∃d0,w.heap.size=d0:=⟨_,rfl⟩
 have HWd:=Hd hd0;rw[hd0] at HB2 HD2 Jn HR2 ny ⊢;clear hd0;have CG:Hid (d0+4<=kb):=ny.o
 have BH:Hid (TJ d0 d.b (.int .i64 (d.o:Nat)) p b2 (.int .i64 (o2:Nat)) false false w2.drew):=⟨HD2.o.below' bR.drew⟩
 have F1:Hid (∀W,KX d0 w2 W->ax W (d0+1) (n.cs An cn)∧ax W kb b2.cs):=fun W hk=>⟨Jn.o.stays (hk.same _ Jn.o.inside (by omega)),bP.o.stays (hk.same _ bP.o.inside (by have:=CG.o;omega))⟩
 go_upto_region 2 with (fail)
 refine wR (KX d0) (fun L wx=>TJ d0 d.b (.int .i64 (d.o:Nat)) p b2 (.int .i64 (o2:Nat)) (L 7) (L 9) wx∧(L 9=true->L 5=true)∧(L 5=true->L 2=true)) [15,16,17,18,19,20,21,22] (fun _=>KX.refl _ _) (fun _ _ _ h k=>h.trans k) (fun i=>match i with
  |0=>rV (.agg (b2.cs).toArray)
  |1|8=>rp d0 6
  |2=>rV (.int .i64 (d.o:Nat))
  |3=>rp (d0+1) 6
  |4=>rV (.int .i64 n.op)
  |5=>rV (.int .i64 (o2:Nat))
  |6=>rp d0 0
  | _=>ra) (KX.of_below bR.drew) (⟨BH.o,nofun,nofun⟩) ⟨?_,?_,?_,?_,?_,?_,?_,?_,?_,?_,trivial⟩ ?_
 any_goals (first|refine zp fun L a w1 hh=>?_|fail)
 ·have h8:=hh.p 8 kb 0;have hB:=Hd ((F1.o _ hh.rel).2);have hJ:=Hd hh.st;exact aI 41 _ rfl kb 0 (by simpa[go_sem] using h8) _ hB.o (b2.cs) rfl _ underlying41 rfl (by kernel_rfl) ⟨_,rfl,KX.refl _ _,rfl,hJ.o⟩
 have h3:=hh.p 3 d0 0;have i0:=(hh.st.1.blk).inside;rotate_left
 ·have h16:=rq (hh.d 1 16);have h5:=bQ hh.st.2.2 hh.un;have h9:=bQ hh.st.2.1 h5;have hB:=hh.st.1.blk;rw[h9] at hB;have c0:=hB.c 6 rfl;have i0:=hB.inside;clear hB h9 h5;have hJ:=hh.j;clear hh;go_simp;exact⟨_,rfl,KX.refl _ _,rfl,hJ.o.1,hJ.o.2.1,fun _=>rfl⟩
 have h4:=hh.p 4 ((d0+1)) 0;have i0:=((F1.o _ hh.rel).1).inside;rotate_left;have h18:=rq (hh.d 3 18);have ⟨c0,i0⟩:=((F1.o _ hh.rel).1).ci 6 rfl;rotate_left
 ·have h17:=rq (hh.d 2 17);have h19:=rq (hh.d 4 19);have hC:=Hd (HBY.o w1);have hup:=Hd (hh.up 2 (by kernel_rfl));have hJ:=hh.j;clear hh;go_simp;refine hC.o.mono ?_;rintro e w9 ⟨rfl,aU⟩;exact⟨_,rfl,KX.of_below aU,rfl,hJ.o.1.below aU,fun _=>rfl,fun _=>hup.o⟩
 have h3:=hh.p 3 d0 0;have i0:=(hh.st.1.blk).inside;rotate_left
 ·have h15:=rq (hh.d 0 15);have h21:=rq (hh.d 6 21);have hJ:=Hd hh.st;have hun:=hh.un;have qH:=hh.st.1.blk;rw[hun] at qH;refine dn 41 _ _ rfl d0 0 (by simpa[go_sem] using h21) b2.cs (by simpa[go_sem] using h15) _ qH (nE rfl) (by kernel_rfl) (by rfl) ?_;intro w9 mV fV;exact⟨undef,rfl,KX.wrote mV,trivial,⟨fV⟩,hJ.o.2⟩
 have h3:=hh.p 3 d0 0;have i0:=(hh.st.1.blk).inside;rotate_left
 ·have h20:=rq (hh.d 5 20);have h22:=rq (hh.d 8 22);have hJ:=Hd hh.st;have hun:=hh.un;have qH:=hh.st.1.blk;rw[hun] at qH;have f0:=qH.free 6;have i0:=qH.inside;have sS:=Hd qH
  obtain⟨v6,c6⟩:∃v,w1.cell? ⟨d0,6,none⟩=some v:=⟨_,qH.cell 6⟩
  have hup:=Hd (hh.up 5 (by kernel_rfl));clear hh hun qH;go_simp;exact⟨KX.wrote ⟨6,[.int .i64 (o2:Nat)],rfl⟩,⟨undef,trivial⟩,⟨sS.o.set 6 (.int .i64 (o2:Nat))⟩,fun _=>hup.o,hJ.o.2.2⟩
 any_goals (have hJ:=hh.j;clear hh;go_simp;exact⟨_,rfl,KX.refl _ _,rfl,hJ.o⟩)
 intro L w3 val hL hJ hR hv;have HR3:=Hd hR
 have HD3:Hid (ax w3 d0 (b2.cs++[.int .i64 (o2:Nat),pv p])):=by
  have h:=hJ.1.blk;rw[hL 7 (by decide),hL 9 (by decide)] at h;exact h
 clear hv hL hJ hR;simp only[regs.aA,List.map_cons,List.map_nil];simp only[Act.put,List.setIfInBounds_toArray,List.set_cons_zero,List.set_cons_succ]
 skip
 have HB3:Hid (Below d0 w w3):=HB2.o.trans (HR3.o.aP nR (by have:=HB2.o.size;have:=HWd.o;omega));have HN3:=Hd (F1.o w3 HR3.o).1;have dh:=Hd (F1.o w3 HR3.o).2;have a1F:Hid (ak w3 (d0+3) [.int .i64 0,.int .i64 0,.int .i64 0,.int .i64 0,.int .i64 0,.int .i64 0,.int .i64 0,.pointer none] 102):=HR2.o.stays (HR3.o.same _ HR2.o.inside (by omega));clear BH F1 HBY HD2 Jn bP HR2 HR3 HB2 HS2;have c8:=HN3.o.c 8 rfl;have i1:=HN3.o.inside
 go_upto_region 3 with (fail)
 go_cut [24] from 23 (fun u9 wx=>u9=.bool n.cl∧wx=w3)
 case first=>
  go_wp2_with (fail)
  go_meet
  case rel=>exact⟨rfl,rfl⟩
 case rest=>
 obtain⟨rfl,rfl⟩:=hcut
 rename_i K1 hK1 K2 hK2
 refine hK2 _ _ ?_;clear c8 i1;generalize wc=wm at *;have Jo:Hid (w.heap.size=d0):=HWd.o
 go_cut [25] from 24 (fun u9 wx=>Hid (∃p',ax wx d0 (b2.cs++[.int .i64 (o2:Nat),pv p'])∧yC wx p' tc)∧Hid (KX d0 wm wx))
 case first=>
  have ZM:Hid (yC wm p d.c):=HP.o.below (by (try show Below _ _ _);rw[Jo.o];exact HB3.o);cases hcl:n.cl with
  | false=>
   rw[hcl] at HT1;have Bj:Hid (tc=d.c):=HT1.o.trans (if_neg (by decide));go_wp2_with (fail)
   go_meet
   case rel=>exact⟨⟨p,HD3,by rw[Bj.o];exact ZM.o⟩,KX.refl _ _⟩
  | true=>
   rw[hcl] at HT1;have Bj:Hid (tc=⟨b2,n.r⟩::d.c):=HT1.o.trans (if_pos rfl);have ZK:=Hd HD3;have HCW:=Hd HB3.o;clear HT1 HD3 hcl
   have HBZ:Hid (∀v,BJ d0 b2 (.int .i64 (o2:Nat)) p (clC ⟨b2,n.r⟩ p (d.c.length+1)) false false v wm.drew):=fun v=>⟨fun _=>ZK.o.below' bR.drew,nofun,nofun,ZK.o.inside⟩
   have F1:Hid (∀W,KX d0 wm W->ax W (d0+1) (n.cs An cn)∧ax W kb b2.cs):=fun W hk=>⟨HN3.o.stays (hk.same _ HN3.o.inside (by omega)),dh.o.stays (hk.same _ dh.o.inside (by have:=CG.o;omega))⟩
   have HCK:Hid (∀W,KX d0 wm W->yC W p d.c):=fun W hk=>HP.o.keep fun k cu fr h=>by
    have h1:=(Array.getElem?_eq_some_iff.1 h).1;have h2:=HB3.o.size;have h3:=Jo.o;exact(hk.same k (by omega) (by omega)).trans (HB3.o.block k (by omega))
   have DX:Hid (∀W,KX d0 wm W->Calls prog 65 #[pv p] W fun e w'=>e=.returned (.int .i64 (d.c.length:Nat))∧bz W w'):=fun W hk=>IU d.c p W (HCK.o W hk);have hlb:((d.c.length:Nat):Int)<=1900:=by have:=HL.o;omega
   obtain⟨nl,hnl⟩:∃nl,d.c.length=nl:=⟨_,rfl⟩
   rw[hnl] at HBZ DX hlb;have Xm:=Hd hnl;have hw1:IntKind.i64.wrap ((nl:Nat)+1:Int)=(nl:Nat)+1:=IntWalk.i64_in _ (by omega);clear hnl
   go_upto_region 4 with (fail)
   refine JP (KX d0) (fun L V wx=>BJ d0 b2 (.int .i64 (o2:Nat)) p (clC ⟨b2,n.r⟩ p (nl+1)) (L 11) (L 13) (V 36) wx∧(L 13=true->L 5=true)∧(L 13=true->L 7=true)∧(L 13=true->L 11=true)) [25,26,27,28,29,30,31,32,33,34,35,36,37] (fun _=>KX.refl _ _) (fun _ _ _ h k=>h.trans k) (fun i=>match i with
    |0=>rV (.agg (b2.cs).toArray)
    |1=>rp (d0+1) 9
    |2=>rV (.agg (n.r.uM).toArray)
    |3=>rV (.agg ((Cl.mk b2 n.r).cs).toArray)
    |4|6|12=>rp d0 7
    |5|7=>rV (pv p)
    |8=>rV (.int .i64 (nl:Nat))
    |9=>rV (.int .i64 ((nl:Nat)+1))
    |10=>rV (.agg (clC ⟨b2,n.r⟩ p (nl+1)).toArray)
    | _=>ra) (KX.of_below bR.drew) (⟨HBZ.o _,nofun,nofun,nofun⟩) ⟨?_,?_,?_,?_,?_,?_,?_,?_,?_,?_,?_,?_,?_,?_,trivial⟩ ?_
   any_goals (first|refine fC fun L a w1 hh=>?_|fail)
   ·have h8:=hh.p 8 kb 0;have hB:=Hd ((F1.o _ hh.rel).2);have hJ:=Hd hh.st;exact aI 41 _ rfl kb 0 (by simpa[go_sem] using h8) _ hB.o (b2.cs) rfl _ underlying41 rfl (by kernel_rfl) ⟨_,rfl,KX.refl _ _,rfl,⟨BJ.slots hJ.o.1 sn,hJ.o.2⟩⟩
   have h4:=hh.p 4 ((d0+1)) 0;have i0:=((F1.o _ hh.rel).1).inside;rotate_left
   ·have EJ:=rq (hh.d 1 26);have hB:=Hd ((F1.o _ hh.rel).1);have hJ:=Hd hh.st;exact aI 75 _ rfl (d0+1) 9 (by simpa[go_sem] using EJ) _ hB.o (n.r.uM) rfl _ underlying75 rfl (by kernel_rfl) ⟨_,rfl,KX.refl _ _,rfl,⟨BJ.slots hJ.o.1 sn,hJ.o.2⟩⟩
   ·have yL:=rq (hh.d 0 25);have h27:=rq (hh.d 2 27);have hJ:=Hd hh.st;exact wp_build _ _ rfl (by simp[go_sem,yL,h27]) (LH b2 n.r w1) ⟨_,rfl,KX.refl _ _,rfl,⟨BJ.slots hJ.o.1 sn,hJ.o.2⟩⟩
   have h3:=hh.p 3 d0 0;have i0:=hh.st.1.lt;rotate_left
   ·have Ag:=rq (hh.d 4 29);have hS:=bQ hh.st.2.1 hh.un;have hB:=hh.st.1.no hS;have c0:=hB.c 7 rfl;have i0:=hB.inside;clear hB hS;have hJ:=hh.j;clear hh;go_simp;exact⟨_,rfl,KX.refl _ _,rfl,BJ.slots hJ.o.1 sn,fun _=>rfl,hJ.o.2.2⟩
   have h3:=hh.p 3 d0 0;have i0:=hh.st.1.lt;rotate_left
   ·have h31:=rq (hh.d 6 31);have hS:=bQ hh.st.2.2.1 hh.un;have hB:=hh.st.1.no hS;have c0:=hB.c 7 rfl;have i0:=hB.inside;clear hB hS;have hJ:=hh.j;clear hh;go_simp;exact⟨_,rfl,KX.refl _ _,rfl,BJ.slots hJ.o.1 sn,hJ.o.2.1,(fun _=>rfl),hJ.o.2.2.2⟩
   ·have h32:=rq (hh.d 7 32);have hC:=Hd (DX.o w1 hh.rel);have hJ:=Hd hh.st;have hsz:=Hd hh.size;clear hh;go_simp;refine hC.o.mono ?_;rintro e w9 ⟨rfl,aU⟩;exact⟨_,rfl,KX.of_below aU,rfl,BJ.slots (hJ.o.1.below aU) sn,hJ.o.2⟩
   have Qw:=rq (hh.d 8 33);rotate_left
   ·have h28:=rq (hh.d 3 28);have h30:=rq (hh.d 5 30);have UY:=rq (hh.d 9 34);have hJ:=Hd hh.st;exact wp_build _ _ rfl (by simp[go_sem,h28,h30,UY]) (IX ⟨b2,n.r⟩ p (nl+1) ((nl:Nat)+1:Int) (by simp) w1) ⟨_,rfl,KX.refl _ _,rfl,⟨BJ.slots hJ.o.1 sn,hJ.o.2⟩⟩
   ·have h35:=rq (hh.d 10 35);have hJ:=Hd hh.st;have hsz:=Hd hh.size;have hun:=Hd (bQ hh.st.2.2.2 hh.un);clear hh;go_simp;exact⟨_,rfl,KX.of_below (bR.alloc nR _),trivial,⟨BJ.made (iS:=L 13) hJ.o.1 (bI.aW (by rw[hsz.o];simp)) hun.o,hJ.o.2.1,hJ.o.2.2.1,fun _=>rfl⟩⟩
   have h3:=hh.p 3 d0 0;have i0:=hh.st.1.lt;rotate_left
   ·have h37:=rq (hh.d 12 37);have hup:=hh.up 11 (by kernel_rfl);obtain⟨g9,h9,kK,aU⟩:=hh.st.1.box hup;have UX:a.tmps[36]?.getD undef=.pointer (some ⟨g9,0,none⟩):=rq (h9);have qH:=hh.st.1.no hh.un;have hj1:=hh.st.1;rw[hh.un] at hj1;have ZE:=Hd hj1;have YD:=Hd hup;have f0:=qH.free 7;have i0:=qH.inside;have c7:=qH.c 7 rfl;have a4X:=Hd (hh.up 5 (by kernel_rfl));have a4W:=Hd (hh.up 7 (by kernel_rfl));have hJ:=Hd hh.st;have XJ:=Hd (And.intro qH (And.intro h9 (And.intro kK aU)));clear hh h9 kK aU qH hup hj1;go_simp
    exact⟨KX.wrote ⟨7,[pv (some g9)],rfl⟩,⟨undef,trivial⟩,BJ.put (iB:=L 11) ZE.o XJ.o.1 XJ.o.2.1 XJ.o.2.2.1 XJ.o.2.2.2,(fun _=>a4X.o),(fun _=>a4W.o),fun _=>YD.o⟩
   any_goals (have hJ:=hh.j;clear hh;go_simp;exact⟨_,rfl,KX.refl _ _,rfl,⟨BJ.slots hJ.o.1 sn,hJ.o.2⟩⟩)
   intro L w4 val hL hJ hR hv;have HR4:=Hd hR;obtain⟨g9,kK,aU⟩:=hJ.1.yes (hL 13 (by decide));obtain⟨g8,KW,Qq,hb8⟩:=hJ.1.box (hL 11 (by decide));have sS:=Hd aU;have XJ:=Hd hb8
   have a5V:Hid (g8=g9):=by
    show g8=g9;have h:=KW.symm.trans kK;unfold pv at h
    simpa using h
   clear hv hL hJ hR aU hb8 kK KW Qq;simp only[regs.aA,List.map_cons,List.map_nil];simp only[Act.put,List.setIfInBounds_toArray,List.set_cons_zero,List.set_cons_succ]
   skip
   go_wp2_with (fail)
   go_meet
   case rel=>exact⟨⟨some g9,sS.o,by rw[Bj.o];exact⟨g9,p,rfl,by rw[← a5V.o,Xm.o];exact XJ.o,HCK.o _ HR4.o⟩⟩,HR4.o⟩
 case rest=>
 obtain⟨HX,HKX⟩:=hcut;obtain⟨p',hx1,hx2⟩:=HX.o;have HD4:=Hd hx1;have yA:=Hd hx2;have X0:Hid (ax wc (d0+1) (n.cs An cn)):=HN3.o.stays (HKX.o.same _ HN3.o.inside (by omega));have HR4:Hid (ak wc (d0+3) [.int .i64 0,.int .i64 0,.int .i64 0,.int .i64 0,.int .i64 0,.int .i64 0,.int .i64 0,.pointer none] 102):=a1F.o.stays (HKX.o.same _ a1F.o.inside (by omega))
 have HB4:Hid (Below w.heap.size w wc):=by
  show Below _ _ _;rw[Jo.o];exact HB3.o.trans (HKX.o.aP nR (by have:=HB3.o.size;have:=Jo.o;omega))
 clear hx1 hx2 HX HKX HN3 dh a1F HB3 HD3 HT1 HP HL
 obtain⟨pz,a0X⟩:∃pz,tcs p'=pz:=⟨_,rfl⟩
 have HTV:Hid (pz=b2.cs++[.int .i64 (o2:Nat),pv p']):=by rw[← a0X];exact HT2.o p'
 have Zc:Hid (pz.all (·.oneCell')=true):=by
  show _=_;rw[HTV.o];cases p'<;>rfl
 have oz:Hid (pz.length=8):=by rw[HTV.o];rfl
 have HD5:Hid (ax wc d0 pz):=by rw[HTV.o];exact HD4.o
 have iJ:Hid (∃q,tcs q=pz∧yC wc q tc):=⟨p',a0X,yA.o⟩
 have F1:Hid (∀W,KX (d0+3) wc W->ax W (d0+1) (n.cs An cn)∧ax W d0 pz∧ax W d0 (b2.cs++[.int .i64 (o2:Nat),pv p'])):=fun W hk=>⟨X0.o.stays (hk.same _ X0.o.inside (by omega)),HD5.o.stays (hk.same _ HD5.o.inside (by omega)),HD4.o.stays (hk.same _ HD4.o.inside (by omega))⟩
 clear a0X HD4 yA X0 HD5
 go_upto_region 5 with (fail)
 obtain⟨hi,hhi⟩:∃hi,n.hi=hi:=⟨_,rfl⟩
 have Js:=Hd hhi;rw[hhi] at dO;clear hhi;cases hi with
 | true=>
 have MV:Hid (ok=false):=dO.o
 refine wR (KX (d0+3)) (fun L wx=>PJ (d0+3) [.int .i64 0,.int .i64 0,.int .i64 0,.int .i64 0,.int .i64 0,.int .i64 0,.int .i64 0,.pointer none] pz (L 13) wx) [38,39,40,41,42,43,44,45,46,47,48,49,50,7] (fun _=>KX.refl _ _) (fun _ _ _ h k=>h.trans k) (fun i=>match i with
  |0=>rV (.agg (pz).toArray)
  |1=>rp (d0+1) 7
  |2=>rT
  |3|4|7|8|12|14=>rV (.bool false)
  |5|6|9|10|11=>rV (undef)
  | _=>ra) (KX.of_below bR.drew) (⟨fun _=>HR4.o.blk.below' bR.drew,nofun⟩) ⟨?_,?_,?_,?_,?_,?_,?_,?_,?_,?_,?_,?_,?_,?_,?_,trivial⟩ ?_
 any_goals (first|refine zp fun L a w1 hh=>?_|fail)
 ·have h3:=hh.p 3 d0 0;have hB:=Hd (F1.o _ hh.rel).2.1;have hJ:=Hd hh.st;exact aI 102 _ rfl d0 0 (by simpa[go_sem] using h3) _ hB.o (pz) (by rw[List.drop_zero,List.take_length]) _ underlying102 rfl (by rw[oz.o];kernel_rfl) ⟨_,rfl,KX.refl _ _,rfl,hJ.o⟩
 have h4:=hh.p 4 ((d0+1)) 0;have i0:=((F1.o _ hh.rel).1).inside;rotate_left;have Qv:=rq (hh.d 1 39);have hB:=Hd ((F1.o _ hh.rel).1);have c0:w1.cell? ⟨(d0+1),7,none⟩=some (.bool true):=by rw[← Js.o];exact hB.o.cell 7
 have i0:=hB.o.inside;rotate_left;have SA:=rq (hh.d 2 40);rotate_left;have Sz:=rq (hh.d 3 41);rotate_left
 ·refine sz rfl rfl
 ·refine sz rfl rfl
 have h42:=rq (hh.d 4 42);rotate_left;have h45:=rq (hh.d 7 45);rotate_left
 ·refine sz rfl rfl
 ·refine sz rfl rfl
 ·refine sz rfl rfl
 have h46:=rq (hh.d 8 46);rotate_left
 ·have h6:=hh.p 6 ((d0+3)) 0;have h38:=rq (hh.d 0 38);have qH:=hh.st.no hh.un;refine dn 102 _ _ rfl (d0+3) 0 (by simpa[go_sem] using h6) pz (by simpa[go_sem] using h38) _ qH (by rw[oz.o];decide) (by rw[oz.o];kernel_rfl) Zc.o ?_;intro w9 mV fV;have e9:([.int .i64 0,.int .i64 0,.int .i64 0,.int .i64 0,.int .i64 0,.int .i64 0,.int .i64 0,.pointer none]:List Value).take 0++pz++([.int .i64 0,.int .i64 0,.int .i64 0,.int .i64 0,.int .i64 0,.int .i64 0,.int .i64 0,.pointer none]:List Value).drop (0+pz.length)=pz:=by rw[oz.o];simp
  rw[e9] at fV;exact⟨undef,rfl,KX.wrote mV,trivial,⟨nofun,fun _=>fV⟩⟩
 have h50:=rq (hh.d 12 50);rotate_left
 any_goals (have hJ:=hh.j;clear hh;go_simp;exact⟨_,rfl,KX.refl _ _,rfl,hJ.o⟩)
 intro L w5 val hL hJ hR hv;have h7:val 7=.bool false:=hv 14 7 (by kernel_rfl);have jI:=Hd hR;have qU:=Hd (hJ.yes (hL 13 (by decide)));clear hv hL hJ hR;simp only[regs.aA,List.map_cons,List.map_nil,h7];simp only[Act.put,List.setIfInBounds_toArray,List.set_cons_zero,List.set_cons_succ];clear h7;generalize val 38=v38,val 39=v39,val 40=v40,val 41=v41,val 42=v42,val 43=v43,val 44=v44,val 45=v45,val 46=v46,val 47=v47,val 48=v48,val 49=v49,val 50=v50 at *;go_wp2_with (fail);obtain⟨q9,N9,Ii⟩:=iJ.o;have Xg:=Hd N9
 exact aH rfl rfl rfl qU.o underlying102 rfl (by rw[oz.o];kernel_rfl) ⟨q9,by rw[MV.o,Xg.o];rfl,Ii.keep fun k cu fr h=>jI.o.same k (Array.getElem?_eq_some_iff.1 h).1 (fun e=>by
  rw[e] at h
  exact absurd (Option.some.inj (h.symm.trans HR4.o)) (fun x2=>by injection x2 with _ x2 _;exact absurd x2 (by decide))),HB4.o.trans (jI.o.aP (by have:=Jo.o;omega) HB4.o.size)⟩
 | false=>
 by_cases he2:¬e2=0
 ·have q2:(e2==0)=false:=by simpa using he2
  have MV:Hid (ok=false):=by
   show _=_;rw[dO.o,decide_eq_false he2];rfl
  clear he2
  refine wR (KX (d0+3)) (fun L wx=>PJ (d0+3) [.int .i64 0,.int .i64 0,.int .i64 0,.int .i64 0,.int .i64 0,.int .i64 0,.int .i64 0,.pointer none] pz (L 13) wx) [38,39,40,41,42,43,44,45,46,47,48,49,50,7] (fun _=>KX.refl _ _) (fun _ _ _ h k=>h.trans k) (fun i=>match i with
   |0=>rV (.agg (pz).toArray)
   |1=>rp (d0+1) 7
   |2|6|7|8|12|14=>rV (.bool false)
   |3|4=>rT
   |5=>rV (.int .i64 e2)
   |9|10|11=>rV (undef)
   | _=>ra) (KX.of_below bR.drew) (⟨fun _=>HR4.o.blk.below' bR.drew,nofun⟩) ⟨?_,?_,?_,?_,?_,?_,?_,?_,?_,?_,?_,?_,?_,?_,?_,trivial⟩ ?_
  any_goals (first|refine zp fun L a w1 hh=>?_|fail)
  any_goals (first|refine sy rfl rfl fun L a w1 hh=>?_|fail)
  ·have h3:=hh.p 3 d0 0;have hB:=Hd (F1.o _ hh.rel).2.1;have hJ:=Hd hh.st;exact aI 102 _ rfl d0 0 (by simpa[go_sem] using h3) _ hB.o (pz) (by rw[List.drop_zero,List.take_length]) _ underlying102 rfl (by rw[oz.o];kernel_rfl) ⟨_,rfl,KX.refl _ _,rfl,hJ.o⟩
  have h4:=hh.p 4 ((d0+1)) 0;have i0:=((F1.o _ hh.rel).1).inside;rotate_left;have Qv:=rq (hh.d 1 39);have hB:=Hd ((F1.o _ hh.rel).1);have c0:w1.cell? ⟨(d0+1),7,none⟩=some (.bool false):=by rw[← Js.o];exact hB.o.cell 7
  have i0:=hB.o.inside;rotate_left;have SA:=rq (hh.d 2 40);rotate_left;have Sz:=rq (hh.d 3 41);rotate_left;have h9:=hh.o 9 (v:=.int .i64 e2) rfl;rotate_left;have h43:=rq (hh.d 5 43);rotate_left;have h42:=rq (hh.d 4 42);have La:=rq (hh.d 6 44);rotate_left;have h45:=rq (hh.d 7 45);rotate_left
  ·refine sz rfl rfl
  ·refine sz rfl rfl
  ·refine sz rfl rfl
  have h46:=rq (hh.d 8 46);rotate_left
  ·have h6:=hh.p 6 ((d0+3)) 0;have h38:=rq (hh.d 0 38);have qH:=hh.st.no hh.un;refine dn 102 _ _ rfl (d0+3) 0 (by simpa[go_sem] using h6) pz (by simpa[go_sem] using h38) _ qH (by rw[oz.o];decide) (by rw[oz.o];kernel_rfl) Zc.o ?_;intro w9 mV fV;have e9:([.int .i64 0,.int .i64 0,.int .i64 0,.int .i64 0,.int .i64 0,.int .i64 0,.int .i64 0,.pointer none]:List Value).take 0++pz++([.int .i64 0,.int .i64 0,.int .i64 0,.int .i64 0,.int .i64 0,.int .i64 0,.int .i64 0,.pointer none]:List Value).drop (0+pz.length)=pz:=by rw[oz.o];simp
   rw[e9] at fV;exact⟨undef,rfl,KX.wrote mV,trivial,⟨nofun,fun _=>fV⟩⟩
  have h50:=rq (hh.d 12 50);rotate_left
  any_goals (have hJ:=hh.j;clear hh;go_simp;exact⟨_,rfl,KX.refl _ _,rfl,hJ.o⟩)
  intro L w5 val hL hJ hR hv;have h7:val 7=.bool false:=hv 14 7 (by kernel_rfl);have jI:=Hd hR;have qU:=Hd (hJ.yes (hL 13 (by decide)));clear hv hL hJ hR;simp only[regs.aA,List.map_cons,List.map_nil,h7];simp only[Act.put,List.setIfInBounds_toArray,List.set_cons_zero,List.set_cons_succ];clear h7;generalize val 38=v38,val 39=v39,val 40=v40,val 41=v41,val 42=v42,val 43=v43,val 44=v44,val 45=v45,val 46=v46,val 47=v47,val 48=v48,val 49=v49,val 50=v50 at *;go_wp2_with (fail);obtain⟨q9,N9,Ii⟩:=iJ.o;have Xg:=Hd N9
  exact aH rfl rfl rfl qU.o underlying102 rfl (by rw[oz.o];kernel_rfl) ⟨q9,by rw[MV.o,Xg.o];rfl,Ii.keep fun k cu fr h=>jI.o.same k (Array.getElem?_eq_some_iff.1 h).1 (fun e=>by
   rw[e] at h
   exact absurd (Option.some.inj (h.symm.trans HR4.o)) (fun x2=>by injection x2 with _ x2 _;exact absurd x2 (by decide))),HB4.o.trans (jI.o.aP (by have:=Jo.o;omega) HB4.o.size)⟩
 obtain rfl:e2=0:=Decidable.not_not.1 he2;have q2:((0:Int)==0)=true:=by decide
 by_cases ho2:o2=0
 ·subst ho2;have MV:Hid (ok=false):=dO.o;have q3:(((0:Nat):Int)==0)=true:=by decide
  have q5:(((0:Nat):Int) != 0)=false:=by decide
  refine wR (KX (d0+3)) (fun L wx=>PJ (d0+3) [.int .i64 0,.int .i64 0,.int .i64 0,.int .i64 0,.int .i64 0,.int .i64 0,.int .i64 0,.pointer none] pz (L 13) wx) [38,39,40,41,42,43,44,45,46,47,48,49,50,7] (fun _=>KX.refl _ _) (fun _ _ _ h k=>h.trans k) (fun i=>match i with
   |0=>rV (.agg (pz).toArray)
   |1=>rp (d0+1) 7
   |2|11|12|14=>rV (.bool false)
   |3|4|6|7|8=>rT
   |5=>rV (.int .i64 0)
   |9=>rp d0 6
   |10=>rV (.int .i64 ((0:Nat):Nat))
   | _=>ra) (KX.of_below bR.drew) (⟨fun _=>HR4.o.blk.below' bR.drew,nofun⟩) ⟨?_,?_,?_,?_,?_,?_,?_,?_,?_,?_,?_,?_,?_,?_,?_,trivial⟩ ?_
  any_goals (first|refine zp fun L a w1 hh=>?_|fail)
  any_goals (first|refine sy rfl rfl fun L a w1 hh=>?_|fail)
  ·have h3:=hh.p 3 d0 0;have hB:=Hd (F1.o _ hh.rel).2.1;have hJ:=Hd hh.st;exact aI 102 _ rfl d0 0 (by simpa[go_sem] using h3) _ hB.o (pz) (by rw[List.drop_zero,List.take_length]) _ underlying102 rfl (by rw[oz.o];kernel_rfl) ⟨_,rfl,KX.refl _ _,rfl,hJ.o⟩
  have h4:=hh.p 4 ((d0+1)) 0;have i0:=((F1.o _ hh.rel).1).inside;rotate_left;have Qv:=rq (hh.d 1 39);have hB:=Hd ((F1.o _ hh.rel).1);have c0:w1.cell? ⟨(d0+1),7,none⟩=some (.bool false):=by rw[← Js.o];exact hB.o.cell 7
  have i0:=hB.o.inside;rotate_left;have SA:=rq (hh.d 2 40);rotate_left;have Sz:=rq (hh.d 3 41);rotate_left;have h9:=hh.o 9 (v:=.int .i64 0) rfl;rotate_left;have h43:=rq (hh.d 5 43);rotate_left;have h42:=rq (hh.d 4 42);have La:=rq (hh.d 6 44);rotate_left;have h45:=rq (hh.d 7 45);rotate_left;have h3:=hh.p 3 d0 0;have i0:=((F1.o _ hh.rel).2.2).inside;rotate_left;have h47:=rq (hh.d 9 47);have ⟨c0,i0⟩:=((F1.o _ hh.rel).2.2).ci 6 rfl;rotate_left;have h48:=rq (hh.d 10 48);rotate_left;have h46:=rq (hh.d 8 46);have h49:=rq (hh.d 11 49);rotate_left
  ·have h6:=hh.p 6 ((d0+3)) 0;have h38:=rq (hh.d 0 38);have qH:=hh.st.no hh.un;refine dn 102 _ _ rfl (d0+3) 0 (by simpa[go_sem] using h6) pz (by simpa[go_sem] using h38) _ qH (by rw[oz.o];decide) (by rw[oz.o];kernel_rfl) Zc.o ?_;intro w9 mV fV;have e9:([.int .i64 0,.int .i64 0,.int .i64 0,.int .i64 0,.int .i64 0,.int .i64 0,.int .i64 0,.pointer none]:List Value).take 0++pz++([.int .i64 0,.int .i64 0,.int .i64 0,.int .i64 0,.int .i64 0,.int .i64 0,.int .i64 0,.pointer none]:List Value).drop (0+pz.length)=pz:=by rw[oz.o];simp
   rw[e9] at fV;exact⟨undef,rfl,KX.wrote mV,trivial,⟨nofun,fun _=>fV⟩⟩
  have h50:=rq (hh.d 12 50);rotate_left
  any_goals (have hJ:=hh.j;clear hh;go_simp;exact⟨_,rfl,KX.refl _ _,rfl,hJ.o⟩)
  intro L w5 val hL hJ hR hv;have h7:val 7=.bool false:=hv 14 7 (by kernel_rfl);have jI:=Hd hR;have qU:=Hd (hJ.yes (hL 13 (by decide)));clear hv hL hJ hR;simp only[regs.aA,List.map_cons,List.map_nil,h7];simp only[Act.put,List.setIfInBounds_toArray,List.set_cons_zero,List.set_cons_succ];clear h7;generalize val 38=v38,val 39=v39,val 40=v40,val 41=v41,val 42=v42,val 43=v43,val 44=v44,val 45=v45,val 46=v46,val 47=v47,val 48=v48,val 49=v49,val 50=v50 at *;go_wp2_with (fail);obtain⟨q9,N9,Ii⟩:=iJ.o;have Xg:=Hd N9
  exact aH rfl rfl rfl qU.o underlying102 rfl (by rw[oz.o];kernel_rfl) ⟨q9,by rw[MV.o,Xg.o];rfl,Ii.keep fun k cu fr h=>jI.o.same k (Array.getElem?_eq_some_iff.1 h).1 (fun e=>by
   rw[e] at h
   exact absurd (Option.some.inj (h.symm.trans HR4.o)) (fun x2=>by injection x2 with _ x2 _;exact absurd x2 (by decide))),HB4.o.trans (jI.o.aP (by have:=Jo.o;omega) HB4.o.size)⟩
 have MV:Hid (ok=true):=by
  show _=_;rw[dO.o,decide_eq_true ho2];rfl
 have q3:(((o2:Nat):Int)==0)=false:=by simpa using ho2
 have q5:(((o2:Nat):Int) != 0)=true:=by simpa using ho2
 refine wR (KX (d0+3)) (fun L wx=>PJ (d0+3) [.int .i64 0,.int .i64 0,.int .i64 0,.int .i64 0,.int .i64 0,.int .i64 0,.int .i64 0,.pointer none] pz (L 13) wx) [38,39,40,41,42,43,44,45,46,47,48,49,50,7] (fun _=>KX.refl _ _) (fun _ _ _ h k=>h.trans k) (fun i=>match i with
  |0=>rV (.agg (pz).toArray)
  |1=>rp (d0+1) 7
  |2=>rV (.bool false)
  |3|4|6|7|8|11|12|14=>rT
  |5=>rV (.int .i64 0)
  |9=>rp d0 6
  |10=>rV (.int .i64 (o2:Nat))
  | _=>ra) (KX.of_below bR.drew) (⟨fun _=>HR4.o.blk.below' bR.drew,nofun⟩) ⟨?_,?_,?_,?_,?_,?_,?_,?_,?_,?_,?_,?_,?_,?_,?_,trivial⟩ ?_
 any_goals (first|refine zp fun L a w1 hh=>?_|fail)
 any_goals (first|refine sy rfl rfl fun L a w1 hh=>?_|fail)
 ·have h3:=hh.p 3 d0 0;have hB:=Hd (F1.o _ hh.rel).2.1;have hJ:=Hd hh.st;exact aI 102 _ rfl d0 0 (by simpa[go_sem] using h3) _ hB.o (pz) (by rw[List.drop_zero,List.take_length]) _ underlying102 rfl (by rw[oz.o];kernel_rfl) ⟨_,rfl,KX.refl _ _,rfl,hJ.o⟩
 have h4:=hh.p 4 ((d0+1)) 0;have i0:=((F1.o _ hh.rel).1).inside;rotate_left;have Qv:=rq (hh.d 1 39);have hB:=Hd ((F1.o _ hh.rel).1);have c0:w1.cell? ⟨(d0+1),7,none⟩=some (.bool false):=by rw[← Js.o];exact hB.o.cell 7
 have i0:=hB.o.inside;rotate_left;have SA:=rq (hh.d 2 40);rotate_left;have Sz:=rq (hh.d 3 41);rotate_left;have h9:=hh.o 9 (v:=.int .i64 0) rfl;rotate_left;have h43:=rq (hh.d 5 43);rotate_left;have h42:=rq (hh.d 4 42);have La:=rq (hh.d 6 44);rotate_left;have h45:=rq (hh.d 7 45);rotate_left;have h3:=hh.p 3 d0 0;have i0:=((F1.o _ hh.rel).2.2).inside;rotate_left;have h47:=rq (hh.d 9 47);have ⟨c0,i0⟩:=((F1.o _ hh.rel).2.2).ci 6 rfl;rotate_left;have h48:=rq (hh.d 10 48);rotate_left;have h46:=rq (hh.d 8 46);have h49:=rq (hh.d 11 49);rotate_left
 ·have h6:=hh.p 6 ((d0+3)) 0;have h38:=rq (hh.d 0 38);have qH:=hh.st.no hh.un;refine dn 102 _ _ rfl (d0+3) 0 (by simpa[go_sem] using h6) pz (by simpa[go_sem] using h38) _ qH (by rw[oz.o];decide) (by rw[oz.o];kernel_rfl) Zc.o ?_;intro w9 mV fV;have e9:([.int .i64 0,.int .i64 0,.int .i64 0,.int .i64 0,.int .i64 0,.int .i64 0,.int .i64 0,.pointer none]:List Value).take 0++pz++([.int .i64 0,.int .i64 0,.int .i64 0,.int .i64 0,.int .i64 0,.int .i64 0,.int .i64 0,.pointer none]:List Value).drop (0+pz.length)=pz:=by rw[oz.o];simp
  rw[e9] at fV;exact⟨undef,rfl,KX.wrote mV,trivial,⟨nofun,fun _=>fV⟩⟩
 have h50:=rq (hh.d 12 50);rotate_left
 any_goals (have hJ:=hh.j;clear hh;go_simp;exact⟨_,rfl,KX.refl _ _,rfl,hJ.o⟩)
 intro L w5 val hL hJ hR hv;have h7:val 7=.bool true:=hv 14 7 (by kernel_rfl);have jI:=Hd hR;have qU:=Hd (hJ.yes (hL 13 (by decide)));clear hv hL hJ hR;simp only[regs.aA,List.map_cons,List.map_nil,h7];simp only[Act.put,List.setIfInBounds_toArray,List.set_cons_zero,List.set_cons_succ];clear h7
 skip
 go_wp2_with (fail);obtain⟨q9,N9,Ii⟩:=iJ.o;have Xg:=Hd N9
 exact aH rfl rfl rfl qU.o underlying102 rfl (by rw[oz.o];kernel_rfl) ⟨q9,by rw[MV.o,Xg.o];rfl,Ii.keep fun k cu fr h=>jI.o.same k (Array.getElem?_eq_some_iff.1 h).1 (fun e=>by
  rw[e] at h
  exact absurd (Option.some.inj (h.symm.trans HR4.o)) (fun x2=>by injection x2 with _ x2 _;exact absurd x2 (by decide))),HB4.o.trans (jI.o.aP (by have:=Jo.o;omega) HB4.o.size)⟩
end
section
open Go.RowKit fK fZ aB Go.Maps BG
theorem Vx{m:Mp}(h:m.right=true)(h0:m.back.2=0):m.back.1.right=true:=by
 unfold Mp.back at h0 ⊢;rw[if_neg (by rw[h];decide)] at h0 ⊢;by_cases hd:m.F6=0
 ·rw[if_pos hd] at h0;cases h0
 ·rw[if_neg hd] at h0 ⊢;by_cases h4:dH m.bk.l4=true
  ·rw[if_pos h4];unfold Mp.right dH Mp.l at h ⊢;unfold dH Mp.l4 at h4;simp only[List.all_cons,List.all_nil,Bool.and_true,Bool.and_eq_true] at h h4 ⊢;exact⟨h4.1,h4.2.1,h4.2.2.1,h4.2.2.2,h.2.2.2.2.1,h.2.2.2.2.2⟩
  ·rw[if_neg h4] at h0;cases h0
def Gu(x:aJ)(i:Int):Option Dn:=if i=0 then some Dn.top else bK x (par x.t i)
theorem QK{x:aJ}(ok:Ok x.t){i:Int}(hi:i=0∨i∈ids x.t):bK x i=Dn.step (x.nd i) (x.ws i) (Gu x i):=by
 unfold Gu;rcases hi with rfl|hi
 ·rw[if_pos rfl,uJ]
 ·rw[if_neg (ok.vV hi),mW ok hi]
theorem step_some{n:Nd}{w:Mp}{d:Option Dn}{q:Dn}(h:Dn.step n w d=some q):∃d0,d=some d0∧d0.ok n w=true∧q=d0.to n w:=by
 cases d with
 | none=>cases h
 | some d=>
  simp only[Dn.step,Option.bind_some] at h;split at h
  ·injection h with h
   exact⟨d,rfl,by assumption,h.symm⟩
  ·cases h
theorem Dn.Yn{d:Dn}{n:Nd}{w:Mp}(h:d.ok n w=true):w.back.2=0:=by
 unfold Dn.ok at h;simp only[Bool.and_eq_true,decide_eq_true_eq] at h;exact h.2.1
structure a2k(d:Dn)(n:Nat):Prop where
 b:d.b.right=true
 c:∀c∈d.c,c.b.right=true
 len:d.c.length<=n
 o:d.o<256
theorem step_ok{n:Nd}{w:Mp}{d:Option Dn}{q:Dn}{k:Nat}(h:Dn.step n w d=some q)(hn:n.chk=0)(hw:w.right=true)(hd:∀d0,d=some d0->(∀c∈d0.c,c.b.right=true)∧d0.c.length<=k∧d0.o<256):a2k q (k+1):=by
 obtain⟨d0,hd0,hok,rfl⟩:=step_some h;obtain⟨h1,h2,h3⟩:=hd d0 hd0;have hb:=Vx hw (Dn.Yn hok);refine⟨hb,fun c hc=>?_,?_,V7 h3 (NI hn).1⟩
 ·unfold Dn.to at hc;simp only at hc;split at hc
  ·rcases List.mem_cons.1 hc with e|e
   ·rw[e];exact hb
   ·exact h1 c e
  ·exact h1 c hc
 ·unfold Dn.to;simp only;split
  ·rw[List.length_cons];omega
  ·omega
theorem Oh{x:aJ}(hg:Good x)(ok:Ok x.t)(hw:∀i,has x.t i=true->(x.ws i).right=true):∀{i:Int},i=0∨i∈ids x.t->∀q,bK x i=some q->a2k q (depth x.t i+1):=by
 intro i hi;refine ok.pW (P:=fun i=>∀q,bK x i=some q->a2k q (depth x.t i+1)) (fun q h=>?_) (fun i hi ih q h=>?_) hi
 ·rw[uJ] at h;have h1:=step_ok (k:=0) h (hg 0) (hw 0 (ah.2 (.inl rfl))) (fun d0 e=>by injection e with e;rw[← e];exact⟨(fun _ hc=>nomatch hc),nR,by decide⟩);exact⟨h1.b,h1.c,by have:=h1.len;omega,h1.o⟩
 ·rw[mW ok hi] at h;rw[bH ok hi]
  exact step_ok h (hg i) (hw i (ah.2 (.inr hi))) fun d0 e=>⟨(ih d0 e).c,(ih d0 e).len,(ih d0 e).o⟩
theorem NV{x:aJ}(hg:Good x)(hf:∀i,Fit (x.nd i))(ok:Ok x.t)(hw:∀i,has x.t i=true->(x.ws i).right=true)(hn:x.t.length<=900){i:Int}(hi:i=0∨i∈ids x.t){q:It}(h:dB x i=some q):q.Ok:=by
 unfold dB at h;cases hd:bK x i with
 | none=>rw[hd] at h;cases h
 | some d=>
  rw[hd,Option.bind_some] at h;split at h
  ·cases h
  ·injection h with h
   subst h;have h1:=Oh hg ok hw hi d hd;have h2:=lN ok hi;exact⟨h1.b,fun c hc=>h1.c c (List.mem_reverse.1 hc),by rw[List.length_reverse];have:=h1.len;omega,h1.o,(kH (hg i)).2.2.1,(hf i).len,(hf i).p,(hf i).l⟩
abbrev Gy:TypeId:=51
abbrev kN:TypeId:=33
abbrev Gz:TypeId:=102
abbrev zl:TypeId:=103
theorem vK:prog.underlying zl=some (.map 3 Gz):=underlying103
theorem O3(w:World):(zeroValue Gz).run prog w=.ok (.agg (lY ⟨Mp.o,0,[]⟩ none).toArray) w:=by kernel_rfl
theorem Qk:(prog.info? Gy).map (fun i=>(i.zero,i.size,i.bytes))=some (some (.agg #[.int .i64 0,.int .i64 0,.int .i64 0,.int .i64 0,.int .i64 0,.int .i64 0,.int .i64 0,.int .i64 0,.int .i64 0,.int .i64 0,.int .i64 0,.int .i64 0,.int .i64 0,.slice none 0 0,.int .i64 0,.int .i64 0,.int .i64 0,.int .i64 0,.int .u32 0,.int .i64 0,.int .i64 0,.slice none 0 0]),22,208):=by kernel_rfl
theorem gQ.plain(q:gQ):∀u∈q.cs,u.oneCell'=true:=fun u hu=>List.all_eq_true.1 q.one u hu
theorem aS.a0c{α:Type}{k:Nat}{enc:α->List Value}{w w':World}{A:Option Addr}{l:List α}(h:aS k enc w A l)(hb:∀a,A=some a->l≠[]->w'.heap[a.block]?=w.heap[a.block]?):aS k enc w' A l:=fun hn=>by
 obtain⟨b,o,e,hc⟩:=h hn;have hne:l≠[]:=fun e=>by rw[e] at hn;exact absurd hn (by simp)
 refine⟨b,o,e,fun j hj i u hu=>?_⟩;rw[← hc j hj i u hu];unfold World.cell?;rw[hb _ e hne]
theorem aS.cells2{α:Type}{k:Nat}{enc:α->List Value}{w w':World}{A:Option Addr}{l:List α}(h:aS k enc w A l)(hk:∀a v,w.cell? a=some v->w'.cell? a=some v):aS k enc w' A l:=fun hn=>by
 obtain⟨b,o,e,hc⟩:=h hn;exact⟨b,o,e,fun j hj i u hu=>hk _ _ (hc j hj i u hu)⟩
theorem Row.cells2{w w':World}{A:Option Addr}{l:List Nat}(h:Row eW w A l)(hk:∀a v,w.cell? a=some v->w'.cell? a=some v):Row eW w' A l:=fun hn=>by
 obtain⟨b,o,e,hc⟩:=h hn;exact⟨b,o,e,fun j hj=>hk _ _ (hc j hj)⟩
structure OO(base:Nat)(v:Value)(q:gQ):Prop where
 c:∀a,q.Ac=some a->q.it.c≠[]->base<=a.block∧v.ownBlock≠some a.block
 p:∀a,q.A=some a->q.it.lk.l≠[]->base<=a.block∧v.ownBlock≠some a.block
structure Its(w:World)(base:Nat)(v:Value)(l:List gQ):Prop where
 own:ai Gy 22 gQ.cs w base v l
 at_:∀q∈l,ou w q∧OO base v q
theorem AO(c:Cl):∃v r,c.cs=v::r:=⟨_,_,rfl⟩
theorem ou.stays{w w':World}{q:gQ}(h:ou w q)(h1:∀a,q.Ac=some a->q.it.c≠[]->w'.heap[a.block]?=w.heap[a.block]?)(h2:∀a,q.A=some a->q.it.lk.l≠[]->w'.heap[a.block]?=w.heap[a.block]?):ou w' q:=⟨h.ru.a0c h1,Row.stays h.px h2⟩
theorem Its.stays{w w':World}{base:Nat}{v:Value}{l:List gQ}(h:Its w base v l)(hb:∀k,base<=k->k<w.heap.size->w'.heap[k]?=w.heap[k]?):Its w' base v l:=
 ⟨ai.stays h.own fun g hg=>hb g (h.own.block hg).1 (h.own.block hg).2,fun q hq=>⟨(h.at_ q hq).1.stays (fun a ea hne=>hb _ ((h.at_ q hq).2.c a ea hne).1 (aS.blt (h.at_ q hq).1.ru AO ea hne)) (fun a ea hne=>hb _ ((h.at_ q hq).2.p a ea hne).1 (Row.lt (h.at_ q hq).1.px ea hne)),(h.at_ q hq).2⟩⟩
theorem Its.below{w w':World}{base:Nat}{v:Value}{l:List gQ}(h:Its w base v l)(hb:bz w w'):Its w' base v l:=h.stays fun k _ hk=>hb.block k hk
theorem Its.bk{w w':World}{base B:Nat}{v:Value}{l:List gQ}(h:Its w base v l)(hb:Bk B w w'):Its w' base v l:=
 ⟨ai.bk h.own hb,fun q hq=>⟨⟨(h.at_ q hq).1.ru.cells2 fun _ _=>iK hb,Row.cells2 (h.at_ q hq).1.px fun _ _=>iK hb⟩,(h.at_ q hq).2⟩⟩
theorem Its.nil(w:World)(base:Nat):Its w base (.slice none 0 0) []:=⟨ai.nil _ _,fun _ hq=>nomatch hq⟩
theorem Its.app{w:World}{base:Nat}{v:Value}{l:List gQ}(h:Its w base v l)(q:gQ){g c:Nat}(hx:aS 22 gQ.cs w (some ⟨g,0,none⟩) [q])(hq:ou w q)(hf:OO base v q)(hn:l.length<=2000)(hbase:base<=w.heap.size) :
  ∃v' w',(Builtin.append_ #[kN,kN] kN #[v,.slice (some ⟨g,0,none⟩) 1 c]).run prog w=.ok v' w'∧Its w' base v' (l++[q])∧w.grownBy w' v.ownBlock∧(v'.ownBlock=v.ownBlock∨v'.ownBlock=some w.heap.size):=by
 obtain⟨v',w',h1,h2,h3,h4⟩:=ai.app (P:=prog) (xs:=[q]) (c:=c) (g:=g) (o:=0) underlying33 Qk rfl (by decide) (by decide) gQ.aZ gQ.plain h.own (fun _=>hx) (by simp;omega) hbase
 have keep:∀p:gQ,ou w p->OO base v p->ou w' p∧OO base v' p:=fun p hp hpf=>by
  have hne:∀k,k<w.heap.size->v.ownBlock≠some k->v'.ownBlock≠some k:=fun k hk hn e=>by
   rcases h4 with e4|e4
   ·exact hn (e4 ▸ e)
   ·rw[e4] at e;have:=Option.some.inj e;omega
  refine⟨hp.stays (fun a ea hne=>h3.block _ (aS.blt hp.ru AO ea hne) (Ne.symm (hpf.c a ea hne).2)) fun a ea hne=>h3.block _ (Row.lt hp.px ea hne) (Ne.symm (hpf.p a ea hne).2),⟨fun a ea he=>⟨(hpf.c a ea he).1,hne _ (aS.blt hp.ru AO ea he) (hpf.c a ea he).2⟩,fun a ea he=>⟨(hpf.p a ea he).1,hne _ (Row.lt hp.px ea he) (hpf.p a ea he).2⟩⟩⟩
 refine⟨v',w',h1,⟨h2,fun p hp=>?_⟩,h3,h4⟩;rcases List.mem_append.1 hp with hp|hp
 ·exact keep p (h.at_ p hp).1 (h.at_ p hp).2
 ·rw[List.mem_singleton.1 hp];exact keep q hq hf
structure Shown(x:aJ)(w:World)(es:LV)(l:List Int):Prop where
 top:omap.look es (-1)=some (.agg (lY Dn.top none).toArray)
 yes:∀i∈l,∀d,bK x i=some d->∃p,omap.look es i=some (.agg (lY d p).toArray)∧yC w p d.c
 no:∀i∈l,bK x i=none->omap.look es i=none
 o:∀i,i∉l->i≠-1->omap.look es i=none
 few:es.length<=l.length+1
theorem Shown.keep{x:aJ}{w w':World}{es:LV}{l:List Int}(h:Shown x w es l)(hb:∀(k:Nat) (cu:Array Value) (fr:Nat×Nat),w.heap[k]?=some (Obj.cells cu pI fr)->w'.heap[k]?=w.heap[k]?):Shown x w' es l:=
 ⟨h.top,fun i hi d hd=>by
  obtain⟨p,h1,h2⟩:=h.yes i hi d hd
  exact⟨p,h1,h2.keep hb⟩,h.no,h.o,h.few⟩
theorem Shown.bk{x:aJ}{w w':World}{es:LV}{l:List Int}{B:Nat}(h:Shown x w es l)(hb:Bk B w w'):Shown x w' es l:=h.keep fun _ _ _ hk=>(hb.keep hk rfl).trans hk.symm
theorem Et{t:T}(ok:Ok t):(0:Int)∉ids t:=fun h=>ok.vV h rfl
theorem Shown.look{x:aJ}{w:World}{es:LV}{k:Nat}(ok:Ok x.t)(hk:k<(aB.walk x.t 0).length)(h:Shown x w es ((aB.walk x.t 0).take k)) :
  ∃d p okb,(omap.look es (par x.t (aB.walk x.t 0)[k])).getD (.agg (lY ⟨Mp.o,0,[]⟩ none).toArray)=.agg (lY d p).toArray∧(omap.look es (par x.t (aB.walk x.t 0)[k])).isSome=okb∧(okb=true->Gu x (aB.walk x.t 0)[k]=some d∧yC w p d.c)∧(okb=false->Gu x (aB.walk x.t 0)[k]=none):=by
 have hw:=Tm ok hk;generalize (aB.walk x.t 0)[k]=i at *;by_cases h0:i=0
 ·subst h0;rw[par_none (Et ok),h.top];exact⟨Dn.top,none,true,rfl,rfl,fun _=>⟨if_pos rfl,rfl⟩,fun e=>nomatch e⟩
 ·have hp:=hw.resolve_left h0;have e:Gu x i=bK x (par x.t i):=if_neg h0;rw[e];cases hd:bK x (par x.t i) with
  | none=>
   rw[h.no _ hp hd];exact⟨_,none,false,rfl,rfl,nofun,fun _=>rfl⟩
  | some d=>
   obtain⟨p,h1,h2⟩:=h.yes _ hp d hd;rw[h1];exact⟨d,p,true,rfl,rfl,fun _=>⟨rfl,h2⟩,fun e=>nomatch e⟩
theorem Shown.skip{x:aJ}{w:World}{es:LV}{l:List Int}{i:Int}(h:Shown x w es l)(hi:i∉l)(h1:i≠-1)(hd:bK x i=none):Shown x w es (l++[i]):=by
 refine⟨h.top,fun j hj d hd'=>?_,fun j hj hd'=>?_,fun j hj hn=>h.o j (fun e=>hj (List.mem_append_left _ e)) hn,by have:=h.few;simp;omega⟩
 ·rcases List.mem_append.1 hj with hj|hj
  ·exact h.yes j hj d hd'
  ·rw[List.mem_singleton.1 hj,hd] at hd';cases hd'
 ·rcases List.mem_append.1 hj with hj|hj
  ·exact h.no j hj hd'
  ·rw[List.mem_singleton.1 hj];exact h.o i hi h1
theorem Shown.put{x:aJ}{w:World}{es:LV}{l:List Int}{i:Int}(h:Shown x w es l)(hi:i∉l)(h1:i≠-1){d:Dn}{p:Option Nat}(hd:bK x i=some d)(hp:yC w p d.c):Shown x w (omap.put lt i (.agg (lY d p).toArray) es) (l++[i]):=by
 refine⟨by rw[omap.dw,if_neg (Ne.symm h1)];exact h.top,fun j hj d' hd'=>?_,fun j hj hd'=>?_,fun j hj hn=>?_,?_⟩
 ·rw[omap.dw];rcases List.mem_append.1 hj with hj|hj
  ·rw[if_neg (fun e=>hi (by (try show Below _ _ _);rw[← e];exact hj))];exact h.yes j hj d' hd'
  ·rw[if_pos (List.mem_singleton.1 hj)];rw[List.mem_singleton.1 hj,hd] at hd'
   injection hd' with hd'
   exact⟨p,by rw[hd'],by rw[← hd'];exact hp⟩
 ·rw[omap.dw];rcases List.mem_append.1 hj with hj|hj
  ·rw[if_neg (fun e=>hi (by (try show Below _ _ _);rw[← e];exact hj))];exact h.no j hj hd'
  ·rw[List.mem_singleton.1 hj,hd] at hd';cases hd'
 ·rw[omap.dw,if_neg (fun e=>hj (by rw[e];simp))];exact h.o j (fun e=>hj (List.mem_append_left _ e)) hn
 ·have h2:=h.few;have h3:=iD i (.agg (lY d p).toArray) es;simp;omega
theorem Tn{t:T}(ok:Ok t){k:Nat}(hk:k<(aB.walk t 0).length):(aB.walk t 0)[k]∉(aB.walk t 0).take k∧(aB.walk t 0)[k]≠-1∧(aB.walk t 0).take (k+1)=(aB.walk t 0).take k++[(aB.walk t 0)[k]]:=by
 have h1:=List.take_succ_eq_append_getElem hk;refine⟨fun h=>?_,fun e=>?_,h1⟩
 ·have hn:((aB.walk t 0).take (k+1)).Nodup:=(List.take_sublist _ _).nodup (rH ok 0);rw[h1] at hn;exact(List.nodup_append.1 hn).2.2 _ h _ List.mem_cons_self rfl
 ·have h2:=(jh ok).1 (List.getElem_mem hk);rw[e] at h2;rcases ah.1 h2 with h3|h3
  ·exact absurd h3 (by decide)
  ·obtain⟨p,hp⟩:=bg.1 h3;have:=(ok.TN _ hp).1;simp at this
theorem mG{P:Program}{ln:Nat}{ops:Array Oper}{rest:List Oper}{o:Oper}{a:Act}{Q:Exit->Act->World->Prop}{w:World}(ty:TypeId)(x:Operand)(ho:o.op=.load ty x)(hgd:Region.wanted o (yielded ops a.tmps)=true)(g f:Nat)(hx:a.eval x=.pointer (some ⟨g,f,none⟩))(cs:List Value)(hB:ax w g cs)(ls:List Value)(hls:(cs.drop f).take ls.length=ls)
  (d:TypeDesc) (hu:P.underlying ty=some d) (hd:d.isRow=true) (hi:(P.info? ty).map (·.size)=some ls.length) (h:wpListIn (Fence.wide.inRound ln) 0 P ops Q rest (a.put o.dst (.agg ls.toArray)) w):wpListIn (Fence.wide.inRound ln) 0 P ops Q (o::rest) a w:=by
 unfold wpListIn;rw[if_pos hgd];exact En (fun c e=>by rw[ho] at e;cases e) (aI ty x ho g f hx cs hB ls hls d hu hd hi h)
theorem pF{P:Program}{ln:Nat}{ops:Array Oper}{rest:List Oper}{o:Oper}{a:Act}{Q:Exit->Act->World->Prop}{w:World}(ty:TypeId)(x y:Operand)(ho:o.op=.store ty x y)(hgd:Region.wanted o (yielded ops a.tmps)=true)(hd:o.dst=none)(g f:Nat)(hx:a.eval x=.pointer (some ⟨g,f,none⟩))(ls:List Value)(hy:a.eval y=.agg ls.toArray)
  (cs:List Value) (hB:ax w g cs) (cs':List Value) (hc:cs.take f++ls++cs.drop (f+ls.length)=cs') (hl:f+ls.length<=cs.length) (hi:(P.info? ty).map (·.size)=some ls.length) (h1:ls.all (·.oneCell')=true)
  (h:∀w',Hid (Wrote g w w')->Hid (ax w' g cs')->wpListIn (Fence.wide.inRound ln) 0 P ops Q rest a w'):wpListIn (Fence.wide.inRound ln) 0 P ops Q (o::rest) a w:=by
 unfold wpListIn;rw[if_pos hgd];refine En (fun c e=>by rw[ho] at e;cases e) (dn ty x y ho g f hx ls hy cs hB hl hi h1 fun w' hW hB'=>?_);have e:a.put o.dst undef=a:=by rw[hd];rfl
 show wpListIn _ 0 P ops Q rest (a.put o.dst undef) w';rw[e];exact h w' hW (by (try show Below _ _ _);rw[← hc];exact hB')
end
end Go.Proofs.YtekdoeilpheklaaGreat
