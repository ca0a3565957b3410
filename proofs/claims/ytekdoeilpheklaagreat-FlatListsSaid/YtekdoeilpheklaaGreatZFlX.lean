import Derived.Test.YtekdoeilpheklaaGreatZFlN
import Derived.Test.YtekdoeilpheklaaGreatZFlV
set_option maxHeartbeats 16000000
set_option maxRecDepth 100000
open Go.Proofs.Tryz
namespace Go.Proofs.YtekdoeilpheklaaGreat
section
open Go.RowKit fK fZ aB Go.Maps
abbrev dU:TypeId:=63
abbrev yH:TypeId:=35
abbrev rO:TypeId:=124
abbrev ND:TypeId:=55
def DC(i:Int)(u b:Mp)(v:Value)(o:Nat)(n:Nd)(A:Option Addr)(c:Nat):List Value:=[.int .i64 i,.int .i64 u.a,.int .i64 u.b,.int .i64 u.c,.int .i64 u.d,.int .i64 u.e,.int .i64 u.f,.int .i64 b.a,.int .i64 b.b,.int .i64 b.c,.int .i64 b.d,.int .i64 b.e,.int .i64 b.f,v,.int .i64 (o:Nat)]++n.cs A c
structure DI where
 it:It
 n:Nd
 Ac:Option Addr
 cc:Nat
 A:Option Addr
 c:Nat
def DI.cs(q:DI):List Value:=DC q.it.i q.it.w q.it.b (.slice q.Ac q.it.c.length q.cc) q.it.o q.n q.A q.c
theorem DI.aZ(q:DI):q.cs.length=35:=rfl
theorem DI.one(q:DI):q.cs.all (·.oneCell')=true:=rfl
def DI.zero:DI:=⟨⟨0,Mp.o,Mp.o,[],0,⟨0,0,0,0,0,0,[]⟩⟩,Nd.zero,none,0,none,0⟩
theorem Wj(i:Int)(n:Nd)(A:Option Addr)(c:Nat)(w:World):(Instr.build dU #[(0,.int .i64 i),(4,.int .i64 255),(5,.agg (n.cs A c).toArray)]).run prog w=.ok (.agg (DC i Mp.o Mp.o (.slice none 0 0) 255 n A c).toArray) w:=by kernel_rfl
theorem Dy(w:World):(Instr.build dU #[]).run prog w=.ok (.agg DI.zero.cs.toArray) w:=by kernel_rfl
theorem Rh(u:Mp)(r:Bx)(w:World):(Instr.build rO #[(0,.agg u.cs.toArray),(1,.agg r.uM.toArray)]).run prog w=.ok (.agg (Cl.cs ⟨u,r⟩).toArray) w:=by kernel_rfl
theorem a1u(q:Cl)(w:World):(Instr.buildSlice ND 1 #[(0,.agg q.cs.toArray)]).run prog w=.ok (.slice (some ⟨w.heap.size,0,none⟩) 1 1) (w.alloc (.cells q.cs.toArray rO)):=by kernel_rfl
theorem UK:(prog.info? rO).map (fun i=>(i.zero,i.size,i.bytes))=some (some (.agg Vo.toArray),10,80):=by kernel_rfl
abbrev FZ(w:World)(base:Nat)(v:Value)(l:List Cl):Prop:=ai rO 10 Cl.cs w base v l
structure Lw(x B:Nat)(A W:World):Prop where
 os:W.os=A.os
 tape:W.tape=A.tape
 output:W.output=A.output
 size:A.heap.size<=W.heap.size
 same:∀k,k<B->k≠x->W.heap[k]?=A.heap[k]?
theorem Lw.of_below{x B:Nat}{A W:World}(h:bz A W)(hs:B<=A.heap.size):Lw x B A W:=⟨h.os,h.tape,h.output,h.size,fun k hk _=>h.block k (Nat.lt_of_lt_of_le hk hs)⟩
theorem Lw.Uc{x B:Nat}{A W:World}(h:KX x A W)(hs:B<=A.heap.size):Lw x B A W:=⟨h.os,h.tape,h.output,h.size,fun k hk hn=>h.same k (Nat.lt_of_lt_of_le hk hs) hn⟩
theorem Lw.zI{x B:Nat}{A W:World}{r:Option Nat}(h:A.grownBy W r)(hr:∀k,r=some k->B<=k)(hs:B<=A.heap.size):Lw x B A W:=⟨h.os,h.tape,h.output,h.size,fun k hk _=>h.block k (Nat.lt_of_lt_of_le hk hs) fun e=>by have:=hr k e.symm;omega⟩
theorem GL{w:World}{g o k:Nat}{l:List Int}(h:Row eI w (some ⟨g,o,none⟩) l)(hk:k<l.length):w.cell? ⟨g,o+k,none⟩=some (.int .i64 l[k]):=by
 obtain⟨g',o',e,h1⟩:=h.at_ hk;cases e;exact h1
structure WL(w:World)(cs2:List Value)(v6:Value)(l:List Int)(o7 B:Nat)(W:World):Prop where
 bel:bz w W
 b2:ax W w.heap.size cs2
 b4:ax W (w.heap.size+1) DI.zero.cs
 own:aO W (w.heap.size+2) v6 l
 lt:w.heap.size+2<=o7∧o7<B∧B<=W.heap.size
 v6:∀g,v6.ownBlock=some g->g<o7
theorem WL.step{w:World}{cs2:List Value}{v6:Value}{l:List Int}{o7 B:Nat}{W W':World}(h:WL w cs2 v6 l o7 B W)(k:Lw o7 B W W'):WL w cs2 v6 l o7 B W':=by
 have hl:=h.lt
 exact⟨⟨k.os.trans h.bel.os,k.tape.trans h.bel.tape,k.output.trans h.bel.output,Nat.le_trans h.bel.size k.size,fun j hj=>(k.same j (by omega) (by omega)).trans (h.bel.block j hj)⟩,h.b2.stays (k.same _ (by omega) (by omega)),h.b4.stays (k.same _ (by omega) (by omega)),
  ai.stays h.own fun g hg=>k.same g (by have:=h.v6 g hg;omega) (by have:=h.v6 g hg;omega),⟨hl.1,hl.2.1,Nat.le_trans hl.2.2 k.size⟩,h.v6⟩
theorem WL.below{w:World}{cs2:List Value}{v6:Value}{l:List Int}{o7 B:Nat}{W W':World}(h:WL w cs2 v6 l o7 B W)(hb:bz W W'):WL w cs2 v6 l o7 B W':=h.step (Lw.of_below hb h.lt.2.2)
def kR(x:aJ)(l:List Int)(k:Nat):Mp:=((l.take k).getLast?.map x.ws).getD Mp.o
theorem KF(x:aJ){l:List Int}{k:Nat}(hk:k<l.length):kR x l (k+1)=x.ws l[k]:=by
 unfold kR;rw[List.take_succ_eq_append_getElem hk,List.getLast?_append];rfl
theorem VV{x:aJ}{l:List Int}{k:Nat}(hk:k<l.length){d d0:Dn}(h:Ce x (l.take k) d0=some d):Ce x (l.take (k+1)) d0=o5 (x.nd l[k]) (x.ws l[k]) d:=by
 rw[List.take_succ_eq_append_getElem hk,yO,h,Option.bind_some,Ce];cases o5 (x.nd l[k]) (x.ws l[k]) d<;>rfl
theorem VW{x:aJ}{l:List Int}{k:Nat}{d0:Dn}(h:Ce x (l.take k) d0=none):Ce x l d0=none:=by
 rw[← List.take_append_drop k l,yO,h];rfl
theorem Tf(x:aJ)(i:Int)(hi:i=0∨i∈ids x.t)(ok:Ok x.t):kR x (fO x.t i) (fO x.t i).length=x.ws i:=by
 unfold kR;rw[List.take_length];rcases hi with e|e
 ·rw[e,Ti];rfl
 ·rw[yZ ok e,List.getLast?_append];rfl
theorem X8{x:aJ}(ok:Ok x.t){i:Int}(hi:i=0∨i∈ids x.t):∀j∈fO x.t i,has x.t j=true:=by
 intro j hj;unfold fO at hj;rw[List.mem_cons,List.mem_reverse] at hj;rcases hj with e|e
 ·exact ah.2 (.inl e)
 ·exact ah.2 (.inr (zV ok hi e))
structure FY(w:World)(A:Option Addr)(l:List Cl):Prop where
 row:aS 10 Cl.cs w A l
 typ:∀a,A=some a->l≠[]->∃cs fz,w.heap[a.block]?=some (.cells cs rO fz)
theorem FZ.a5n{w:World}{B c n:Nat}{A:Option Addr}{l:List Cl}(h:FZ w B (.slice A n c) l):FY w A l:=by
 obtain⟨A',c',e',-,-,hr⟩:=ai.row h Cl.aZ;have e:A=A':=by injection e'
 refine⟨e ▸ hr,fun a ea hne=>?_⟩
 have h1:(Value.slice A n c).ownBlock=some a.block∨l=[]:=by
  rcases h.2 with ⟨e1,e2⟩|⟨g,cap,cur,e1,-⟩
  ·exact .inr (List.eq_nil_of_length_eq_zero e2)
  ·have e3:A=some ⟨g,0,none⟩:=by injection e1
   rw[ea] at e3;rw[ea,Option.some.inj e3];exact .inl rfl
 obtain⟨cur,h2⟩:=h.typed (h1.resolve_right hne);exact⟨cur,_,h2⟩
def WI(x:aJ)(id:Int)(w:World)(e:Ending)(w':World):Prop:=∃q:DI,e=.returned (.tuple #[.agg q.cs.toArray,.bool (bK x id).isSome])∧(∀d,bK x id=some d->q.it=⟨id,x.ws id,d.b,d.c.reverse,d.o,(x.nd id).lk⟩∧q.n=x.nd id∧FY w' q.Ac q.it.c∧ng w' q.A q.n.lk.l)∧bz w w'
theorem VK{w:World}{x:aJ}(hx:sN x)(hn:x.t.length<=900)(v:Value)(wi aF M:Int)(hd:eF w v wi aF M x)(id:Int)(hh:has x.t id=true) :
  Calls prog 30 #[v,.int .i64 id] w (WI x id w):=by
 unfold WI;have HX:=Hd hx;have HN:=Hd hn;have HI:=ah.1 hh;have HIH:=Hd hh;obtain⟨tv,m,rfl,ht,hm⟩:=hd;obtain⟨At,ct,rfl,hr,hy⟩:=ht;have HM:=Hd hm
 have HTR:Hid (aK w (.slice At x.t.length ct) x.t):=⟨At,ct,rfl,hr,hy⟩
 obtain⟨A0,yl,a2R,hlk0⟩:=hm.look (kQ hx.ok hh) hh;have a3O:=Hd a2R;have a1N:=Hd hlk0;have HDW:Hid (bK x id=(Ce x (fO x.t id) Dn.top).filter fun d=>decide (¬d.o=0)):=VG hx.ok HI;have HWH:Hid (∀j∈fO x.t id,has x.t j=true):=X8 hx.ok HI;have HWL:Hid ((fO x.t id).length<=1000):=by have:=Ns hx.ok HI;show _<=_;omega
 have HLW:Hid (kR x (fO x.t id) (fO x.t id).length=x.ws id):=Tf x id HI hx.ok;have HWY:=Hd (fun W (hW:aK W (.slice At x.t.length ct) x.t)=>VD wi aF M (.slice At x.t.length ct) x.t m hx.ok (by omega) _ id W hW hh nR)
 have HWV:Hid (∀j,has x.t j=true->dM x.t x.nd j=(x.ws j,true)∧(x.ws j).right=true):=fun j hj=>by
  have h1:=hx.set j hj (fun _ _ h=>h) (fun h=>h);have h2:=CJ hx.ok (fun i=>(kH (hx.good i)).1) (ah.1 hj);rw[h1] at h2;refine⟨?_,mJ hx.ok (fun i=>(kH (hx.good i)).1) (ah.1 hj) _ h1⟩;by_cases h3:(dM x.t x.nd j).2=true
  ·rw[if_pos h3] at h2
   injection h2 with h2
   rw[h2,← h3]
  ·rw[if_neg h3] at h2;cases h2
 obtain⟨n0,hn0⟩:∃n0,x.nd id=n0:=⟨_,rfl⟩
 have X3:=Hd hn0;rw[hn0] at a3O a1N;clear hx hn hm hr hy a2R hlk0 hn0
 obtain⟨l,hl⟩:∃l,fO x.t id=l:=⟨_,rfl⟩
 rw[hl] at HDW HWH HWL HLW HWY;clear hl;have HB0:Hid (bz w ((w.alloc (.cells (Vb wi aF M At x.t.length ct m).toArray 30)).alloc (.cells Vj.toArray dU))):=(bR.alloc nR _).alloc (by simp) _;have jJ:Hid (ax ((w.alloc (.cells (Vb wi aF M At x.t.length ct m).toArray 30)).alloc (.cells Vj.toArray dU)) w.heap.size (Vb wi aF M At x.t.length ct m)):=(ay w (Vb wi aF M At x.t.length ct m) _).alloc _
 have lX:Hid (ax ((w.alloc (.cells (Vb wi aF M At x.t.length ct m).toArray 30)).alloc (.cells Vj.toArray dU)) (w.heap.size+1) DI.zero.cs):=aN (w.alloc _) _ (by simp) DI.zero.cs _;have Jf:Hid (((w.alloc (.cells (Vb wi aF M At x.t.length ct m).toArray 30)).alloc (.cells Vj.toArray dU)).heap.size=w.heap.size+2):=by show _=_;simp
 go_enter func30,ntmps30
 go_upto_region 1 with (fail)
 generalize ((w.alloc (.cells (Vb wi aF M At x.t.length ct m).toArray 30)).alloc (.cells Vj.toArray dU))=w0 at *;go_wp2_with (first|(with_reducible refine gL ?_;first|(refine wt 30 0 rfl rfl rfl jJ.o ((Vb wi aF M At x.t.length ct m)) rfl underlying30 rfl ?_)));refine(HWY.o w0 (HTR.o.below HB0.o)).mono ?_;rintro e w1 ⟨v6,rfl,ho6,hb1⟩;have HB1:=Hd (HB0.o.trans (hb1.mono HB0.o.size));have HO6:Hid (aO w1 (w.heap.size+2) v6 l):=ai.weaken ho6 (by (try show Below _ _ _);rw[Jf.o];exact nR);have ed:=Hd (jJ.o.below' hb1);have a4q:=Hd (lX.o.below' hb1)
 have WX:Hid (w.heap.size+2<=w1.heap.size):=by have:=hb1.size;have:=Jf.o;show _<=_;omega
 obtain⟨A6,c6,rfl,-,-,-⟩:=aO.kP HO6.o;have HV6:Hid (∀g,Value.ownBlock (.slice A6 l.length c6)=some g->g<w1.heap.size):=fun g hg=>(ai.block HO6.o hg).2;clear ho6 hb1 HB0 jJ lX Jf HWY;have HZ:Hid (ax (w1.alloc (.cells Vj.toArray dU)) w1.heap.size DI.zero.cs):=ay w1 DI.zero.cs _;have jF:Hid (Below w1.heap.size w1 (w1.alloc (.cells Vj.toArray dU))):=bR.alloc nR _;have hlk:=a1N.o w1 HB1.o;have c4:=ed.o.c 4 rfl;have i0:=ed.o.inside
 go_wp2_with (first|((with_reducible refine gU ?_);refine bZ _ _ rfl rfl (by simp[go_sem]) (Wj id n0 A0 yl _) ?_)|first|(with_reducible refine gS ?_;first|(refine au dU _ _ rfl rfl rfl _ 0 rfl (DC id Mp.o Mp.o (.slice none 0 0) 255 n0 A0 yl) rfl (DI.zero.cs) HZ.o (DC id Mp.o Mp.o (.slice none 0 0) 255 n0 A0 yl) rfl (nE rfl) (by kernel_rfl) rfl ?_;intro w2 HW2 bP)))
 obtain⟨o7,ho7⟩:∃o7,w1.heap.size=o7:=⟨_,rfl⟩
 have HKK:Hid (WL w (Vb wi aF M At x.t.length ct m) (.slice A6 l.length c6) l o7 w2.heap.size w2):=by
  have hbl:Below w1.heap.size w1 w2:=HW2.o.below jF.o nR;refine⟨HB1.o.trans (hbl.mono HB1.o.size),ed.o.below' hbl,a4q.o.below' hbl,ai.below HO6.o hbl,⟨by rw[← ho7];exact WX.o,by rw[← ho7];exact bP.o.inside,nR⟩,fun g hg=>?_⟩;rw[← ho7];exact HV6.o g hg
 rw[ho7] at bP ⊢;clear ho7 hlk c4 i0 HZ jF HW2 HB1 HO6 ed a4q WX HV6 a1N;have HD0:Hid (Ce x (l.take 0) Dn.top=some Dn.top):=rfl
 obtain⟨B8,qH⟩:∃B8,w2.heap.size=B8:=⟨_,rfl⟩
 rw[qH] at HKK;clear qH
 go_loopw [8] (fun x8 wr=>∃(k:Nat) (d:Dn) (v3:Value),k<=l.length∧x8=.int .i64 k∧Hid (Ce x (l.take k) Dn.top=some d∧d.o<256)∧Hid (FZ wr B8 v3 d.c.reverse)∧Hid (d.c.length<=k)∧Hid (ax wr o7 (DC id (kR x l k) d.b v3 d.o n0 A0 yl))∧Hid (WL w (Vb wi aF M At x.t.length ct m) (.slice A6 l.length c6) l o7 B8 wr)) (fun x8 _=>l.length - (intOf x8).toNat)
 case atStart=>exact⟨0,Dn.top,.slice none 0 0,Nat.zero_le _,rfl,⟨HD0.o,by decide⟩,ai.nil _ _,Nat.zero_le _,bP.o,HKK.o⟩
 case round=>
  obtain⟨k,d,v3,hk,rfl,HD,rF,Ju,HO,HK⟩:=hrel;generalize wr=wS at *;clear bP HKK HD0;by_cases hlt:k<l.length
  ·have t1:decide (k<l.length)=true:=by simpa using hlt
   have eU:=Hd hlt
   obtain⟨j,hj⟩:∃j,j=l[k]'hlt:=⟨_,rfl⟩
   have HJM:Hid (has x.t j=true):=HWH.o j (by rw[hj];exact List.getElem_mem hlt);have a4s:Hid (I64 j):=kQ HX.o.ok HJM.o;have HD1:Hid (Ce x (l.take (k+1)) Dn.top=o5 (x.nd j) (x.ws j) d):=by rw[hj];exact VV hlt HD.o.1
   have HLS:Hid (kR x l (k+1)=x.ws j):=by rw[hj];exact KF x hlt
   have HWJ:=Hd (HWV.o j HJM.o);obtain⟨An,cn,-,hlk⟩:=HM.o.look a4s.o HJM.o;have JH:=Hd hlk;have MS:=Hd (NI (HX.o.good j));have HOC:Hid ((x.nd j).chk=0):=HX.o.good j;obtain⟨A6',c6',e6,-,-,hr6⟩:=aO.kP HK.o.own;have e7:A6=A6':=by injection e6
   subst e7;clear e6;obtain⟨g6,o6,rfl,-⟩:=hr6.at_ hlt;have vz:=Hd hr6;have FI:Hid (∀W,bz wS W->W.cell? ⟨g6,o6+k,none⟩=some (.int .i64 j)):=fun W hb=>by rw[hj];exact GL (Row.below vz.o hb) eU.o
   have RU:Hid (bz w wS):=HK.o.bel;have FS:Hid (∀W,bz wS W->ax W w.heap.size (Vb wi aF M At x.t.length ct m)):=fun W hb=>HK.o.b2.below' hb;have HKB:Hid (k<=1000):=by have:=HWL.o;show _<=_;omega
   have hkb:=HKB.o
   obtain⟨n,hn⟩:∃n,x.nd j=n:=⟨_,rfl⟩
   obtain⟨u,hu⟩:∃u,x.ws j=u:=⟨_,rfl⟩
   have HUB:Hid (x.ws j=u):=hu;rw[hn] at HD1 JH MS HOC;rw[hu] at HD1 HWJ
   obtain⟨qo,hqo⟩:∃qo:Nat,n.op.toNat=qo:=⟨_,rfl⟩
   have MQ:Hid (n.op=(qo:Nat)∧qo<256):=by rw[← hqo];exact⟨MS.o.2,MS.o.1⟩
   have HQE:Hid (n.op.toNat=qo):=hqo;clear hqo;clear hj hlk hr6 hlt hk hn hu
   go_upto_region 6 with (fail)
   refine JP (Below wS.heap.size) (fun L V wx=>JN wS.heap.size [] (Va) (n.cs An cn) (L 7) (L 8) (V 9) wx) [29,30,31,32,33,34,35,9] (fun _=>bR) (fun _ _ _ h k=>h.trans k) (fun i=>match i with
    |0=>rp w.heap.size 4
    |1=>rV (.map (some m))
    |2=>rV (.slice (some ⟨g6,o6,none⟩) l.length c6)
    |3=>rV (.int .i64 (k:Nat))
    |4=>rV (.pointer (some ⟨g6,(o6+k),none⟩))
    |5=>rV (.int .i64 j)
    |6=>rV (.agg (n.cs An cn).toArray)
    | _=>ra) (bR.drew) (JN.start (old:=[]) trivial) ⟨?_,?_,?_,?_,?_,?_,?_,?_,?_,trivial⟩ ?_
   any_goals (first|refine fC fun L a w1 hh=>?_|fail)
   have h2:=hh.p 2 w.heap.size 0;have i0:=(FS.o _ hh.rel).inside;rotate_left;have Ag:=rq (hh.d 0 29);have ⟨c0,i0⟩:=(FS.o _ hh.rel).ci 4 rfl;rotate_left;have h6:=hh.o 6 (v:=.slice (some ⟨g6,o6,none⟩) l.length c6) rfl;rotate_left;have h8:=hh.o 8 (v:=.int .i64 (k:Nat)) rfl;rotate_left;have h31:=rq (hh.d 2 31);have h32:=rq (hh.d 3 32);have hlt:=eU.o;rotate_left;have Qw:=rq (hh.d 4 33);have c0:=FI.o _ hh.rel;have i0:=World.block_lt_of_cell? w1 ⟨g6,_,none⟩ c0;rotate_left;have h30:=rq (hh.d 1 30);have UY:=rq (hh.d 5 34);have hlk:=JH.o _ (RU.o.trans (hh.rel.mono RU.o.size))
   rotate_left
   ·have hJ:=Hd hh.st;have hsz:=Hd hh.size;have hun:=Hd hh.un;clear hh;go_simp;exact⟨_,rfl,bR.alloc hJ.o.1.2.1 _,trivial,JN.new hJ.o hun.o (bI.aW (by rw[hsz.o];simp))⟩
   ·have h35:=rq (hh.d 6 35);have hup:=hh.up 7 (by kernel_rfl);obtain⟨g9,Sl,kK,fV⟩:=hh.st.2.1 hup;have h9:a.tmps[9]?.getD undef=.pointer (some ⟨g9,0,none⟩):=rq (Sl);rw[hh.un] at fV;have hJ:=Hd hh.st;have hun:=Hd hh.un;refine dn 61 _ _ rfl g9 0 (by simpa[go_sem] using h9) (n.cs An cn) (by simpa[go_sem] using h35) _ fV (nE rfl) (by kernel_rfl) (by rfl) ?_;intro w9 mV Cc;have hP:=hJ.o.JU hup hun.o Sl mV Cc rfl;exact⟨undef,rfl,hP.2,trivial,hP.1⟩
   any_goals (have hJ:=hh.j;clear hh;go_simp;exact⟨_,rfl,bR,rfl,JN.slots hJ.o sn⟩)
   intro L w9 val hL hJ hR hv;have CE:=Hd hR;obtain⟨g9,e9,kK,fV⟩:=hJ.2.1 (hL 7 (by decide));have sS:=Hd (And.intro kK (show ax w9 g9 (n.cs An cn) by rw[hL 8 (by decide)] at fV;exact fV));clear hv hL hJ hR kK fV;simp only[regs.aA,List.map_cons,List.map_nil];simp only[Act.put,List.setIfInBounds_toArray,List.set_cons_zero,List.set_cons_succ]
   skip
   rw[e9];clear e9;have FI9:Hid (∀W,bz w9 W->W.cell? ⟨g6,o6+k,none⟩=some (.int .i64 j)):=fun W hb=>FI.o W (CE.o.trans (hb.mono CE.o.size));have FS9:Hid (∀W,bz w9 W->ax W w.heap.size (Vb wi aF M At x.t.length ct m)):=fun W hb=>FS.o W (CE.o.trans (hb.mono CE.o.size));have a2h:=Hd (RU.o.trans (CE.o.mono RU.o.size))
   have FW:Hid (∀W,bz w9 W->Calls prog 60 #[.agg (Vb wi aF M At x.t.length ct m).toArray,.int .i64 j] W fun e w'=>e=.returned (.tuple #[.agg u.cs.toArray,.bool true])∧bz W w'):=fun W hb=>by
    have hbw:=a2h.o.trans (hb.mono a2h.o.size);have h1:=Az wi aF M (.slice At x.t.length ct) x.t m x.nd HX.o.ok (by have:=HN.o;omega) _ j W (HTR.o.below hbw) (HM.o.below hbw) HJM.o nR;rw[HWJ.o.1] at h1;exact h1
   go_upto_region 7 with (fail)
   refine JP (Below w9.heap.size) (fun L V wx=>JN w9.heap.size [] (Vd) (u.cs) (L 9) (L 10) (V 10) wx) [37,38,39,40,41,42,36,43,44,10,11] (fun _=>bR) (fun _ _ _ h k=>h.trans k) (fun i=>match i with
    |0=>rV (.agg ((Vb wi aF M At x.t.length ct m)).toArray)
    |1=>rV (.slice (some ⟨g6,o6,none⟩) l.length c6)
    |2=>rV (.int .i64 (k:Nat))
    |3=>rV (.pointer (some ⟨g6,(o6+k),none⟩))
    |4=>rV (.int .i64 j)
    |5|6=>rV (.tuple #[.agg (u.cs).toArray,.bool true])
    |7=>rV (.agg (u.cs).toArray)
    |8|11=>rT
    | _=>ra) (bR.drew) (JN.start (old:=[]) trivial) ⟨?_,?_,?_,?_,?_,?_,?_,?_,?_,?_,?_,?_,trivial⟩ ?_
   any_goals (first|refine fC fun L a w1 hh=>?_|fail)
   ·have h2:=hh.p 2 w.heap.size 0;have hB:=Hd (FS9.o _ hh.rel);have hJ:=Hd hh.st;exact aI 30 _ rfl w.heap.size 0 (by simpa[go_sem] using h2) _ hB.o ((Vb wi aF M At x.t.length ct m)) rfl _ underlying30 rfl (by kernel_rfl) ⟨_,rfl,bR,rfl,JN.slots hJ.o sn⟩
   have h6:=hh.o 6 (v:=.slice (some ⟨g6,o6,none⟩) l.length c6) rfl;rotate_left;have h8:=hh.o 8 (v:=.int .i64 (k:Nat)) rfl;rotate_left;have h38:=rq (hh.d 1 38);have Qv:=rq (hh.d 2 39);have hlt:=eU.o;rotate_left;have SA:=rq (hh.d 3 40);have c0:=FI9.o _ hh.rel;have i0:=World.block_lt_of_cell? w1 ⟨g6,_,none⟩ c0;rotate_left
   ·have h37:=rq (hh.d 0 37);have Sz:=rq (hh.d 4 41);have hC:=Hd (FW.o _ hh.rel);have hJ:=hh.j;clear hh;go_simp;refine hC.o.mono ?_;rintro e w9 ⟨rfl,aU⟩;exact⟨_,rfl,aU.mono hJ.o.1.2.1,rfl,JN.slots (JN.below hJ.o aU) sn⟩
   have h42:=rq (hh.d 5 42);rotate_left;have UX:=rq (hh.d 6 36);rotate_left;have UX:=rq (hh.d 6 36);rotate_left
   ·have hJ:=Hd hh.st;have hsz:=Hd hh.size;have hun:=Hd hh.un;clear hh;go_simp;exact⟨_,rfl,bR.alloc hJ.o.1.2.1 _,trivial,JN.new hJ.o hun.o (bI.aW (by rw[hsz.o];simp))⟩
   ·have h43:=rq (hh.d 7 43);have hup:=hh.up 9 (by kernel_rfl);obtain⟨g9,Sl,kK,fV⟩:=hh.st.2.1 hup;have h10:a.tmps[10]?.getD undef=.pointer (some ⟨g9,0,none⟩):=rq (Sl);rw[hh.un] at fV;have hJ:=Hd hh.st;have hun:=Hd hh.un;refine dn 53 _ _ rfl g9 0 (by simpa[go_sem] using h10) (u.cs) (by simpa[go_sem] using h43) _ fV (nE rfl) (by kernel_rfl) (by rfl) ?_;intro w9 mV Cc;have hP:=hJ.o.JU hup hun.o Sl mV Cc rfl;exact⟨undef,rfl,hP.2,trivial,hP.1⟩
   have La:=rq (hh.d 8 44);rotate_left
   any_goals (have hJ:=hh.j;clear hh;go_simp;exact⟨_,rfl,bR,rfl,JN.slots hJ.o sn⟩)
   intro L w10 val hL hJ hR hv;have h11:val 11=.bool true:=hv 11 11 (by kernel_rfl);have Fg:=Hd hR;obtain⟨g10,e10,a3c,a06⟩:=hJ.2.1 (hL 9 (by decide));have Z8:=Hd (And.intro a3c (show ax w10 g10 (u.cs) by rw[hL 10 (by decide)] at a06;exact a06));clear hv hL hJ hR a3c a06;simp only[regs.aA,List.map_cons,List.map_nil,h11];simp only[Act.put,List.setIfInBounds_toArray,List.set_cons_zero,List.set_cons_succ];clear h11
   skip
   rw[e10];clear e10;have HUR:=HWJ.o.2;have HUR:=Hd HUR;go_wp2_with (first|(with_reducible refine gL ?_;first|(refine jZ 53 _ rfl rfl _ 0 rfl (u.cs) Z8.o.2 (u.cs) rfl _ underlying53 rfl (by kernel_rfl) ?_)));refine(a0T u w10 HUR.o).mono ?_;rintro e vI ⟨rfl,a3g⟩;have Si:=Hd a3g
   obtain⟨ub,hub⟩:∃ub,u.back.1=ub:=⟨_,rfl⟩
   obtain⟨ue,hue⟩:∃ue,u.back.2=ue:=⟨_,rfl⟩
   have DZ:Hid (u.back.1=ub∧u.back.2=ue):=⟨hub,hue⟩
   rw[hub,hue];clear hub hue a3g;unfold Mp.v;have HZb:Hid (ax (vI.alloc (.cells Vd.toArray 54)) vI.heap.size Vd):=ay vI Vd _;have uX:Hid (Below vI.heap.size vI (vI.alloc (.cells Vd.toArray 54))):=bR.alloc nR _
   go_upto_region 9 with (first|(with_reducible refine gS ?_;first|(refine au 54 _ _ rfl rfl rfl _ 0 rfl (ub.cs) rfl (Vd) HZb.o (ub.cs) rfl (nE rfl) (by kernel_rfl) (Mp.one1 _) ?_;intro w12 XV xx)))
   have HBc:Hid (Below vI.heap.size vI w12):=XV.o.below uX.o nR;have HBd:Hid (bz w9 w12):=Fg.o.trans ((Si.o.mono Fg.o.size).trans (HBc.o.mono (Nat.le_trans Fg.o.size Si.o.size)));have HBe:Hid (bz wS w12):=CE.o.trans (HBd.o.mono CE.o.size);have HG9:Hid (wS.heap.size<=g9):=sS.o.1;have HLO:=Hd HK.o.lt;have HGN:Hid (w9.heap.size<=g10):=Z8.o.1;have Fh:Hid (ax w12 g9 (n.cs An cn)):=sS.o.2.below' HBd.o;have WU:Hid (ax w12 g10 u.cs):=Z8.o.2.below' (Si.o.trans (HBc.o.mono Si.o.size))
   obtain⟨g12,a04⟩:∃g12,vI.heap.size=g12:=⟨_,rfl⟩
   have HGM:Hid (wS.heap.size<=g12):=by rw[← a04];exact Nat.le_trans CE.o.size (Nat.le_trans Fg.o.size Si.o.size)
   rw[a04] at xx ⊢;have a1Y:Hid (g10≠o7):=by have:=HLO.o;have:=HGN.o;have:=CE.o.size;show _≠_;omega
   have XC:Hid (g12≠o7):=by have:=HLO.o;have:=HGM.o;show _≠_;omega
   have a5U:Hid (g9≠o7):=by have:=HLO.o;have:=HG9.o;show _≠_;omega
   have MX:Hid (ax w12 o7 (DC id (kR x l k) d.b v3 d.o n0 A0 yl)):=HO.o.below' HBe.o;have ZP:Hid (FZ w12 B8 v3 d.c.reverse):=ai.below rF.o HBe.o;have Nh:Hid (WL w (Vb wi aF M At x.t.length ct m) (.slice (some ⟨g6,o6,none⟩) l.length c6) l o7 B8 w12):=HK.o.below HBe.o;have HOWN:Hid (∀g,v3.ownBlock=some g->B8<=g∧g<wS.heap.size):=fun g hg=>ai.block rF.o hg
   have HGA:Hid (wS.heap.size<=g10∧wS.heap.size<=w12.heap.size):=⟨Nat.le_trans CE.o.size HGN.o,HBe.o.size⟩
   have c7:=Fh.o.c 7 rfl;have i9:=Fh.o.inside;clear a04 CE sS Fg Z8 Si HZb uX XV HBc HBd HBe FI FS FI9 FS9 FW JH vz HUR a2h RU HO rF HK HGN a4s HJM HWJ;by_cases hbad:n.hi=true∨¬ue=0
   ·have OX:Hid (bK x id=none):=by
     show _=_;rw[HDW.o,VW (k:=k+1) (HD1.o.trans (by unfold o5;rw[DZ.o.2,if_pos hbad]))];rfl
    have OZ:=Nh;clear HDW HD1 Fh WU xx MX ZP Nh HLS;by_cases hue:ue=0
    ·have t5:(ue != 0)=false:=by simpa using hue
     rw[hbad.resolve_right (by simpa using hue)] at c7;clear hbad hue;go_wp2_with (first|((with_reducible refine gU ?_);refine bZ _ _ rfl rfl (by simp[go_sem]) (Dy _) ?_)|first|(with_reducible refine gS ?_;first|(refine au dU _ _ rfl rfl rfl _ 0 rfl (DI.zero.cs) rfl (DI.zero.cs) OZ.o.b4 (DI.zero.cs) rfl (nE rfl) (by kernel_rfl) (DI.one _) ?_;intro wZ HWZ HKZ)))
     exact aH rfl rfl rfl HKZ.o underlying63 rfl (by kernel_rfl) ⟨DI.zero,by rw[OX.o];rfl,(fun d hd=>by rw[OX.o] at hd;cases hd),OZ.o.bel.trans (HWZ.o.below bR (by omega))⟩
    ·have t5:(ue != 0)=true:=by simpa using hue
     clear hbad hue;go_wp2_with (first|((with_reducible refine gU ?_);refine bZ _ _ rfl rfl (by simp[go_sem]) (Dy _) ?_)|first|(with_reducible refine gS ?_;first|(refine au dU _ _ rfl rfl rfl _ 0 rfl (DI.zero.cs) rfl (DI.zero.cs) OZ.o.b4 (DI.zero.cs) rfl (nE rfl) (by kernel_rfl) (DI.one _) ?_;intro wZ HWZ HKZ)));exact aH rfl rfl rfl HKZ.o underlying63 rfl (by kernel_rfl) ⟨DI.zero,by rw[OX.o];rfl,(fun d hd=>by rw[OX.o] at hd;cases hd),OZ.o.bel.trans (HWZ.o.below bR (by omega))⟩
   ·have hhi:n.hi=false:=by
     cases h:n.hi with
     | false=>rfl
     | true=>exact absurd (.inl h) hbad
    have hue:ue=0:=Decidable.not_not.1 fun h=>hbad (.inr h);have HD2:Hid (Ce x (l.take (k+1)) Dn.top=some (d.to n u)):=HD1.o.trans (by unfold o5;rw[DZ.o.2,if_neg hbad]);have t5:(ue != 0)=false:=by simpa using hue
    have RQ:Hid ((d.to n u).o<256):=by unfold Dn.to;exact V7 HD.o.2 MS.o.1
    rw[hhi] at c7;have HD1:=HD2;clear hbad hue hhi HD2;have c8:=Fh.o.c 8 rfl;by_cases hcl:n.cl=true
    ·have ZL:Hid ((d.to n u).c=⟨ub,n.r⟩::d.c):=by unfold Dn.to;show(if n.cl=true then _ else _)=_;rw[if_pos hcl,DZ.o.1]
     have tC:Hid ((d.to n u).b=ub∧(d.to n u).o=jH d.o qo):=⟨DZ.o.1,by rw[← HQE.o];rfl⟩
     rw[hcl] at c8;have hal:bz w12 (w12.alloc (.cells (Cl.cs ⟨ub,n.r⟩).toArray rO)):=bR.alloc nR _
     obtain⟨vx,Gt,hrun,KQ,kK,-⟩:=ai.app (P:=prog) (xs:=[(⟨ub,n.r⟩:Cl)]) (c:=1) (g:=w12.heap.size) (o:=0) (ts:=ND) underlying55 UK rfl (by decide) (by decide) Cl.aZ (fun q v hv=>List.all_eq_true.1 (Cl.one q) v hv) (ai.below ZP.o hal) (fun _=>pJ Cl.aZ (by simpa using ay w12 (Cl.cs ⟨ub,n.r⟩) rO)) (by have:=Ju.o;have:=HKB.o;rw[List.length_reverse];simp;omega) (Nat.le_trans Nh.o.lt.2.2 hal.size);obtain⟨Ax,nx,cx,rfl⟩:=ai.shape KQ
     have hsame:∀q,q<w12.heap.size->(v3.ownBlock=some q->False)->Gt.heap[q]?=w12.heap[q]?:=fun q h1 h2=>(kK.block q (Nat.lt_of_lt_of_le h1 hal.size) fun e=>h2 e.symm).trans (hal.block q h1);have Zn:Hid (FZ Gt B8 (.slice Ax nx cx) (d.to n u).c.reverse):=by rw[ZL.o,List.reverse_cons];exact KQ
     have a15:Hid ((d.to n u).c.length<=k+1):=by rw[ZL.o,List.length_cons];have:=Ju.o;show _<=_;omega
     have hown:∀q,wS.heap.size<=q->v3.ownBlock=some q->False:=fun q h1 h2=>by have:=(HOWN.o q h2).2;omega
     have Xk:Hid (ax Gt o7 (DC id (kR x l k) d.b v3 d.o n0 A0 yl)):=MX.o.stays (hsame o7 MX.o.inside fun e=>by have:=(HOWN.o o7 e).1;have:=HLO.o;omega);have a1J:Hid (ax Gt g9 (n.cs An cn)):=Fh.o.stays (hsame g9 Fh.o.inside (hown _ HG9.o));have a1C:Hid (ax Gt g10 u.cs):=WU.o.stays (hsame g10 WU.o.inside (hown _ HGA.o.1));have a2g:Hid (ax Gt g12 ub.cs):=xx.o.stays (hsame g12 xx.o.inside (hown _ HGM.o))
     have a1X:Hid (WL w (Vb wi aF M At x.t.length ct m) (.slice (some ⟨g6,o6,none⟩) l.length c6) l o7 B8 Gt):=Nh.o.step ⟨kK.os.trans hal.os,kK.tape.trans hal.tape,kK.output.trans hal.output,Nat.le_trans hal.size kK.size,fun q hq _=>hsame q (Nat.lt_of_lt_of_le hq Nh.o.lt.2.2) fun e=>by have:=(HOWN.o q e).1;omega⟩;have c13:w12.cell? ⟨o7,13,none⟩=some v3:=MX.o.cell 13;have i7:=MX.o.inside;have e13:Gt.cell? ⟨o7,13,none⟩=some v3:=Xk.o.cell 13;have f13:=Xk.o.free 13;have j7:=Xk.o.inside;clear hal hsame hown KQ kK hcl ZL
     go_upto_region 13 with (first|((with_reducible refine gU ?_);refine bZ _ _ rfl rfl (by simp[go_sem]) (Rh ub n.r _) ?_)|((with_reducible refine gB ?_);refine jQ _ _ _ rfl rfl (by simp[go_sem]) (a1u ⟨ub,n.r⟩ _) ?_)|first|(with_reducible refine gL ?_;first|(refine wt 54 0 rfl rfl rfl xx.o (ub.cs) rfl underlying54 rfl ?_)|(refine wt 56 9 rfl rfl rfl Fh.o (n.r.uM) rfl underlying56 rfl ?_))|(at_builtin;refine aY rfl _ _ 55 55 55 rfl rfl _ _ _ _ rfl rfl hrun ?_;clear hrun))
     have yu:Hid (ax (Gt.setCell ⟨o7,13,none⟩ (.slice Ax nx cx)) o7 (DC id (kR x l k) d.b (.slice Ax nx cx) d.o n0 A0 yl)):=Xk.o.set 13 _;have hkx:KX o7 Gt (Gt.setCell ⟨o7,13,none⟩ (.slice Ax nx cx)):=KX.wrote ⟨13,[.slice Ax nx cx],rfl⟩;have CG:Hid (ax (Gt.setCell ⟨o7,13,none⟩ (.slice Ax nx cx)) g9 (n.cs An cn)):=a1J.o.stays (hkx.same _ a1J.o.inside a5U.o);have HUE:Hid (ax (Gt.setCell ⟨o7,13,none⟩ (.slice Ax nx cx)) g10 u.cs):=a1C.o.stays (hkx.same _ a1C.o.inside a1Y.o)
     have XI:Hid (ax (Gt.setCell ⟨o7,13,none⟩ (.slice Ax nx cx)) g12 ub.cs):=a2g.o.stays (hkx.same _ a2g.o.inside XC.o);have XF:Hid (FZ (Gt.setCell ⟨o7,13,none⟩ (.slice Ax nx cx)) B8 (.slice Ax nx cx) (d.to n u).c.reverse):=ai.stays Zn.o fun g hg=>hkx.same g (ai.block Zn.o hg).2 (by have:=(ai.block Zn.o hg).1;have:=HLO.o;omega);have OZ:Hid (WL w (Vb wi aF M At x.t.length ct m) (.slice (some ⟨g6,o6,none⟩) l.length c6) l o7 B8 (Gt.setCell ⟨o7,13,none⟩ (.slice Ax nx cx))):=a1X.o.step (Lw.Uc hkx a1X.o.lt.2.2)
     generalize (Gt.setCell ⟨o7,13,none⟩ (.slice Ax nx cx))=wE at *;clear c7 c8 i9 c13 i7 e13 f13 j7 hkx Xk a1J a1C a2g Zn a1X Fh WU xx MX ZP Nh;have c14:=yu.o.c 14 rfl;have c6:wE.cell? ⟨g9,6,none⟩=some (.int .i64 (qo:Nat)):=by rw[← MQ.o.1];exact CG.o.cell 6
     have i7:=yu.o.inside;have i9:=CG.o.inside;have HBY:=Hd (Oq d.o qo HD.o.2 MQ.o.2 wE);go_wp2_with (fail);refine HBY.o.mono ?_;rintro e wF ⟨rfl,hd⟩;have HXF:Hid (KX o7 wE wF):=KX.of_below (hd.below _);have Xi:Hid (ax wF o7 (DC id (kR x l k) d.b (.slice Ax nx cx) d.o n0 A0 yl)):=yu.o.below' (hd.below _);clear hd c14 c6 i7 i9 HBY;have f14:=Xi.o.free 14;have c14:=Xi.o.c 14 rfl;have i7:=Xi.o.inside
     go_upto_region 14 with (fail)
     have HXG:Hid (KX o7 wE (wF.setCell ⟨o7,14,none⟩ (.int .i64 (jH d.o qo:Nat)))):=HXF.o.trans (KX.wrote ⟨14,[.int .i64 (jH d.o qo:Nat)],rfl⟩);have HOG:Hid (ax (wF.setCell ⟨o7,14,none⟩ (.int .i64 (jH d.o qo:Nat))) o7 (DC id (kR x l k) d.b (.slice Ax nx cx) (jH d.o qo) n0 A0 yl)):=Xi.o.set 14 _;clear f14 c14 i7 HXF Xi;generalize (wF.setCell ⟨o7,14,none⟩ (.int .i64 (jH d.o qo:Nat)))=wG at *;have HUG:Hid (ax wG g10 u.cs):=HUE.o.stays (HXG.o.same _ HUE.o.inside a1Y.o)
     go_upto_region 15 with (first|(with_reducible refine gL ?_;first|(refine wt 53 0 rfl rfl rfl HUG.o (u.cs) rfl underlying53 rfl ?_))|(with_reducible refine gS ?_;first|(refine au 53 _ _ rfl rfl rfl _ 1 rfl (u.cs) rfl (DC id (kR x l k) d.b (.slice Ax nx cx) (jH d.o qo) n0 A0 yl) HOG.o (DC id u d.b (.slice Ax nx cx) (jH d.o qo) n0 A0 yl) rfl (nE rfl) (by kernel_rfl) (Mp.one1 _) ?_;intro wH WR HKH)))
     have HBH:Hid (ax wH g12 ub.cs):=(XI.o.stays (HXG.o.same _ XI.o.inside XC.o)).stays (WR.o.far XC.o);go_wp2_with (first|(with_reducible refine gL ?_;first|(refine wt 54 0 rfl rfl rfl HBH.o (ub.cs) rfl underlying54 rfl ?_))|(with_reducible refine gS ?_;first|(refine au 54 _ _ rfl rfl rfl _ 7 rfl (ub.cs) rfl (DC id u d.b (.slice Ax nx cx) (jH d.o qo) n0 A0 yl) HKH.o (DC id u ub (.slice Ax nx cx) (jH d.o qo) n0 A0 yl) rfl (nE rfl) (by kernel_rfl) (Mp.one1 _) ?_;intro wI MK HKI)))
     have HXI:Hid (KX o7 wE wI):=(HXG.o.trans (KX.wrote WR.o)).trans (KX.wrote MK.o)
     go_roundw
     case rel=>exact⟨k+1,d.to n u,(.slice Ax nx cx),eU.o,by go_num,⟨HD1.o,RQ.o⟩,ai.stays XF.o fun g hg=>HXI.o.same g (ai.block XF.o hg).2 (by have:=(ai.block XF.o hg).1;have:=OZ.o.lt;omega),a15.o,by rw[HLS.o,HUB.o,tC.o.1,tC.o.2];exact HKI.o,OZ.o.step (Lw.Uc HXI.o OZ.o.lt.2.2)⟩
     case measure=>have:=eU.o;simp[intOf];omega
    ·have ZL:Hid ((d.to n u).c=d.c):=by unfold Dn.to;show(if n.cl=true then _ else _)=_;rw[if_neg hcl]
     have tC:Hid ((d.to n u).b=ub∧(d.to n u).o=jH d.o qo):=⟨DZ.o.1,by rw[← HQE.o];rfl⟩
     rw[show n.cl=false from by simpa using hcl] at c8;have XF:Hid (FZ w12 B8 v3 (d.to n u).c.reverse):=by rw[ZL.o];exact ZP.o
     have a15:Hid ((d.to n u).c.length<=k+1):=by rw[ZL.o];have:=Ju.o;show _<=_;omega
     go_upto_region 13 with (fail)
     have yu:=MX;have CG:=Fh;have HUE:=WU;have XI:=xx;have OZ:=Nh;clear c7 c8 i9 hcl ZL;have c14:=yu.o.c 14 rfl;have c6:w12.cell? ⟨g9,6,none⟩=some (.int .i64 (qo:Nat)):=by rw[← MQ.o.1];exact CG.o.cell 6
     have i7:=yu.o.inside;have i9:=CG.o.inside;have HBY:=Hd (Oq d.o qo HD.o.2 MQ.o.2 w12);go_wp2_with (fail);refine HBY.o.mono ?_;rintro e wF ⟨rfl,hd⟩;have HXF:Hid (KX o7 w12 wF):=KX.of_below (hd.below _);have Xi:Hid (ax wF o7 (DC id (kR x l k) d.b v3 d.o n0 A0 yl)):=yu.o.below' (hd.below _);clear hd c14 c6 i7 i9 HBY;have f14:=Xi.o.free 14;have c14:=Xi.o.c 14 rfl;have i7:=Xi.o.inside
     go_upto_region 14 with (fail)
     have HXG:Hid (KX o7 w12 (wF.setCell ⟨o7,14,none⟩ (.int .i64 (jH d.o qo:Nat)))):=HXF.o.trans (KX.wrote ⟨14,[.int .i64 (jH d.o qo:Nat)],rfl⟩);have HOG:Hid (ax (wF.setCell ⟨o7,14,none⟩ (.int .i64 (jH d.o qo:Nat))) o7 (DC id (kR x l k) d.b v3 (jH d.o qo) n0 A0 yl)):=Xi.o.set 14 _;clear f14 c14 i7 HXF Xi;generalize (wF.setCell ⟨o7,14,none⟩ (.int .i64 (jH d.o qo:Nat)))=wG at *;have HUG:Hid (ax wG g10 u.cs):=HUE.o.stays (HXG.o.same _ HUE.o.inside a1Y.o)
     go_upto_region 15 with (first|(with_reducible refine gL ?_;first|(refine wt 53 0 rfl rfl rfl HUG.o (u.cs) rfl underlying53 rfl ?_))|(with_reducible refine gS ?_;first|(refine au 53 _ _ rfl rfl rfl _ 1 rfl (u.cs) rfl (DC id (kR x l k) d.b v3 (jH d.o qo) n0 A0 yl) HOG.o (DC id u d.b v3 (jH d.o qo) n0 A0 yl) rfl (nE rfl) (by kernel_rfl) (Mp.one1 _) ?_;intro wH WR HKH)))
     have HBH:Hid (ax wH g12 ub.cs):=(XI.o.stays (HXG.o.same _ XI.o.inside XC.o)).stays (WR.o.far XC.o);go_wp2_with (first|(with_reducible refine gL ?_;first|(refine wt 54 0 rfl rfl rfl HBH.o (ub.cs) rfl underlying54 rfl ?_))|(with_reducible refine gS ?_;first|(refine au 54 _ _ rfl rfl rfl _ 7 rfl (ub.cs) rfl (DC id u d.b v3 (jH d.o qo) n0 A0 yl) HKH.o (DC id u ub v3 (jH d.o qo) n0 A0 yl) rfl (nE rfl) (by kernel_rfl) (Mp.one1 _) ?_;intro wI MK HKI)))
     have HXI:Hid (KX o7 w12 wI):=(HXG.o.trans (KX.wrote WR.o)).trans (KX.wrote MK.o)
     go_roundw
     case rel=>exact⟨k+1,d.to n u,v3,eU.o,by go_num,⟨HD1.o,RQ.o⟩,ai.stays XF.o fun g hg=>HXI.o.same g (ai.block XF.o hg).2 (by have:=(ai.block XF.o hg).1;have:=OZ.o.lt;omega),a15.o,by rw[HLS.o,HUB.o,tC.o.1,tC.o.2];exact HKI.o,OZ.o.step (Lw.Uc HXI.o OZ.o.lt.2.2)⟩
     case measure=>have:=eU.o;simp[intOf];omega
  ·obtain rfl:k=l.length:=by omega
   have t1:decide (l.length<l.length)=false:=by simp
   rw[List.take_length] at HD;rw[HLW.o] at HO
   have HDQ:Hid (bK x id=if d.o=0 then none else some d):=by
    show _=_;rw[HDW.o,HD.o.1,Option.filter_some];by_cases h:d.o=0<;>simp[h]
   obtain⟨lw,hlw⟩:∃lw,x.ws id=lw:=⟨_,rfl⟩
   rw[hlw] at HO;obtain⟨A3,c3,e3,-,-,hr3⟩:=ai.row rF.o Cl.aZ;have HV3:Hid (v3=.slice A3 d.c.reverse.length c3):=e3;have HR3:=Hd hr3;clear hlt hk HWH HLW HDW e3 hr3;have FO:Hid (∀W,KX (w.heap.size+1) wS W->ax W o7 (DC id (lw) (d.b) (v3) (d.o) n0 A0 yl)):=fun W hb=>HO.o.stays (hb.same _ HO.o.inside (by have:=HK.o.lt;omega))
   go_upto_region 16 with (fail)
   refine wR (KX (w.heap.size+1)) (fun L wx=>RV (w.heap.size+1) DI.zero.cs (DC id (lw) (d.b) (v3) (d.o) n0 A0 yl) (L 4) wx) [78,79,80,81,5] (fun _=>KX.refl _ _) (fun _ _ _ h k=>h.trans k) (fun i=>match i with
    |0=>rV (.agg (DC id (lw) (d.b) (v3) (d.o) n0 A0 yl).toArray)
    |1=>rp o7 14
    |2=>rV (.int .i64 (d.o:Nat))
    |3|5=>rV (.bool (decide (0<(d.o:Int))))
    | _=>ra) (KX.of_below bR.drew) (⟨fun _=>HK.o.b4.below' bR.drew,nofun⟩) ⟨?_,?_,?_,?_,?_,?_,trivial⟩ ?_
   any_goals (first|refine zp fun L a w1 hh=>?_|fail)
   ·have h7:=hh.p 7 o7 0;have hB:=Hd (FO.o _ hh.rel);have hJ:=Hd hh.st;exact aI 63 _ rfl o7 0 (by simpa[go_sem] using h7) _ hB.o (DC id (lw) (d.b) (v3) (d.o) n0 A0 yl) rfl _ underlying63 rfl (by kernel_rfl) ⟨_,rfl,KX.refl _ _,rfl,hJ.o⟩
   have h7:=hh.p 7 o7 0;have i0:=(FO.o _ hh.rel).inside;rotate_left;have h79:=rq (hh.d 1 79);have ⟨c0,i0⟩:=(FO.o _ hh.rel).ci 14 rfl;rotate_left;have h80:=rq (hh.d 2 80);rotate_left
   ·have h4:=hh.p 4 ((w.heap.size+1)) 0;have h78:=rq (hh.d 0 78);have qH:=hh.st.no hh.un;refine dn dU _ _ rfl (w.heap.size+1) 0 (by simpa[go_sem] using h4) (DC id (lw) (d.b) (v3) (d.o) n0 A0 yl) (by simpa[go_sem] using h78) _ qH (nE rfl) (by kernel_rfl) (by rw[HV3.o];rfl) ?_;intro w9 mV fV;exact⟨undef,rfl,KX.wrote mV,trivial,⟨nofun,fun _=>fV⟩⟩
   have h81:=rq (hh.d 3 81);rotate_left
   any_goals (have hJ:=hh.j;clear hh;go_simp;exact⟨_,rfl,KX.refl _ _,rfl,hJ.o⟩)
   intro L w5 val hL hJ hR hv;have h5:val 5=.bool (decide (0<(d.o:Int))):=hv 5 5 (by kernel_rfl);have jI:=Hd hR;have HV5:=Hd (hJ.yes (hL 4 (by decide)));clear hv hL hJ hR;simp only[regs.aA,List.map_cons,List.map_nil,h5];simp only[Act.put,List.setIfInBounds_toArray,List.set_cons_zero,List.set_cons_succ];clear h5
   skip
   have XI:Hid (bz w w5):=HK.o.bel.trans (jI.o.aP (by omega) HK.o.bel.size);have HC5:Hid (FZ w5 B8 v3 d.c.reverse):=ai.stays rF.o fun g hg=>jI.o.same g (ai.block rF.o hg).2 (by have:=(ai.block rF.o hg).1;have:=HK.o.lt;omega);go_wp2_with (fail)
   have hsome:decide (0<(d.o:Int))=(bK x id).isSome:=by
    rw[HDQ.o];by_cases h:d.o=0
    ·simp[h]
    ·simp[h];omega
   refine aH rfl rfl rfl HV5.o underlying63 rfl (by kernel_rfl) ⟨⟨⟨id,lw,d.b,d.c.reverse,d.o,n0.lk⟩,n0,A3,c3,A0,yl⟩,by rw[HV3.o,hsome];rfl,fun d' hd'=>?_,XI.o⟩
   have e:d'=d:=by
    rw[HDQ.o] at hd';split at hd'
    ·cases hd'
    ·exact(Option.some.inj hd').symm
   rw[e,hlw,X3.o];exact⟨rfl,rfl,FZ.a5n (by (try show Below _ _ _);rw[← HV3.o];exact HC5.o),a3O.o.below XI.o⟩
end
section
open Go.RowKit fK fZ aB Go.Maps
theorem a3t(q:DI)(w:World):(Instr.buildSlice yH 1 #[(0,.agg q.cs.toArray)]).run prog w=.ok (.slice (some ⟨w.heap.size,0,none⟩) 1 1) (w.alloc (.cells q.cs.toArray dU)):=by kernel_rfl
theorem YB:(prog.info? dU).map (fun i=>(i.zero,i.size,i.bytes))=some (some (.agg DI.zero.cs.toArray),35,304):=by kernel_rfl
theorem FY.stays{w w':World}{A:Option Addr}{l:List Cl}(h:FY w A l)(hb:∀a,A=some a->l≠[]->w'.heap[a.block]?=w.heap[a.block]?):FY w' A l:=⟨h.row.a0c hb,fun a ea hne=>by rw[hb a ea hne];exact h.typ a ea hne⟩
structure DQ(B:Nat)(w w':World):Prop where
 bel:Below B w w'
 same:∀(k:Nat) (cs:Array Value) (T:TypeId) (fz:Nat×Nat),w.heap[k]?=some (.cells cs T fz)->T≠dU->w'.heap[k]?=w.heap[k]?
theorem DQ.refl(B:Nat)(w:World):DQ B w w:=⟨bR,fun _ _ _ _ _ _=>rfl⟩
theorem DQ.trans{B:Nat}{w w1 w2:World}(h:DQ B w w1)(k:DQ B w1 w2):DQ B w w2:=⟨h.bel.trans k.bel,fun j cs T fz h1 h2=>by
 have h3:=h.same j cs T fz h1 h2
 exact(k.same j cs T fz (h3.trans h1) h2).trans h3⟩
theorem DQ.below{B:Nat}{w w':World}(hb:bz w w')(hB:B<=w.heap.size):DQ B w w':=⟨hb.mono hB,fun k _ _ _ h _=>hb.block k (Array.getElem?_eq_some_iff.1 h).1⟩
theorem DQ.off{B:Nat}{w w':World}{r:Option Nat}(hb:Below B w w')(hg:∀k,k<w.heap.size->r≠some k->w'.heap[k]?=w.heap[k]?)(hr:∀k,r=some k->∃cs fz,w.heap[k]?=some (.cells cs dU fz)):DQ B w w':=⟨hb,fun k cs T fz h hT=>hg k (Array.getElem?_eq_some_iff.1 h).1 fun e=>by
 obtain⟨cs',fz',h'⟩:=hr k e;have h1:=h.symm.trans h';simp only[Option.some.injEq,Obj.cells.injEq] at h1
 exact hT h1.2.1⟩
theorem FY.dq{B:Nat}{w w':World}{A:Option Addr}{l:List Cl}(h:FY w A l)(hr:DQ B w w'):FY w' A l:=h.stays fun a ea hne=>by
 obtain⟨cs,fz,h1⟩:=h.typ a ea hne;exact hr.same _ _ _ _ h1 (by decide)
theorem ng.dq{B:Nat}{w w':World}{A:Option Addr}{l:List Nat}(h:ng w A l)(hr:DQ B w w'):ng w' A l:=h.stays fun a ea hne=>by
 obtain⟨cs,fz,h1⟩:=h.typ a ea hne;exact hr.same _ _ _ _ h1 (by decide)
def xB(w:World)(q:DI):Prop:=FY w q.Ac q.it.c∧ng w q.A q.n.lk.l∧q.n.lk=q.it.lk
theorem xB.dq{B:Nat}{w w':World}{q:DI}(h:xB w q)(hr:DQ B w w'):xB w' q:=⟨h.1.dq hr,h.2.1.dq hr,h.2.2⟩
structure DIs(w:World)(base:Nat)(v:Value)(l:List DI):Prop where
 own:ai dU 35 DI.cs w base v l
 at_:∀q∈l,xB w q
theorem DIs.below{w w':World}{base:Nat}{v:Value}{l:List DI}(h:DIs w base v l)(hb:bz w w'):DIs w' base v l:=⟨h.own.below hb,fun q hq=>(h.at_ q hq).dq (DQ.below hb nR)⟩
theorem DIs.app{w:World}{base:Nat}{v:Value}{l:List DI}(h:DIs w base v l)(q:DI){g c:Nat}(hx:aS 35 DI.cs w (some ⟨g,0,none⟩) [q])(hq:xB w q)(hn:l.length<=2000)(hbase:base<=w.heap.size) :
  ∃v' w',(Builtin.append_ #[yH,yH] yH #[v,.slice (some ⟨g,0,none⟩) 1 c]).run prog w=.ok v' w'∧DIs w' base v' (l++[q])∧Below base w w':=by
 obtain⟨v',w',h1,h2,h3,-⟩:=ai.app (P:=prog) (xs:=[q]) (c:=c) (g:=g) (o:=0) underlying35 YB rfl (by decide) (by decide) DI.aZ (fun q u hu=>List.all_eq_true.1 (DI.one q) u hu) h.own (fun _=>hx) (by simp;omega) hbase;have hb:Below base w w':=bR.grown h3 hbase fun k hk=>(h.own.block hk).1
 have hr:DQ base w w':=DQ.off hb (fun k hk hn=>h3.block k hk (Ne.symm hn)) fun k hk=>by
  obtain⟨cur,h4⟩:=h.own.typed hk;exact⟨cur,_,h4⟩
 refine⟨v',w',h1,⟨h2,fun p hp=>?_⟩,hb⟩;rcases List.mem_append.1 hp with hp|hp
 ·exact(h.at_ p hp).dq hr
 ·rw[List.mem_singleton.1 hp];exact hq.dq hr
structure QJ(B:Nat)(iA iS:Bool)(vA vC:Value)(w:World):Prop where
 iy:B<=w.heap.size
 ex:iA=true->∃g cs,vA=.pointer (some ⟨g,0,none⟩)∧B<=g∧ak w g cs dU∧cs.length=35∧(iS=true->vC=.agg cs.toArray)
section
variable {B:Nat}{iA iS:Bool}{vA vC uA uC:Value}{w w':World}
theorem QJ.slots(h:QJ B iA iS vA vC w)(e1:uA=vA)(e2:uC=vC):QJ B iA iS uA uC w:=by rw[e1,e2];exact h
theorem QJ.below(h:QJ B iA iS vA vC w)(hb:bz w w'):QJ B iA iS vA vC w':=⟨Nat.le_trans h.iy hb.size,fun e=>by
 obtain⟨g,cs,h1,h2,h3,h4⟩:=h.ex e
 exact⟨g,cs,h1,h2,h3.stays (hb.block _ h3.inside),h4⟩⟩
theorem QJ.told(h:QJ B iA iS vA vC w)(eS:iS=false)(e1:uA=vA):QJ B iA iS uA uC w:=⟨h.iy,fun e=>by
 obtain⟨g,cs,h1,h2,h3,h4,_⟩:=h.ex e
 exact⟨g,cs,e1.trans h1,h2,h3,h4,fun e=>by rw[eS] at e;cases e⟩⟩
theorem QJ.made(h:QJ B iA iS vA vC w)(eS:iS=false)(e1:uA=.pointer (some ⟨w.heap.size,0,none⟩)):QJ B true iS uA uC (w.alloc (.cells DI.zero.cs.toArray dU)):=
 ⟨Nat.le_trans h.iy (by simp),fun _=>⟨w.heap.size,_,e1,h.iy,ak.new w DI.zero.cs dU,rfl,fun e=>by rw[eS] at e;cases e⟩⟩
theorem QJ.put{cs':List Value}{g:Nat}{cs:List Value}(h:QJ B iA iS vA vC w)(e1:vA=.pointer (some ⟨g,0,none⟩))(hg:B<=g)(hb:ak w g cs dU)(hW:Wrote g w w')(hB:ax w' g cs')(hl:cs'.length=35)(ev:vC=.agg cs'.toArray):QJ B iA true vA vC w'∧DQ B w w':=
 ⟨⟨by rw[hW.size];exact h.iy,fun _=>⟨g,cs',e1,hg,hb.wrote hW hB,hl,fun _=>ev⟩⟩,DQ.off (r:=some g) (hW.below bR hg) (fun k _ hn=>hW.far fun e=>hn (by rw[e])) fun k hk=>by
  rw[← Option.some.inj hk]
  exact⟨_,_,hb⟩⟩
end
def pg(x:aJ)(j:Int)(q:DI)(w:World):Prop:=∀d,bK x j=some d->q.it=⟨j,x.ws j,d.b,d.c.reverse,d.o,(x.nd j).lk⟩∧xB w q
theorem pg.dq{B:Nat}{w w':World}{x:aJ}{j:Int}{q:DI}(h:pg x j q w)(hr:DQ B w w'):pg x j q w':=fun d hd=>⟨(h d hd).1,(h d hd).2.dq hr⟩
def Nq(x:aJ)(w:World)(e:Ending)(w':World):Prop:=∃A c l,e=.returned (.slice A (l:List DI).length c)∧aS 35 DI.cs w' A l∧(∀q∈l,xB w' q)∧l.map (·.it)=items x∧bz w w'
theorem QP{w:World}{x:aJ}(hx:sN x)(hn:x.t.length<=900)(v:Value)(wi aF M:Int)(hd:eF w v wi aF M x) :
  Calls prog 9 #[v] w (Nq x w):=by
 unfold Nq;have HX:=Hd hx;have HN:=Hd hn;obtain⟨tv,m,rfl,ht,hm⟩:=hd;obtain⟨At,ct,rfl,hr,hy⟩:=ht
 have HDA:Hid (eF w (.agg (Vb wi aF M At x.t.length ct m).toArray) wi aF M x):=⟨_,m,rfl,⟨At,ct,rfl,hr,hy⟩,hm⟩
 have HR:=Hd hr;have nJ:Hid ((aB.walk x.t 0).length<=1000):=by have:=tH hx.ok;show _<=_;omega
 have HLH:Hid (∀i∈aB.walk x.t 0,has x.t i=true):=fun i hi=>(jh hx.ok).1 hi;clear hr hm hy;have HB0:Hid (bz w (w.alloc (.cells (Vb wi aF M At x.t.length ct m).toArray 30))):=bR.alloc nR _;have jJ:Hid (ax (w.alloc (.cells (Vb wi aF M At x.t.length ct m).toArray 30)) w.heap.size (Vb wi aF M At x.t.length ct m)):=ay w (Vb wi aF M At x.t.length ct m) _;go_enter func9,ntmps9
 go_upto_region 2 with (fail)
 generalize (w.alloc (.cells (Vb wi aF M At x.t.length ct m).toArray 30))=w0 at *;have c3:=jJ.o.c 3 rfl;have i0:=jJ.o.inside;have HDK:=Hd (Oe At x.t ct hx.ok (by omega) (x.t.length+1) 0 w0 (aS.below HR.o HB0.o) (.inl rfl) (by omega));clear hx hn;go_wp2_with (fail);refine HDK.o.mono ?_;unfold oh;rintro e w1 ⟨v4,rfl,Sr,hb1⟩;have HB1:=Hd (HB0.o.trans (hb1.mono HB0.o.size));have ed:=Hd (jJ.o.below' hb1);have Xj:Hid (aO w1 w0.heap.size v4 (aB.walk x.t 0)):=Sr;obtain⟨A6,c6,rfl,-,-,-⟩:=aO.kP Sr
 have HIT:Hid (items x=(aB.walk x.t 0).filterMap (dB x)):=rfl
 obtain⟨LL,hLL⟩:∃LL,aB.walk x.t 0=LL:=⟨_,rfl⟩
 rw[hLL] at nJ HLH Xj HIT ⊢;clear hLL Sr hb1 c3 i0 HB0 jJ HDK;go_wp2_with (fail)
 go_loopw [3,5] (fun x3 x5 wr=>∃(k:Nat) (l3:List DI),k<=LL.length∧x5=.int .i64 k∧Hid (DIs wr w1.heap.size x3 l3)∧Hid (l3.map (·.it)=(LL.take k).filterMap (dB x))∧Hid (bz w1 wr)) (fun _ x5 _=>LL.length - (intOf x5).toNat)
 case atStart=>exact⟨0,[],Nat.zero_le _,rfl,⟨ai.nil _ _,fun _ h=>nomatch h⟩,rfl,bR⟩
 case round=>
  obtain⟨k,l3,hk,rfl,HI,HE,Bz⟩:=hrel;generalize wr=wS at *;by_cases hlt:k<LL.length
  ·have t1:decide (k<LL.length)=true:=by simpa using hlt
   have eU:=Hd hlt
   obtain⟨j,hj⟩:∃j,j=LL[k]'hlt:=⟨_,rfl⟩
   have HJM:Hid (has x.t j=true):=HLH.o j (by rw[hj];exact List.getElem_mem hlt);have rD:Hid ((LL.take (k+1)).filterMap (dB x)=(LL.take k).filterMap (dB x)++(dB x j).toList):=by rw[hj];exact pU (dB x) hlt
   have HOS:Hid (aO wS w0.heap.size (.slice A6 LL.length c6) LL):=ai.stays Xj.o fun g hg=>Bz.o.block g (ai.block Xj.o hg).2;obtain⟨A6',c6',e6,-,-,hr6⟩:=aO.kP HOS.o;have e7:A6=A6':=by injection e6
   subst e7;clear e6;obtain⟨g6,o6,rfl,-⟩:=hr6.at_ hlt;have vz:=Hd hr6;have FI:Hid (∀W,bz wS W->W.cell? ⟨g6,o6+k,none⟩=some (.int .i64 j)):=fun W hb=>by rw[hj];exact GL (Row.below vz.o hb) eU.o
   have RU:=Hd (HB1.o.trans (Bz.o.mono HB1.o.size));have FS:Hid (∀W,bz wS W->ax W w.heap.size (Vb wi aF M At x.t.length ct m)):=fun W hb=>(ed.o.stays (Bz.o.block _ ed.o.inside)).below' hb
   obtain⟨sk,hsk⟩:∃sk,(bK x j).isSome=sk:=⟨_,rfl⟩
   have FW:Hid (∀W,bz wS W->Calls prog 30 #[.agg (Vb wi aF M At x.t.length ct m).toArray,.int .i64 j] W fun e w'=>∃q:DI,e=.returned (.tuple #[.agg q.cs.toArray,.bool sk])∧pg x j q w'∧bz W w'):=fun W hb=>by
    refine(VK HX.o HN.o _ wi aF M (HDA.o.below (RU.o.trans (hb.mono RU.o.size))) j HJM.o).mono ?_;unfold WI;rintro e w' ⟨q,h1,h2,h3⟩;rw[hsk] at h1;refine⟨q,h1,fun d hd=>?_,h3⟩;obtain⟨k1,k2,k3,k4⟩:=h2 d hd;exact⟨k1,k3,k4,by rw[k1,k2]⟩
   have HSK:=Hd hsk;have hkb:(k:Int)<=1000:=by have:=nJ.o;omega
   clear hj hlt hk hsk hr6
   go_upto_region 6 with (fail)
   refine JP (DQ wS.heap.size) (fun L V wx=>QJ wS.heap.size (L 9) (L 10) (V 6) (V 24) wx∧(L 10=true->L 7=true)∧(L 10=true->L 9=true)) [18,19,20,21,22,23,17,24,25,6,7] (fun _=>DQ.refl _ _) (fun _ _ _ h k=>h.trans k) (fun i=>match i with
    |0=>rV (.agg ((Vb wi aF M At x.t.length ct m)).toArray)
    |1=>rV (.slice (some ⟨g6,o6,none⟩) LL.length c6)
    |2=>rV (.int .i64 (k:Nat))
    |3=>rV (.pointer (some ⟨g6,(o6+k),none⟩))
    |4=>rV (.int .i64 j)
    | 5=>(⟨fun v wv=>∃q9,v=.tuple #[.agg (DI.cs q9).toArray,.bool sk]∧pg x j q9 wv,fun v q1 q2 h hb=>h.elim fun q9 h=>⟨q9,h.1,h.2.dq hb⟩⟩:regs.jO (DQ wS.heap.size))
    | 6=>(⟨fun v wv=>∃q9,v=.tuple #[.agg (DI.cs q9).toArray,.bool sk]∧pg x j q9 wv,fun v q1 q2 h hb=>h.elim fun q9 h=>⟨q9,h.1,h.2.dq hb⟩⟩:regs.jO (DQ wS.heap.size))
    | 7=>(⟨fun v wv=>∃q9,v=.agg (DI.cs q9).toArray∧pg x j q9 wv,fun v q1 q2 h hb=>h.elim fun q9 h=>⟨q9,h.1,h.2.dq hb⟩⟩:regs.jO (DQ wS.heap.size))
    |8|11=>rV (.bool sk)
    | _=>ra) (DQ.below bR.drew nR) (⟨⟨nR,fun e=>nomatch e⟩,nofun,nofun⟩) ⟨?_,?_,?_,?_,?_,?_,?_,?_,?_,?_,?_,?_,trivial⟩ ?_
   any_goals (first|refine fC fun L a w1 hh=>?_|fail)
   ·have h1:=hh.p 1 w.heap.size 0;have hB:=Hd (FS.o _ hh.rel.bel);have hJ:=Hd hh.st;exact aI 30 _ rfl w.heap.size 0 (by simpa[go_sem] using h1) _ hB.o ((Vb wi aF M At x.t.length ct m)) rfl _ underlying30 rfl (by kernel_rfl) ⟨_,rfl,DQ.refl _ _,rfl,⟨QJ.slots hJ.o.1 sn sn,hJ.o.2⟩⟩
   have h4:=hh.o 4 (v:=.slice (some ⟨g6,o6,none⟩) LL.length c6) rfl;rotate_left;have h5:=hh.o 5 (v:=.int .i64 (k:Nat)) rfl;rotate_left;have h19:=rq (hh.d 1 19);have h20:=rq (hh.d 2 20);have hlt:=eU.o;rotate_left;have h21:=rq (hh.d 3 21);have c0:=FI.o _ hh.rel.bel;have i0:=World.block_lt_of_cell? w1 ⟨g6,_,none⟩ c0;rotate_left
   ·have h18:=rq (hh.d 0 18);have h22:=rq (hh.d 4 22);have hC:=Hd (FW.o _ hh.rel.bel);have hbz:=Hd (show wS.heap.size<=w1.heap.size from hh.rel.bel.size);have hJ:=Hd hh.st;have hsz:=Hd hh.size;have hun:=Hd hh.un;clear hh;go_simp;refine hC.o.mono ?_;rintro e w9 ⟨q9,rfl,N9,aU⟩;exact⟨_,rfl,DQ.below aU hbz.o,⟨q9,rfl,N9⟩,⟨QJ.slots (QJ.below hJ.o.1 aU) sn sn,hJ.o.2⟩⟩
   ·obtain⟨q8,e8,sD⟩:=(show ∃q9,(a.tmps.getD 23 undef)=.tuple #[.agg (DI.cs q9).toArray,.bool sk]∧pg x j q9 w1 from hh.d 5 23)
    have h23:a.tmps[23]?.getD undef=.tuple #[.agg (DI.cs q8).toArray,.bool sk]:=rq (e8);have JE:=Hd sD;have hJ:=Hd hh.st;have hsz:=Hd hh.size;have hun:=Hd hh.un;clear hh e8 sD;go_simp;exact⟨_,rfl,DQ.refl _ _,⟨q8,rfl,JE.o⟩,⟨QJ.slots hJ.o.1 sn sn,hJ.o.2⟩⟩
   ·obtain⟨q8,e8,sD⟩:=(show ∃q9,(a.tmps.getD 17 undef)=.tuple #[.agg (DI.cs q9).toArray,.bool sk]∧pg x j q9 w1 from hh.d 6 17)
    have h17:a.tmps[17]?.getD undef=.tuple #[.agg (DI.cs q8).toArray,.bool sk]:=rq (e8);have JE:=Hd sD;have MZ:=Hd (bQ hh.st.2.1 hh.un);have hJ:=Hd hh.st;have hsz:=Hd hh.size;have hun:=Hd hh.un;clear hh e8 sD;go_simp;exact⟨_,rfl,DQ.refl _ _,⟨q8,rfl,JE.o⟩,⟨QJ.told hJ.o.1 MZ.o sn,fun _=>rfl,hJ.o.2.2⟩⟩
   ·obtain⟨q8,e8,sD⟩:=(show ∃q9,(a.tmps.getD 17 undef)=.tuple #[.agg (DI.cs q9).toArray,.bool sk]∧pg x j q9 w1 from hh.d 6 17)
    have h17:a.tmps[17]?.getD undef=.tuple #[.agg (DI.cs q8).toArray,.bool sk]:=rq (e8);have JE:=Hd sD;have hJ:=Hd hh.st;have hsz:=Hd hh.size;have hun:=Hd hh.un;clear hh e8 sD;go_simp;exact⟨_,rfl,DQ.refl _ _,rfl,⟨QJ.slots hJ.o.1 sn sn,hJ.o.2⟩⟩
   ·have MZ:=Hd (bQ hh.st.2.2 hh.un);have hbz:=Hd (show wS.heap.size<=w1.heap.size from hh.rel.bel.size);have hJ:=Hd hh.st;have hsz:=Hd hh.size;have hun:=Hd hh.un;clear hh;go_simp;exact⟨_,rfl,DQ.below (bR.alloc nR _) hbz.o,trivial,⟨QJ.made hJ.o.1 MZ.o (bI.aW (by rw[hsz.o];simp)),hJ.o.2.1,fun _=>rfl⟩⟩
   ·have hup:=hh.up 9 (by kernel_rfl);obtain⟨g9,c9,Sl,kK,fV,Su,-⟩:=hh.st.1.ex hup
    obtain⟨q8,e8,sD⟩:=(show ∃q9,(a.tmps.getD 24 undef)=.agg (DI.cs q9).toArray∧pg x j q9 w1 from hh.d 7 24)
    have vg:a.tmps[24]?.getD undef=.agg (DI.cs q8).toArray:=rq (e8);have JE:=Hd sD;have h6:a.tmps[6]?.getD undef=.pointer (some ⟨g9,0,none⟩):=rq (Sl);have hJ:=Hd hh.st;have UM:=Hd (hh.up 7 (by kernel_rfl));refine dn dU _ _ rfl g9 0 (by simpa[go_sem] using h6) q8.cs (by simpa[go_sem] using vg) _ fV.blk (by rw[Su,DI.aZ];decide) (by kernel_rfl) (DI.one _) ?_;intro w9 mV Cc
    have UW:ax w9 g9 q8.cs:=by
     have e:c9.take 0++q8.cs++c9.drop (0+q8.cs.length)=q8.cs:=by rw[DI.aZ,List.drop_of_length_le (by rw[Su];decide)];simp
     rw[← e];exact Cc
    have hP:=hJ.o.1.put Sl kK fV mV UW (DI.aZ _) e8;exact⟨undef,rfl,hP.2,trivial,⟨hP.1,fun _=>UM.o,fun _=>hup⟩⟩
   have yL:=rq (hh.d 8 25);rotate_left
   any_goals (have hJ:=hh.j;clear hh;go_simp;exact⟨_,rfl,DQ.refl _ _,rfl,⟨QJ.slots hJ.o.1 sn sn,hJ.o.2⟩⟩)
   intro L w6 val hL hJ hR hv;have h7:val 7=.bool sk:=hv 11 7 (by kernel_rfl);have vz:=Hd hR;obtain⟨gq,cq,eq,hgq,hbq,hlq,hvq⟩:=hJ.1.ex (hL 9 (by decide));obtain⟨q,ev,hgr⟩:∃q9,val 24=.agg (DI.cs q9).toArray∧pg x j q9 w6:=hv 7 24 (by kernel_rfl)
   have hcq:cq=q.cs:=by
    have h1:=(hvq (hL 10 (by decide))).symm.trans ev
    injection h1 with h1
    have h2:=congrArg Array.toList h1
    simpa using h2
   subst hcq;have HBQ:=Hd hbq.blk;have HGR:=Hd hgr;clear hv hL hJ hR hgq hbq hlq hvq ev hgr;simp only[regs.aA,List.map_cons,List.map_nil,h7];simp only[Act.put,List.setIfInBounds_toArray,List.set_cons_zero,List.set_cons_succ];clear h7
   skip
   rw[eq];clear eq;have uZ:Hid (bz w1 w6):=Bz.o.trans (vz.o.bel.mono Bz.o.size);have HI6:=Hd (HI.o.below vz.o.bel);have c28:=HBQ.o.c 28 rfl;have i6:=HBQ.o.inside;clear vz FI FS FW RU HOS HI Bz;cases sk with
   | false=>
    have HNI:Hid (dB x j=none):=by
     show _=_;have h:=HSK.o;unfold dB;cases hd:bK x j with
     | none=>rfl
     | some d=>rw[hd] at h;cases h
    clear HSK HGR;go_wp2_with (fail)
    go_roundw
    case rel=>exact⟨k+1,l3,eU.o,by go_num,HI6.o,by show _=_;rw[rD.o,HNI.o,HE.o];simp,uZ.o⟩
    case measure=>have:=eU.o;simp[intOf];omega
   | true=>
    obtain⟨d,hd⟩:=Option.isSome_iff_exists.1 HSK.o;obtain⟨hqi,hqa⟩:=HGR.o d hd;have HQA:=Hd hqa
    have ZF:Hid (dB x j=if q.n.lk.k=0 then none else some q.it):=by
     show _=_;unfold dB;rw[hd,Option.bind_some,hqa.2.2,hqi]
    clear hd hqi hqa HSK HGR;by_cases h0:q.n.lk.k=0
    ·have t2:(q.n.lk.k != 0)=false:=by simpa using h0
     have HNI:Hid (dB x j=none):=ZF.o.trans (if_pos h0);clear h0 ZF;go_wp2_with (fail)
     go_roundw
     case rel=>exact⟨k+1,l3,eU.o,by go_num,HI6.o,by show _=_;rw[rD.o,HNI.o,HE.o];simp,uZ.o⟩
     case measure=>have:=eU.o;simp[intOf];omega
    ·have t2:(q.n.lk.k != 0)=true:=by simpa using h0
     have HNI:Hid (dB x j=some q.it):=ZF.o.trans (if_neg h0);have hal:bz w6 (w6.alloc (.cells q.cs.toArray dU)):=bR.alloc nR _
     obtain⟨v9,w9,hrun,hi9,aU⟩:=(HI6.o.below hal).app q (g:=w6.heap.size) (c:=1) (pJ DI.aZ (by simpa using ay w6 q.cs dU)) (HQA.o.dq (DQ.below hal nR)) (by
      have h1:=congrArg List.length HE.o;rw[List.length_map] at h1;have h2:=List.length_filterMap_le (dB x) (LL.take k);rw[List.length_take] at h2;have h3:=nJ.o
      omega) (Nat.le_trans uZ.o.size hal.size)
     have HI9:=Hd hi9;have sS:Hid (bz w1 w9):=(uZ.o.trans (hal.mono uZ.o.size)).trans aU;have HQB:=HBQ;clear h0 ZF hal hi9 aU;go_wp2_with (first|((with_reducible refine gB ?_);refine jQ _ _ _ rfl rfl (by simp[go_sem]) (a3t q _) ?_)|first|(with_reducible refine gL ?_;first|(refine wt 63 0 rfl rfl rfl HQB.o (q.cs) rfl underlying63 rfl ?_))|(at_builtin;refine aY rfl _ _ 35 35 35 rfl rfl _ _ _ _ rfl rfl hrun ?_;clear hrun))
     go_roundw
     case rel=>exact⟨k+1,l3++[q],eU.o,by go_num,HI9.o,by show _=_;rw[rD.o,HNI.o,List.map_append,HE.o];rfl,sS.o⟩
     case measure=>have:=eU.o;simp[intOf];omega
  ·obtain rfl:k=LL.length:=by omega
   have t1:decide (LL.length<LL.length)=false:=by simp
   rw[List.take_length] at HE;obtain⟨A9,c9,rfl,-,-,KP⟩:=ai.row HI.o.own DI.aZ;have CE:=Hd KP;clear hlt hk KP;go_wp2_with (fail);go_ret;exact⟨A9,c9,l3,rfl,CE.o,HI.o.at_,by rw[HE.o,HIT.o],HB1.o.trans (Bz.o.mono HB1.o.size)⟩
end
end Go.Proofs.YtekdoeilpheklaaGreat
