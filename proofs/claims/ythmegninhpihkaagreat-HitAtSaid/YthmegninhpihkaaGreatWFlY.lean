import Derived.Test.YthmegninhpihkaaGreatWFlV
set_option maxHeartbeats 16000000
set_option maxRecDepth 100000
open Go.Proofs.Tryz
namespace Go.Proofs.YthmegninhpihkaaGreat
section
open Go.RowKit fF fO aF Go.Maps
abbrev eF:TypeId:=48
abbrev yX:TypeId:=33
abbrev sV:TypeId:=158
abbrev Oo:TypeId:=39
def DC(i:Int)(u b:Mp)(v:Value)(o:Nat)(n:Nd)(A:Option Addr)(c:Nat):List Value:=[.int .i64 i,.int .i64 u.a,.int .i64 u.b,.int .i64 u.c,.int .i64 u.d,.int .i64 u.e,.int .i64 u.f,.int .i64 b.a,.int .i64 b.b,.int .i64 b.c,.int .i64 b.d,.int .i64 b.e,.int .i64 b.f,v,.int .i64 (o:Nat)]++n.cs A c
structure DI where
 it:It
 n:Nd
 Ac:Option Addr
 cc:Nat
 A:Option Addr
 c:Nat
def DI.cs(q:DI):List Value:=DC q.it.i q.it.w q.it.b (.slice q.Ac q.it.c.length q.cc) q.it.o q.n q.A q.c
theorem DI.bF(q:DI):q.cs.length=35:=rfl
theorem DI.one(q:DI):q.cs.all (·.oneCell')=true:=rfl
def DI.zero:DI:=⟨⟨0,Mp.o,Mp.o,[],0,⟨0,0,0,0,0,0,[]⟩⟩,Nd.zero,none,0,none,0⟩
theorem WX(i:Int)(n:Nd)(A:Option Addr)(c:Nat)(w:World):(Instr.build eF #[(0,.int .i64 i),(4,.int .i64 255),(5,.agg (n.cs A c).toArray)]).run prog w=.ok (.agg (DC i Mp.o Mp.o (.slice none 0 0) 255 n A c).toArray) w:=by kernel_rfl
theorem Es(w:World):(Instr.build eF #[]).run prog w=.ok (.agg DI.zero.cs.toArray) w:=by kernel_rfl
theorem Su(u:Mp)(r:Bx)(w:World):(Instr.build sV #[(0,.agg u.cs.toArray),(1,.agg r.Eo.toArray)]).run prog w=.ok (.agg (Cl.cs ⟨u,r⟩).toArray) w:=by kernel_rfl
theorem a1S(q:Cl)(w:World):(Instr.buildSlice Oo 1 #[(0,.agg q.cs.toArray)]).run prog w=.ok (.slice (some ⟨w.heap.size,0,none⟩) 1 1) (w.alloc (.cells q.cs.toArray sV)):=by kernel_rfl
theorem VQ:(prog.info? sV).map (fun i=>(i.zero,i.size,i.bytes))=some (some (.agg #[.int .i64 0,.int .i64 0,.int .i64 0,.int .i64 0,.int .i64 0,.int .i64 0,.int .i64 0,.int .i64 0,.int .i64 0,.int .i64 0]),10,80):=by kernel_rfl
abbrev GM(w:World)(base:Nat)(v:Value)(l:List Cl):Prop:=ak sV 10 Cl.cs w base v l
structure Lw(x B:Nat)(A W:World):Prop where
 os:W.os=A.os
 tape:W.tape=A.tape
 output:W.output=A.output
 size:A.heap.size<=W.heap.size
 same:∀k,k<B->k≠x->W.heap[k]?=A.heap[k]?
theorem Lw.of_below{x B:Nat}{A W:World}(h:bz A W)(hs:B<=A.heap.size):Lw x B A W:=⟨h.os,h.tape,h.output,h.size,fun k hk _=>h.block k (Nat.lt_of_lt_of_le hk hs)⟩
theorem Lw.UR{x B:Nat}{A W:World}(h:KX x A W)(hs:B<=A.heap.size):Lw x B A W:=⟨h.os,h.tape,h.output,h.size,fun k hk hn=>h.same k (Nat.lt_of_lt_of_le hk hs) hn⟩
theorem Lw.uJ{x B:Nat}{A W:World}{r:Option Nat}(h:A.grownBy W r)(hr:∀k,r=some k->B<=k)(hs:B<=A.heap.size):Lw x B A W:=⟨h.os,h.tape,h.output,h.size,fun k hk _=>h.block k (Nat.lt_of_lt_of_le hk hs) fun e=>by have:=hr k e.symm;omega⟩
theorem H7{w:World}{g o k:Nat}{l:List Int}(h:Row eI w (some ⟨g,o,none⟩) l)(hk:k<l.length):w.cell? ⟨g,o+k,none⟩=some (.int .i64 l[k]):=by
 obtain⟨g',o',e,h1⟩:=h.at_ hk;cases e;exact h1
structure Xp(w:World)(cs2:List Value)(v6:Value)(l:List Int)(o7 B:Nat)(W:World):Prop where
 bel:bz w W
 b2:aA W w.heap.size cs2
 b4:aA W (w.heap.size+1) DI.zero.cs
 own:aP W (w.heap.size+2) v6 l
 lt:w.heap.size+2<=o7∧o7<B∧B<=W.heap.size
 v6:∀g,v6.ownBlock=some g->g<o7
theorem Xp.step{w:World}{cs2:List Value}{v6:Value}{l:List Int}{o7 B:Nat}{W W':World}(h:Xp w cs2 v6 l o7 B W)(k:Lw o7 B W W'):Xp w cs2 v6 l o7 B W':=by
 have hl:=h.lt
 exact⟨⟨k.os.trans h.bel.os,k.tape.trans h.bel.tape,k.output.trans h.bel.output,Nat.le_trans h.bel.size k.size,fun j hj=>(k.same j (by omega) (by omega)).trans (h.bel.block j hj)⟩,h.b2.stays (k.same _ (by omega) (by omega)),h.b4.stays (k.same _ (by omega) (by omega)),
  ak.stays h.own fun g hg=>k.same g (by have:=h.v6 g hg;omega) (by have:=h.v6 g hg;omega),⟨hl.1,hl.2.1,Nat.le_trans hl.2.2 k.size⟩,h.v6⟩
theorem Xp.below{w:World}{cs2:List Value}{v6:Value}{l:List Int}{o7 B:Nat}{W W':World}(h:Xp w cs2 v6 l o7 B W)(hb:bz W W'):Xp w cs2 v6 l o7 B W':=h.step (Lw.of_below hb h.lt.2.2)
def lq(x:aJ)(l:List Int)(k:Nat):Mp:=((l.take k).getLast?.map x.ws).getD Mp.o
theorem LP(x:aJ){l:List Int}{k:Nat}(hk:k<l.length):lq x l (k+1)=x.ws l[k]:=by
 unfold lq;rw[List.take_succ_eq_append_getElem hk,List.getLast?_append];rfl
theorem WM{x:aJ}{l:List Int}{k:Nat}(hk:k<l.length){d d0:Dn}(h:Dl x (l.take k) d0=some d):Dl x (l.take (k+1)) d0=pX (x.nd l[k]) (x.ws l[k]) d:=by
 rw[List.take_succ_eq_append_getElem hk,zo,h,Option.bind_some,Dl];cases pX (x.nd l[k]) (x.ws l[k]) d<;>rfl
theorem WN{x:aJ}{l:List Int}{k:Nat}{d0:Dn}(h:Dl x (l.take k) d0=none):Dl x l d0=none:=by
 rw[←List.take_append_drop k l,zo,h];rfl
theorem Uf(x:aJ)(i:Int)(hi:i=0∨i∈ids x.t)(ok:Ok x.t):lq x (gz x.t i) (gz x.t i).length=x.ws i:=by
 unfold lq;rw[List.take_length];rcases hi with e|e
 ·rw[e,Ug];rfl
 ·rw[zL ok e,List.getLast?_append];rfl
theorem YD{x:aJ}(ok:Ok x.t){i:Int}(hi:i=0∨i∈ids x.t):∀j∈gz x.t i,has x.t j=true:=by
 intro j hj;unfold gz at hj;rw[List.mem_cons,List.mem_reverse]at hj;rcases hj with e|e
 ·exact aj.2 (.inl e)
 ·exact aj.2 (.inr (AA ok hi e))
structure GL(w:World)(A:Option Addr)(l:List Cl):Prop where
 row:aU 10 Cl.cs w A l
 typ:∀a,A=some a->l≠[]->∃cs fz,w.heap[a.block]?=some (.cells cs sV fz)
theorem GM.a5N{w:World}{B c n:Nat}{A:Option Addr}{l:List Cl}(h:GM w B (.slice A n c) l):GL w A l:=by
 obtain⟨A',c',e',-,-,hr⟩:=ak.row h Cl.bF;have e:A=A':=by injection e'
 refine⟨e ▸ hr,fun a ea hne=>?_⟩
 have h1:(Value.slice A n c).ownBlock=some a.block∨l=[]:=by
  rcases h.2 with ⟨e1,e2⟩|⟨g,cap,cur,e1,-⟩
  ·exact .inr (List.eq_nil_of_length_eq_zero e2)
  ·have e3:A=some ⟨g,0,none⟩:=by injection e1
   rw[ea]at e3;rw[ea,Option.some.inj e3];exact .inl rfl
 obtain⟨cur,h2⟩:=h.typed (h1.resolve_right hne);exact⟨cur,_,h2⟩
def Xo(x:aJ)(id:Int)(w:World)(e:Ending)(w':World):Prop:=∃q:DI,e=.returned (.tuple #[.agg q.cs.toArray,.bool (bT x id).isSome])∧(∀d,bT x id=some d->q.it=⟨id,x.ws id,d.b,d.c.reverse,d.o,(x.nd id).lk⟩∧q.n=x.nd id∧GL w' q.Ac q.it.c∧nP w' q.A q.n.lk.l)∧bz w w'
theorem Wv{w:World}{x:aJ}(hx:mV x)(hn:x.t.length<=900)(v:Value)(wi aH M:Int)(hd:eX w v wi aH M x)(id:Int)(hh:has x.t id=true) :
  Calls prog 29 #[v,.int .i64 id] w (Xo x id w):=by
 unfold Xo;have HX:=Hd hx;have HN:=Hd hn;have HI:=aj.1 hh;have HIH:=Hd hh;obtain⟨tv,m,rfl,ht,hm⟩:=hd;obtain⟨At,ct,rfl,hr,hy⟩:=ht;have HM:=Hd hm
 have HTR:Hid (aQ w (.slice At x.t.length ct) x.t):=⟨At,ct,rfl,hr,hy⟩
 obtain⟨A0,yJ,a3s,hlk0⟩:=hm.look (lh hx.ok hh) hh;have a4o:=Hd a3s;have a2h:=Hd hlk0;have HDW:Hid (bT x id=(Dl x (gz x.t id) Dn.top).filter fun d=>decide (¬d.o=0)):=Ws hx.ok HI;have HWH:Hid (∀j∈gz x.t id,has x.t j=true):=YD hx.ok HI;have HWL:Hid ((gz x.t id).length<=1000):=by have:=Oe hx.ok HI;show _<=_;omega
 have HLW:Hid (lq x (gz x.t id) (gz x.t id).length=x.ws id):=Uf x id HI hx.ok;have HWY:=Hd (fun W (hW:aQ W (.slice At x.t.length ct) x.t)=>Wn wi aH M (.slice At x.t.length ct) x.t m hx.ok (by omega) _ id W hW hh nR)
 have HWV:Hid (∀j,has x.t j=true->dR x.t x.nd j=(x.ws j,true)∧(x.ws j).right=true):=fun j hj=>by
  have h1:=hx.set j hj (fun _ _ h=>h) (fun h=>h);have h2:=DF hx.ok (fun i=>(iO (hx.good i)).1) (aj.1 hj);rw[h1]at h2;refine⟨?_,jg hx.ok (fun i=>(iO (hx.good i)).1) (aj.1 hj) _ h1⟩;by_cases h3:(dR x.t x.nd j).2=true
  ·rw[if_pos h3]at h2
   injection h2 with h2
   rw[h2,←h3]
  ·rw[if_neg h3]at h2;cases h2
 obtain⟨n0,hn0⟩:=aB (x.nd id)
 have TU:=Hd hn0;rw[hn0]at a4o a2h;clear hx hn hm hr hy a3s hlk0 hn0
 obtain⟨l,hl⟩:=aB (gz x.t id)
 rw[hl]at HDW HWH HWL HLW HWY;clear hl;have HB0:Hid (bz w ((w.alloc (.cells (Vb wi aH M At x.t.length ct m).toArray 30)).alloc (.cells Vj.toArray eF))):=(bR.alloc nR _).alloc (by simp) _;have jR:Hid (aA ((w.alloc (.cells (Vb wi aH M At x.t.length ct m).toArray 30)).alloc (.cells Vj.toArray eF)) w.heap.size (Vb wi aH M At x.t.length ct m)):=(az w (Vb wi aH M At x.t.length ct m) _).alloc _
 have nT:Hid (aA ((w.alloc (.cells (Vb wi aH M At x.t.length ct m).toArray 30)).alloc (.cells Vj.toArray eF)) (w.heap.size+1) DI.zero.cs):=aW (w.alloc _) _ (by simp) DI.zero.cs _;have JL:Hid (((w.alloc (.cells (Vb wi aH M At x.t.length ct m).toArray 30)).alloc (.cells Vj.toArray eF)).heap.size=w.heap.size+2):=by show _=_;simp
 go_enter func29,ntmps29
 go_upto_region 1 with(fail)
 generalize ((w.alloc (.cells (Vb wi aH M At x.t.length ct m).toArray 30)).alloc (.cells Vj.toArray eF))=w0 at*;go_wp2_with (first|(with_reducible refine gL ?_;first|(refine wt 30 0 rfl rfl rfl jR.o ((Vb wi aH M At x.t.length ct m)) rfl underlying30 rfl ?_)));refine(HWY.o w0 (HTR.o.below HB0.o)).mono ?_;rintro e w1 ⟨v6,rfl,ho6,hb1⟩;have HB1:=Hd (HB0.o.trans (hb1.mono HB0.o.size));have XO:Hid (aP w1 (w.heap.size+2) v6 l):=ak.weaken ho6 (by rw[JL.o];exact nR);have eU:=Hd (jR.o.below' hb1);have a4O:=Hd (nT.o.below' hb1)
 have XC:Hid (w.heap.size+2<=w1.heap.size):=by have:=hb1.size;have:=JL.o;show _<=_;omega
 obtain⟨A6,c6,rfl,-,-,-⟩:=aP.kE XO.o;have HV6:Hid (∀g,Value.ownBlock (.slice A6 l.length c6)=some g->g<w1.heap.size):=fun g hg=>(ak.block XO.o hg).2;clear ho6 hb1 HB0 jR nT JL HWY;have HZ:Hid (aA (w1.alloc (.cells Vj.toArray eF)) w1.heap.size DI.zero.cs):=az w1 DI.zero.cs _;have jV:Hid (Below w1.heap.size w1 (w1.alloc (.cells Vj.toArray eF))):=bR.alloc nR _;have hlk:=a2h.o w1 HB1.o;have c4:=eU.o.c 4 rfl;have i0:=eU.o.inside
 go_wp2_with (first|((with_reducible refine gU ?_);refine dw _ _ rfl rfl (by simp[go_sem]) (WX id n0 A0 yJ _) ?_)|first|(with_reducible refine gS ?_;first|(refine ay eF _ _ rfl rfl rfl _ 0 rfl (DC id Mp.o Mp.o (.slice none 0 0) 255 n0 A0 yJ) rfl (DI.zero.cs) HZ.o (DC id Mp.o Mp.o (.slice none 0 0) 255 n0 A0 yJ) rfl (nE rfl) ag rfl ?_;intro w2 HW2 dh)))
 obtain⟨o7,ho7⟩:=aB w1.heap.size
 have HKK:Hid (Xp w (Vb wi aH M At x.t.length ct m) (.slice A6 l.length c6) l o7 w2.heap.size w2):=by
  have hbl:Below w1.heap.size w1 w2:=HW2.o.below jV.o nR;refine⟨HB1.o.trans (hbl.mono HB1.o.size),eU.o.below' hbl,a4O.o.below' hbl,ak.below XO.o hbl,⟨by rw[←ho7];exact XC.o,by rw[←ho7];exact dh.o.inside,nR⟩,fun g hg=>?_⟩;rw[←ho7];exact HV6.o g hg
 rw[ho7]at dh ⊢;clear ho7 hlk c4 i0 HZ jV HW2 HB1 XO eU a4O XC HV6 a2h;have HD0:Hid (Dl x (l.take 0) Dn.top=some Dn.top):=rfl
 obtain⟨B8,ql⟩:=aB w2.heap.size
 rw[ql]at HKK;clear ql
 go_loopw [8] (fun x8 wr=>∃(k:Nat) (d:Dn) (v3:Value),k<=l.length∧x8=.int .i64 k∧Hid (Dl x (l.take k) Dn.top=some d∧d.o<256)∧Hid (GM wr B8 v3 d.c.reverse)∧Hid (d.c.length<=k)∧Hid (aA wr o7 (DC id (lq x l k) d.b v3 d.o n0 A0 yJ))∧Hid (Xp w (Vb wi aH M At x.t.length ct m) (.slice A6 l.length c6) l o7 B8 wr)) (fun x8 _=>l.length - (intOf x8).toNat)
 case atStart=>exact⟨0,Dn.top,.slice none 0 0,Nat.zero_le _,rfl,⟨HD0.o,by decide⟩,ak.nil _ _,Nat.zero_le _,dh.o,HKK.o⟩
 case round=>
  obtain⟨k,d,v3,hk,rfl,HD,sK,PX,HO,HK⟩:=hrel;generalize wr=wS at*;clear dh HKK HD0;by_cases hlt:k<l.length
  ·have t1:decide (k<l.length)=true:=by simpa using hlt
   have dV:=Hd hlt
   obtain⟨j,hj⟩:∃j,j=l[k]'hlt:=⟨_,rfl⟩
   have HJM:Hid (has x.t j=true):=HWH.o j (by rw[hj];exact List.getElem_mem hlt);have a4R:Hid (I64 j):=lh HX.o.ok HJM.o;have HD1:Hid (Dl x (l.take (k+1)) Dn.top=pX (x.nd j) (x.ws j) d):=by rw[hj];exact WM hlt HD.o.1
   have HLS:Hid (lq x l (k+1)=x.ws j):=by rw[hj];exact LP x hlt
   have KD:=Hd (HWV.o j HJM.o);obtain⟨An,cn,-,hlk⟩:=HM.o.look a4R.o HJM.o;have XY:=Hd hlk;have NK:=Hd (OB (HX.o.good j));have HOC:Hid ((x.nd j).chk=0):=HX.o.good j;obtain⟨A6',c6',e6,-,-,hr6⟩:=aP.kE HK.o.own;have e7:A6=A6':=by injection e6
   subst e7;clear e6;obtain⟨g6,o6,rfl,-⟩:=hr6.at_ hlt;have CU:=Hd hr6;have FI:Hid (∀W,bz wS W->W.cell? ⟨g6,o6+k,none⟩=some (.int .i64 j)):=fun W hb=>by rw[hj];exact H7 (Row.below CU.o hb) dV.o
   have Ua:Hid (bz w wS):=HK.o.bel;have FS:Hid (∀W,bz wS W->aA W w.heap.size (Vb wi aH M At x.t.length ct m)):=fun W hb=>HK.o.b2.below' hb;have HKB:Hid (k<=1000):=by have:=HWL.o;show _<=_;omega
   have hkb:=HKB.o
   obtain⟨n,hn⟩:=aB (x.nd j)
   obtain⟨u,hu⟩:=aB (x.ws j)
   have HUB:Hid (x.ws j=u):=hu;rw[hn]at HD1 XY NK HOC;rw[hu]at HD1 KD
   obtain⟨qo,hqo⟩:∃qo:Nat,n.op.toNat=qo:=⟨_,rfl⟩
   have JP:Hid (n.op=(qo:Nat)∧qo<256):=by rw[←hqo];exact⟨NK.o.2,NK.o.1⟩
   have HQE:Hid (n.op.toNat=qo):=hqo;clear hqo;clear hj hlk hr6 hlt hk hn hu
   go_upto_region 6 with(fail)
   refine Kr (Below wS.heap.size) (fun L V wx=>JN wS.heap.size [] (Va) (n.cs An cn) (L 7) (L 8) (V 9) wx) [29,30,31,32,33,34,35,9] (fun _=>bR) (fun _ _ _ h k=>h.trans k) (fun i=>match i with
    |0=>rp w.heap.size 4
    |1=>rV (.map (some m))
    |2=>rV (.slice (some ⟨g6,o6,none⟩) l.length c6)
    |3=>rV (.int .i64 (k:Nat))
    |4=>rV (.pointer (some ⟨g6,(o6+k),none⟩))
    |5=>rV (.int .i64 j)
    |6=>rV (.agg (n.cs An cn).toArray)
    |_=>ra) (bR.drew) (JN.start (old:=[]) trivial) ⟨?_,?_,?_,?_,?_,?_,?_,?_,?_,trivial⟩ ?_
   any_goals (first|refine fK fun L a w1 hh=>?_|fail)
   have h2:=hh.p 2 w.heap.size 0;have i0:=(FS.o _ hh.rel).inside;rotate_left;have CS:=rq (hh.d 0 29);have ⟨c0,i0⟩:=(FS.o _ hh.rel).ci 4 rfl;rotate_left;have h6:=hh.o 6 (v:=.slice (some ⟨g6,o6,none⟩) l.length c6) rfl;rotate_left;have h8:=hh.o 8 (v:=.int .i64 (k:Nat)) rfl;rotate_left;have h31:=rq (hh.d 2 31);have h32:=rq (hh.d 3 32);have hlt:=dV.o;rotate_left;have TG:=rq (hh.d 4 33);have c0:=FI.o _ hh.rel;have i0:=World.block_lt_of_cell? w1 ⟨g6,_,none⟩ c0;rotate_left;have h30:=rq (hh.d 1 30);have V9:=rq (hh.d 5 34);have hlk:=XY.o _ (Ua.o.trans (hh.rel.mono Ua.o.size))
   rotate_left
   ·have hJ:=Hd hh.st;have hsz:=Hd hh.size;have hun:=Hd hh.un;clear hh;go_simp;exact⟨_,rfl,bR.alloc hJ.o.1.2.1 _,trivial,JN.new hJ.o hun.o (bJ.aZ (by rw[hsz.o];simp))⟩
   ·have h35:=rq (hh.d 6 35);have hup:=hh.up 7 ag;obtain⟨g9,qj,jA,fJ⟩:=hh.st.2.1 hup;have h9:a.tmps[9]?.getD undef=.pointer (some ⟨g9,0,none⟩):=rq (qj);rw[hh.un]at fJ;have hJ:=Hd hh.st;have hun:=Hd hh.un;refine bW 46 _ _ rfl g9 0 (by simpa[go_sem]using h9) (n.cs An cn) (by simpa[go_sem]using h35) _ fJ (nE rfl) ag (by rfl) ?_;intro w9 lu xg;have hP:=hJ.o.Ht hup hun.o qj lu xg rfl;exact⟨undef,rfl,hP.2,trivial,hP.1⟩
   any_goals (have hJ:=hh.j;clear hh;go_simp;exact⟨_,rfl,bR,rfl,JN.slots hJ.o sn⟩)
   intro L w9 val hL hJ hR hv;have Du:=Hd hR;obtain⟨g9,e9,jA,fJ⟩:=hJ.2.1 (hL 7 (by decide));have pV:=Hd (And.intro jA (show aA w9 g9 (n.cs An cn) by rw[hL 8 (by decide)]at fJ;exact fJ));clear hv hL hJ hR jA fJ;simp only[regs.aG,List.map_cons,List.map_nil];simp only[Act.put,List.setIfInBounds_toArray,List.set_cons_zero,List.set_cons_succ]
   skip
   rw[e9];clear e9;have FI9:Hid (∀W,bz w9 W->W.cell? ⟨g6,o6+k,none⟩=some (.int .i64 j)):=fun W hb=>FI.o W (Du.o.trans (hb.mono Du.o.size));have FS9:Hid (∀W,bz w9 W->aA W w.heap.size (Vb wi aH M At x.t.length ct m)):=fun W hb=>FS.o W (Du.o.trans (hb.mono Du.o.size));have a2I:=Hd (Ua.o.trans (Du.o.mono Ua.o.size))
   have FW:Hid (∀W,bz w9 W->Calls prog 17 #[.agg (Vb wi aH M At x.t.length ct m).toArray,.int .i64 j] W (aX (.tuple #[.agg u.cs.toArray,.bool true]) W)):=fun W hb=>by
    have hbw:=a2I.o.trans (hb.mono a2I.o.size);have h1:=Bq wi aH M (.slice At x.t.length ct) x.t m x.nd HX.o.ok (by have:=HN.o;omega) _ j W (HTR.o.below hbw) (HM.o.below hbw) HJM.o nR;rw[KD.o.1]at h1;exact h1
   go_upto_region 7 with(fail)
   refine Kr (Below w9.heap.size) (fun L V wx=>JN w9.heap.size [] (Vd) (u.cs) (L 9) (L 10) (V 10) wx) [37,38,39,40,41,42,36,43,44,10,11] (fun _=>bR) (fun _ _ _ h k=>h.trans k) (fun i=>match i with
    |0=>rV (.agg ((Vb wi aH M At x.t.length ct m)).toArray)
    |1=>rV (.slice (some ⟨g6,o6,none⟩) l.length c6)
    |2=>rV (.int .i64 (k:Nat))
    |3=>rV (.pointer (some ⟨g6,(o6+k),none⟩))
    |4=>rV (.int .i64 j)
    |5|6=>rV (.tuple #[.agg (u.cs).toArray,.bool true])
    |7=>rV (.agg (u.cs).toArray)
    |8|11=>rT
    |_=>ra) (bR.drew) (JN.start (old:=[]) trivial) ⟨?_,?_,?_,?_,?_,?_,?_,?_,?_,?_,?_,?_,trivial⟩ ?_
   any_goals (first|refine fK fun L a w1 hh=>?_|fail)
   ·have h2:=hh.p 2 w.heap.size 0;have hB:=Hd (FS9.o _ hh.rel);have hJ:=Hd hh.st;exact aN 30 _ rfl w.heap.size 0 (by simpa[go_sem]using h2) _ hB.o ((Vb wi aH M At x.t.length ct m)) rfl _ underlying30 rfl ag ⟨_,rfl,bR,rfl,JN.slots hJ.o sn⟩
   have h6:=hh.o 6 (v:=.slice (some ⟨g6,o6,none⟩) l.length c6) rfl;rotate_left;have h8:=hh.o 8 (v:=.int .i64 (k:Nat)) rfl;rotate_left;have h38:=rq (hh.d 1 38);have TD:=rq (hh.d 2 39);have hlt:=dV.o;rotate_left;have V8:=rq (hh.d 3 40);have c0:=FI9.o _ hh.rel;have i0:=World.block_lt_of_cell? w1 ⟨g6,_,none⟩ c0;rotate_left
   ·have h37:=rq (hh.d 0 37);have V7:=rq (hh.d 4 41);have hC:=Hd (FW.o _ hh.rel);have hJ:=hh.j;clear hh;go_simp;refine hC.o.mono ?_;rintro e w9 ⟨rfl,aY⟩;exact⟨_,rfl,aY.mono hJ.o.1.2.1,rfl,JN.slots (JN.below hJ.o aY) sn⟩
   have h42:=rq (hh.d 5 42);rotate_left;have TF:=rq (hh.d 6 36);rotate_left;have TF:=rq (hh.d 6 36);rotate_left
   ·have hJ:=Hd hh.st;have hsz:=Hd hh.size;have hun:=Hd hh.un;clear hh;go_simp;exact⟨_,rfl,bR.alloc hJ.o.1.2.1 _,trivial,JN.new hJ.o hun.o (bJ.aZ (by rw[hsz.o];simp))⟩
   ·have h43:=rq (hh.d 7 43);have hup:=hh.up 9 ag;obtain⟨g9,qj,jA,fJ⟩:=hh.st.2.1 hup;have h10:a.tmps[10]?.getD undef=.pointer (some ⟨g9,0,none⟩):=rq (qj);rw[hh.un]at fJ;have hJ:=Hd hh.st;have hun:=Hd hh.un;refine bW 37 _ _ rfl g9 0 (by simpa[go_sem]using h10) (u.cs) (by simpa[go_sem]using h43) _ fJ (nE rfl) ag (by rfl) ?_;intro w9 lu xg;have hP:=hJ.o.Ht hup hun.o qj lu xg rfl;exact⟨undef,rfl,hP.2,trivial,hP.1⟩
   have Q8:=rq (hh.d 8 44);rotate_left
   any_goals (have hJ:=hh.j;clear hh;go_simp;exact⟨_,rfl,bR,rfl,JN.slots hJ.o sn⟩)
   intro L w10 val hL hJ hR hv;have h11:val 11=.bool true:=hv 11 11 ag;have Gp:=Hd hR;obtain⟨g10,e10,a3D,a1y⟩:=hJ.2.1 (hL 9 (by decide));have a0u:=Hd (And.intro a3D (show aA w10 g10 (u.cs) by rw[hL 10 (by decide)]at a1y;exact a1y));clear hv hL hJ hR a3D a1y;simp only[regs.aG,List.map_cons,List.map_nil,h11];simp only[Act.put,List.setIfInBounds_toArray,List.set_cons_zero,List.set_cons_succ];clear h11
   skip
   rw[e10];clear e10;have HUR:=KD.o.2;have HUR:=Hd HUR;go_wp2_with (first|(with_reducible refine gL ?_;first|(refine kM 37 _ rfl rfl _ 0 rfl (u.cs) a0u.o.2 (u.cs) rfl _ underlying37 rfl ag ?_)));refine(a1g u w10 HUR.o).mono ?_;rintro e uf ⟨rfl,a3G⟩;have Tu:=Hd a3G
   obtain⟨ub,hub⟩:=aB u.back.1
   obtain⟨ue,hue⟩:=aB u.back.2
   have CE:Hid (u.back.1=ub∧u.back.2=ue):=⟨hub,hue⟩
   rw[hub,hue];clear hub hue a3G;unfold Mp.v;have HZb:Hid (aA (uf.alloc (.cells Vd.toArray 38)) uf.heap.size Vd):=az uf Vd _;have yG:Hid (Below uf.heap.size uf (uf.alloc (.cells Vd.toArray 38))):=bR.alloc nR _
   go_upto_region 9 with(first|(with_reducible refine gS ?_;first|(refine ay 38 _ _ rfl rfl rfl _ 0 rfl (ub.cs) rfl (Vd) HZb.o (ub.cs) rfl (nE rfl) ag (Mp.one1 _) ?_;intro w12 Yw xR)))
   have HBc:Hid (Below uf.heap.size uf w12):=Yw.o.below yG.o nR;have HBd:Hid (bz w9 w12):=Gp.o.trans ((Tu.o.mono Gp.o.size).trans (HBc.o.mono (Nat.le_trans Gp.o.size Tu.o.size)));have HBe:Hid (bz wS w12):=Du.o.trans (HBd.o.mono Du.o.size);have HG9:Hid (wS.heap.size<=g9):=pV.o.1;have XX:=Hd HK.o.lt;have HGN:Hid (w9.heap.size<=g10):=a0u.o.1;have Gs:Hid (aA w12 g9 (n.cs An cn)):=pV.o.2.below' HBd.o;have XA:Hid (aA w12 g10 u.cs):=a0u.o.2.below' (Tu.o.trans (HBc.o.mono Tu.o.size))
   obtain⟨g12,a1v⟩:=aB uf.heap.size
   have HGM:Hid (wS.heap.size<=g12):=by rw[←a1v];exact Nat.le_trans Du.o.size (Nat.le_trans Gp.o.size Tu.o.size)
   rw[a1v]at xR ⊢;have a2s:Hid (g10≠o7):=by have:=XX.o;have:=HGN.o;have:=Du.o.size;show _≠_;omega
   have Yd:Hid (g12≠o7):=by have:=XX.o;have:=HGM.o;show _≠_;omega
   have a6u:Hid (g9≠o7):=by have:=XX.o;have:=HG9.o;show _≠_;omega
   have NQ:Hid (aA w12 o7 (DC id (lq x l k) d.b v3 d.o n0 A0 yJ)):=HO.o.below' HBe.o;have a0j:Hid (GM w12 B8 v3 d.c.reverse):=ak.below sK.o HBe.o;have NW:Hid (Xp w (Vb wi aH M At x.t.length ct m) (.slice (some ⟨g6,o6,none⟩) l.length c6) l o7 B8 w12):=HK.o.below HBe.o;have HOWN:Hid (∀g,v3.ownBlock=some g->B8<=g∧g<wS.heap.size):=fun g hg=>ak.block sK.o hg
   have HGA:Hid (wS.heap.size<=g10∧wS.heap.size<=w12.heap.size):=⟨Nat.le_trans Du.o.size HGN.o,HBe.o.size⟩
   have c7:=Gs.o.c 7 rfl;have i9:=Gs.o.inside;clear a1v Du pV Gp a0u Tu HZb yG Yw HBc HBd HBe FI FS FI9 FS9 FW XY CU HUR a2I Ua HO sK HK HGN a4R HJM KD;by_cases hbad:n.hi=true∨¬ue=0
   ·have PV:Hid (bT x id=none):=by
     show _=_;rw[HDW.o,WN (k:=k+1) (HD1.o.trans (by unfold pX;rw[CE.o.2,if_pos hbad]))];rfl
    have PW:=NW;clear HDW HD1 Gs XA xR NQ a0j NW HLS;by_cases hue:ue=0
    ·have t5:(ue != 0)=false:=by simpa using hue
     rw[hbad.resolve_right (by simpa using hue)]at c7;clear hbad hue;go_wp2_with (first|((with_reducible refine gU ?_);refine dw _ _ rfl rfl (by simp[go_sem]) (Es _) ?_)|first|(with_reducible refine gS ?_;first|(refine ay eF _ _ rfl rfl rfl _ 0 rfl (DI.zero.cs) rfl (DI.zero.cs) PW.o.b4 (DI.zero.cs) rfl (nE rfl) ag (DI.one _) ?_;intro wZ HWZ HKZ)))
     exact aK rfl rfl rfl HKZ.o underlying48 rfl ag ⟨DI.zero,by rw[PV.o];rfl,(fun d hd=>by rw[PV.o]at hd;cases hd),PW.o.bel.trans (HWZ.o.below bR (by omega))⟩
    ·have t5:(ue != 0)=true:=by simpa using hue
     clear hbad hue;go_wp2_with (first|((with_reducible refine gU ?_);refine dw _ _ rfl rfl (by simp[go_sem]) (Es _) ?_)|first|(with_reducible refine gS ?_;first|(refine ay eF _ _ rfl rfl rfl _ 0 rfl (DI.zero.cs) rfl (DI.zero.cs) PW.o.b4 (DI.zero.cs) rfl (nE rfl) ag (DI.one _) ?_;intro wZ HWZ HKZ)));exact aK rfl rfl rfl HKZ.o underlying48 rfl ag ⟨DI.zero,by rw[PV.o];rfl,(fun d hd=>by rw[PV.o]at hd;cases hd),PW.o.bel.trans (HWZ.o.below bR (by omega))⟩
   ·have hhi:n.hi=false:=by
     cases h:n.hi with
     |false=>rfl
     |true=>exact absurd (.inl h) hbad
    have hue:ue=0:=Decidable.not_not.1 fun h=>hbad (.inr h);have HD2:Hid (Dl x (l.take (k+1)) Dn.top=some (d.to n u)):=HD1.o.trans (by unfold pX;rw[CE.o.2,if_neg hbad]);have t5:(ue != 0)=false:=by simpa using hue
    have KJ:Hid ((d.to n u).o<256):=by unfold Dn.to;exact a0K HD.o.2 NK.o.1
    rw[hhi]at c7;have HD1:=HD2;clear hbad hue hhi HD2;have c8:=Gs.o.c 8 rfl;by_cases hcl:n.cl=true
    ·have HDC:Hid ((d.to n u).c=⟨ub,n.r⟩::d.c):=by unfold Dn.to;show(if n.cl=true then _ else _)=_;rw[if_pos hcl,CE.o.1]
     have sJ:Hid ((d.to n u).b=ub∧(d.to n u).o=kG d.o qo):=⟨CE.o.1,by rw[←HQE.o];rfl⟩
     rw[hcl]at c8;have hal:bz w12 (w12.alloc (.cells (Cl.cs ⟨ub,n.r⟩).toArray sV)):=bR.alloc nR _
     obtain⟨vx,Hf,hrun,L9,jA,-⟩:=ak.app (P:=prog) (xs:=[(⟨ub,n.r⟩:Cl)]) (c:=1) (g:=w12.heap.size) (o:=0) (ts:=Oo) underlying39 VQ rfl (by decide) (by decide) Cl.bF (fun q v hv=>List.all_eq_true.1 (Cl.one q) v hv) (ak.below a0j.o hal) (fun _=>qy Cl.bF (by simpa using az w12 (Cl.cs ⟨ub,n.r⟩) sV)) (by have:=PX.o;have:=HKB.o;rw[List.length_reverse];simp;omega) (Nat.le_trans NW.o.lt.2.2 hal.size);obtain⟨Ax,nx,cx,rfl⟩:=ak.shape L9
     have hsame:∀q,q<w12.heap.size->(v3.ownBlock=some q->False)->Hf.heap[q]?=w12.heap[q]?:=fun q h1 h2=>(jA.block q (Nat.lt_of_lt_of_le h1 hal.size) fun e=>h2 e.symm).trans (hal.block q h1);have ZU:Hid (GM Hf B8 (.slice Ax nx cx) (d.to n u).c.reverse):=by rw[HDC.o,List.reverse_cons];exact L9
     have a2w:Hid ((d.to n u).c.length<=k+1):=by rw[HDC.o,List.length_cons];have:=PX.o;show _<=_;omega
     have hown:∀q,wS.heap.size<=q->v3.ownBlock=some q->False:=fun q h1 h2=>by have:=(HOWN.o q h2).2;omega
     have XQ:Hid (aA Hf o7 (DC id (lq x l k) d.b v3 d.o n0 A0 yJ)):=NQ.o.stays (hsame o7 NQ.o.inside fun e=>by have:=(HOWN.o o7 e).1;have:=XX.o;omega);have a2d:Hid (aA Hf g9 (n.cs An cn)):=Gs.o.stays (hsame g9 Gs.o.inside (hown _ HG9.o));have a1Y:Hid (aA Hf g10 u.cs):=XA.o.stays (hsame g10 XA.o.inside (hown _ HGA.o.1));have a2H:Hid (aA Hf g12 ub.cs):=xR.o.stays (hsame g12 xR.o.inside (hown _ HGM.o))
     have a2r:Hid (Xp w (Vb wi aH M At x.t.length ct m) (.slice (some ⟨g6,o6,none⟩) l.length c6) l o7 B8 Hf):=NW.o.step ⟨jA.os.trans hal.os,jA.tape.trans hal.tape,jA.output.trans hal.output,Nat.le_trans hal.size jA.size,fun q hq _=>hsame q (Nat.lt_of_lt_of_le hq NW.o.lt.2.2) fun e=>by have:=(HOWN.o q e).1;omega⟩;have c13:w12.cell? ⟨o7,13,none⟩=some v3:=NQ.o.cell 13;have i7:=NQ.o.inside;have e13:Hf.cell? ⟨o7,13,none⟩=some v3:=XQ.o.cell 13;have f13:=XQ.o.free 13;have j7:=XQ.o.inside;clear hal hsame hown L9 jA hcl HDC
     go_upto_region 13 with(first|((with_reducible refine gU ?_);refine dw _ _ rfl rfl (by simp[go_sem]) (Su ub n.r _) ?_)|((with_reducible refine gB ?_);refine iT _ _ _ rfl rfl (by simp[go_sem]) (a1S ⟨ub,n.r⟩ _) ?_)|first|(with_reducible refine gL ?_;first|(refine wt 38 0 rfl rfl rfl xR.o (ub.cs) rfl underlying38 rfl ?_)|(refine wt 40 9 rfl rfl rfl Gs.o (n.r.Eo) rfl underlying40 rfl ?_))|(at_builtin;refine bg rfl _ _ 39 39 39 rfl rfl _ _ _ _ rfl rfl hrun ?_;clear hrun))
     have yL:Hid (aA (Hf.setCell ⟨o7,13,none⟩ (.slice Ax nx cx)) o7 (DC id (lq x l k) d.b (.slice Ax nx cx) d.o n0 A0 yJ)):=XQ.o.set 13 _;have hkx:KX o7 Hf (Hf.setCell ⟨o7,13,none⟩ (.slice Ax nx cx)):=KX.wrote ⟨13,[.slice Ax nx cx],rfl⟩;have CV:Hid (aA (Hf.setCell ⟨o7,13,none⟩ (.slice Ax nx cx)) g9 (n.cs An cn)):=a2d.o.stays (hkx.same _ a2d.o.inside a6u.o);have HUE:Hid (aA (Hf.setCell ⟨o7,13,none⟩ (.slice Ax nx cx)) g10 u.cs):=a1Y.o.stays (hkx.same _ a1Y.o.inside a2s.o)
     have Gx:Hid (aA (Hf.setCell ⟨o7,13,none⟩ (.slice Ax nx cx)) g12 ub.cs):=a2H.o.stays (hkx.same _ a2H.o.inside Yd.o);have Yh:Hid (GM (Hf.setCell ⟨o7,13,none⟩ (.slice Ax nx cx)) B8 (.slice Ax nx cx) (d.to n u).c.reverse):=ak.stays ZU.o fun g hg=>hkx.same g (ak.block ZU.o hg).2 (by have:=(ak.block ZU.o hg).1;have:=XX.o;omega);have PW:Hid (Xp w (Vb wi aH M At x.t.length ct m) (.slice (some ⟨g6,o6,none⟩) l.length c6) l o7 B8 (Hf.setCell ⟨o7,13,none⟩ (.slice Ax nx cx))):=a2r.o.step (Lw.UR hkx a2r.o.lt.2.2)
     generalize (Hf.setCell ⟨o7,13,none⟩ (.slice Ax nx cx))=wE at*;clear c7 c8 i9 c13 i7 e13 f13 j7 hkx XQ a2d a1Y a2H ZU a2r Gs XA xR NQ a0j NW;have c14:=yL.o.c 14 rfl;have c6:wE.cell? ⟨g9,6,none⟩=some (.int .i64 (qo:Nat)):=by rw[←JP.o.1];exact CV.o.cell 6
     have i7:=yL.o.inside;have i9:=CV.o.inside;have Yi:=Hd (Ph d.o qo HD.o.2 JP.o.2 wE);go_wp2_with (fail);refine Yi.o.mono ?_;rintro e wF ⟨rfl,hd⟩;have HXF:Hid (KX o7 wE wF):=KX.of_below (hd.below _);have XN:Hid (aA wF o7 (DC id (lq x l k) d.b (.slice Ax nx cx) d.o n0 A0 yJ)):=yL.o.below' (hd.below _);clear hd c14 c6 i7 i9 Yi;have f14:=XN.o.free 14;have c14:=XN.o.c 14 rfl;have i7:=XN.o.inside
     go_upto_region 14 with(fail)
     have HXG:Hid (KX o7 wE (wF.setCell ⟨o7,14,none⟩ (.int .i64 (kG d.o qo:Nat)))):=HXF.o.trans (KX.wrote ⟨14,[.int .i64 (kG d.o qo:Nat)],rfl⟩);have HOG:Hid (aA (wF.setCell ⟨o7,14,none⟩ (.int .i64 (kG d.o qo:Nat))) o7 (DC id (lq x l k) d.b (.slice Ax nx cx) (kG d.o qo) n0 A0 yJ)):=XN.o.set 14 _;clear f14 c14 i7 HXF XN;generalize (wF.setCell ⟨o7,14,none⟩ (.int .i64 (kG d.o qo:Nat)))=wG at*;have HUG:Hid (aA wG g10 u.cs):=HUE.o.stays (HXG.o.same _ HUE.o.inside a2s.o)
     go_upto_region 15 with(first|(with_reducible refine gL ?_;first|(refine wt 37 0 rfl rfl rfl HUG.o (u.cs) rfl underlying37 rfl ?_))|(with_reducible refine gS ?_;first|(refine ay 37 _ _ rfl rfl rfl _ 1 rfl (u.cs) rfl (DC id (lq x l k) d.b (.slice Ax nx cx) (kG d.o qo) n0 A0 yJ) HOG.o (DC id u d.b (.slice Ax nx cx) (kG d.o qo) n0 A0 yJ) rfl (nE rfl) ag (Mp.one1 _) ?_;intro wH Xx HKH)))
     have HBH:Hid (aA wH g12 ub.cs):=(Gx.o.stays (HXG.o.same _ Gx.o.inside Yd.o)).stays (Xx.o.far Yd.o);go_wp2_with (first|(with_reducible refine gL ?_;first|(refine wt 38 0 rfl rfl rfl HBH.o (ub.cs) rfl underlying38 rfl ?_))|(with_reducible refine gS ?_;first|(refine ay 38 _ _ rfl rfl rfl _ 7 rfl (ub.cs) rfl (DC id u d.b (.slice Ax nx cx) (kG d.o qo) n0 A0 yJ) HKH.o (DC id u ub (.slice Ax nx cx) (kG d.o qo) n0 A0 yJ) rfl (nE rfl) ag (Mp.one1 _) ?_;intro wI Nz HKI)))
     have HXI:Hid (KX o7 wE wI):=(HXG.o.trans (KX.wrote Xx.o)).trans (KX.wrote Nz.o)
     go_roundw
     case rel=>exact⟨k+1,d.to n u,(.slice Ax nx cx),dV.o,by go_num,⟨HD1.o,KJ.o⟩,ak.stays Yh.o fun g hg=>HXI.o.same g (ak.block Yh.o hg).2 (by have:=(ak.block Yh.o hg).1;have:=PW.o.lt;omega),a2w.o,by rw[HLS.o,HUB.o,sJ.o.1,sJ.o.2];exact HKI.o,PW.o.step (Lw.UR HXI.o PW.o.lt.2.2)⟩
     case measure=>have:=dV.o;simp[intOf];omega
    ·have HDC:Hid ((d.to n u).c=d.c):=by unfold Dn.to;show(if n.cl=true then _ else _)=_;rw[if_neg hcl]
     have sJ:Hid ((d.to n u).b=ub∧(d.to n u).o=kG d.o qo):=⟨CE.o.1,by rw[←HQE.o];rfl⟩
     rw[show n.cl=false from by simpa using hcl]at c8;have Yh:Hid (GM w12 B8 v3 (d.to n u).c.reverse):=by rw[HDC.o];exact a0j.o
     have a2w:Hid ((d.to n u).c.length<=k+1):=by rw[HDC.o];have:=PX.o;show _<=_;omega
     go_upto_region 13 with(fail)
     have yL:=NQ;have CV:=Gs;have HUE:=XA;have Gx:=xR;have PW:=NW;clear c7 c8 i9 hcl HDC;have c14:=yL.o.c 14 rfl;have c6:w12.cell? ⟨g9,6,none⟩=some (.int .i64 (qo:Nat)):=by rw[←JP.o.1];exact CV.o.cell 6
     have i7:=yL.o.inside;have i9:=CV.o.inside;have Yi:=Hd (Ph d.o qo HD.o.2 JP.o.2 w12);go_wp2_with (fail);refine Yi.o.mono ?_;rintro e wF ⟨rfl,hd⟩;have HXF:Hid (KX o7 w12 wF):=KX.of_below (hd.below _);have XN:Hid (aA wF o7 (DC id (lq x l k) d.b v3 d.o n0 A0 yJ)):=yL.o.below' (hd.below _);clear hd c14 c6 i7 i9 Yi;have f14:=XN.o.free 14;have c14:=XN.o.c 14 rfl;have i7:=XN.o.inside
     go_upto_region 14 with(fail)
     have HXG:Hid (KX o7 w12 (wF.setCell ⟨o7,14,none⟩ (.int .i64 (kG d.o qo:Nat)))):=HXF.o.trans (KX.wrote ⟨14,[.int .i64 (kG d.o qo:Nat)],rfl⟩);have HOG:Hid (aA (wF.setCell ⟨o7,14,none⟩ (.int .i64 (kG d.o qo:Nat))) o7 (DC id (lq x l k) d.b v3 (kG d.o qo) n0 A0 yJ)):=XN.o.set 14 _;clear f14 c14 i7 HXF XN;generalize (wF.setCell ⟨o7,14,none⟩ (.int .i64 (kG d.o qo:Nat)))=wG at*;have HUG:Hid (aA wG g10 u.cs):=HUE.o.stays (HXG.o.same _ HUE.o.inside a2s.o)
     go_upto_region 15 with(first|(with_reducible refine gL ?_;first|(refine wt 37 0 rfl rfl rfl HUG.o (u.cs) rfl underlying37 rfl ?_))|(with_reducible refine gS ?_;first|(refine ay 37 _ _ rfl rfl rfl _ 1 rfl (u.cs) rfl (DC id (lq x l k) d.b v3 (kG d.o qo) n0 A0 yJ) HOG.o (DC id u d.b v3 (kG d.o qo) n0 A0 yJ) rfl (nE rfl) ag (Mp.one1 _) ?_;intro wH Xx HKH)))
     have HBH:Hid (aA wH g12 ub.cs):=(Gx.o.stays (HXG.o.same _ Gx.o.inside Yd.o)).stays (Xx.o.far Yd.o);go_wp2_with (first|(with_reducible refine gL ?_;first|(refine wt 38 0 rfl rfl rfl HBH.o (ub.cs) rfl underlying38 rfl ?_))|(with_reducible refine gS ?_;first|(refine ay 38 _ _ rfl rfl rfl _ 7 rfl (ub.cs) rfl (DC id u d.b v3 (kG d.o qo) n0 A0 yJ) HKH.o (DC id u ub v3 (kG d.o qo) n0 A0 yJ) rfl (nE rfl) ag (Mp.one1 _) ?_;intro wI Nz HKI)))
     have HXI:Hid (KX o7 w12 wI):=(HXG.o.trans (KX.wrote Xx.o)).trans (KX.wrote Nz.o)
     go_roundw
     case rel=>exact⟨k+1,d.to n u,v3,dV.o,by go_num,⟨HD1.o,KJ.o⟩,ak.stays Yh.o fun g hg=>HXI.o.same g (ak.block Yh.o hg).2 (by have:=(ak.block Yh.o hg).1;have:=PW.o.lt;omega),a2w.o,by rw[HLS.o,HUB.o,sJ.o.1,sJ.o.2];exact HKI.o,PW.o.step (Lw.UR HXI.o PW.o.lt.2.2)⟩
     case measure=>have:=dV.o;simp[intOf];omega
  ·obtain rfl:k=l.length:=by omega
   have t1:decide (l.length<l.length)=false:=by simp
   rw[List.take_length]at HD;rw[HLW.o]at HO
   have HDQ:Hid (bT x id=if d.o=0 then none else some d):=by
    show _=_;rw[HDW.o,HD.o.1,Option.filter_some];by_cases h:d.o=0<;>simp[h]
   obtain⟨lw,hlw⟩:=aB (x.ws id)
   rw[hlw]at HO;obtain⟨A3,c3,e3,-,-,hr3⟩:=ak.row sK.o Cl.bF;have HV3:Hid (v3=.slice A3 d.c.reverse.length c3):=e3;have HR3:=Hd hr3;clear hlt hk HWH HLW HDW e3 hr3;have FO:Hid (∀W,KX (w.heap.size+1) wS W->aA W o7 (DC id (lw) (d.b) (v3) (d.o) n0 A0 yJ)):=fun W hb=>HO.o.stays (hb.same _ HO.o.inside (by have:=HK.o.lt;omega))
   go_upto_region 16 with(fail)
   refine wR (KX (w.heap.size+1)) (fun L wx=>RV (w.heap.size+1) DI.zero.cs (DC id (lw) (d.b) (v3) (d.o) n0 A0 yJ) (L 4) wx) [78,79,80,81,5] (fun _=>KX.refl _ _) (fun _ _ _ h k=>h.trans k) (fun i=>match i with
    |0=>rV (.agg (DC id (lw) (d.b) (v3) (d.o) n0 A0 yJ).toArray)
    |1=>rp o7 14
    |2=>rV (.int .i64 (d.o:Nat))
    |3|5=>rV (.bool (decide (0<(d.o:Int))))
    |_=>ra) (KX.of_below bR.drew) (⟨fun _=>HK.o.b4.below' bR.drew,nofun⟩) ⟨?_,?_,?_,?_,?_,?_,trivial⟩ ?_
   any_goals (first|refine zp fun L a w1 hh=>?_|fail)
   ·have h7:=hh.p 7 o7 0;have hB:=Hd (FO.o _ hh.rel);have hJ:=Hd hh.st;exact aN 48 _ rfl o7 0 (by simpa[go_sem]using h7) _ hB.o (DC id (lw) (d.b) (v3) (d.o) n0 A0 yJ) rfl _ underlying48 rfl ag ⟨_,rfl,KX.refl _ _,rfl,hJ.o⟩
   have h7:=hh.p 7 o7 0;have i0:=(FO.o _ hh.rel).inside;rotate_left;have h79:=rq (hh.d 1 79);have ⟨c0,i0⟩:=(FO.o _ hh.rel).ci 14 rfl;rotate_left;have h80:=rq (hh.d 2 80);rotate_left
   ·have h4:=hh.p 4 ((w.heap.size+1)) 0;have h78:=rq (hh.d 0 78);have ql:=hh.st.no hh.un;refine bW eF _ _ rfl (w.heap.size+1) 0 (by simpa[go_sem]using h4) (DC id (lw) (d.b) (v3) (d.o) n0 A0 yJ) (by simpa[go_sem]using h78) _ ql (nE rfl) ag (by rw[HV3.o];rfl) ?_;intro w9 lu fJ;exact⟨undef,rfl,KX.wrote lu,trivial,⟨nofun,fun _=>fJ⟩⟩
   have h81:=rq (hh.d 3 81);rotate_left
   any_goals (have hJ:=hh.j;clear hh;go_simp;exact⟨_,rfl,KX.refl _ _,rfl,hJ.o⟩)
   intro L w5 val hL hJ hR hv;have h5:val 5=.bool (decide (0<(d.o:Int))):=hv 5 5 ag;have kL:=Hd hR;have HV5:=Hd (hJ.yes (hL 4 (by decide)));clear hv hL hJ hR;simp only[regs.aG,List.map_cons,List.map_nil,h5];simp only[Act.put,List.setIfInBounds_toArray,List.set_cons_zero,List.set_cons_succ];clear h5
   skip
   have Gx:Hid (bz w w5):=HK.o.bel.trans (kL.o.aS (by omega) HK.o.bel.size);have HC5:Hid (GM w5 B8 v3 d.c.reverse):=ak.stays sK.o fun g hg=>kL.o.same g (ak.block sK.o hg).2 (by have:=(ak.block sK.o hg).1;have:=HK.o.lt;omega);go_wp2_with (fail)
   have hsome:decide (0<(d.o:Int))=(bT x id).isSome:=by
    rw[HDQ.o];by_cases h:d.o=0
    ·simp[h]
    ·simp[h];omega
   refine aK rfl rfl rfl HV5.o underlying48 rfl ag ⟨⟨⟨id,lw,d.b,d.c.reverse,d.o,n0.lk⟩,n0,A3,c3,A0,yJ⟩,by rw[HV3.o,hsome];rfl,fun d' hd'=>?_,Gx.o⟩
   have e:d'=d:=by
    rw[HDQ.o]at hd';split at hd'
    ·cases hd'
    ·exact(Option.some.inj hd').symm
   rw[e,hlw,TU.o];exact⟨rfl,rfl,GM.a5N (by rw[←HV3.o];exact HC5.o),a4o.o.below Gx.o⟩
end
section
open Go.RowKit fF fO aF Go.Maps
theorem a3U(q:DI)(w:World):(Instr.buildSlice yX 1 #[(0,.agg q.cs.toArray)]).run prog w=.ok (.slice (some ⟨w.heap.size,0,none⟩) 1 1) (w.alloc (.cells q.cs.toArray eF)):=by kernel_rfl
theorem Y8:(prog.info? eF).map (fun i=>(i.zero,i.size,i.bytes))=some (some (.agg DI.zero.cs.toArray),35,304):=by kernel_rfl
theorem GL.stays{w w':World}{A:Option Addr}{l:List Cl}(h:GL w A l)(hb:∀a,A=some a->l≠[]->w'.heap[a.block]?=w.heap[a.block]?):GL w' A l:=⟨h.row.a0x hb,fun a ea hne=>by rw[hb a ea hne];exact h.typ a ea hne⟩
structure DQ(B:Nat)(w w':World):Prop where
 bel:Below B w w'
 same:∀(k:Nat) (cs:Array Value) (T:TypeId) (fz:Nat×Nat),w.heap[k]?=some (.cells cs T fz)->T≠eF->w'.heap[k]?=w.heap[k]?
theorem DQ.refl(B:Nat)(w:World):DQ B w w:=⟨bR,fun _ _ _ _ _ _=>rfl⟩
theorem DQ.trans{B:Nat}{w w1 w2:World}(h:DQ B w w1)(k:DQ B w1 w2):DQ B w w2:=⟨h.bel.trans k.bel,fun j cs T fz h1 h2=>by
 have h3:=h.same j cs T fz h1 h2
 exact(k.same j cs T fz (h3.trans h1) h2).trans h3⟩
theorem DQ.below{B:Nat}{w w':World}(hb:bz w w')(hB:B<=w.heap.size):DQ B w w':=⟨hb.mono hB,fun k _ _ _ h _=>hb.block k (Array.getElem?_eq_some_iff.1 h).1⟩
theorem DQ.off{B:Nat}{w w':World}{r:Option Nat}(hb:Below B w w')(hg:∀k,k<w.heap.size->r≠some k->w'.heap[k]?=w.heap[k]?)(hr:∀k,r=some k->∃cs fz,w.heap[k]?=some (.cells cs eF fz)):DQ B w w':=⟨hb,fun k cs T fz h hT=>hg k (Array.getElem?_eq_some_iff.1 h).1 fun e=>by
 obtain⟨cs',fz',h'⟩:=hr k e;have h1:=h.symm.trans h';simp only[Option.some.injEq,Obj.cells.injEq]at h1
 exact hT h1.2.1⟩
theorem GL.dq{B:Nat}{w w':World}{A:Option Addr}{l:List Cl}(h:GL w A l)(hr:DQ B w w'):GL w' A l:=h.stays fun a ea hne=>by
 obtain⟨cs,fz,h1⟩:=h.typ a ea hne;exact hr.same _ _ _ _ h1 (by decide)
theorem nP.dq{B:Nat}{w w':World}{A:Option Addr}{l:List Nat}(h:nP w A l)(hr:DQ B w w'):nP w' A l:=h.stays fun a ea hne=>by
 obtain⟨cs,fz,h1⟩:=h.typ a ea hne;exact hr.same _ _ _ _ h1 (by decide)
def xX(w:World)(q:DI):Prop:=GL w q.Ac q.it.c∧nP w q.A q.n.lk.l∧q.n.lk=q.it.lk
theorem xX.dq{B:Nat}{w w':World}{q:DI}(h:xX w q)(hr:DQ B w w'):xX w' q:=⟨h.1.dq hr,h.2.1.dq hr,h.2.2⟩
structure DIs(w:World)(base:Nat)(v:Value)(l:List DI):Prop where
 own:ak eF 35 DI.cs w base v l
 at_:∀q∈l,xX w q
theorem DIs.below{w w':World}{base:Nat}{v:Value}{l:List DI}(h:DIs w base v l)(hb:bz w w'):DIs w' base v l:=⟨h.own.below hb,fun q hq=>(h.at_ q hq).dq (DQ.below hb nR)⟩
theorem DIs.app{w:World}{base:Nat}{v:Value}{l:List DI}(h:DIs w base v l)(q:DI){g c:Nat}(hx:aU 35 DI.cs w (some ⟨g,0,none⟩) [q])(hq:xX w q)(hn:l.length<=2000)(hbase:base<=w.heap.size) :
  ∃v' w',(Builtin.append_ #[yX,yX] yX #[v,.slice (some ⟨g,0,none⟩) 1 c]).run prog w=.ok v' w'∧DIs w' base v' (l++[q])∧Below base w w':=by
 obtain⟨v',w',h1,h2,h3,-⟩:=ak.app (P:=prog) (xs:=[q]) (c:=c) (g:=g) (o:=0) underlying33 Y8 rfl (by decide) (by decide) DI.bF (fun q u hu=>List.all_eq_true.1 (DI.one q) u hu) h.own (fun _=>hx) (by simp;omega) hbase;have hb:Below base w w':=bR.grown h3 hbase fun k hk=>(h.own.block hk).1
 have hr:DQ base w w':=DQ.off hb (fun k hk hn=>h3.block k hk (Ne.symm hn)) fun k hk=>by
  obtain⟨cur,h4⟩:=h.own.typed hk;exact⟨cur,_,h4⟩
 refine⟨v',w',h1,⟨h2,fun p hp=>?_⟩,hb⟩;rcases List.mem_append.1 hp with hp|hp
 ·exact(h.at_ p hp).dq hr
 ·rw[List.mem_singleton.1 hp];exact hq.dq hr
structure QJ(B:Nat)(iA iS:Bool)(vA vC:Value)(w:World):Prop where
 gX:B<=w.heap.size
 ex:iA=true->∃g cs,vA=.pointer (some ⟨g,0,none⟩)∧B<=g∧au w g cs eF∧cs.length=35∧(iS=true->vC=.agg cs.toArray)
section
variable {B:Nat}{iA iS:Bool}{vA vC uA uC:Value}{w w':World}
theorem QJ.slots(h:QJ B iA iS vA vC w)(e1:uA=vA)(e2:uC=vC):QJ B iA iS uA uC w:=by rw[e1,e2];exact h
theorem QJ.below(h:QJ B iA iS vA vC w)(hb:bz w w'):QJ B iA iS vA vC w':=⟨Nat.le_trans h.gX hb.size,fun e=>by
 obtain⟨g,cs,h1,h2,h3,h4⟩:=h.ex e
 exact⟨g,cs,h1,h2,h3.stays (hb.block _ h3.inside),h4⟩⟩
theorem QJ.told(h:QJ B iA iS vA vC w)(eS:iS=false)(e1:uA=vA):QJ B iA iS uA uC w:=⟨h.gX,fun e=>by
 obtain⟨g,cs,h1,h2,h3,h4,_⟩:=h.ex e
 exact⟨g,cs,e1.trans h1,h2,h3,h4,fun e=>by rw[eS]at e;cases e⟩⟩
theorem QJ.made(h:QJ B iA iS vA vC w)(eS:iS=false)(e1:uA=.pointer (some ⟨w.heap.size,0,none⟩)):QJ B true iS uA uC (w.alloc (.cells DI.zero.cs.toArray eF)):=
 ⟨Nat.le_trans h.gX (by simp),fun _=>⟨w.heap.size,_,e1,h.gX,au.new w DI.zero.cs eF,rfl,fun e=>by rw[eS]at e;cases e⟩⟩
theorem QJ.put{cs':List Value}{g:Nat}{cs:List Value}(h:QJ B iA iS vA vC w)(e1:vA=.pointer (some ⟨g,0,none⟩))(hg:B<=g)(hb:au w g cs eF)(hW:Wrote g w w')(hB:aA w' g cs')(hl:cs'.length=35)(ev:vC=.agg cs'.toArray):QJ B iA true vA vC w'∧DQ B w w':=
 ⟨⟨by rw[hW.size];exact h.gX,fun _=>⟨g,cs',e1,hg,hb.wrote hW hB,hl,fun _=>ev⟩⟩,DQ.off (r:=some g) (hW.below bR hg) (fun k _ hn=>hW.far fun e=>hn (by rw[e])) fun k hk=>by
  rw[←Option.some.inj hk]
  exact⟨_,_,hb⟩⟩
end
def qg(x:aJ)(j:Int)(q:DI)(w:World):Prop:=∀d,bT x j=some d->q.it=⟨j,x.ws j,d.b,d.c.reverse,d.o,(x.nd j).lk⟩∧xX w q
theorem qg.dq{B:Nat}{w w':World}{x:aJ}{j:Int}{q:DI}(h:qg x j q w)(hr:DQ B w w'):qg x j q w':=fun d hd=>⟨(h d hd).1,(h d hd).2.dq hr⟩
def Oa(x:aJ)(w:World)(e:Ending)(w':World):Prop:=∃A c l,e=.returned (.slice A (l:List DI).length c)∧aU 35 DI.cs w' A l∧(∀q∈l,xX w' q)∧l.map (·.it)=items x∧bz w w'
theorem Rz{w:World}{x:aJ}(hx:mV x)(hn:x.t.length<=900)(v:Value)(wi aH M:Int)(hd:eX w v wi aH M x) :
  Calls prog 10 #[v] w (Oa x w):=by
 unfold Oa;have HX:=Hd hx;have HN:=Hd hn;obtain⟨tv,m,rfl,ht,hm⟩:=hd;obtain⟨At,ct,rfl,hr,hy⟩:=ht
 have HDA:Hid (eX w (.agg (Vb wi aH M At x.t.length ct m).toArray) wi aH M x):=⟨_,m,rfl,⟨At,ct,rfl,hr,hy⟩,hm⟩
 have HR:=Hd hr;have mX:Hid ((aF.walk x.t 0).length<=1000):=by have:=oz hx.ok;show _<=_;omega
 have HLH:Hid (∀i∈aF.walk x.t 0,has x.t i=true):=fun i hi=>(iI hx.ok).1 hi;clear hr hm hy;have HB0:Hid (bz w (w.alloc (.cells (Vb wi aH M At x.t.length ct m).toArray 30))):=bR.alloc nR _;have jR:Hid (aA (w.alloc (.cells (Vb wi aH M At x.t.length ct m).toArray 30)) w.heap.size (Vb wi aH M At x.t.length ct m)):=az w (Vb wi aH M At x.t.length ct m) _;go_enter func10,ntmps10
 go_upto_region 2 with(fail)
 generalize (w.alloc (.cells (Vb wi aH M At x.t.length ct m).toArray 30))=w0 at*;have c3:=jR.o.c 3 rfl;have i0:=jR.o.inside;have HDK:=Hd (O1 At x.t ct hx.ok (by omega) (x.t.length+1) 0 w0 (aU.below HR.o HB0.o) (.inl rfl) (by omega));clear hx hn;go_wp2_with (fail);refine HDK.o.mono ?_;unfold oU;rintro e w1 ⟨v4,rfl,TA,hb1⟩;have HB1:=Hd (HB0.o.trans (hb1.mono HB0.o.size));have eU:=Hd (jR.o.below' hb1);have XP:Hid (aP w1 w0.heap.size v4 (aF.walk x.t 0)):=TA;obtain⟨A6,c6,rfl,-,-,-⟩:=aP.kE TA
 have HIT:Hid (items x=(aF.walk x.t 0).filterMap (dJ x)):=rfl
 obtain⟨LL,hLL⟩:=aB (aF.walk x.t 0)
 rw[hLL]at mX HLH XP HIT ⊢;clear hLL TA hb1 c3 i0 HB0 jR HDK;go_wp2_with (fail)
 go_loopw [3,5] (fun x3 x5 wr=>∃(k:Nat) (l3:List DI),k<=LL.length∧x5=.int .i64 k∧Hid (DIs wr w1.heap.size x3 l3)∧Hid (l3.map (·.it)=(LL.take k).filterMap (dJ x))∧Hid (bz w1 wr)) (fun _ x5 _=>LL.length - (intOf x5).toNat)
 case atStart=>exact⟨0,[],Nat.zero_le _,rfl,⟨ak.nil _ _,fun _ h=>nomatch h⟩,rfl,bR⟩
 case round=>
  obtain⟨k,l3,hk,rfl,HI,HE,lX⟩:=hrel;generalize wr=wS at*;by_cases hlt:k<LL.length
  ·have t1:decide (k<LL.length)=true:=by simpa using hlt
   have dV:=Hd hlt
   obtain⟨j,hj⟩:∃j,j=LL[k]'hlt:=⟨_,rfl⟩
   have HJM:Hid (has x.t j=true):=HLH.o j (by rw[hj];exact List.getElem_mem hlt);have qQ:Hid ((LL.take (k+1)).filterMap (dJ x)=(LL.take k).filterMap (dJ x)++(dJ x j).toList):=by rw[hj];exact qG (dJ x) hlt
   have HOS:Hid (aP wS w0.heap.size (.slice A6 LL.length c6) LL):=ak.stays XP.o fun g hg=>lX.o.block g (ak.block XP.o hg).2;obtain⟨A6',c6',e6,-,-,hr6⟩:=aP.kE HOS.o;have e7:A6=A6':=by injection e6
   subst e7;clear e6;obtain⟨g6,o6,rfl,-⟩:=hr6.at_ hlt;have CU:=Hd hr6;have FI:Hid (∀W,bz wS W->W.cell? ⟨g6,o6+k,none⟩=some (.int .i64 j)):=fun W hb=>by rw[hj];exact H7 (Row.below CU.o hb) dV.o
   have Ua:=Hd (HB1.o.trans (lX.o.mono HB1.o.size));have FS:Hid (∀W,bz wS W->aA W w.heap.size (Vb wi aH M At x.t.length ct m)):=fun W hb=>(eU.o.stays (lX.o.block _ eU.o.inside)).below' hb
   obtain⟨sk,hsk⟩:=aB ((bT x j).isSome)
   have FW:Hid (∀W,bz wS W->Calls prog 29 #[.agg (Vb wi aH M At x.t.length ct m).toArray,.int .i64 j] W fun e w'=>∃q:DI,e=.returned (.tuple #[.agg q.cs.toArray,.bool sk])∧qg x j q w'∧bz W w'):=fun W hb=>by
    refine(Wv HX.o HN.o _ wi aH M (HDA.o.below (Ua.o.trans (hb.mono Ua.o.size))) j HJM.o).mono ?_;unfold Xo;rintro e w' ⟨q,h1,h2,h3⟩;rw[hsk]at h1;refine⟨q,h1,fun d hd=>?_,h3⟩;obtain⟨k1,k2,k3,k4⟩:=h2 d hd;exact⟨k1,k3,k4,by rw[k1,k2]⟩
   have HSK:=Hd hsk;have hkb:(k:Int)<=1000:=by have:=mX.o;omega
   clear hj hlt hk hsk hr6
   go_upto_region 6 with(fail)
   refine Kr (DQ wS.heap.size) (fun L V wx=>QJ wS.heap.size (L 9) (L 10) (V 6) (V 24) wx∧(L 10=true->L 7=true)∧(L 10=true->L 9=true)) [18,19,20,21,22,23,17,24,25,6,7] (fun _=>DQ.refl _ _) (fun _ _ _ h k=>h.trans k) (fun i=>match i with
    |0=>rV (.agg ((Vb wi aH M At x.t.length ct m)).toArray)
    |1=>rV (.slice (some ⟨g6,o6,none⟩) LL.length c6)
    |2=>rV (.int .i64 (k:Nat))
    |3=>rV (.pointer (some ⟨g6,(o6+k),none⟩))
    |4=>rV (.int .i64 j)
    |5=>(⟨fun v wv=>∃q9,v=.tuple #[.agg (DI.cs q9).toArray,.bool sk]∧qg x j q9 wv,fun v q1 q2 h hb=>h.elim fun q9 h=>⟨q9,h.1,h.2.dq hb⟩⟩:regs.kX (DQ wS.heap.size))
    |6=>(⟨fun v wv=>∃q9,v=.tuple #[.agg (DI.cs q9).toArray,.bool sk]∧qg x j q9 wv,fun v q1 q2 h hb=>h.elim fun q9 h=>⟨q9,h.1,h.2.dq hb⟩⟩:regs.kX (DQ wS.heap.size))
    |7=>(⟨fun v wv=>∃q9,v=.agg (DI.cs q9).toArray∧qg x j q9 wv,fun v q1 q2 h hb=>h.elim fun q9 h=>⟨q9,h.1,h.2.dq hb⟩⟩:regs.kX (DQ wS.heap.size))
    |8|11=>rV (.bool sk)
    |_=>ra) (DQ.below bR.drew nR) (⟨⟨nR,fun e=>nomatch e⟩,nofun,nofun⟩) ⟨?_,?_,?_,?_,?_,?_,?_,?_,?_,?_,?_,?_,trivial⟩ ?_
   any_goals (first|refine fK fun L a w1 hh=>?_|fail)
   ·have h1:=hh.p 1 w.heap.size 0;have hB:=Hd (FS.o _ hh.rel.bel);have hJ:=Hd hh.st;exact aN 30 _ rfl w.heap.size 0 (by simpa[go_sem]using h1) _ hB.o ((Vb wi aH M At x.t.length ct m)) rfl _ underlying30 rfl ag ⟨_,rfl,DQ.refl _ _,rfl,⟨QJ.slots hJ.o.1 sn sn,hJ.o.2⟩⟩
   have h4:=hh.o 4 (v:=.slice (some ⟨g6,o6,none⟩) LL.length c6) rfl;rotate_left;have h5:=hh.o 5 (v:=.int .i64 (k:Nat)) rfl;rotate_left;have h19:=rq (hh.d 1 19);have h20:=rq (hh.d 2 20);have hlt:=dV.o;rotate_left;have h21:=rq (hh.d 3 21);have c0:=FI.o _ hh.rel.bel;have i0:=World.block_lt_of_cell? w1 ⟨g6,_,none⟩ c0;rotate_left
   ·have h18:=rq (hh.d 0 18);have h22:=rq (hh.d 4 22);have hC:=Hd (FW.o _ hh.rel.bel);have hbz:=Hd (show wS.heap.size<=w1.heap.size from hh.rel.bel.size);have hJ:=Hd hh.st;have hsz:=Hd hh.size;have hun:=Hd hh.un;clear hh;go_simp;refine hC.o.mono ?_;rintro e w9 ⟨q9,rfl,OW,aY⟩;exact⟨_,rfl,DQ.below aY hbz.o,⟨q9,rfl,OW⟩,⟨QJ.slots (QJ.below hJ.o.1 aY) sn sn,hJ.o.2⟩⟩
   ·obtain⟨q8,e8,tJ⟩:=(show ∃q9,(a.tmps.getD 23 undef)=.tuple #[.agg (DI.cs q9).toArray,.bool sk]∧qg x j q9 w1 from hh.d 5 23)
    have h23:a.tmps[23]?.getD undef=.tuple #[.agg (DI.cs q8).toArray,.bool sk]:=rq (e8);have KG:=Hd tJ;have hJ:=Hd hh.st;have hsz:=Hd hh.size;have hun:=Hd hh.un;clear hh e8 tJ;go_simp;exact⟨_,rfl,DQ.refl _ _,⟨q8,rfl,KG.o⟩,⟨QJ.slots hJ.o.1 sn sn,hJ.o.2⟩⟩
   ·obtain⟨q8,e8,tJ⟩:=(show ∃q9,(a.tmps.getD 17 undef)=.tuple #[.agg (DI.cs q9).toArray,.bool sk]∧qg x j q9 w1 from hh.d 6 17)
    have h17:a.tmps[17]?.getD undef=.tuple #[.agg (DI.cs q8).toArray,.bool sk]:=rq (e8);have KG:=Hd tJ;have NR:=Hd (bU hh.st.2.1 hh.un);have hJ:=Hd hh.st;have hsz:=Hd hh.size;have hun:=Hd hh.un;clear hh e8 tJ;go_simp;exact⟨_,rfl,DQ.refl _ _,⟨q8,rfl,KG.o⟩,⟨QJ.told hJ.o.1 NR.o sn,fun _=>rfl,hJ.o.2.2⟩⟩
   ·obtain⟨q8,e8,tJ⟩:=(show ∃q9,(a.tmps.getD 17 undef)=.tuple #[.agg (DI.cs q9).toArray,.bool sk]∧qg x j q9 w1 from hh.d 6 17)
    have h17:a.tmps[17]?.getD undef=.tuple #[.agg (DI.cs q8).toArray,.bool sk]:=rq (e8);have KG:=Hd tJ;have hJ:=Hd hh.st;have hsz:=Hd hh.size;have hun:=Hd hh.un;clear hh e8 tJ;go_simp;exact⟨_,rfl,DQ.refl _ _,rfl,⟨QJ.slots hJ.o.1 sn sn,hJ.o.2⟩⟩
   ·have NR:=Hd (bU hh.st.2.2 hh.un);have hbz:=Hd (show wS.heap.size<=w1.heap.size from hh.rel.bel.size);have hJ:=Hd hh.st;have hsz:=Hd hh.size;have hun:=Hd hh.un;clear hh;go_simp;exact⟨_,rfl,DQ.below (bR.alloc nR _) hbz.o,trivial,⟨QJ.made hJ.o.1 NR.o (bJ.aZ (by rw[hsz.o];simp)),hJ.o.2.1,fun _=>rfl⟩⟩
   ·have hup:=hh.up 9 ag;obtain⟨g9,c9,qj,jA,fJ,TB,-⟩:=hh.st.1.ex hup
    obtain⟨q8,e8,tJ⟩:=(show ∃q9,(a.tmps.getD 24 undef)=.agg (DI.cs q9).toArray∧qg x j q9 w1 from hh.d 7 24)
    have Ba:a.tmps[24]?.getD undef=.agg (DI.cs q8).toArray:=rq (e8);have KG:=Hd tJ;have h6:a.tmps[6]?.getD undef=.pointer (some ⟨g9,0,none⟩):=rq (qj);have hJ:=Hd hh.st;have VS:=Hd (hh.up 7 ag);refine bW eF _ _ rfl g9 0 (by simpa[go_sem]using h6) q8.cs (by simpa[go_sem]using Ba) _ fJ.blk (by rw[TB,DI.bF];decide) ag (DI.one _) ?_;intro w9 lu xg
    have V6:aA w9 g9 q8.cs:=by
     have e:c9.take 0++q8.cs++c9.drop (0+q8.cs.length)=q8.cs:=by rw[DI.bF,List.drop_of_length_le (by rw[TB];decide)];simp
     rw[←e];exact xg
    have hP:=hJ.o.1.put qj jA fJ lu V6 (DI.bF _) e8;exact⟨undef,rfl,hP.2,trivial,⟨hP.1,fun _=>VS.o,fun _=>hup⟩⟩
   have Dj:=rq (hh.d 8 25);rotate_left
   any_goals (have hJ:=hh.j;clear hh;go_simp;exact⟨_,rfl,DQ.refl _ _,rfl,⟨QJ.slots hJ.o.1 sn sn,hJ.o.2⟩⟩)
   intro L w6 val hL hJ hR hv;have h7:val 7=.bool sk:=hv 11 7 ag;have CU:=Hd hR;obtain⟨gq,cq,eq,hgq,hbq,hlq,hvq⟩:=hJ.1.ex (hL 9 (by decide));obtain⟨q,ev,hgr⟩:∃q9,val 24=.agg (DI.cs q9).toArray∧qg x j q9 w6:=hv 7 24 ag
   have hcq:cq=q.cs:=by
    have h1:=(hvq (hL 10 (by decide))).symm.trans ev
    injection h1 with h1
    have h2:=congrArg Array.toList h1
    simpa using h2
   subst hcq;have PZ:=Hd hbq.blk;have HGR:=Hd hgr;clear hv hL hJ hR hgq hbq hlq hvq ev hgr;simp only[regs.aG,List.map_cons,List.map_nil,h7];simp only[Act.put,List.setIfInBounds_toArray,List.set_cons_zero,List.set_cons_succ];clear h7
   skip
   rw[eq];clear eq;have ou:Hid (bz w1 w6):=lX.o.trans (CU.o.bel.mono lX.o.size);have HI6:=Hd (HI.o.below CU.o.bel);have c28:=PZ.o.c 28 rfl;have i6:=PZ.o.inside;clear CU FI FS FW Ua HOS HI lX;cases sk with
   |false=>
    have HNI:Hid (dJ x j=none):=by
     show _=_;have h:=HSK.o;unfold dJ;cases hd:bT x j with
     |none=>rfl
     |some d=>rw[hd]at h;cases h
    clear HSK HGR;go_wp2_with (fail)
    go_roundw
    case rel=>exact⟨k+1,l3,dV.o,by go_num,HI6.o,by show _=_;rw[qQ.o,HNI.o,HE.o];simp,ou.o⟩
    case measure=>have:=dV.o;simp[intOf];omega
   |true=>
    obtain⟨d,hd⟩:=Option.isSome_iff_exists.1 HSK.o;obtain⟨hqi,hqa⟩:=HGR.o d hd;have HQA:=Hd hqa
    have a0e:Hid (dJ x j=if q.n.lk.k=0 then none else some q.it):=by
     show _=_;unfold dJ;rw[hd,Option.bind_some,hqa.2.2,hqi]
    clear hd hqi hqa HSK HGR;by_cases h0:q.n.lk.k=0
    ·have t2:(q.n.lk.k != 0)=false:=by simpa using h0
     have HNI:Hid (dJ x j=none):=a0e.o.trans (if_pos h0);clear h0 a0e;go_wp2_with (fail)
     go_roundw
     case rel=>exact⟨k+1,l3,dV.o,by go_num,HI6.o,by show _=_;rw[qQ.o,HNI.o,HE.o];simp,ou.o⟩
     case measure=>have:=dV.o;simp[intOf];omega
    ·have t2:(q.n.lk.k != 0)=true:=by simpa using h0
     have HNI:Hid (dJ x j=some q.it):=a0e.o.trans (if_neg h0);have hal:bz w6 (w6.alloc (.cells q.cs.toArray eF)):=bR.alloc nR _
     obtain⟨v9,w9,hrun,hi9,aY⟩:=(HI6.o.below hal).app q (g:=w6.heap.size) (c:=1) (qy DI.bF (by simpa using az w6 q.cs eF)) (HQA.o.dq (DQ.below hal nR)) (by
      have h1:=congrArg List.length HE.o;rw[List.length_map]at h1;have h2:=List.length_filterMap_le (dJ x) (LL.take k);rw[List.length_take]at h2;have h3:=mX.o
      omega) (Nat.le_trans ou.o.size hal.size)
     have HI9:=Hd hi9;have pV:Hid (bz w1 w9):=(ou.o.trans (hal.mono ou.o.size)).trans aY;have HQB:=PZ;clear h0 a0e hal hi9 aY;go_wp2_with (first|((with_reducible refine gB ?_);refine iT _ _ _ rfl rfl (by simp[go_sem]) (a3U q _) ?_)|first|(with_reducible refine gL ?_;first|(refine wt 48 0 rfl rfl rfl HQB.o (q.cs) rfl underlying48 rfl ?_))|(at_builtin;refine bg rfl _ _ 33 33 33 rfl rfl _ _ _ _ rfl rfl hrun ?_;clear hrun))
     go_roundw
     case rel=>exact⟨k+1,l3++[q],dV.o,by go_num,HI9.o,by show _=_;rw[qQ.o,HNI.o,List.map_append,HE.o];rfl,pV.o⟩
     case measure=>have:=dV.o;simp[intOf];omega
  ·obtain rfl:k=LL.length:=by omega
   have t1:decide (LL.length<LL.length)=false:=by simp
   rw[List.take_length]at HE;obtain⟨A9,c9,rfl,-,-,L8⟩:=ak.row HI.o.own DI.bF;have Du:=Hd L8;clear hlt hk L8;go_wp2_with (fail);go_ret;exact⟨A9,c9,l3,rfl,Du.o,HI.o.at_,by rw[HE.o,HIT.o],HB1.o.trans (lX.o.mono HB1.o.size)⟩
end
section
open Go.RowKit fF fO aF Go.Maps
end
end Go.Proofs.YthmegninhpihkaaGreat
