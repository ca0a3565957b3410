import Derived.Test.YtekdoeilpheklaaGreatWFlN
import Derived.Test.YtekdoeilpheklaaGreatWFlV
set_option maxHeartbeats 16000000
set_option maxRecDepth 100000
open Go.Proofs.Tryz
namespace Go.Proofs.YtekdoeilpheklaaGreat
section
open Go.RowKit fH fV aF Go.Maps
abbrev dY:TypeId:=63
abbrev y7:TypeId:=35
abbrev sH:TypeId:=124
abbrev Og:TypeId:=55
def DC(i:Int)(u b:Mp)(v:Value)(o:Nat)(n:Nd)(A:Option Addr)(c:Nat):List Value:=[.int .i64 i,.int .i64 u.a,.int .i64 u.b,.int .i64 u.c,.int .i64 u.d,.int .i64 u.e,.int .i64 u.f,.int .i64 b.a,.int .i64 b.b,.int .i64 b.c,.int .i64 b.d,.int .i64 b.e,.int .i64 b.f,v,.int .i64 (o:Nat)]++n.cs A c
structure DI where
 it:It
 n:Nd
 Ac:Option Addr
 cc:Nat
 A:Option Addr
 c:Nat
def DI.cs(q:DI):List Value:=DC q.it.i q.it.w q.it.b (.slice q.Ac q.it.c.length q.cc) q.it.o q.n q.A q.c
theorem DI.aZ(q:DI):q.cs.length=35:=rfl
theorem DI.one(q:DI):q.cs.all (·.oneCell')=true:=rfl
def DI.zero:DI:=⟨⟨0,Mp.o,Mp.o,[],0,⟨0,0,0,0,0,0,[]⟩⟩,Nd.zero,none,0,none,0⟩
theorem WX(i:Int)(n:Nd)(A:Option Addr)(c:Nat)(w:World):(Instr.build dY #[(0,.int .i64 i),(4,.int .i64 255),(5,.agg (n.cs A c).toArray)]).run prog w=.ok (.agg (DC i Mp.o Mp.o (.slice none 0 0) 255 n A c).toArray) w:=by kernel_rfl
theorem En(w:World):(Instr.build dY #[]).run prog w=.ok (.agg DI.zero.cs.toArray) w:=by kernel_rfl
theorem RY(u:Mp)(r:Bx)(w:World):(Instr.build sH #[(0,.agg u.cs.toArray),(1,.agg r.yJ.toArray)]).run prog w=.ok (.agg (Cl.cs ⟨u,r⟩).toArray) w:=by kernel_rfl
theorem a1S(q:Cl)(w:World):(Instr.buildSlice Og 1 #[(0,.agg q.cs.toArray)]).run prog w=.ok (.slice (some ⟨w.heap.size,0,none⟩) 1 1) (w.alloc (.cells q.cs.toArray sH)):=by kernel_rfl
theorem VK:(prog.info? sH).map (fun i=>(i.zero,i.size,i.bytes))=some (some (.agg #[.int .i64 0,.int .i64 0,.int .i64 0,.int .i64 0,.int .i64 0,.int .i64 0,.int .i64 0,.int .i64 0,.int .i64 0,.int .i64 0]),10,80):=by kernel_rfl
abbrev GN(w:World)(base:Nat)(v:Value)(l:List Cl):Prop:=aj sH 10 Cl.cs w base v l
structure Lw(x B:Nat)(A W:World):Prop where
 os:W.os=A.os
 tape:W.tape=A.tape
 output:W.output=A.output
 size:A.heap.size<=W.heap.size
 same:∀k,k<B->k≠x->W.heap[k]?=A.heap[k]?
theorem Lw.of_below{x B:Nat}{A W:World}(h:bz A W)(hs:B<=A.heap.size):Lw x B A W:=⟨h.os,h.tape,h.output,h.size,fun k hk _=>h.block k (Nat.lt_of_lt_of_le hk hs)⟩
theorem Lw.UL{x B:Nat}{A W:World}(h:KX x A W)(hs:B<=A.heap.size):Lw x B A W:=⟨h.os,h.tape,h.output,h.size,fun k hk hn=>h.same k (Nat.lt_of_lt_of_le hk hs) hn⟩
theorem Lw.Ah{x B:Nat}{A W:World}{r:Option Nat}(h:A.grownBy W r)(hr:∀k,r=some k->B<=k)(hs:B<=A.heap.size):Lw x B A W:=⟨h.os,h.tape,h.output,h.size,fun k hk _=>h.block k (Nat.lt_of_lt_of_le hk hs) fun e=>by have:=hr k e.symm;omega⟩
theorem Ic{w:World}{g o k:Nat}{l:List Int}(h:Row eI w (some ⟨g,o,none⟩) l)(hk:k<l.length):w.cell? ⟨g,o+k,none⟩=some (.int .i64 l[k]):=by
 obtain⟨g',o',e,h1⟩:=h.at_ hk;cases e;exact h1
structure Xo(w:World)(cs2:List Value)(v6:Value)(l:List Int)(o7 B:Nat)(W:World):Prop where
 bel:bz w W
 b2:ax W w.heap.size cs2
 b4:ax W (w.heap.size+1) DI.zero.cs
 own:aU W (w.heap.size+2) v6 l
 lt:w.heap.size+2<=o7∧o7<B∧B<=W.heap.size
 v6:∀g,v6.ownBlock=some g->g<o7
theorem Xo.step{w:World}{cs2:List Value}{v6:Value}{l:List Int}{o7 B:Nat}{W W':World}(h:Xo w cs2 v6 l o7 B W)(k:Lw o7 B W W'):Xo w cs2 v6 l o7 B W':=by
 have hl:=h.lt
 exact⟨⟨k.os.trans h.bel.os,k.tape.trans h.bel.tape,k.output.trans h.bel.output,Nat.le_trans h.bel.size k.size,fun j hj=>(k.same j (by omega) (by omega)).trans (h.bel.block j hj)⟩,h.b2.stays (k.same _ (by omega) (by omega)),h.b4.stays (k.same _ (by omega) (by omega)),
  aj.stays h.own fun g hg=>k.same g (by have:=h.v6 g hg;omega) (by have:=h.v6 g hg;omega),⟨hl.1,hl.2.1,Nat.le_trans hl.2.2 k.size⟩,h.v6⟩
theorem Xo.below{w:World}{cs2:List Value}{v6:Value}{l:List Int}{o7 B:Nat}{W W':World}(h:Xo w cs2 v6 l o7 B W)(hb:bz W W'):Xo w cs2 v6 l o7 B W':=h.step (Lw.of_below hb h.lt.2.2)
def kY(x:aO)(l:List Int)(k:Nat):Mp:=((l.take k).getLast?.map x.ws).getD Mp.o
theorem LD(x:aO){l:List Int}{k:Nat}(hk:k<l.length):kY x l (k+1)=x.ws l[k]:=by
 unfold kY;rw[List.take_succ_eq_append_getElem hk,List.getLast?_append];rfl
theorem WI{x:aO}{l:List Int}{k:Nat}(hk:k<l.length){d d0:Dn}(h:Dj x (l.take k) d0=some d):Dj x (l.take (k+1)) d0=pK (x.nd l[k]) (x.ws l[k]) d:=by
 rw[List.take_succ_eq_append_getElem hk,zn,h,Option.bind_some,Dj];cases pK (x.nd l[k]) (x.ws l[k]) d<;>rfl
theorem WL{x:aO}{l:List Int}{k:Nat}{d0:Dn}(h:Dj x (l.take k) d0=none):Dj x l d0=none:=by
 rw[←List.take_append_drop k l,zn,h];rfl
theorem Ud(x:aO)(i:Int)(hi:i=0∨i∈ids x.t)(ok:Ok x.t):kY x (fZ x.t i) (fZ x.t i).length=x.ws i:=by
 unfold kY;rw[List.take_length];rcases hi with e|e
 ·rw[e,Ue];rfl
 ·rw[zH ok e,List.getLast?_append];rfl
theorem Yy{x:aO}(ok:Ok x.t){i:Int}(hi:i=0∨i∈ids x.t):∀j∈fZ x.t i,has x.t j=true:=by
 intro j hj;unfold fZ at hj;rw[List.mem_cons,List.mem_reverse]at hj;rcases hj with e|e
 ·exact ai.2 (.inl e)
 ·exact ai.2 (.inr (AB ok hi e))
structure Cm(w:World)(A:Option Addr)(l:List Cl):Prop where
 row:aT 10 Cl.cs w A l
 typ:∀a,A=some a->l≠[]->∃cs fz,w.heap[a.block]?=some (.cells cs sH fz)
theorem GN.a5K{w:World}{B c n:Nat}{A:Option Addr}{l:List Cl}(h:GN w B (.slice A n c) l):Cm w A l:=by
 obtain⟨A',c',e',-,-,hr⟩:=aj.row h Cl.aZ;have e:A=A':=by injection e'
 refine⟨e ▸ hr,fun a ea hne=>?_⟩
 have h1:(Value.slice A n c).ownBlock=some a.block∨l=[]:=by
  rcases h.2 with ⟨e1,e2⟩|⟨g,cap,cur,e1,-⟩
  ·exact .inr (List.eq_nil_of_length_eq_zero e2)
  ·have e3:A=some ⟨g,0,none⟩:=by injection e1
   rw[ea]at e3;rw[ea,Option.some.inj e3];exact .inl rfl
 obtain⟨cur,h2⟩:=h.typed (h1.resolve_right hne);exact⟨cur,_,h2⟩
def Xn(x:aO)(id:Int)(w:World)(e:Ending)(w':World):Prop:=∃q:DI,e=.returned (.tuple #[.agg q.cs.toArray,.bool (bU x id).isSome])∧(∀d,bU x id=some d->q.it=⟨id,x.ws id,d.b,d.c.reverse,d.o,(x.nd id).lk⟩∧q.n=x.nd id∧Cm w' q.Ac q.it.c∧mM w' q.A q.n.lk.l)∧bz w w'
theorem Wq{w:World}{x:aO}(hx:tN x)(hn:x.t.length<=900)(v:Value)(wi aH M:Int)(hd:eP w v wi aH M x)(id:Int)(hh:has x.t id=true) :
  Calls prog 30 #[v,.int .i64 id] w (Xn x id w):=by
 unfold Xn;have HX:=Hd hx;have HN:=Hd hn;have HI:=ai.1 hh;have HIH:=Hd hh;obtain⟨tv,m,rfl,ht,hm⟩:=hd;obtain⟨At,ct,rfl,hr,hy⟩:=ht;have HM:=Hd hm
 have HTR:Hid (aP w (.slice At x.t.length ct) x.t):=⟨At,ct,rfl,hr,hy⟩
 obtain⟨A0,yK,a3u,hlk0⟩:=hm.look (kW hx.ok hh) hh;have a4o:=Hd a3u;have a2j:=Hd hlk0;have HDW:Hid (bU x id=(Dj x (fZ x.t id) Dn.top).filter fun d=>decide (¬d.o=0)):=Wl hx.ok HI;have HWH:Hid (∀j∈fZ x.t id,has x.t j=true):=Yy hx.ok HI;have HWL:Hid ((fZ x.t id).length<=1000):=by have:=N8 hx.ok HI;show _<=_;omega
 have HLW:Hid (kY x (fZ x.t id) (fZ x.t id).length=x.ws id):=Ud x id HI hx.ok;have HWY:=Hd (fun W (hW:aP W (.slice At x.t.length ct) x.t)=>Wh wi aH M (.slice At x.t.length ct) x.t m hx.ok (by omega) _ id W hW hh nR)
 have HWV:Hid (∀j,has x.t j=true->dQ x.t x.nd j=(x.ws j,true)∧(x.ws j).right=true):=fun j hj=>by
  have h1:=hx.set j hj (fun _ _ h=>h) (fun h=>h);have h2:=Dv hx.ok (fun i=>(kP (hx.good i)).1) (ai.1 hj);rw[h1]at h2;refine⟨?_,mY hx.ok (fun i=>(kP (hx.good i)).1) (ai.1 hj) _ h1⟩;by_cases h3:(dQ x.t x.nd j).2=true
  ·rw[if_pos h3]at h2
   injection h2 with h2
   rw[h2,←h3]
  ·rw[if_neg h3]at h2;cases h2
 obtain⟨n0,hn0⟩:=aB (x.nd id)
 have Yr:=Hd hn0;rw[hn0]at a4o a2j;clear hx hn hm hr hy a3u hlk0 hn0
 obtain⟨l,hl⟩:=aB (fZ x.t id)
 rw[hl]at HDW HWH HWL HLW HWY;clear hl;have HB0:Hid (bz w ((w.alloc (.cells (Vb wi aH M At x.t.length ct m).toArray 30)).alloc (.cells Vj.toArray dY))):=(bR.alloc nR _).alloc (by simp) _;have jR:Hid (ax ((w.alloc (.cells (Vb wi aH M At x.t.length ct m).toArray 30)).alloc (.cells Vj.toArray dY)) w.heap.size (Vb wi aH M At x.t.length ct m)):=(az w (Vb wi aH M At x.t.length ct m) _).alloc _
 have mG:Hid (ax ((w.alloc (.cells (Vb wi aH M At x.t.length ct m).toArray 30)).alloc (.cells Vj.toArray dY)) (w.heap.size+1) DI.zero.cs):=aQ (w.alloc _) _ (by simp) DI.zero.cs _;have JO:Hid (((w.alloc (.cells (Vb wi aH M At x.t.length ct m).toArray 30)).alloc (.cells Vj.toArray dY)).heap.size=w.heap.size+2):=by show _=_;simp
 go_enter func30,ntmps30
 go_upto_region 1 with(fail)
 generalize ((w.alloc (.cells (Vb wi aH M At x.t.length ct m).toArray 30)).alloc (.cells Vj.toArray dY))=w0 at*;go_wp2_with (first|(with_reducible refine gL ?_;first|(refine wt 30 0 rfl rfl rfl jR.o ((Vb wi aH M At x.t.length ct m)) rfl underlying30 rfl ?_)));refine(HWY.o w0 (HTR.o.below HB0.o)).mono ?_;rintro e w1 ⟨v6,rfl,ho6,hb1⟩;have HB1:=Hd (HB0.o.trans (hb1.mono HB0.o.size));have HO6:Hid (aU w1 (w.heap.size+2) v6 l):=aj.weaken ho6 (by (try show Below _ _ _);rw[JO.o];exact nR);have eH:=Hd (jR.o.below' hb1);have a4P:=Hd (mG.o.below' hb1)
 have Xy:Hid (w.heap.size+2<=w1.heap.size):=by have:=hb1.size;have:=JO.o;show _<=_;omega
 obtain⟨A6,c6,rfl,-,-,-⟩:=aU.kV HO6.o;have HV6:Hid (∀g,Value.ownBlock (.slice A6 l.length c6)=some g->g<w1.heap.size):=fun g hg=>(aj.block HO6.o hg).2;clear ho6 hb1 HB0 jR mG JO HWY;have HZ:Hid (ax (w1.alloc (.cells Vj.toArray dY)) w1.heap.size DI.zero.cs):=az w1 DI.zero.cs _;have iR:Hid (Below w1.heap.size w1 (w1.alloc (.cells Vj.toArray dY))):=bR.alloc nR _;have hlk:=a2j.o w1 HB1.o;have c4:=eH.o.c 4 rfl;have i0:=eH.o.inside
 go_wp2_with (first|((with_reducible refine gU ?_);refine dH _ _ rfl rfl (by simp[go_sem]) (WX id n0 A0 yK _) ?_)|first|(with_reducible refine gS ?_;first|(refine ay dY _ _ rfl rfl rfl _ 0 rfl (DC id Mp.o Mp.o (.slice none 0 0) 255 n0 A0 yK) rfl (DI.zero.cs) HZ.o (DC id Mp.o Mp.o (.slice none 0 0) 255 n0 A0 yK) rfl (nE rfl) af rfl ?_;intro w2 HW2 bQ)))
 obtain⟨o7,ho7⟩:=aB w1.heap.size
 have HKK:Hid (Xo w (Vb wi aH M At x.t.length ct m) (.slice A6 l.length c6) l o7 w2.heap.size w2):=by
  have hbl:Below w1.heap.size w1 w2:=HW2.o.below iR.o nR;refine⟨HB1.o.trans (hbl.mono HB1.o.size),eH.o.below' hbl,a4P.o.below' hbl,aj.below HO6.o hbl,⟨by rw[←ho7];exact Xy.o,by rw[←ho7];exact bQ.o.inside,nR⟩,fun g hg=>?_⟩;rw[←ho7];exact HV6.o g hg
 rw[ho7]at bQ ⊢;clear ho7 hlk c4 i0 HZ iR HW2 HB1 HO6 eH a4P Xy HV6 a2j;have HD0:Hid (Dj x (l.take 0) Dn.top=some Dn.top):=rfl
 obtain⟨B8,qV⟩:=aB w2.heap.size
 rw[qV]at HKK;clear qV
 go_loopw [8] (fun x8 wr=>∃(k:Nat) (d:Dn) (v3:Value),k<=l.length∧x8=.int .i64 k∧Hid (Dj x (l.take k) Dn.top=some d∧d.o<256)∧Hid (GN wr B8 v3 d.c.reverse)∧Hid (d.c.length<=k)∧Hid (ax wr o7 (DC id (kY x l k) d.b v3 d.o n0 A0 yK))∧Hid (Xo w (Vb wi aH M At x.t.length ct m) (.slice A6 l.length c6) l o7 B8 wr)) (fun x8 _=>l.length - (intOf x8).toNat)
 case atStart=>exact⟨0,Dn.top,.slice none 0 0,Nat.zero_le _,rfl,⟨HD0.o,by decide⟩,aj.nil _ _,Nat.zero_le _,bQ.o,HKK.o⟩
 case round=>
  obtain⟨k,d,v3,hk,rfl,HD,rZ,Ko,HO,HK⟩:=hrel;generalize wr=wS at*;clear bQ HKK HD0;by_cases hlt:k<l.length
  ·have t1:decide (k<l.length)=true:=by simpa using hlt
   have fC:=Hd hlt
   obtain⟨j,hj⟩:∃j,j=l[k]'hlt:=⟨_,rfl⟩
   have HJM:Hid (has x.t j=true):=HWH.o j (by rw[hj];exact List.getElem_mem hlt);have a4R:Hid (I64 j):=kW HX.o.ok HJM.o;have HD1:Hid (Dj x (l.take (k+1)) Dn.top=pK (x.nd j) (x.ws j) d):=by rw[hj];exact WI hlt HD.o.1
   have HLS:Hid (kY x l (k+1)=x.ws j):=by rw[hj];exact LD x hlt
   have HWJ:=Hd (HWV.o j HJM.o);obtain⟨An,cn,-,hlk⟩:=HM.o.look a4R.o HJM.o;have TU:=Hd hlk;have NK:=Hd (Ol (HX.o.good j));have HOC:Hid ((x.nd j).chk=0):=HX.o.good j;obtain⟨A6',c6',e6,-,-,hr6⟩:=aU.kV HK.o.own;have e7:A6=A6':=by injection e6
   subst e7;clear e6;obtain⟨g6,o6,rfl,-⟩:=hr6.at_ hlt;have yM:=Hd hr6;have FI:Hid (∀W,bz wS W->W.cell? ⟨g6,o6+k,none⟩=some (.int .i64 j)):=fun W hb=>by rw[hj];exact Ic (Row.below yM.o hb) fC.o
   have TZ:Hid (bz w wS):=HK.o.bel;have FS:Hid (∀W,bz wS W->ax W w.heap.size (Vb wi aH M At x.t.length ct m)):=fun W hb=>HK.o.b2.below' hb;have HKB:Hid (k<=1000):=by have:=HWL.o;show _<=_;omega
   have hkb:=HKB.o
   obtain⟨n,hn⟩:=aB (x.nd j)
   obtain⟨u,hu⟩:=aB (x.ws j)
   have HUB:Hid (x.ws j=u):=hu;rw[hn]at HD1 TU NK HOC;rw[hu]at HD1 HWJ
   obtain⟨qo,hqo⟩:∃qo:Nat,n.op.toNat=qo:=⟨_,rfl⟩
   have NI:Hid (n.op=(qo:Nat)∧qo<256):=by rw[←hqo];exact⟨NK.o.2,NK.o.1⟩
   have HQE:Hid (n.op.toNat=qo):=hqo;clear hqo;clear hj hlk hr6 hlt hk hn hu
   go_upto_region 6 with(fail)
   refine Kr (Below wS.heap.size) (fun L V wx=>JN wS.heap.size [] (Va) (n.cs An cn) (L 7) (L 8) (V 9) wx) [29,30,31,32,33,34,35,9] (fun _=>bR) (fun _ _ _ h k=>h.trans k) (fun i=>match i with
    |0=>rp w.heap.size 4
    |1=>rV (.map (some m))
    |2=>rV (.slice (some ⟨g6,o6,none⟩) l.length c6)
    |3=>rV (.int .i64 (k:Nat))
    |4=>rV (.pointer (some ⟨g6,(o6+k),none⟩))
    |5=>rV (.int .i64 j)
    |6=>rV (.agg (n.cs An cn).toArray)
    |_=>ra) (bR.drew) (JN.start (old:=[]) trivial) ⟨?_,?_,?_,?_,?_,?_,?_,?_,?_,trivial⟩ ?_
   any_goals (first|refine fE fun L a w1 hh=>?_|fail)
   have h2:=hh.p 2 w.heap.size 0;have i0:=(FS.o _ hh.rel).inside;rotate_left;have yw:=rq (hh.d 0 29);have ⟨c0,i0⟩:=(FS.o _ hh.rel).ci 4 rfl;rotate_left;have h6:=hh.o 6 (v:=.slice (some ⟨g6,o6,none⟩) l.length c6) rfl;rotate_left;have h8:=hh.o 8 (v:=.int .i64 (k:Nat)) rfl;rotate_left;have h31:=rq (hh.d 2 31);have h32:=rq (hh.d 3 32);have hlt:=fC.o;rotate_left;have OM:=rq (hh.d 4 33);have c0:=FI.o _ hh.rel;have i0:=World.block_lt_of_cell? w1 ⟨g6,_,none⟩ c0;rotate_left;have h30:=rq (hh.d 1 30);have TB:=rq (hh.d 5 34);have hlk:=TU.o _ (TZ.o.trans (hh.rel.mono TZ.o.size))
   rotate_left
   ·have hJ:=Hd hh.st;have hsz:=Hd hh.size;have hun:=Hd hh.un;clear hh;go_simp;exact⟨_,rfl,bR.alloc hJ.o.1.2.1 _,trivial,JN.new hJ.o hun.o (bM.aY (by rw[hsz.o];simp))⟩
   ·have h35:=rq (hh.d 6 35);have hup:=hh.up 7 af;obtain⟨g9,Tj,jk,fA⟩:=hh.st.2.1 hup;have h9:a.tmps[9]?.getD undef=.pointer (some ⟨g9,0,none⟩):=rq (Tj);rw[hh.un]at fA;have hJ:=Hd hh.st;have hun:=Hd hh.un;refine dB 61 _ _ rfl g9 0 (by simpa[go_sem]using h9) (n.cs An cn) (by simpa[go_sem]using h35) _ fA (nE rfl) af (by rfl) ?_;intro w9 nD Di;have hP:=hJ.o.KN hup hun.o Tj nD Di rfl;exact⟨undef,rfl,hP.2,trivial,hP.1⟩
   any_goals (have hJ:=hh.j;clear hh;go_simp;exact⟨_,rfl,bR,rfl,JN.slots hJ.o sn⟩)
   intro L w9 val hL hJ hR hv;have Dq:=Hd hR;obtain⟨g9,e9,jk,fA⟩:=hJ.2.1 (hL 7 (by decide));have tX:=Hd (And.intro jk (show ax w9 g9 (n.cs An cn) by rw[hL 8 (by decide)]at fA;exact fA));clear hv hL hJ hR jk fA;simp only[regs.aC,List.map_cons,List.map_nil];simp only[Act.put,List.setIfInBounds_toArray,List.set_cons_zero,List.set_cons_succ]
   skip
   rw[e9];clear e9;have FI9:Hid (∀W,bz w9 W->W.cell? ⟨g6,o6+k,none⟩=some (.int .i64 j)):=fun W hb=>FI.o W (Dq.o.trans (hb.mono Dq.o.size));have FS9:Hid (∀W,bz w9 W->ax W w.heap.size (Vb wi aH M At x.t.length ct m)):=fun W hb=>FS.o W (Dq.o.trans (hb.mono Dq.o.size));have a2I:=Hd (TZ.o.trans (Dq.o.mono TZ.o.size))
   have FW:Hid (∀W,bz w9 W->Calls prog 60 #[.agg (Vb wi aH M At x.t.length ct m).toArray,.int .i64 j] W (aJ (.tuple #[.agg u.cs.toArray,.bool true]) W)):=fun W hb=>by
    have hbw:=a2I.o.trans (hb.mono a2I.o.size);have h1:=Bj wi aH M (.slice At x.t.length ct) x.t m x.nd HX.o.ok (by have:=HN.o;omega) _ j W (HTR.o.below hbw) (HM.o.below hbw) HJM.o nR;rw[HWJ.o.1]at h1;exact h1
   go_upto_region 7 with(fail)
   refine Kr (Below w9.heap.size) (fun L V wx=>JN w9.heap.size [] (Vd) (u.cs) (L 9) (L 10) (V 10) wx) [37,38,39,40,41,42,36,43,44,10,11] (fun _=>bR) (fun _ _ _ h k=>h.trans k) (fun i=>match i with
    |0=>rV (.agg ((Vb wi aH M At x.t.length ct m)).toArray)
    |1=>rV (.slice (some ⟨g6,o6,none⟩) l.length c6)
    |2=>rV (.int .i64 (k:Nat))
    |3=>rV (.pointer (some ⟨g6,(o6+k),none⟩))
    |4=>rV (.int .i64 j)
    |5|6=>rV (.tuple #[.agg (u.cs).toArray,.bool true])
    |7=>rV (.agg (u.cs).toArray)
    |8|11=>rT
    |_=>ra) (bR.drew) (JN.start (old:=[]) trivial) ⟨?_,?_,?_,?_,?_,?_,?_,?_,?_,?_,?_,?_,trivial⟩ ?_
   any_goals (first|refine fE fun L a w1 hh=>?_|fail)
   ·have h2:=hh.p 2 w.heap.size 0;have hB:=Hd (FS9.o _ hh.rel);have hJ:=Hd hh.st;exact aK 30 _ rfl w.heap.size 0 (by simpa[go_sem]using h2) _ hB.o ((Vb wi aH M At x.t.length ct m)) rfl _ underlying30 rfl af ⟨_,rfl,bR,rfl,JN.slots hJ.o sn⟩
   have h6:=hh.o 6 (v:=.slice (some ⟨g6,o6,none⟩) l.length c6) rfl;rotate_left;have h8:=hh.o 8 (v:=.int .i64 (k:Nat)) rfl;rotate_left;have h38:=rq (hh.d 1 38);have Tz:=rq (hh.d 2 39);have hlt:=fC.o;rotate_left;have Tv:=rq (hh.d 3 40);have c0:=FI9.o _ hh.rel;have i0:=World.block_lt_of_cell? w1 ⟨g6,_,none⟩ c0;rotate_left
   ·have h37:=rq (hh.d 0 37);have Tu:=rq (hh.d 4 41);have hC:=Hd (FW.o _ hh.rel);have hJ:=hh.j;clear hh;go_simp;refine hC.o.mono ?_;rintro e w9 ⟨rfl,aS⟩;exact⟨_,rfl,aS.mono hJ.o.1.2.1,rfl,JN.slots (JN.below hJ.o aS) sn⟩
   have h42:=rq (hh.d 5 42);rotate_left;have TA:=rq (hh.d 6 36);rotate_left;have TA:=rq (hh.d 6 36);rotate_left
   ·have hJ:=Hd hh.st;have hsz:=Hd hh.size;have hun:=Hd hh.un;clear hh;go_simp;exact⟨_,rfl,bR.alloc hJ.o.1.2.1 _,trivial,JN.new hJ.o hun.o (bM.aY (by rw[hsz.o];simp))⟩
   ·have h43:=rq (hh.d 7 43);have hup:=hh.up 9 af;obtain⟨g9,Tj,jk,fA⟩:=hh.st.2.1 hup;have h10:a.tmps[10]?.getD undef=.pointer (some ⟨g9,0,none⟩):=rq (Tj);rw[hh.un]at fA;have hJ:=Hd hh.st;have hun:=Hd hh.un;refine dB 53 _ _ rfl g9 0 (by simpa[go_sem]using h10) (u.cs) (by simpa[go_sem]using h43) _ fA (nE rfl) af (by rfl) ?_;intro w9 nD Di;have hP:=hJ.o.KN hup hun.o Tj nD Di rfl;exact⟨undef,rfl,hP.2,trivial,hP.1⟩
   have FN:=rq (hh.d 8 44);rotate_left
   any_goals (have hJ:=hh.j;clear hh;go_simp;exact⟨_,rfl,bR,rfl,JN.slots hJ.o sn⟩)
   intro L w10 val hL hJ hR hv;have h11:val 11=.bool true:=hv 11 11 af;have Gv:=Hd hR;obtain⟨g10,e10,Zb,a1x⟩:=hJ.2.1 (hL 9 (by decide));have a0v:=Hd (And.intro Zb (show ax w10 g10 (u.cs) by rw[hL 10 (by decide)]at a1x;exact a1x));clear hv hL hJ hR Zb a1x;simp only[regs.aC,List.map_cons,List.map_nil,h11];simp only[Act.put,List.setIfInBounds_toArray,List.set_cons_zero,List.set_cons_succ];clear h11
   skip
   rw[e10];clear e10;have HUR:=HWJ.o.2;have HUR:=Hd HUR;go_wp2_with (first|(with_reducible refine gL ?_;first|(refine kH 53 _ rfl rfl _ 0 rfl (u.cs) a0v.o.2 (u.cs) rfl _ underlying53 rfl af ?_)));refine(a1i u w10 HUR.o).mono ?_;rintro e wK ⟨rfl,a3I⟩;have Tf:=Hd a3I
   obtain⟨ub,hub⟩:=aB u.back.1
   obtain⟨ue,hue⟩:=aB u.back.2
   have wo:Hid (u.back.1=ub∧u.back.2=ue):=⟨hub,hue⟩
   rw[hub,hue];clear hub hue a3I;unfold Mp.v;have HZb:Hid (ax (wK.alloc (.cells Vd.toArray 54)) wK.heap.size Vd):=az wK Vd _;have vT:Hid (Below wK.heap.size wK (wK.alloc (.cells Vd.toArray 54))):=bR.alloc nR _
   go_upto_region 9 with(first|(with_reducible refine gS ?_;first|(refine ay 54 _ _ rfl rfl rfl _ 0 rfl (ub.cs) rfl (Vd) HZb.o (ub.cs) rfl (nE rfl) af (Mp.one1 _) ?_;intro w12 Yl xQ)))
   have HBc:Hid (Below wK.heap.size wK w12):=Yl.o.below vT.o nR;have HBd:Hid (bz w9 w12):=Gv.o.trans ((Tf.o.mono Gv.o.size).trans (HBc.o.mono (Nat.le_trans Gv.o.size Tf.o.size)));have HBe:Hid (bz wS w12):=Dq.o.trans (HBd.o.mono Dq.o.size);have HG9:Hid (wS.heap.size<=g9):=tX.o.1;have HLO:=Hd HK.o.lt;have HGN:Hid (w9.heap.size<=g10):=a0v.o.1;have Gw:Hid (ax w12 g9 (n.cs An cn)):=tX.o.2.below' HBd.o;have Xx:Hid (ax w12 g10 u.cs):=a0v.o.2.below' (Tf.o.trans (HBc.o.mono Tf.o.size))
   obtain⟨g12,a1v⟩:=aB wK.heap.size
   have HGM:Hid (wS.heap.size<=g12):=by rw[←a1v];exact Nat.le_trans Dq.o.size (Nat.le_trans Gv.o.size Tf.o.size)
   rw[a1v]at xQ ⊢;have a2u:Hid (g10≠o7):=by have:=HLO.o;have:=HGN.o;have:=Dq.o.size;show _≠_;omega
   have X5:Hid (g12≠o7):=by have:=HLO.o;have:=HGM.o;show _≠_;omega
   have a6s:Hid (g9≠o7):=by have:=HLO.o;have:=HG9.o;show _≠_;omega
   have NQ:Hid (ax w12 o7 (DC id (kY x l k) d.b v3 d.o n0 A0 yK)):=HO.o.below' HBe.o;have a0l:Hid (GN w12 B8 v3 d.c.reverse):=aj.below rZ.o HBe.o;have NT:Hid (Xo w (Vb wi aH M At x.t.length ct m) (.slice (some ⟨g6,o6,none⟩) l.length c6) l o7 B8 w12):=HK.o.below HBe.o;have HOWN:Hid (∀g,v3.ownBlock=some g->B8<=g∧g<wS.heap.size):=fun g hg=>aj.block rZ.o hg
   have HGA:Hid (wS.heap.size<=g10∧wS.heap.size<=w12.heap.size):=⟨Nat.le_trans Dq.o.size HGN.o,HBe.o.size⟩
   have c7:=Gw.o.c 7 rfl;have i9:=Gw.o.inside;clear a1v Dq tX Gv a0v Tf HZb vT Yl HBc HBd HBe FI FS FI9 FS9 FW TU yM HUR a2I TZ HO rZ HK HGN a4R HJM HWJ;by_cases hbad:n.hi=true∨¬ue=0
   ·have PN:Hid (bU x id=none):=by
     show _=_;rw[HDW.o,WL (k:=k+1) (HD1.o.trans (by unfold pK;rw[wo.o.2,if_pos hbad]))];rfl
    have PQ:=NT;clear HDW HD1 Gw Xx xQ NQ a0l NT HLS;by_cases hue:ue=0
    ·have t5:(ue != 0)=false:=by simpa using hue
     rw[hbad.resolve_right (by simpa using hue)]at c7;clear hbad hue;go_wp2_with (first|((with_reducible refine gU ?_);refine dH _ _ rfl rfl (by simp[go_sem]) (En _) ?_)|first|(with_reducible refine gS ?_;first|(refine ay dY _ _ rfl rfl rfl _ 0 rfl (DI.zero.cs) rfl (DI.zero.cs) PQ.o.b4 (DI.zero.cs) rfl (nE rfl) af (DI.one _) ?_;intro wZ HWZ HKZ)))
     exact aN rfl rfl rfl HKZ.o underlying63 rfl af ⟨DI.zero,by rw[PN.o];rfl,(fun d hd=>by rw[PN.o]at hd;cases hd),PQ.o.bel.trans (HWZ.o.below bR (by omega))⟩
    ·have t5:(ue != 0)=true:=by simpa using hue
     clear hbad hue;go_wp2_with (first|((with_reducible refine gU ?_);refine dH _ _ rfl rfl (by simp[go_sem]) (En _) ?_)|first|(with_reducible refine gS ?_;first|(refine ay dY _ _ rfl rfl rfl _ 0 rfl (DI.zero.cs) rfl (DI.zero.cs) PQ.o.b4 (DI.zero.cs) rfl (nE rfl) af (DI.one _) ?_;intro wZ HWZ HKZ)));exact aN rfl rfl rfl HKZ.o underlying63 rfl af ⟨DI.zero,by rw[PN.o];rfl,(fun d hd=>by rw[PN.o]at hd;cases hd),PQ.o.bel.trans (HWZ.o.below bR (by omega))⟩
   ·have hhi:n.hi=false:=by
     cases h:n.hi with
     |false=>rfl
     |true=>exact absurd (.inl h) hbad
    have hue:ue=0:=Decidable.not_not.1 fun h=>hbad (.inr h);have HD2:Hid (Dj x (l.take (k+1)) Dn.top=some (d.to n u)):=HD1.o.trans (by unfold pK;rw[wo.o.2,if_neg hbad]);have t5:(ue != 0)=false:=by simpa using hue
    have SY:Hid ((d.to n u).o<256):=by unfold Dn.to;exact BB HD.o.2 NK.o.1
    rw[hhi]at c7;have HD1:=HD2;clear hbad hue hhi HD2;have c8:=Gw.o.c 8 rfl;by_cases hcl:n.cl=true
    ·have HDC:Hid ((d.to n u).c=⟨ub,n.r⟩::d.c):=by unfold Dn.to;show(if n.cl=true then _ else _)=_;rw[if_pos hcl,wo.o.1]
     have um:Hid ((d.to n u).b=ub∧(d.to n u).o=jv d.o qo):=⟨wo.o.1,by rw[←HQE.o];rfl⟩
     rw[hcl]at c8;have hal:bz w12 (w12.alloc (.cells (Cl.cs ⟨ub,n.r⟩).toArray sH)):=bR.alloc nR _
     obtain⟨vx,Ho,hrun,LW,jk,-⟩:=aj.app (P:=prog) (xs:=[(⟨ub,n.r⟩:Cl)]) (c:=1) (g:=w12.heap.size) (o:=0) (ts:=Og) underlying55 VK rfl (by decide) (by decide) Cl.aZ (fun q v hv=>List.all_eq_true.1 (Cl.one q) v hv) (aj.below a0l.o hal) (fun _=>qg Cl.aZ (by simpa using az w12 (Cl.cs ⟨ub,n.r⟩) sH)) (by have:=Ko.o;have:=HKB.o;rw[List.length_reverse];simp;omega) (Nat.le_trans NT.o.lt.2.2 hal.size);obtain⟨Ax,nx,cx,rfl⟩:=aj.shape LW
     have hsame:∀q,q<w12.heap.size->(v3.ownBlock=some q->False)->Ho.heap[q]?=w12.heap[q]?:=fun q h1 h2=>(jk.block q (Nat.lt_of_lt_of_le h1 hal.size) fun e=>h2 e.symm).trans (hal.block q h1);have ZW:Hid (GN Ho B8 (.slice Ax nx cx) (d.to n u).c.reverse):=by rw[HDC.o,List.reverse_cons];exact LW
     have a2w:Hid ((d.to n u).c.length<=k+1):=by rw[HDC.o,List.length_cons];have:=Ko.o;show _<=_;omega
     have hown:∀q,wS.heap.size<=q->v3.ownBlock=some q->False:=fun q h1 h2=>by have:=(HOWN.o q h2).2;omega
     have XL:Hid (ax Ho o7 (DC id (kY x l k) d.b v3 d.o n0 A0 yK)):=NQ.o.stays (hsame o7 NQ.o.inside fun e=>by have:=(HOWN.o o7 e).1;have:=HLO.o;omega);have a2f:Hid (ax Ho g9 (n.cs An cn)):=Gw.o.stays (hsame g9 Gw.o.inside (hown _ HG9.o));have a14:Hid (ax Ho g10 u.cs):=Xx.o.stays (hsame g10 Xx.o.inside (hown _ HGA.o.1));have a2H:Hid (ax Ho g12 ub.cs):=xQ.o.stays (hsame g12 xQ.o.inside (hown _ HGM.o))
     have a2t:Hid (Xo w (Vb wi aH M At x.t.length ct m) (.slice (some ⟨g6,o6,none⟩) l.length c6) l o7 B8 Ho):=NT.o.step ⟨jk.os.trans hal.os,jk.tape.trans hal.tape,jk.output.trans hal.output,Nat.le_trans hal.size jk.size,fun q hq _=>hsame q (Nat.lt_of_lt_of_le hq NT.o.lt.2.2) fun e=>by have:=(HOWN.o q e).1;omega⟩;have c13:w12.cell? ⟨o7,13,none⟩=some v3:=NQ.o.cell 13;have i7:=NQ.o.inside;have e13:Ho.cell? ⟨o7,13,none⟩=some v3:=XL.o.cell 13;have f13:=XL.o.free 13;have j7:=XL.o.inside;clear hal hsame hown LW jk hcl HDC
     go_upto_region 13 with(first|((with_reducible refine gU ?_);refine dH _ _ rfl rfl (by simp[go_sem]) (RY ub n.r _) ?_)|((with_reducible refine gB ?_);refine jV _ _ _ rfl rfl (by simp[go_sem]) (a1S ⟨ub,n.r⟩ _) ?_)|first|(with_reducible refine gL ?_;first|(refine wt 54 0 rfl rfl rfl xQ.o (ub.cs) rfl underlying54 rfl ?_)|(refine wt 56 9 rfl rfl rfl Gw.o (n.r.yJ) rfl underlying56 rfl ?_))|(at_builtin;refine bD rfl _ _ 55 55 55 rfl rfl _ _ _ _ rfl rfl hrun ?_;clear hrun))
     have yN:Hid (ax (Ho.setCell ⟨o7,13,none⟩ (.slice Ax nx cx)) o7 (DC id (kY x l k) d.b (.slice Ax nx cx) d.o n0 A0 yK)):=XL.o.set 13 _;have hkx:KX o7 Ho (Ho.setCell ⟨o7,13,none⟩ (.slice Ax nx cx)):=KX.wrote ⟨13,[.slice Ax nx cx],rfl⟩;have Dt:Hid (ax (Ho.setCell ⟨o7,13,none⟩ (.slice Ax nx cx)) g9 (n.cs An cn)):=a2f.o.stays (hkx.same _ a2f.o.inside a6s.o);have HUE:Hid (ax (Ho.setCell ⟨o7,13,none⟩ (.slice Ax nx cx)) g10 u.cs):=a14.o.stays (hkx.same _ a14.o.inside a2u.o)
     have Yb:Hid (ax (Ho.setCell ⟨o7,13,none⟩ (.slice Ax nx cx)) g12 ub.cs):=a2H.o.stays (hkx.same _ a2H.o.inside X5.o);have X8:Hid (GN (Ho.setCell ⟨o7,13,none⟩ (.slice Ax nx cx)) B8 (.slice Ax nx cx) (d.to n u).c.reverse):=aj.stays ZW.o fun g hg=>hkx.same g (aj.block ZW.o hg).2 (by have:=(aj.block ZW.o hg).1;have:=HLO.o;omega);have PQ:Hid (Xo w (Vb wi aH M At x.t.length ct m) (.slice (some ⟨g6,o6,none⟩) l.length c6) l o7 B8 (Ho.setCell ⟨o7,13,none⟩ (.slice Ax nx cx))):=a2t.o.step (Lw.UL hkx a2t.o.lt.2.2)
     generalize (Ho.setCell ⟨o7,13,none⟩ (.slice Ax nx cx))=wE at*;clear c7 c8 i9 c13 i7 e13 f13 j7 hkx XL a2f a14 a2H ZW a2t Gw Xx xQ NQ a0l NT;have c14:=yN.o.c 14 rfl;have c6:wE.cell? ⟨g9,6,none⟩=some (.int .i64 (qo:Nat)):=by rw[←NI.o.1];exact Dt.o.cell 6
     have i7:=yN.o.inside;have i9:=Dt.o.inside;have X9:=Hd (Gh d.o qo HD.o.2 NI.o.2 wE);go_wp2_with (fail);refine X9.o.mono ?_;rintro e wF ⟨rfl,hd⟩;have HXF:Hid (KX o7 wE wF):=KX.of_below (hd.below _);have XJ:Hid (ax wF o7 (DC id (kY x l k) d.b (.slice Ax nx cx) d.o n0 A0 yK)):=yN.o.below' (hd.below _);clear hd c14 c6 i7 i9 X9;have f14:=XJ.o.free 14;have c14:=XJ.o.c 14 rfl;have i7:=XJ.o.inside
     go_upto_region 14 with(fail)
     have HXG:Hid (KX o7 wE (wF.setCell ⟨o7,14,none⟩ (.int .i64 (jv d.o qo:Nat)))):=HXF.o.trans (KX.wrote ⟨14,[.int .i64 (jv d.o qo:Nat)],rfl⟩);have HOG:Hid (ax (wF.setCell ⟨o7,14,none⟩ (.int .i64 (jv d.o qo:Nat))) o7 (DC id (kY x l k) d.b (.slice Ax nx cx) (jv d.o qo) n0 A0 yK)):=XJ.o.set 14 _;clear f14 c14 i7 HXF XJ;generalize (wF.setCell ⟨o7,14,none⟩ (.int .i64 (jv d.o qo:Nat)))=wG at*;have HUG:Hid (ax wG g10 u.cs):=HUE.o.stays (HXG.o.same _ HUE.o.inside a2u.o)
     go_upto_region 15 with(first|(with_reducible refine gL ?_;first|(refine wt 53 0 rfl rfl rfl HUG.o (u.cs) rfl underlying53 rfl ?_))|(with_reducible refine gS ?_;first|(refine ay 53 _ _ rfl rfl rfl _ 1 rfl (u.cs) rfl (DC id (kY x l k) d.b (.slice Ax nx cx) (jv d.o qo) n0 A0 yK) HOG.o (DC id u d.b (.slice Ax nx cx) (jv d.o qo) n0 A0 yK) rfl (nE rfl) af (Mp.one1 _) ?_;intro wH Xu HKH)))
     have HBH:Hid (ax wH g12 ub.cs):=(Yb.o.stays (HXG.o.same _ Yb.o.inside X5.o)).stays (Xu.o.far X5.o);go_wp2_with (first|(with_reducible refine gL ?_;first|(refine wt 54 0 rfl rfl rfl HBH.o (ub.cs) rfl underlying54 rfl ?_))|(with_reducible refine gS ?_;first|(refine ay 54 _ _ rfl rfl rfl _ 7 rfl (ub.cs) rfl (DC id u d.b (.slice Ax nx cx) (jv d.o qo) n0 A0 yK) HKH.o (DC id u ub (.slice Ax nx cx) (jv d.o qo) n0 A0 yK) rfl (nE rfl) af (Mp.one1 _) ?_;intro wI Nw HKI)))
     have HXI:Hid (KX o7 wE wI):=(HXG.o.trans (KX.wrote Xu.o)).trans (KX.wrote Nw.o)
     go_roundw
     case rel=>exact⟨k+1,d.to n u,(.slice Ax nx cx),fC.o,by go_num,⟨HD1.o,SY.o⟩,aj.stays X8.o fun g hg=>HXI.o.same g (aj.block X8.o hg).2 (by have:=(aj.block X8.o hg).1;have:=PQ.o.lt;omega),a2w.o,by rw[HLS.o,HUB.o,um.o.1,um.o.2];exact HKI.o,PQ.o.step (Lw.UL HXI.o PQ.o.lt.2.2)⟩
     case measure=>have:=fC.o;simp[intOf];omega
    ·have HDC:Hid ((d.to n u).c=d.c):=by unfold Dn.to;show(if n.cl=true then _ else _)=_;rw[if_neg hcl]
     have um:Hid ((d.to n u).b=ub∧(d.to n u).o=jv d.o qo):=⟨wo.o.1,by rw[←HQE.o];rfl⟩
     rw[show n.cl=false from by simpa using hcl]at c8;have X8:Hid (GN w12 B8 v3 (d.to n u).c.reverse):=by rw[HDC.o];exact a0l.o
     have a2w:Hid ((d.to n u).c.length<=k+1):=by rw[HDC.o];have:=Ko.o;show _<=_;omega
     go_upto_region 13 with(fail)
     have yN:=NQ;have Dt:=Gw;have HUE:=Xx;have Yb:=xQ;have PQ:=NT;clear c7 c8 i9 hcl HDC;have c14:=yN.o.c 14 rfl;have c6:w12.cell? ⟨g9,6,none⟩=some (.int .i64 (qo:Nat)):=by rw[←NI.o.1];exact Dt.o.cell 6
     have i7:=yN.o.inside;have i9:=Dt.o.inside;have X9:=Hd (Gh d.o qo HD.o.2 NI.o.2 w12);go_wp2_with (fail);refine X9.o.mono ?_;rintro e wF ⟨rfl,hd⟩;have HXF:Hid (KX o7 w12 wF):=KX.of_below (hd.below _);have XJ:Hid (ax wF o7 (DC id (kY x l k) d.b v3 d.o n0 A0 yK)):=yN.o.below' (hd.below _);clear hd c14 c6 i7 i9 X9;have f14:=XJ.o.free 14;have c14:=XJ.o.c 14 rfl;have i7:=XJ.o.inside
     go_upto_region 14 with(fail)
     have HXG:Hid (KX o7 w12 (wF.setCell ⟨o7,14,none⟩ (.int .i64 (jv d.o qo:Nat)))):=HXF.o.trans (KX.wrote ⟨14,[.int .i64 (jv d.o qo:Nat)],rfl⟩);have HOG:Hid (ax (wF.setCell ⟨o7,14,none⟩ (.int .i64 (jv d.o qo:Nat))) o7 (DC id (kY x l k) d.b v3 (jv d.o qo) n0 A0 yK)):=XJ.o.set 14 _;clear f14 c14 i7 HXF XJ;generalize (wF.setCell ⟨o7,14,none⟩ (.int .i64 (jv d.o qo:Nat)))=wG at*;have HUG:Hid (ax wG g10 u.cs):=HUE.o.stays (HXG.o.same _ HUE.o.inside a2u.o)
     go_upto_region 15 with(first|(with_reducible refine gL ?_;first|(refine wt 53 0 rfl rfl rfl HUG.o (u.cs) rfl underlying53 rfl ?_))|(with_reducible refine gS ?_;first|(refine ay 53 _ _ rfl rfl rfl _ 1 rfl (u.cs) rfl (DC id (kY x l k) d.b v3 (jv d.o qo) n0 A0 yK) HOG.o (DC id u d.b v3 (jv d.o qo) n0 A0 yK) rfl (nE rfl) af (Mp.one1 _) ?_;intro wH Xu HKH)))
     have HBH:Hid (ax wH g12 ub.cs):=(Yb.o.stays (HXG.o.same _ Yb.o.inside X5.o)).stays (Xu.o.far X5.o);go_wp2_with (first|(with_reducible refine gL ?_;first|(refine wt 54 0 rfl rfl rfl HBH.o (ub.cs) rfl underlying54 rfl ?_))|(with_reducible refine gS ?_;first|(refine ay 54 _ _ rfl rfl rfl _ 7 rfl (ub.cs) rfl (DC id u d.b v3 (jv d.o qo) n0 A0 yK) HKH.o (DC id u ub v3 (jv d.o qo) n0 A0 yK) rfl (nE rfl) af (Mp.one1 _) ?_;intro wI Nw HKI)))
     have HXI:Hid (KX o7 w12 wI):=(HXG.o.trans (KX.wrote Xu.o)).trans (KX.wrote Nw.o)
     go_roundw
     case rel=>exact⟨k+1,d.to n u,v3,fC.o,by go_num,⟨HD1.o,SY.o⟩,aj.stays X8.o fun g hg=>HXI.o.same g (aj.block X8.o hg).2 (by have:=(aj.block X8.o hg).1;have:=PQ.o.lt;omega),a2w.o,by rw[HLS.o,HUB.o,um.o.1,um.o.2];exact HKI.o,PQ.o.step (Lw.UL HXI.o PQ.o.lt.2.2)⟩
     case measure=>have:=fC.o;simp[intOf];omega
  ·obtain rfl:k=l.length:=by omega
   have t1:decide (l.length<l.length)=false:=by simp
   rw[List.take_length]at HD;rw[HLW.o]at HO
   have HDQ:Hid (bU x id=if d.o=0 then none else some d):=by
    show _=_;rw[HDW.o,HD.o.1,Option.filter_some];by_cases h:d.o=0<;>simp[h]
   obtain⟨lw,hlw⟩:=aB (x.ws id)
   rw[hlw]at HO;obtain⟨A3,c3,e3,-,-,hr3⟩:=aj.row rZ.o Cl.aZ;have HV3:Hid (v3=.slice A3 d.c.reverse.length c3):=e3;have HR3:=Hd hr3;clear hlt hk HWH HLW HDW e3 hr3;have FO:Hid (∀W,KX (w.heap.size+1) wS W->ax W o7 (DC id (lw) (d.b) (v3) (d.o) n0 A0 yK)):=fun W hb=>HO.o.stays (hb.same _ HO.o.inside (by have:=HK.o.lt;omega))
   go_upto_region 16 with(fail)
   refine wR (KX (w.heap.size+1)) (fun L wx=>RV (w.heap.size+1) DI.zero.cs (DC id (lw) (d.b) (v3) (d.o) n0 A0 yK) (L 4) wx) [78,79,80,81,5] (fun _=>KX.refl _ _) (fun _ _ _ h k=>h.trans k) (fun i=>match i with
    |0=>rV (.agg (DC id (lw) (d.b) (v3) (d.o) n0 A0 yK).toArray)
    |1=>rp o7 14
    |2=>rV (.int .i64 (d.o:Nat))
    |3|5=>rV (.bool (decide (0<(d.o:Int))))
    |_=>ra) (KX.of_below bR.drew) (⟨fun _=>HK.o.b4.below' bR.drew,nofun⟩) ⟨?_,?_,?_,?_,?_,?_,trivial⟩ ?_
   any_goals (first|refine zp fun L a w1 hh=>?_|fail)
   ·have h7:=hh.p 7 o7 0;have hB:=Hd (FO.o _ hh.rel);have hJ:=Hd hh.st;exact aK 63 _ rfl o7 0 (by simpa[go_sem]using h7) _ hB.o (DC id (lw) (d.b) (v3) (d.o) n0 A0 yK) rfl _ underlying63 rfl af ⟨_,rfl,KX.refl _ _,rfl,hJ.o⟩
   have h7:=hh.p 7 o7 0;have i0:=(FO.o _ hh.rel).inside;rotate_left;have h79:=rq (hh.d 1 79);have ⟨c0,i0⟩:=(FO.o _ hh.rel).ci 14 rfl;rotate_left;have h80:=rq (hh.d 2 80);rotate_left
   ·have h4:=hh.p 4 ((w.heap.size+1)) 0;have h78:=rq (hh.d 0 78);have qV:=hh.st.no hh.un;refine dB dY _ _ rfl (w.heap.size+1) 0 (by simpa[go_sem]using h4) (DC id (lw) (d.b) (v3) (d.o) n0 A0 yK) (by simpa[go_sem]using h78) _ qV (nE rfl) af (by rw[HV3.o];rfl) ?_;intro w9 nD fA;exact⟨undef,rfl,KX.wrote nD,trivial,⟨nofun,fun _=>fA⟩⟩
   have h81:=rq (hh.d 3 81);rotate_left
   any_goals (have hJ:=hh.j;clear hh;go_simp;exact⟨_,rfl,KX.refl _ _,rfl,hJ.o⟩)
   intro L w5 val hL hJ hR hv;have h5:val 5=.bool (decide (0<(d.o:Int))):=hv 5 5 af;have jQ:=Hd hR;have HV5:=Hd (hJ.yes (hL 4 (by decide)));clear hv hL hJ hR;simp only[regs.aC,List.map_cons,List.map_nil,h5];simp only[Act.put,List.setIfInBounds_toArray,List.set_cons_zero,List.set_cons_succ];clear h5
   skip
   have Yb:Hid (bz w w5):=HK.o.bel.trans (jQ.o.aV (by omega) HK.o.bel.size);have HC5:Hid (GN w5 B8 v3 d.c.reverse):=aj.stays rZ.o fun g hg=>jQ.o.same g (aj.block rZ.o hg).2 (by have:=(aj.block rZ.o hg).1;have:=HK.o.lt;omega);go_wp2_with (fail)
   have hsome:decide (0<(d.o:Int))=(bU x id).isSome:=by
    rw[HDQ.o];by_cases h:d.o=0
    ·simp[h]
    ·simp[h];omega
   refine aN rfl rfl rfl HV5.o underlying63 rfl af ⟨⟨⟨id,lw,d.b,d.c.reverse,d.o,n0.lk⟩,n0,A3,c3,A0,yK⟩,by rw[HV3.o,hsome];rfl,fun d' hd'=>?_,Yb.o⟩
   have e:d'=d:=by
    rw[HDQ.o]at hd';split at hd'
    ·cases hd'
    ·exact(Option.some.inj hd').symm
   rw[e,hlw,Yr.o];exact⟨rfl,rfl,GN.a5K (by (try show Below _ _ _);rw[←HV3.o];exact HC5.o),a4o.o.below Yb.o⟩
end
section
open Go.RowKit fH fV aF Go.Maps
theorem a3U(q:DI)(w:World):(Instr.buildSlice y7 1 #[(0,.agg q.cs.toArray)]).run prog w=.ok (.slice (some ⟨w.heap.size,0,none⟩) 1 1) (w.alloc (.cells q.cs.toArray dY)):=by kernel_rfl
theorem Y5:(prog.info? dY).map (fun i=>(i.zero,i.size,i.bytes))=some (some (.agg DI.zero.cs.toArray),35,304):=by kernel_rfl
theorem Cm.stays{w w':World}{A:Option Addr}{l:List Cl}(h:Cm w A l)(hb:∀a,A=some a->l≠[]->w'.heap[a.block]?=w.heap[a.block]?):Cm w' A l:=⟨h.row.Uo hb,fun a ea hne=>by rw[hb a ea hne];exact h.typ a ea hne⟩
structure DQ(B:Nat)(w w':World):Prop where
 bel:Below B w w'
 same:∀(k:Nat) (cs:Array Value) (T:TypeId) (fz:Nat×Nat),w.heap[k]?=some (.cells cs T fz)->T≠dY->w'.heap[k]?=w.heap[k]?
theorem DQ.refl(B:Nat)(w:World):DQ B w w:=⟨bR,fun _ _ _ _ _ _=>rfl⟩
theorem DQ.trans{B:Nat}{w w1 w2:World}(h:DQ B w w1)(k:DQ B w1 w2):DQ B w w2:=⟨h.bel.trans k.bel,fun j cs T fz h1 h2=>by
 have h3:=h.same j cs T fz h1 h2
 exact(k.same j cs T fz (h3.trans h1) h2).trans h3⟩
theorem DQ.below{B:Nat}{w w':World}(hb:bz w w')(hB:B<=w.heap.size):DQ B w w':=⟨hb.mono hB,fun k _ _ _ h _=>hb.block k (Array.getElem?_eq_some_iff.1 h).1⟩
theorem DQ.off{B:Nat}{w w':World}{r:Option Nat}(hb:Below B w w')(hg:∀k,k<w.heap.size->r≠some k->w'.heap[k]?=w.heap[k]?)(hr:∀k,r=some k->∃cs fz,w.heap[k]?=some (.cells cs dY fz)):DQ B w w':=⟨hb,fun k cs T fz h hT=>hg k (Array.getElem?_eq_some_iff.1 h).1 fun e=>by
 obtain⟨cs',fz',h'⟩:=hr k e;have h1:=h.symm.trans h';simp only[Option.some.injEq,Obj.cells.injEq]at h1
 exact hT h1.2.1⟩
theorem Cm.dq{B:Nat}{w w':World}{A:Option Addr}{l:List Cl}(h:Cm w A l)(hr:DQ B w w'):Cm w' A l:=h.stays fun a ea hne=>by
 obtain⟨cs,fz,h1⟩:=h.typ a ea hne;exact hr.same _ _ _ _ h1 (by decide)
theorem mM.dq{B:Nat}{w w':World}{A:Option Addr}{l:List Nat}(h:mM w A l)(hr:DQ B w w'):mM w' A l:=h.stays fun a ea hne=>by
 obtain⟨cs,fz,h1⟩:=h.typ a ea hne;exact hr.same _ _ _ _ h1 (by decide)
def vW(w:World)(q:DI):Prop:=Cm w q.Ac q.it.c∧mM w q.A q.n.lk.l∧q.n.lk=q.it.lk
theorem vW.dq{B:Nat}{w w':World}{q:DI}(h:vW w q)(hr:DQ B w w'):vW w' q:=⟨h.1.dq hr,h.2.1.dq hr,h.2.2⟩
structure DIs(w:World)(base:Nat)(v:Value)(l:List DI):Prop where
 own:aj dY 35 DI.cs w base v l
 at_:∀q∈l,vW w q
theorem DIs.below{w w':World}{base:Nat}{v:Value}{l:List DI}(h:DIs w base v l)(hb:bz w w'):DIs w' base v l:=⟨h.own.below hb,fun q hq=>(h.at_ q hq).dq (DQ.below hb nR)⟩
theorem DIs.app{w:World}{base:Nat}{v:Value}{l:List DI}(h:DIs w base v l)(q:DI){g c:Nat}(hx:aT 35 DI.cs w (some ⟨g,0,none⟩) [q])(hq:vW w q)(hn:l.length<=2000)(hbase:base<=w.heap.size) :
  ∃v' w',(Builtin.append_ #[y7,y7] y7 #[v,.slice (some ⟨g,0,none⟩) 1 c]).run prog w=.ok v' w'∧DIs w' base v' (l++[q])∧Below base w w':=by
 obtain⟨v',w',h1,h2,h3,-⟩:=aj.app (P:=prog) (xs:=[q]) (c:=c) (g:=g) (o:=0) underlying35 Y5 rfl (by decide) (by decide) DI.aZ (fun q u hu=>List.all_eq_true.1 (DI.one q) u hu) h.own (fun _=>hx) (by simp;omega) hbase;have hb:Below base w w':=bR.grown h3 hbase fun k hk=>(h.own.block hk).1
 have hr:DQ base w w':=DQ.off hb (fun k hk hn=>h3.block k hk (Ne.symm hn)) fun k hk=>by
  obtain⟨cur,h4⟩:=h.own.typed hk;exact⟨cur,_,h4⟩
 refine⟨v',w',h1,⟨h2,fun p hp=>?_⟩,hb⟩;rcases List.mem_append.1 hp with hp|hp
 ·exact(h.at_ p hp).dq hr
 ·rw[List.mem_singleton.1 hp];exact hq.dq hr
structure QJ(B:Nat)(iA iS:Bool)(vA vC:Value)(w:World):Prop where
 gQ:B<=w.heap.size
 ex:iA=true->∃g cs,vA=.pointer (some ⟨g,0,none⟩)∧B<=g∧ak w g cs dY∧cs.length=35∧(iS=true->vC=.agg cs.toArray)
section
variable {B:Nat}{iA iS:Bool}{vA vC uA uC:Value}{w w':World}
theorem QJ.slots(h:QJ B iA iS vA vC w)(e1:uA=vA)(e2:uC=vC):QJ B iA iS uA uC w:=by rw[e1,e2];exact h
theorem QJ.below(h:QJ B iA iS vA vC w)(hb:bz w w'):QJ B iA iS vA vC w':=⟨Nat.le_trans h.gQ hb.size,fun e=>by
 obtain⟨g,cs,h1,h2,h3,h4⟩:=h.ex e
 exact⟨g,cs,h1,h2,h3.stays (hb.block _ h3.inside),h4⟩⟩
theorem QJ.told(h:QJ B iA iS vA vC w)(eS:iS=false)(e1:uA=vA):QJ B iA iS uA uC w:=⟨h.gQ,fun e=>by
 obtain⟨g,cs,h1,h2,h3,h4,_⟩:=h.ex e
 exact⟨g,cs,e1.trans h1,h2,h3,h4,fun e=>by rw[eS]at e;cases e⟩⟩
theorem QJ.made(h:QJ B iA iS vA vC w)(eS:iS=false)(e1:uA=.pointer (some ⟨w.heap.size,0,none⟩)):QJ B true iS uA uC (w.alloc (.cells DI.zero.cs.toArray dY)):=
 ⟨Nat.le_trans h.gQ (by simp),fun _=>⟨w.heap.size,_,e1,h.gQ,ak.new w DI.zero.cs dY,rfl,fun e=>by rw[eS]at e;cases e⟩⟩
theorem QJ.put{cs':List Value}{g:Nat}{cs:List Value}(h:QJ B iA iS vA vC w)(e1:vA=.pointer (some ⟨g,0,none⟩))(hg:B<=g)(hb:ak w g cs dY)(hW:Wrote g w w')(hB:ax w' g cs')(hl:cs'.length=35)(ev:vC=.agg cs'.toArray):QJ B iA true vA vC w'∧DQ B w w':=
 ⟨⟨by rw[hW.size];exact h.gQ,fun _=>⟨g,cs',e1,hg,hb.wrote hW hB,hl,fun _=>ev⟩⟩,DQ.off (r:=some g) (hW.below bR hg) (fun k _ hn=>hW.far fun e=>hn (by rw[e])) fun k hk=>by
  rw[←Option.some.inj hk]
  exact⟨_,_,hb⟩⟩
end
def pR(x:aO)(j:Int)(q:DI)(w:World):Prop:=∀d,bU x j=some d->q.it=⟨j,x.ws j,d.b,d.c.reverse,d.o,(x.nd j).lk⟩∧vW w q
theorem pR.dq{B:Nat}{w w':World}{x:aO}{j:Int}{q:DI}(h:pR x j q w)(hr:DQ B w w'):pR x j q w':=fun d hd=>⟨(h d hd).1,(h d hd).2.dq hr⟩
def NZ(x:aO)(w:World)(e:Ending)(w':World):Prop:=∃A c l,e=.returned (.slice A (l:List DI).length c)∧aT 35 DI.cs w' A l∧(∀q∈l,vW w' q)∧l.map (·.it)=items x∧bz w w'
theorem Ro{w:World}{x:aO}(hx:tN x)(hn:x.t.length<=900)(v:Value)(wi aH M:Int)(hd:eP w v wi aH M x) :
  Calls prog 9 #[v] w (NZ x w):=by
 unfold NZ;have HX:=Hd hx;have HN:=Hd hn;obtain⟨tv,m,rfl,ht,hm⟩:=hd;obtain⟨At,ct,rfl,hr,hy⟩:=ht
 have HDA:Hid (eP w (.agg (Vb wi aH M At x.t.length ct m).toArray) wi aH M x):=⟨_,m,rfl,⟨At,ct,rfl,hr,hy⟩,hm⟩
 have HR:=Hd hr;have nT:Hid ((aF.walk x.t 0).length<=1000):=by have:=uo hx.ok;show _<=_;omega
 have HLH:Hid (∀i∈aF.walk x.t 0,has x.t i=true):=fun i hi=>(jy hx.ok).1 hi;clear hr hm hy;have HB0:Hid (bz w (w.alloc (.cells (Vb wi aH M At x.t.length ct m).toArray 30))):=bR.alloc nR _;have jR:Hid (ax (w.alloc (.cells (Vb wi aH M At x.t.length ct m).toArray 30)) w.heap.size (Vb wi aH M At x.t.length ct m)):=az w (Vb wi aH M At x.t.length ct m) _;go_enter func9,ntmps9
 go_upto_region 2 with(fail)
 generalize (w.alloc (.cells (Vb wi aH M At x.t.length ct m).toArray 30))=w0 at*;have c3:=jR.o.c 3 rfl;have i0:=jR.o.inside;have HDK:=Hd (OU At x.t ct hx.ok (by omega) (x.t.length+1) 0 w0 (aT.below HR.o HB0.o) (.inl rfl) (by omega));clear hx hn;go_wp2_with (fail);refine HDK.o.mono ?_;unfold oJ;rintro e w1 ⟨v4,rfl,Tn,hb1⟩;have HB1:=Hd (HB0.o.trans (hb1.mono HB0.o.size));have eH:=Hd (jR.o.below' hb1);have XK:Hid (aU w1 w0.heap.size v4 (aF.walk x.t 0)):=Tn;obtain⟨A6,c6,rfl,-,-,-⟩:=aU.kV Tn
 have HIT:Hid (items x=(aF.walk x.t 0).filterMap (dD x)):=rfl
 obtain⟨LL,hLL⟩:=aB (aF.walk x.t 0)
 rw[hLL]at nT HLH XK HIT ⊢;clear hLL Tn hb1 c3 i0 HB0 jR HDK;go_wp2_with (fail)
 go_loopw [3,5] (fun x3 x5 wr=>∃(k:Nat) (l3:List DI),k<=LL.length∧x5=.int .i64 k∧Hid (DIs wr w1.heap.size x3 l3)∧Hid (l3.map (·.it)=(LL.take k).filterMap (dD x))∧Hid (bz w1 wr)) (fun _ x5 _=>LL.length - (intOf x5).toNat)
 case atStart=>exact⟨0,[],Nat.zero_le _,rfl,⟨aj.nil _ _,fun _ h=>nomatch h⟩,rfl,bR⟩
 case round=>
  obtain⟨k,l3,hk,rfl,HI,HE,zC⟩:=hrel;generalize wr=wS at*;by_cases hlt:k<LL.length
  ·have t1:decide (k<LL.length)=true:=by simpa using hlt
   have fC:=Hd hlt
   obtain⟨j,hj⟩:∃j,j=LL[k]'hlt:=⟨_,rfl⟩
   have HJM:Hid (has x.t j=true):=HLH.o j (by rw[hj];exact List.getElem_mem hlt);have qI:Hid ((LL.take (k+1)).filterMap (dD x)=(LL.take k).filterMap (dD x)++(dD x j).toList):=by rw[hj];exact qx (dD x) hlt
   have HOS:Hid (aU wS w0.heap.size (.slice A6 LL.length c6) LL):=aj.stays XK.o fun g hg=>zC.o.block g (aj.block XK.o hg).2;obtain⟨A6',c6',e6,-,-,hr6⟩:=aU.kV HOS.o;have e7:A6=A6':=by injection e6
   subst e7;clear e6;obtain⟨g6,o6,rfl,-⟩:=hr6.at_ hlt;have yM:=Hd hr6;have FI:Hid (∀W,bz wS W->W.cell? ⟨g6,o6+k,none⟩=some (.int .i64 j)):=fun W hb=>by rw[hj];exact Ic (Row.below yM.o hb) fC.o
   have TZ:=Hd (HB1.o.trans (zC.o.mono HB1.o.size));have FS:Hid (∀W,bz wS W->ax W w.heap.size (Vb wi aH M At x.t.length ct m)):=fun W hb=>(eH.o.stays (zC.o.block _ eH.o.inside)).below' hb
   obtain⟨sk,hsk⟩:=aB ((bU x j).isSome)
   have FW:Hid (∀W,bz wS W->Calls prog 30 #[.agg (Vb wi aH M At x.t.length ct m).toArray,.int .i64 j] W fun e w'=>∃q:DI,e=.returned (.tuple #[.agg q.cs.toArray,.bool sk])∧pR x j q w'∧bz W w'):=fun W hb=>by
    refine(Wq HX.o HN.o _ wi aH M (HDA.o.below (TZ.o.trans (hb.mono TZ.o.size))) j HJM.o).mono ?_;unfold Xn;rintro e w' ⟨q,h1,h2,h3⟩;rw[hsk]at h1;refine⟨q,h1,fun d hd=>?_,h3⟩;obtain⟨k1,k2,k3,k4⟩:=h2 d hd;exact⟨k1,k3,k4,by rw[k1,k2]⟩
   have HSK:=Hd hsk;have hkb:(k:Int)<=1000:=by have:=nT.o;omega
   clear hj hlt hk hsk hr6
   go_upto_region 6 with(fail)
   refine Kr (DQ wS.heap.size) (fun L V wx=>QJ wS.heap.size (L 9) (L 10) (V 6) (V 24) wx∧(L 10=true->L 7=true)∧(L 10=true->L 9=true)) [18,19,20,21,22,23,17,24,25,6,7] (fun _=>DQ.refl _ _) (fun _ _ _ h k=>h.trans k) (fun i=>match i with
    |0=>rV (.agg ((Vb wi aH M At x.t.length ct m)).toArray)
    |1=>rV (.slice (some ⟨g6,o6,none⟩) LL.length c6)
    |2=>rV (.int .i64 (k:Nat))
    |3=>rV (.pointer (some ⟨g6,(o6+k),none⟩))
    |4=>rV (.int .i64 j)
    |5=>(⟨fun v wv=>∃q9,v=.tuple #[.agg (DI.cs q9).toArray,.bool sk]∧pR x j q9 wv,fun v q1 q2 h hb=>h.elim fun q9 h=>⟨q9,h.1,h.2.dq hb⟩⟩:regs.kD (DQ wS.heap.size))
    |6=>(⟨fun v wv=>∃q9,v=.tuple #[.agg (DI.cs q9).toArray,.bool sk]∧pR x j q9 wv,fun v q1 q2 h hb=>h.elim fun q9 h=>⟨q9,h.1,h.2.dq hb⟩⟩:regs.kD (DQ wS.heap.size))
    |7=>(⟨fun v wv=>∃q9,v=.agg (DI.cs q9).toArray∧pR x j q9 wv,fun v q1 q2 h hb=>h.elim fun q9 h=>⟨q9,h.1,h.2.dq hb⟩⟩:regs.kD (DQ wS.heap.size))
    |8|11=>rV (.bool sk)
    |_=>ra) (DQ.below bR.drew nR) (⟨⟨nR,fun e=>nomatch e⟩,nofun,nofun⟩) ⟨?_,?_,?_,?_,?_,?_,?_,?_,?_,?_,?_,?_,trivial⟩ ?_
   any_goals (first|refine fE fun L a w1 hh=>?_|fail)
   ·have h1:=hh.p 1 w.heap.size 0;have hB:=Hd (FS.o _ hh.rel.bel);have hJ:=Hd hh.st;exact aK 30 _ rfl w.heap.size 0 (by simpa[go_sem]using h1) _ hB.o ((Vb wi aH M At x.t.length ct m)) rfl _ underlying30 rfl af ⟨_,rfl,DQ.refl _ _,rfl,⟨QJ.slots hJ.o.1 sn sn,hJ.o.2⟩⟩
   have h4:=hh.o 4 (v:=.slice (some ⟨g6,o6,none⟩) LL.length c6) rfl;rotate_left;have h5:=hh.o 5 (v:=.int .i64 (k:Nat)) rfl;rotate_left;have h19:=rq (hh.d 1 19);have h20:=rq (hh.d 2 20);have hlt:=fC.o;rotate_left;have h21:=rq (hh.d 3 21);have c0:=FI.o _ hh.rel.bel;have i0:=World.block_lt_of_cell? w1 ⟨g6,_,none⟩ c0;rotate_left
   ·have h18:=rq (hh.d 0 18);have h22:=rq (hh.d 4 22);have hC:=Hd (FW.o _ hh.rel.bel);have hbz:=Hd (show wS.heap.size<=w1.heap.size from hh.rel.bel.size);have hJ:=Hd hh.st;have hsz:=Hd hh.size;have hun:=Hd hh.un;clear hh;go_simp;refine hC.o.mono ?_;rintro e w9 ⟨q9,rfl,OH,aS⟩;exact⟨_,rfl,DQ.below aS hbz.o,⟨q9,rfl,OH⟩,⟨QJ.slots (QJ.below hJ.o.1 aS) sn sn,hJ.o.2⟩⟩
   ·obtain⟨q8,e8,sV⟩:=(show ∃q9,(a.tmps.getD 23 undef)=.tuple #[.agg (DI.cs q9).toArray,.bool sk]∧pR x j q9 w1 from hh.d 5 23)
    have h23:a.tmps[23]?.getD undef=.tuple #[.agg (DI.cs q8).toArray,.bool sk]:=rq (e8);have Kz:=Hd sV;have hJ:=Hd hh.st;have hsz:=Hd hh.size;have hun:=Hd hh.un;clear hh e8 sV;go_simp;exact⟨_,rfl,DQ.refl _ _,⟨q8,rfl,Kz.o⟩,⟨QJ.slots hJ.o.1 sn sn,hJ.o.2⟩⟩
   ·obtain⟨q8,e8,sV⟩:=(show ∃q9,(a.tmps.getD 17 undef)=.tuple #[.agg (DI.cs q9).toArray,.bool sk]∧pR x j q9 w1 from hh.d 6 17)
    have h17:a.tmps[17]?.getD undef=.tuple #[.agg (DI.cs q8).toArray,.bool sk]:=rq (e8);have Kz:=Hd sV;have Cc:=Hd (bI hh.st.2.1 hh.un);have hJ:=Hd hh.st;have hsz:=Hd hh.size;have hun:=Hd hh.un;clear hh e8 sV;go_simp;exact⟨_,rfl,DQ.refl _ _,⟨q8,rfl,Kz.o⟩,⟨QJ.told hJ.o.1 Cc.o sn,fun _=>rfl,hJ.o.2.2⟩⟩
   ·obtain⟨q8,e8,sV⟩:=(show ∃q9,(a.tmps.getD 17 undef)=.tuple #[.agg (DI.cs q9).toArray,.bool sk]∧pR x j q9 w1 from hh.d 6 17)
    have h17:a.tmps[17]?.getD undef=.tuple #[.agg (DI.cs q8).toArray,.bool sk]:=rq (e8);have Kz:=Hd sV;have hJ:=Hd hh.st;have hsz:=Hd hh.size;have hun:=Hd hh.un;clear hh e8 sV;go_simp;exact⟨_,rfl,DQ.refl _ _,rfl,⟨QJ.slots hJ.o.1 sn sn,hJ.o.2⟩⟩
   ·have Cc:=Hd (bI hh.st.2.2 hh.un);have hbz:=Hd (show wS.heap.size<=w1.heap.size from hh.rel.bel.size);have hJ:=Hd hh.st;have hsz:=Hd hh.size;have hun:=Hd hh.un;clear hh;go_simp;exact⟨_,rfl,DQ.below (bR.alloc nR _) hbz.o,trivial,⟨QJ.made hJ.o.1 Cc.o (bM.aY (by rw[hsz.o];simp)),hJ.o.2.1,fun _=>rfl⟩⟩
   ·have hup:=hh.up 9 af;obtain⟨g9,c9,Tj,jk,fA,Tq,-⟩:=hh.st.1.ex hup
    obtain⟨q8,e8,sV⟩:=(show ∃q9,(a.tmps.getD 24 undef)=.agg (DI.cs q9).toArray∧pR x j q9 w1 from hh.d 7 24)
    have tq:a.tmps[24]?.getD undef=.agg (DI.cs q8).toArray:=rq (e8);have Kz:=Hd sV;have h6:a.tmps[6]?.getD undef=.pointer (some ⟨g9,0,none⟩):=rq (Tj);have hJ:=Hd hh.st;have VN:=Hd (hh.up 7 af);refine dB dY _ _ rfl g9 0 (by simpa[go_sem]using h6) q8.cs (by simpa[go_sem]using tq) _ fA.blk (by rw[Tq,DI.aZ];decide) af (DI.one _) ?_;intro w9 nD Di
    have VT:ax w9 g9 q8.cs:=by
     have e:c9.take 0++q8.cs++c9.drop (0+q8.cs.length)=q8.cs:=by rw[DI.aZ,List.drop_of_length_le (by rw[Tq];decide)];simp
     rw[←e];exact Di
    have hP:=hJ.o.1.put Tj jk fA nD VT (DI.aZ _) e8;exact⟨undef,rfl,hP.2,trivial,⟨hP.1,fun _=>VN.o,fun _=>hup⟩⟩
   have xq:=rq (hh.d 8 25);rotate_left
   any_goals (have hJ:=hh.j;clear hh;go_simp;exact⟨_,rfl,DQ.refl _ _,rfl,⟨QJ.slots hJ.o.1 sn sn,hJ.o.2⟩⟩)
   intro L w6 val hL hJ hR hv;have h7:val 7=.bool sk:=hv 11 7 af;have yM:=Hd hR;obtain⟨gq,cq,eq,hgq,hbq,hlq,hvq⟩:=hJ.1.ex (hL 9 (by decide));obtain⟨q,ev,hgr⟩:∃q9,val 24=.agg (DI.cs q9).toArray∧pR x j q9 w6:=hv 7 24 af
   have hcq:cq=q.cs:=by
    have h1:=(hvq (hL 10 (by decide))).symm.trans ev
    injection h1 with h1
    have h2:=congrArg Array.toList h1
    simpa using h2
   subst hcq;have Yv:=Hd hbq.blk;have HGR:=Hd hgr;clear hv hL hJ hR hgq hbq hlq hvq ev hgr;simp only[regs.aC,List.map_cons,List.map_nil,h7];simp only[Act.put,List.setIfInBounds_toArray,List.set_cons_zero,List.set_cons_succ];clear h7
   skip
   rw[eq];clear eq;have vV:Hid (bz w1 w6):=zC.o.trans (yM.o.bel.mono zC.o.size);have HI6:=Hd (HI.o.below yM.o.bel);have c28:=Yv.o.c 28 rfl;have i6:=Yv.o.inside;clear yM FI FS FW TZ HOS HI zC;cases sk with
   |false=>
    have HNI:Hid (dD x j=none):=by
     show _=_;have h:=HSK.o;unfold dD;cases hd:bU x j with
     |none=>rfl
     |some d=>rw[hd]at h;cases h
    clear HSK HGR;go_wp2_with (fail)
    go_roundw
    case rel=>exact⟨k+1,l3,fC.o,by go_num,HI6.o,by show _=_;rw[qI.o,HNI.o,HE.o];simp,vV.o⟩
    case measure=>have:=fC.o;simp[intOf];omega
   |true=>
    obtain⟨d,hd⟩:=Option.isSome_iff_exists.1 HSK.o;obtain⟨hqi,hqa⟩:=HGR.o d hd;have HQA:=Hd hqa
    have a0g:Hid (dD x j=if q.n.lk.k=0 then none else some q.it):=by
     show _=_;unfold dD;rw[hd,Option.bind_some,hqa.2.2,hqi]
    clear hd hqi hqa HSK HGR;by_cases h0:q.n.lk.k=0
    ·have t2:(q.n.lk.k != 0)=false:=by simpa using h0
     have HNI:Hid (dD x j=none):=a0g.o.trans (if_pos h0);clear h0 a0g;go_wp2_with (fail)
     go_roundw
     case rel=>exact⟨k+1,l3,fC.o,by go_num,HI6.o,by show _=_;rw[qI.o,HNI.o,HE.o];simp,vV.o⟩
     case measure=>have:=fC.o;simp[intOf];omega
    ·have t2:(q.n.lk.k != 0)=true:=by simpa using h0
     have HNI:Hid (dD x j=some q.it):=a0g.o.trans (if_neg h0);have hal:bz w6 (w6.alloc (.cells q.cs.toArray dY)):=bR.alloc nR _
     obtain⟨v9,w9,hrun,hi9,aS⟩:=(HI6.o.below hal).app q (g:=w6.heap.size) (c:=1) (qg DI.aZ (by simpa using az w6 q.cs dY)) (HQA.o.dq (DQ.below hal nR)) (by
      have h1:=congrArg List.length HE.o;rw[List.length_map]at h1;have h2:=List.length_filterMap_le (dD x) (LL.take k);rw[List.length_take]at h2;have h3:=nT.o
      omega) (Nat.le_trans vV.o.size hal.size)
     have HI9:=Hd hi9;have tX:Hid (bz w1 w9):=(vV.o.trans (hal.mono vV.o.size)).trans aS;have HQB:=Yv;clear h0 a0g hal hi9 aS;go_wp2_with (first|((with_reducible refine gB ?_);refine jV _ _ _ rfl rfl (by simp[go_sem]) (a3U q _) ?_)|first|(with_reducible refine gL ?_;first|(refine wt 63 0 rfl rfl rfl HQB.o (q.cs) rfl underlying63 rfl ?_))|(at_builtin;refine bD rfl _ _ 35 35 35 rfl rfl _ _ _ _ rfl rfl hrun ?_;clear hrun))
     go_roundw
     case rel=>exact⟨k+1,l3++[q],fC.o,by go_num,HI9.o,by show _=_;rw[qI.o,HNI.o,List.map_append,HE.o];rfl,tX.o⟩
     case measure=>have:=fC.o;simp[intOf];omega
  ·obtain rfl:k=LL.length:=by omega
   have t1:decide (LL.length<LL.length)=false:=by simp
   rw[List.take_length]at HE;obtain⟨A9,c9,rfl,-,-,LU⟩:=aj.row HI.o.own DI.aZ;have Dq:=Hd LU;clear hlt hk LU;go_wp2_with (fail);go_ret;exact⟨A9,c9,l3,rfl,Dq.o,HI.o.at_,by rw[HE.o,HIT.o],HB1.o.trans (zC.o.mono HB1.o.size)⟩
end
section
open Go.RowKit fH fV aF Go.Maps
end
end Go.Proofs.YtekdoeilpheklaaGreat
