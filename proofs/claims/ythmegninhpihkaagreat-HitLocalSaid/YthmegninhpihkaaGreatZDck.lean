import Derived.Test.YthmegninhpihkaaGreatZDcf
set_option maxHeartbeats 16000000
set_option maxRecDepth 100000
open Go.Proofs.Tryz
namespace Go.Proofs.YthmegninhpihkaaGreat
section
open Go.RowKit fB fK aF Go.Maps
def a1p(wi aT M:Int)(r:aN×Int×Int)(w:World)(e:Ending)(w':World):Prop:=∃v',e=.returned (.tuple #[v',.int .i64 r.2.1,.int .i64 r.2.2])∧fC w' v' wi aT M r.1∧bz w w'
theorem Ky(l:List iT)(Al:Option Addr)(cl:Nat)(wi aT M:Int)(v:Value)(x:aN)(hx:oZ x)(w:World)(hd:fC w v wi aT M x)(ho:xN w Al l)(hok:∀q∈l,lU q.o)(hn:l.length<=1024->Room M x l.length)(hlen:l.length<=1000000) :
  Calls prog 26 #[v,.slice Al l.length cl] w (a1p wi aT M (bW M setSt x (l.map (·.o))) w):=by
 obtain⟨At,ct,m,rfl,ht,hm⟩:=hd.ex;have HD:=Hd hd;have HT:=Hd ht;have HM:=Hd hm;have HX:=Hd hx;have Wu:=Hd ho;have dW:=Hd hok;have ET:=Hd hn
 obtain⟨lo,hlo⟩:=aC (l.map (·.o))
 have HLO:=Hd hlo;have ou:Hid (lo.length=l.length):=by show _=_;rw[←hlo,List.length_map]
 have HAT:Hid (∀(k:Nat) (h1:k<l.length) (h2:k<lo.length),lo[k]=l[k].o):=fun k h1 h2=>by
  have e:lo[k]?=some l[k].o:=by rw[←hlo,List.getElem?_map,List.getElem?_eq_getElem h1];rfl
  rw[List.getElem?_eq_getElem h2]at e;exact Option.some.inj e
 rw[hlo];unfold a1p
 obtain⟨R,hR⟩:=aC (bW M setSt x lo)
 have HE:=Hd hR;rw[hR];have hlb:(l.length:Int)<=1000000:=by omega
 clear hR hd ht hm hx ho hok hn hlo hlen;have HB0:Hid (bz w ((w.alloc (.cells (Vb wi aT M At x.t.length ct m).toArray 30)).alloc (.cells Vf.toArray 30))):=(bR.alloc nR _).alloc (by simp) _;have lX:Hid (ak ((w.alloc (.cells (Vb wi aT M At x.t.length ct m).toArray 30)).alloc (.cells Vf.toArray 30)) w.heap.size (Vb wi aT M At x.t.length ct m) 30):=(ak.new w (Vb wi aT M At x.t.length ct m) 30).al _
 have ja:Hid (ak ((w.alloc (.cells (Vb wi aT M At x.t.length ct m).toArray 30)).alloc (.cells Vf.toArray 30)) (w.heap.size+1) Vf 30):=jH (w.alloc _) _ (by simp) Vf 30;go_enter func26,ntmps26
 go_upto_region 1 with(fail)
 generalize ((w.alloc (.cells (Vb wi aT M At x.t.length ct m).toArray 30)).alloc (.cells Vf.toArray 30))=w0 at*;by_cases BG:1024<l.length
 ·have t1:decide ((1024:Int)<(l.length:Int))=true:=decide_eq_true (by omega);have HE2:Hid (R=(x,0,12)):=by show _=_;rw[←HE.o];exact IB (by rw[ou.o];exact BG)
  clear BG HE;go_wp2_with (first|(with_reducible refine gL ?_;first|(refine wt 30 0 rfl rfl rfl lX.o.blk ((Vb wi aT M At x.t.length ct m)) rfl underlying30 rfl ?_))|(with_reducible refine gS ?_;first|(refine ay 30 _ _ rfl rfl rfl _ 0 rfl ((Vb wi aT M At x.t.length ct m)) rfl (Vf) ja.o.blk ((Vb wi aT M At x.t.length ct m)) rfl (nE rfl) ag rfl ?_;intro w2 HW2 dn)));rw[HE2.o]
  exact uy rfl rfl rfl rfl dn.o underlying30 rfl ag ⟨_,rfl,(HD.o.below HB0.o).wrote ja.o (by decide) (by unfold kH;simp) HW2.o,HW2.o.below HB0.o (by omega)⟩
 ·have t1:decide ((1024:Int)<(l.length:Int))=false:=decide_eq_false (by omega);have HL:Hid (l.length<=1024):=by show _<=_;omega
  have qU:Hid (Room M x lo.length):=by show Room _ _ _;rw[ou.o];exact ET.o HL.o
  have VB:Hid (x.t.length<=900):=by have:=vk HX.o.ok qU.o 0;rw[List.take_zero]at this;exact this
  clear BG ET;go_wp2_with (first|(with_reducible refine gL ?_;first|(refine wt 30 0 rfl rfl rfl lX.o.blk ((Vb wi aT M At x.t.length ct m)) rfl underlying30 rfl ?_)));refine(mM wi aT M _ x.t m (has x.t) x.nd HX.o.ok (by have:=VB.o;omega) w0 (HT.o.below HB0.o) (HM.o.below HB0.o)).mono ?_;rintro e w1 ⟨m',rfl,hdm,hb1,-⟩;have HB1:=Hd (HB0.o.trans (hb1.mono HB0.o.size));have VU:Hid (dM w1 m' (has x.t) x.nd):=hdm.alike (fun _=>rfl) fun j hj=>(if_pos hj).symm;have fV:=Hd (ak.stays lX.o (hb1.block _ lX.o.inside))
  have jl:=Hd (ak.stays ja.o (hb1.block _ ja.o.inside));clear hdm hb1 lX ja HB0;have HZ:Hid (ak (w1.alloc (.cells Vf.toArray 30)) w1.heap.size Vf 30):=ak.new w1 Vf 30;have iL:Hid (Below w1.heap.size w1 (w1.alloc (.cells Vf.toArray 30))):=bR.alloc nR _
  go_upto_region 4 with(first|(with_reducible refine gS ?_;first|(refine ay 30 _ _ rfl rfl rfl _ 0 rfl ((Vb wi aT M At x.t.length ct m')) rfl (Vf) HZ.o.blk ((Vb wi aT M At x.t.length ct m')) rfl (nE rfl) ag rfl ?_;intro w2 HW2 dn)))
  obtain⟨z,hz⟩:=aC w1.heap.size
  have iJ:Hid (w.heap.size+1<z):=by rw[←hz];exact jl.o.inside
  rw[hz]at HW2 dn HZ iL ⊢;have pq:Hid (Below z w1 w2):=HW2.o.below iL.o nR;have HB2:=Hd (HB1.o.trans (pq.o.mono (by have:=iJ.o;omega)));have lV:Hid (ak w2 w.heap.size (Vb wi aT M At x.t.length ct m) 30):=fV.o.stays (pq.o.block _ (by have:=iJ.o;omega));have kX:Hid (ak w2 (w.heap.size+1) Vf 30):=jl.o.stays (pq.o.block _ (by have:=iJ.o;omega))
  have a3r:Hid (Ff w2 z wi aT M x):=⟨At,ct,m',HZ.o.wrote HW2.o dn.o,HT.o.below HB2.o,VU.o.below (by (try show Below _ _ _);rw[hz];exact pq.o)⟩
  clear HB1 fV jl HZ iL pq HW2 dn VU hz
  go_upto_region 5 with(fail)
  go_loopw [8] (fun x8 wr=>∃k:Nat,k<=l.length∧x8=.int .i64 k∧Hid ((aO M x (lo.take k)).2.2=0)∧Hid (Ff wr z wi aT M (aO M x (lo.take k)).1)∧Hid (ak wr w.heap.size (Vb wi aT M At x.t.length ct m) 30)∧Hid (ak wr (w.heap.size+1) Vf 30)∧Hid (bz w wr)) (fun x8 _=>l.length - (intOf x8).toNat)
  case atStart=>exact⟨0,Nat.zero_le _,rfl,by rw[List.take_zero];rfl,by rw[List.take_zero];exact a3r.o,lV.o,kX.o,HB2.o⟩
  case round=>
   obtain⟨k,hk,rfl,HZZ,yC,HKS,DF,pq⟩:=hrel;generalize wr=wA at*;clear HB2 lV kX a3r;by_cases hlt:k<l.length
   ·have t2:decide (k<l.length)=true:=decide_eq_true hlt;have iq:=Hd hlt;have hlt2:k<lo.length:=by rw[ou.o];exact hlt
    have a5a:=Hd hlt2
    have HY:Hid (Ok (aO M x (lo.take k)).1.t∧(aO M x (lo.take k)).1.t.length<=900∧Good (aO M x (lo.take k)).1∧∀i,Fit ((aO M x (lo.take k)).1.nd i)):=
     ⟨yx _ HX.o.ok,vk HX.o.ok qU.o k,nZ _ HX.o.good,Au _ (fun o h=>by
      obtain⟨q,h1,h2⟩:=List.mem_map.1 (show o∈l.map (·.o) by rw[HLO.o];exact List.mem_of_mem_take h)
      rw[←h2];exact dW.o q h1) HX.o.fit⟩
    have oq:=Hd (Qu (M:=M) (x:=x) hlt2 HZZ.o);have HBAD:=Hd (fun hz=>La (M:=M) (x:=x) (l:=lo) (by rw[ou.o];exact HL.o) hlt2 HZZ.o hz);rw[HAT.o k hlt hlt2,HE.o]at HBAD;rw[HAT.o k hlt hlt2]at oq
    obtain⟨q,hq⟩:∃q,q=l[k]'hlt:=⟨_,rfl⟩
    have Wq:Hid (lU q.o):=by show lU _;rw[hq];exact dW.o _ (List.getElem_mem hlt)
    have HQP:Hid (∀W,bz w W->nC W q.A q.o.lk.l):=fun W hb=>by rw[hq];exact(Wu.o.px _ (List.getElem_mem hlt)).below hb
    obtain⟨lb,lof,rA,hcell⟩:=(Wu.o.below pq.o).row (by omega)
    have pg:Hid (wA.rangeAt lb (lof+k*24) q.fF):=fun i v hv=>by
     rw[hq]at hv;have:=hcell k hlt i v hv;exact this
    rw[←hq]at oq HBAD;subst rA
    obtain⟨y,hy⟩:=aC ((aO M x (lo.take k)).1)
    rw[hy]at oq HBAD HY yC
    obtain⟨S1,hS1⟩:=aC (aO M x (lo.take (k+1)))
    rw[hS1]at oq;have kM:=Hd hS1
    obtain⟨⟨yn,e1⟩,hr1⟩:∃r,fG M y q.o=r:=⟨_,rfl⟩
    rw[hr1]at oq HBAD;simp only at oq HBAD;obtain⟨Ay,cy,my,hb7,ht7,hm7⟩:=yC.o;have E5:=Hd hb7;have Q7:=Hd ht7;have IY:=Hd hm7;have HR1:=Hd hr1;have hkb:(k:Int)<=1000000:=by omega
    clear hq hlt hlt2 hcell hy hS1 hr1 hb7 ht7 hm7 yC HZZ hk;have FT:Hid (∀W,DR wA.heap.size wA W->az W z (Vb wi aT M Ay y.t.length cy my)):=fun W hr=>E5.o.blk.below' hr.bel
    have FR:Hid (∀W,DR wA.heap.size wA W->W.rangeAt lb (lof+k*24) q.fF∧lb<W.heap.size):=fun W hr=>by
     have hlt0:=World.block_lt_of_cell? wA ⟨lb,_,none⟩ (pg.o 0 (.int .i64 q.o.k) rfl);exact⟨fun i v hv=>(hr.bel.cell (p:=⟨lb,lof+k*24+i,none⟩) hlt0).trans (pg.o i v hv),Nat.lt_of_lt_of_le hlt0 hr.bel.size⟩
    have FC:Hid (∀W,DR wA.heap.size wA W->Calls prog 55 #[.agg (Vb wi aT M Ay y.t.length cy my).toArray,.agg q.fF.toArray] W fun e w'=>∃v',e=.returned (.tuple #[v',.int .i64 e1])∧DP wi aT M yn e1 v' w'∧bz W w'):=fun W hr=>by
     have h1:=XI q.o q.A q.c wi aT M (.slice Ay y.t.length cy) y my HY.o.1 HY.o.2.1 HY.o.2.2.1 HY.o.2.2.2 Wq.o W (HQP.o W (pq.o.trans (hr.bel.mono pq.o.size))) (Q7.o.below hr.bel) (IY.o.below hr.bel);rw[HR1.o]at h1;refine h1.mono ?_;rintro e w' ⟨v',h2,h3,h4,h5⟩;exact⟨v',h2,⟨h3,h4⟩,h5⟩
    go_upto_region 7 with(fail)
    refine QO (DR wA.heap.size) (fun L V wx=>VJ wA.heap.size (L 9) (L 10) (V 9) (V 34) wx∧(L 10=true->L 7=true)∧(L 10=true->L 9=true)) [28,29,30,31,32,33,27,34,35,9,10] (fun _=>DR.refl _ _) (fun _ _ _ h k=>h.trans k) (fun i=>match i with
     |0=>rV (.agg ((Vb wi aT M Ay y.t.length cy my)).toArray)
     |1=>rV (.slice (some ⟨lb,lof,none⟩) l.length cl)
     |2=>rV (.int .i64 (k:Nat))
     |3=>rV (.pointer (some ⟨lb,(lof+k*24),none⟩))
     |4=>rV (.agg (q.fF).toArray)
     |5=>(⟨fun v wv=>∃v',v=.tuple #[v',.int .i64 e1]∧DP wi aT M yn e1 v' wv,fun v w1 w2 h hb=>h.elim fun v' h=>⟨v',h.1,h.2.dr hb⟩⟩:regs.kW (DR wA.heap.size))
     |6=>(⟨fun v wv=>∃v',v=.tuple #[v',.int .i64 e1]∧DP wi aT M yn e1 v' wv,fun v w1 w2 h hb=>h.elim fun v' h=>⟨v',h.1,h.2.dr hb⟩⟩:regs.kW (DR wA.heap.size))
     |7=>(⟨fun v wv=>DP wi aT M yn e1 v wv,fun v w1 w2 h hb=>h.dr hb⟩:regs.kW (DR wA.heap.size))
     |8|11=>rV (.int .i64 e1)
     |_=>ra) (DR.below bR.drew nR) (⟨VJ.start (Below.refl 0 _).drew.size,nofun,nofun⟩) ⟨?_,?_,?_,?_,?_,?_,?_,?_,?_,?_,?_,?_,trivial⟩ ?_
    any_goals (first|refine fM fun L a w1 hh=>?_|fail)
    ·have h7:=hh.p 7 z 0;have hB:=Hd (FT.o _ hh.rel);have hJ:=Hd hh.st;exact aK 30 _ rfl z 0 (by simpa[go_sem]using h7) _ hB.o ((Vb wi aT M Ay y.t.length cy my)) rfl _ underlying30 rfl ag ⟨_,rfl,DR.refl _ _,rfl,⟨VJ.slots hJ.o.1 sn sn,hJ.o.2⟩⟩
    have h1:=hh.o 1 (v:=.slice (some ⟨lb,lof,none⟩) l.length cl) rfl;rotate_left;have h8:=hh.o 8 (v:=.int .i64 (k:Nat)) rfl;rotate_left
    ·have BF:=rq (hh.d 1 29);have h30:=rq (hh.d 2 30);obtain⟨-,li⟩:=FR.o _ hh.rel;have hlt:=iq.o;have hJ:=hh.j;clear hh;go_simp;exact⟨_,rfl,DR.refl _ _,rfl,⟨VJ.slots hJ.o.1 sn sn,hJ.o.2⟩⟩
    ·have h31:=rq (hh.d 3 31);have hRG:=(FR.o _ hh.rel).1;have hJ:=Hd hh.st;exact wp_load_mid 154 _ rfl lb (lof+k*24) (by simpa[go_sem]using h31) q.fF _ hRG underlying154 rfl ag ⟨_,rfl,DR.refl _ _,rfl,⟨VJ.slots hJ.o.1 sn sn,hJ.o.2⟩⟩
    ·have h28:=rq (hh.d 0 28);have h32:=rq (hh.d 4 32);have hC:=Hd (FC.o w1 hh.rel);have hbz:=Hd (show wA.heap.size<=w1.heap.size from hh.rel.bel.size);have hJ:=Hd hh.st;have hsz:=Hd hh.size;have hun:=Hd hh.un;clear hh;go_simp;refine hC.o.mono ?_;rintro e w9 ⟨v9,rfl,vO,bC⟩;exact⟨_,rfl,DR.below bC hbz.o,⟨v9,rfl,vO⟩,⟨VJ.slots (VJ.below hJ.o.1 bC) sn sn,hJ.o.2⟩⟩
    ·obtain⟨v8,e8,CZ⟩:=(show ∃v',(a.tmps.getD 33 undef)=.tuple #[v',.int .i64 e1]∧DP wi aT M yn e1 v' w1 from hh.d 5 33)
     have TZ:a.tmps[33]?.getD undef=.tuple #[v8,.int .i64 e1]:=rq (e8);have Ws:=Hd CZ;have hJ:=Hd hh.st;have hsz:=Hd hh.size;have hun:=Hd hh.un;clear hh e8 CZ;go_simp;exact⟨_,rfl,DR.refl _ _,⟨v8,rfl,Ws.o⟩,⟨VJ.slots hJ.o.1 sn sn,hJ.o.2⟩⟩
    ·obtain⟨v8,e8,CZ⟩:=(show ∃v',(a.tmps.getD 27 undef)=.tuple #[v',.int .i64 e1]∧DP wi aT M yn e1 v' w1 from hh.d 6 27)
     have h27:a.tmps[27]?.getD undef=.tuple #[v8,.int .i64 e1]:=rq (e8);have Ws:=Hd CZ;have VF:=Hd (bZ hh.st.2.1 hh.un);have hJ:=Hd hh.st;have hsz:=Hd hh.size;have hun:=Hd hh.un;clear hh e8 CZ;go_simp;exact⟨_,rfl,DR.refl _ _,Ws.o,⟨VJ.told hJ.o.1 VF.o sn,fun _=>rfl,hJ.o.2.2⟩⟩
    ·obtain⟨v8,e8,CZ⟩:=(show ∃v',(a.tmps.getD 27 undef)=.tuple #[v',.int .i64 e1]∧DP wi aT M yn e1 v' w1 from hh.d 6 27)
     have h27:a.tmps[27]?.getD undef=.tuple #[v8,.int .i64 e1]:=rq (e8);have Ws:=Hd CZ;have hJ:=Hd hh.st;have hsz:=Hd hh.size;have hun:=Hd hh.un;clear hh e8 CZ;go_simp;exact⟨_,rfl,DR.refl _ _,rfl,⟨VJ.slots hJ.o.1 sn sn,hJ.o.2⟩⟩
    ·have VF:=Hd (bZ hh.st.2.2 hh.un);have hbz:=Hd (show wA.heap.size<=w1.heap.size from hh.rel.bel.size);have hJ:=Hd hh.st;have hsz:=Hd hh.size;have hun:=Hd hh.un;clear hh;go_simp;exact⟨_,rfl,DR.below (bR.alloc nR _) hbz.o,trivial,⟨VJ.made hJ.o.1 VF.o (bM.bI (by rw[hsz.o];simp)),hJ.o.2.1,fun _=>rfl⟩⟩
    ·have hup:=hh.up 9 ag;obtain⟨g9,c9,h9,nD,gG,PE,Xv,-⟩:=hh.st.1.ex hup
     obtain⟨⟨Ur,e8,QU,PG,ho8⟩,hd8⟩:=(show DP wi aT M yn e1 (a.tmps.getD 34 undef) w1 from hh.d 7 34)
     have hJ:=Hd hh.st;have a0j:=Hd (hh.up 7 ag);refine dw 30 _ _ rfl g9 0 (by have h:=h9;unfold bM.sl at h;simpa[go_sem]using h) Ur (by simpa[go_sem]using e8) _ gG.blk (by rw[QU,Xv];decide) (by rw[QU];kernel_rfl) ho8 ?_;intro w9 nG BD
     have a0v:az w9 g9 Ur:=by
      have e:c9.take 0++Ur++c9.drop (0+Ur.length)=Ur:=by rw[QU,List.drop_of_length_le (by rw[Xv];decide)];simp
      rw[←e];exact BD
     have hP:=hJ.o.1.put h9 nD gG PE nG a0v PG QU e8;exact⟨undef,rfl,hP.2,trivial,⟨hP.1,fun _=>a0j.o,fun _=>hup⟩⟩
    have h35:=rq (hh.d 8 35);rotate_left
    any_goals (have hJ:=hh.j;clear hh;go_simp;exact⟨_,rfl,DR.refl _ _,rfl,⟨VJ.slots hJ.o.1 sn sn,hJ.o.2⟩⟩)
    intro L w4 val hL hJ hR hv;have h10:val 10=.int .i64 e1:=hv 11 10 ag;have HR4:=Hd hR;obtain⟨g9,c9,e9,nD,bC,PE,Xv,hv9⟩:=hJ.1.ex (hL 9 (by decide));have hv34:=hv9 (hL 10 (by decide));have hd34:DP wi aT M yn e1 (val 34) w4:=hv 7 34 ag;have VW:=Hd hd34;have UY:=Hd hv34;have uX:=Hd (And.intro nD bC);clear hv hL hJ hR hd34 hv34 nD bC PE Xv hv9;simp only[regs.aG,List.map_cons,List.map_nil,h10];simp only[Act.put,List.setIfInBounds_toArray,List.set_cons_zero,List.set_cons_succ];clear h10
    skip
    rw[e9];clear e9;have Yp:=Hd (E5.o.stays (HR4.o.bel.block _ E5.o.inside));have a2X:=Hd (HKS.o.stays (HR4.o.bel.block _ HKS.o.inside));have a05:=Hd (DF.o.stays (HR4.o.bel.block _ DF.o.inside));have HB4:=Hd (pq.o.trans (HR4.o.bel.mono pq.o.size));clear E5 HKS DF pq FT FR FC Q7 IY pg;by_cases he:¬e1=0
    ·have q0:(e1==0)=false:=by simpa using he
     have HE2:Hid (R=(x,((k:Nat):Int),e1)):=HBAD.o he;clear he;go_wp2_with (first|(with_reducible refine gL ?_;first|(refine wt 30 0 rfl rfl rfl a2X.o.blk ((Vb wi aT M At x.t.length ct m)) rfl underlying30 rfl ?_))|(with_reducible refine gS ?_;first|(refine ay 30 _ _ rfl rfl rfl _ 0 rfl ((Vb wi aT M At x.t.length ct m)) rfl (Vf) a05.o.blk ((Vb wi aT M At x.t.length ct m)) rfl (nE rfl) ag rfl ?_;intro w5 yA uV)));rw[HE2.o]
     exact uy rfl rfl rfl rfl uV.o underlying30 rfl ag ⟨_,rfl,(HD.o.below HB4.o).wrote a05.o (by decide) (by unfold kH;simp) yA.o,yA.o.below HB4.o (by omega)⟩
    ·obtain rfl:e1=0:=Decidable.not_not.1 he;clear he;have q0:((0:Int)==0)=true:=by decide
     obtain⟨An,cn,mn,hvn,htn,hmn⟩:=(VW.o.2 rfl).ex
     have hcn:c9=(Vb wi aT M An yn.t.length cn mn):=by
      have h1:=UY.o.symm.trans hvn
      injection h1 with h1
      have h2:=congrArg Array.toList h1
      simpa using h2
     subst hcn;have HTN:=Hd htn;have HMN:=Hd hmn;obtain⟨hs1,hs2⟩:=oq.o rfl;have xO:=Hd (And.intro hs1 hs2);have QE:Hid (z≠w.heap.size∧z≠w.heap.size+1∧w.heap.size<=z):=by have:=iJ.o;show _∧_;omega
     clear hvn htn hmn hs1 hs2 VW UY;go_wp2_with (first|(with_reducible refine gL ?_;first|(refine lG 30 _ rfl rfl _ 0 rfl ((Vb wi aT M An yn.t.length cn mn)) uX.o.2.blk ((Vb wi aT M An yn.t.length cn mn)) rfl _ underlying30 rfl ag ?_))|(with_reducible refine gS ?_;first|(refine ay 30 _ _ rfl rfl rfl _ 0 rfl ((Vb wi aT M An yn.t.length cn mn)) rfl ((Vb wi aT M Ay y.t.length cy my)) Yp.o.blk ((Vb wi aT M An yn.t.length cn mn)) rfl (nE rfl) ag rfl ?_;intro w6 uJ QI)))
     go_roundw
     case rel=>exact⟨k+1,iq.o,by go_num,by rw[kM.o];exact xO.o.2,by rw[kM.o,xO.o.1];exact⟨An,cn,mn,Yp.o.wrote uJ.o QI.o,HTN.o.wrote Yp.o (by decide) uJ.o,HMN.o.wrote Yp.o.blk (a0C _ _ _ _ _ _ _) uJ.o⟩,a2X.o.stays (uJ.o.far (Ne.symm QE.o.1)),a05.o.stays (uJ.o.far (Ne.symm QE.o.2.1)),uJ.o.below HB4.o QE.o.2.2⟩
     case measure=>have:=iq.o;simp[intOf];omega
   ·obtain rfl:k=l.length:=by omega
    have t2:decide (l.length<l.length)=false:=by simp
    rw[show lo.take l.length=lo by rw[←ou.o];exact List.take_length]at HZZ yC;have HYN:Hid ((aO M x lo).1.t.length<=900):=by have:=vk HX.o.ok qU.o lo.length;rwa [List.take_length]at this
    have HYO:Hid (Ok (aO M x lo).1.t):=yx _ HX.o.ok;have HYG:Hid (Good (aO M x lo).1):=nZ _ HX.o.good;have HWB:=Hd (fun i hi hw=>EJ (M:=M) (x:=x) (l:=lo) (i:=i) (by rw[ou.o];exact HL.o) HZZ.o hi hw);have HWG:=Hd (fun hw=>IC (M:=M) (x:=x) (l:=lo) (by rw[ou.o];exact HL.o) HZZ.o hw);rw[HE.o,ou.o]at HWB HWG
    obtain⟨y,hy⟩:=aC ((aO M x lo).1)
    rw[hy]at HWB HWG HYN HYO HYG yC;obtain⟨Ay,cy,my,hb7,ht7,hm7⟩:=yC.o;have E5:=Hd hb7;have Q7:=Hd ht7;have IY:=Hd hm7;have s3:wA.cell? ⟨z,3,none⟩=some (.slice Ay y.t.length cy):=E5.o.blk.cell 3;have si:=E5.o.inside;clear hlt hk hy hb7 ht7 hm7 yC HZZ;go_wp2_with (fail);refine(Ue Ay y.t cy HYO.o (by have:=HYN.o;omega) (y.t.length+1) 0 wA (aP.ZQ Q7.o) (.inl rfl) (by omega)).mono ?_;unfold o8;rintro e w3 ⟨v3,rfl,hown,hb3⟩;have HWL:Hid ((aF.walk y.t 0).length<=1001):=by have:=kQ HYO.o (i:=0) (.inl rfl);have:=HYN.o;show _<=_;omega
    have HWA:Hid (∀i,i∈aF.walk y.t 0↔has y.t i=true):=fun i=>kD HYO.o;obtain⟨vA,vc,rfl,-,-,hrow⟩:=hown.ny;have HRW:=Hd hrow;have HB3:=Hd (pq.o.trans (hb3.mono pq.o.size));have a2Y:=Hd (HKS.o.stays (hb3.block _ HKS.o.inside));have a3a:=Hd (DF.o.stays (hb3.block _ DF.o.inside));have a3h:=Hd (E5.o.stays (hb3.block _ E5.o.inside));have a2z:=Hd (Q7.o.below hb3);have a2S:=Hd (IY.o.below hb3);clear hown hrow hb3 s3 si HKS DF E5 Q7 IY pq
    obtain⟨al,hal⟩:=aC (aF.walk y.t 0)
    rw[hal]at HWL HWA HRW ⊢;clear hal
    go_upto_region 13 with(fail)
    go_loopw [12] (fun x12 wr=>∃j:Nat,j<=al.length∧x12=.int .i64 j∧Hid (∀i∈al.take j,aQ y.t y.nd i≠none)∧Hid (bz w3 wr)) (fun x12 _=>al.length - (intOf x12).toNat)
    case atStart=>exact⟨0,Nat.zero_le _,rfl,(fun i hi=>by simp at hi),bR⟩
    case round=>
     obtain⟨j,hj,rfl,HWN,xU⟩:=hrel;generalize wr=wB at*;have Je:=Hd (HB3.o.trans (xU.o.mono HB3.o.size));have a04:=Hd (a2Y.o.stays (xU.o.block _ a2Y.o.inside));have VO:=Hd (a3a.o.stays (xU.o.block _ a3a.o.inside));have a08:=Hd (a3h.o.stays (xU.o.block _ a3h.o.inside));by_cases hjl:j<al.length
     ·have t3:decide (j<al.length)=true:=decide_eq_true hjl;obtain⟨jb,jo,je,jc⟩:=Row.at_ HRW.o hjl;subst je;have HJL:=Hd hjl;have uS:Hid (al.take (j+1)=al.take j++[al[j]]):=List.take_succ_eq_append_getElem hjl;have Ja:Hid (has y.t al[j]=true):=(HWA.o _).1 (List.getElem_mem hjl);have hjb:(j:Int)<=1001:=by have:=HWL.o;omega
      generalize al[j]=id at*;have HJC:Hid (w3.cell? ⟨jb,jo+j,none⟩=some (.int .i64 id)):=jc;have HNN:=Hd (FY HYO.o (fun i=>HYG.o.m i) (aj.1 Ja.o));have FT:Hid (∀W,bz wB W->az W z (Vb wi aT M Ay y.t.length cy my)):=fun W hr=>a08.o.blk.below' hr
      have FJ:Hid (∀W,bz wB W->W.cell? ⟨jb,jo+j,none⟩=some (.int .i64 id)∧jb<W.heap.size):=fun W hr=>by
       have hlt0:=World.block_lt_of_cell? w3 _ HJC.o;have h1:=xU.o.trans (hr.mono xU.o.size);exact⟨(h1.cell (p:=⟨jb,_,none⟩) hlt0).trans HJC.o,Nat.lt_of_lt_of_le hlt0 h1.size⟩
      have FC:Hid (∀W,bz wB W->Calls prog 17 #[.agg (Vb wi aT M Ay y.t.length cy my).toArray,.int .i64 id] W (aX (.tuple #[.agg (dN y.t y.nd id).1.cs.toArray,.bool (dN y.t y.nd id).2]) W)):=fun W hr=>by
       have h1:=xU.o.trans (hr.mono xU.o.size);exact Aa wi aT M (.slice Ay y.t.length cy) y.t my y.nd HYO.o (by have:=HYN.o;omega) (depth y.t id) id W (a2z.o.below h1) (a2S.o.below h1) Ja.o nR
      obtain⟨qv,hqv⟩:=aC (dN y.t y.nd id)
      rw[hqv]at FC HNN;clear hqv jc hjl hj
      go_upto_region 15 with(fail)
      refine QO (Below wB.heap.size) (fun L V wx=>JN wB.heap.size [] (Vd) (qv.1.cs) (L 9) (L 10) (V 13) wx) [52,53,54,55,56,57,51,58,59,13,14] (fun _=>bR) (fun _ _ _ h k=>h.trans k) (fun i=>match i with
       |0=>rV (.agg ((Vb wi aT M Ay y.t.length cy my)).toArray)
       |1=>rV (.slice (some ⟨jb,jo,none⟩) al.length vc)
       |2=>rV (.int .i64 (j:Nat))
       |3=>rV (.pointer (some ⟨jb,(jo+j),none⟩))
       |4=>rV (.int .i64 id)
       |5|6=>rV (.tuple #[.agg (qv.1.cs).toArray,.bool qv.2])
       |7=>rV (.agg (qv.1.cs).toArray)
       |8|11=>rV (.bool qv.2)
       |_=>ra) (bR.drew) (JN.start (old:=[]) trivial) ⟨?_,?_,?_,?_,?_,?_,?_,?_,?_,?_,?_,?_,trivial⟩ ?_
      any_goals (first|refine fM fun L a w1 hh=>?_|fail)
      ·have h7:=hh.p 7 z 0;have hB:=Hd (FT.o _ hh.rel);have hJ:=Hd hh.st;exact aK 30 _ rfl z 0 (by simpa[go_sem]using h7) _ hB.o ((Vb wi aT M Ay y.t.length cy my)) rfl _ underlying30 rfl ag ⟨_,rfl,bR,rfl,JN.slots hJ.o sn⟩
      have h11:=hh.o 11 (v:=.slice (some ⟨jb,jo,none⟩) al.length vc) rfl;rotate_left;have h12:=hh.o 12 (v:=.int .i64 (j:Nat)) rfl;rotate_left
      ·have h53:=rq (hh.d 1 53);have h54:=rq (hh.d 2 54);obtain⟨-,li⟩:=FJ.o _ hh.rel;have hlt:=HJL.o;have hJ:=hh.j;clear hh;go_simp;exact⟨_,rfl,bR,rfl,JN.slots hJ.o sn⟩
      ·have h55:=rq (hh.d 3 55);obtain⟨c0,li⟩:=FJ.o _ hh.rel;have hJ:=hh.j;clear hh;go_simp;exact⟨_,rfl,bR,rfl,JN.slots hJ.o sn⟩
      ·have h52:=rq (hh.d 0 52);have h56:=rq (hh.d 4 56);have hC:=Hd (FC.o _ hh.rel);have hJ:=hh.j;clear hh;go_simp;refine hC.o.mono ?_;rintro e w9 ⟨rfl,bC⟩;exact⟨_,rfl,bC.mono hJ.o.1.2.1,rfl,JN.slots (JN.below hJ.o bC) sn⟩
      have h57:=rq (hh.d 5 57);rotate_left;have h51:=rq (hh.d 6 51);rotate_left;have h51:=rq (hh.d 6 51);rotate_left
      ·have hJ:=Hd hh.st;have hsz:=Hd hh.size;have hun:=Hd hh.un;clear hh;go_simp;exact⟨_,rfl,bR.alloc hJ.o.1.2.1 _,trivial,JN.new hJ.o hun.o (bM.bI (by rw[hsz.o];simp))⟩
      ·have h58:=rq (hh.d 7 58);have hup:=hh.up 9 ag;obtain⟨g9,vO,nD,gG⟩:=hh.st.2.1 hup;have h13:a.tmps[13]?.getD undef=.pointer (some ⟨g9,0,none⟩):=rq (vO);rw[hh.un]at gG;have hJ:=Hd hh.st;have hun:=Hd hh.un;refine dw 37 _ _ rfl g9 0 (by simpa[go_sem]using h13) (qv.1.cs) (by simpa[go_sem]using h58) _ gG (nE rfl) ag (by rfl) ?_;intro w9 nG BD;have hP:=hJ.o.Ou hup hun.o vO nG BD rfl;exact⟨undef,rfl,hP.2,trivial,hP.1⟩
      have h59:=rq (hh.d 8 59);rotate_left
      any_goals (have hJ:=hh.j;clear hh;go_simp;exact⟨_,rfl,bR,rfl,JN.slots hJ.o sn⟩)
      intro L w5 val hL hJ hR hv;have xK:val 14=.bool qv.2:=hv 11 14 ag;have kN:=Hd hR;clear hv hL hJ hR;simp only[regs.aG,List.map_cons,List.map_nil,xK];simp only[Act.put,List.setIfInBounds_toArray,List.set_cons_zero,List.set_cons_succ];clear xK
      skip
      have gI:Hid (bz w3 w5):=xU.o.trans (kN.o.mono xU.o.size);have a3y:=Hd (HB3.o.trans (gI.o.mono HB3.o.size));have a4E:=Hd (a04.o.stays (kN.o.block _ a04.o.inside));have a2Z:=Hd (VO.o.stays (kN.o.block _ VO.o.inside));obtain⟨qm,qb⟩:=qv;clear Je a04 VO a08 FT FJ FC;cases qb with
      |false=>
       have HE2:Hid (R=(x,((l.length:Nat):Int),35)):=HWB.o id Ja.o (HNN.o.2 rfl);go_wp2_with (first|(with_reducible refine gL ?_;first|(refine wt 30 0 rfl rfl rfl a4E.o.blk ((Vb wi aT M At x.t.length ct m)) rfl underlying30 rfl ?_))|(with_reducible refine gS ?_;first|(refine ay 30 _ _ rfl rfl rfl _ 0 rfl ((Vb wi aT M At x.t.length ct m)) rfl (Vf) a2Z.o.blk ((Vb wi aT M At x.t.length ct m)) rfl (nE rfl) ag rfl ?_;intro w6 uJ QI)));rw[HE2.o]
       exact uy rfl rfl rfl rfl QI.o underlying30 rfl ag ⟨_,rfl,(HD.o.below a3y.o).wrote a2Z.o (by decide) (by unfold kH;simp) uJ.o,uJ.o.below a3y.o (by omega)⟩
      |true=>
       have a4d:Hid (∀i∈al.take (j+1),aQ y.t y.nd i≠none):=fun i hi=>by
        rw[uS.o]at hi;rcases List.mem_append.1 hi with h1|h1
        ·exact HWN.o i h1
        ·rw[List.mem_singleton.1 h1];exact fun e=>by have h:=HNN.o.1 e;simp at h
       go_wp2_with (fail)
       go_roundw
       case rel=>exact⟨j+1,HJL.o,by go_num,a4d,gI⟩
       case measure=>have:=HJL.o;simp[intOf];omega
     ·obtain rfl:j=al.length:=by omega
      have t3:decide (al.length<al.length)=false:=by simp
      have HE2:Hid (R=((setSt y).1,((l.length:Nat):Int),0)):=HWG.o fun i hi=>HWN.o i (by rw[List.take_length];exact(HWA.o i).2 hi);have HDY:Hid (fC wB (.agg (Vb wi aT M Ay y.t.length cy my).toArray) wi aT M (setSt y).1):=(Ff.doc (a2z.o.below xU.o) (a2S.o.below xU.o)).a1L (Jw y);clear hjl hj
      go_wp2_with (first|(with_reducible refine gL ?_;first|(refine wt 30 0 rfl rfl rfl a08.o.blk ((Vb wi aT M Ay y.t.length cy my)) rfl underlying30 rfl ?_))|(with_reducible refine gS ?_;first|(refine ay 30 _ _ rfl rfl rfl _ 0 rfl ((Vb wi aT M Ay y.t.length cy my)) rfl (Vf) VO.o.blk ((Vb wi aT M Ay y.t.length cy my)) rfl (nE rfl) ag rfl ?_;intro w6 uJ QI)));rw[HE2.o]
      exact uy rfl rfl rfl rfl QI.o underlying30 rfl ag ⟨_,rfl,(HDY.o).wrote VO.o (by decide) (by unfold kH;simp) uJ.o,uJ.o.below Je.o (by omega)⟩
end
section
open Go.RowKit fB fK
theorem ax.ge{α:Type}{T:TypeId}{k:Nat}{enc:α->List Value}{w:World}{base n c:Nat}{A:Option Addr}{l:List α}(h:ax T k enc w base (.slice A n c) l){a:Addr}(e:A=some a):base<=a.block∧∃cs fz,w.heap[a.block]?=some (.cells cs T fz):=by
 rcases h.2 with ⟨e2,_⟩|⟨g,cap,cur,e2,hg,hb,_⟩
 ·injection e2 with e3 _ _
  rw[e]at e3;cases e3
 ·injection e2 with e3 _ _
  rw[e]at e3
  injection e3 with e3
  rw[e3];exact⟨hg,cur,_,hb⟩
def Zl(m:Mp)(op:Int)(hi cl:Bool)(r:Bx)(k W H:Int)(p:Nat)(iw ih:Int)(l:List Nat)(w:World)(e:Ending)(w':World):Prop:=∃A9 cap,e=.returned (MS m op hi cl r k W H p iw ih A9 l.length cap)∧Row eW w' A9 l∧l.length<=cap∧cap<=maxLen∧bz w w'∧∀a,A9=some a->w.heap.size<=a.block∧∃cs fz,w'.heap[a.block]?=some (.cells cs 41 fz)
theorem Sl(m:Mp)(op:Int)(hi cl:Bool)(r:Bx)(k W H:Int)(p:Nat)(iw ih:Int)(A:Option Addr)(l:List Nat)(c:Nat)(w:World)(hr:Row eW w A l)(hn:l.length<=20000000):Calls prog 85 #[MS m op hi cl r k W H p iw ih A l.length c] w (Zl m op hi cl r k W H p iw ih l w):=by
 have HR:=Hd hr;unfold Zl;clear hr;unfold MS at*;obtain⟨ma,mb,mc,md,me,mf⟩:=m;obtain⟨x0,y0,x1,y1⟩:=r;simp only;have HB0:Hid (bz w ((w.alloc (.cells (Vc ma mb mc md me mf op hi cl x0 y0 x1 y1 k W H p iw ih A l.length c).toArray 77)).alloc (.cells Va.toArray 46))):=(bR.alloc nR _).alloc (by simp) _
 have mV:Hid (az ((w.alloc (.cells (Vc ma mb mc md me mf op hi cl x0 y0 x1 y1 k W H p iw ih A l.length c).toArray 77)).alloc (.cells Va.toArray 46)) w.heap.size (Vc ma mb mc md me mf op hi cl x0 y0 x1 y1 k W H p iw ih A l.length c)):=(aA w (Vc ma mb mc md me mf op hi cl x0 y0 x1 y1 k W H p iw ih A l.length c) _).alloc _;have I7:Hid (az ((w.alloc (.cells (Vc ma mb mc md me mf op hi cl x0 y0 x1 y1 k W H p iw ih A l.length c).toArray 77)).alloc (.cells Va.toArray 46)) (w.heap.size+1) Va):=aV (w.alloc _) _ (by simp) Va _
 have iJ:((w.alloc (.cells (Vc ma mb mc md me mf op hi cl x0 y0 x1 y1 k W H p iw ih A l.length c).toArray 77)).alloc (.cells Va.toArray 46)).heap.size=w.heap.size+2:=by simp
 go_enter func85,ntmps85
 go_upto_region 1 with(fail)
 generalize ((w.alloc (.cells (Vc ma mb mc md me mf op hi cl x0 y0 x1 y1 k W H p iw ih A l.length c).toArray 77)).alloc (.cells Va.toArray 46))=wz at*;have oC:Hid (az (wz.alloc (.cells Vd.toArray 67)) w.heap.size (Vc ma mb mc md me mf op hi cl x0 y0 x1 y1 k W H p iw ih A l.length c)):=mV.o.alloc _;have jl:Hid (az (wz.alloc (.cells Vd.toArray 67)) (w.heap.size+1) Va):=I7.o.alloc _;have a2W:Hid (az (wz.alloc (.cells Vd.toArray 67)) (w.heap.size+2) Vd):=aV wz _ iJ.symm Vd _;have HB1:Hid (bz w (wz.alloc (.cells Vd.toArray 67))):=HB0.o.alloc (by omega) _
 have a2D:(wz.alloc (.cells Vd.toArray 67)).heap.size=w.heap.size+3:=by simp;omega
 go_upto_region 2 with(first|(with_reducible refine gL ?_;first|(refine wt 67 0 rfl rfl rfl mV.o (Vh ma mb mc md me mf) rfl underlying67 rfl ?_))|(with_reducible refine gS ?_;first|(refine ay 67 _ _ rfl rfl rfl _ 0 rfl (Vh ma mb mc md me mf) rfl _ a2W.o (Vh ma mb mc md me mf) rfl (by simp) ag rfl ?_;intro w2 HW2 LQ)))
 have dn:=Hd (HW2.o.blk (by omega) oC.o);have kX:=Hd (HW2.o.blk (by omega) jl.o);have HB2:=Hd (HW2.o.below HB1.o (by omega));have a2C:w2.heap.size=w.heap.size+3:=HW2.o.size.trans a2D;clear HW2 oC jl a2W HB1 a2D HB0 mV I7 iJ;have dL:Hid (az (w2.alloc (.cells Va.toArray 46)) w.heap.size (Vc ma mb mc md me mf op hi cl x0 y0 x1 y1 k W H p iw ih A l.length c)):=dn.o.alloc _;have sD:Hid (az (w2.alloc (.cells Va.toArray 46)) (w.heap.size+1) Va):=kX.o.alloc _
 have I8:Hid (az (w2.alloc (.cells Va.toArray 46)) (w.heap.size+3) Va):=aV w2 _ a2C.symm Va _;have HB3:Hid (bz w (w2.alloc (.cells Va.toArray 46))):=HB2.o.alloc (by omega) _;have a2B:(w2.alloc (.cells Va.toArray 46)).heap.size=w.heap.size+4:=by simp;omega
 have c6:=dn.o.c 6 rfl;have c7:=dn.o.c 7 rfl;have c8:=dn.o.c 8 rfl;have c9:=dn.o.c 9 rfl;have c10:=dn.o.c 10 rfl;have c11:=dn.o.c 11 rfl;have c12:=dn.o.c 12 rfl;have c13:=dn.o.c 13 rfl;have c14:=dn.o.c 14 rfl;have c15:=dn.o.c 15 rfl;have c16:=dn.o.c 16 rfl;have c17:=dn.o.c 17 rfl;have c18:=dn.o.c 18 rfl;have d0:w2.cell? ⟨(w.heap.size+2),0,none⟩=some (.int .i64 ma):=LQ.o.cell 0;have d1:w2.cell? ⟨(w.heap.size+2),1,none⟩=some (.int .i64 mb):=LQ.o.cell 1;have d2:w2.cell? ⟨(w.heap.size+2),2,none⟩=some (.int .i64 mc):=LQ.o.cell 2
 have d3:w2.cell? ⟨(w.heap.size+2),3,none⟩=some (.int .i64 md):=LQ.o.cell 3;have d4:w2.cell? ⟨(w.heap.size+2),4,none⟩=some (.int .i64 me):=LQ.o.cell 4;have d5:w2.cell? ⟨(w.heap.size+2),5,none⟩=some (.int .i64 mf):=LQ.o.cell 5;have hlt:w.heap.size<w2.heap.size:=by omega
 have hlt2:w.heap.size+2<w2.heap.size:=by omega
 go_upto_region 3 with(first|(with_reducible refine gS ?_;first|(refine ay 46 _ _ rfl rfl rfl _ 0 rfl [.int .i64 ma,.int .i64 mb,.int .i64 mc,.int .i64 md,.int .i64 me,.int .i64 mf,.int .i64 op,.bool hi,.bool cl,.int .i64 x0,.int .i64 y0,.int .i64 x1,.int .i64 y1,.int .i64 k,.int .i64 W,.int .i64 H,.int .u32 (p:Nat),.int .i64 iw,.int .i64 ih,.slice none 0 0] rfl _ I8.o [.int .i64 ma,.int .i64 mb,.int .i64 mc,.int .i64 md,.int .i64 me,.int .i64 mf,.int .i64 op,.bool hi,.bool cl,.int .i64 x0,.int .i64 y0,.int .i64 x1,.int .i64 y1,.int .i64 k,.int .i64 W,.int .i64 H,.int .u32 (p:Nat),.int .i64 iw,.int .i64 ih,.slice none 0 0] rfl (by simp) ag rfl ?_;intro w4 xB LP)))
 have oz:=Hd (xB.o.blk (by omega) dL.o);have wM:=Hd (xB.o.blk (by omega) sD.o);have HB4:=Hd (xB.o.below HB3.o (by omega));have X4:w4.heap.size=w.heap.size+4:=xB.o.size.trans a2B;clear xB dL sD I8 HB3 a2B HB2 dn kX a2C LQ c6 c7 c8 c9 c10 c11 c12 c13 c14 c15 c16 c17 c18 d0 d1 d2 d3 d4 d5 hlt hlt2;have c19:=oz.o.c 19 rfl;have hlt:w.heap.size<w4.heap.size:=by omega
 go_wp2_with (fail);clear c19 hlt oz
 go_loopw [68] (fun i wr=>∃(k0:Nat) (A9:Option Addr) (c9:Nat),k0<=l.length∧i=.int .i64 k0∧Hid (Qv wr (w.heap.size+4) (.slice A9 k0 c9) (l.take k0))∧Hid (az wr (w.heap.size+3) (Vc ma mb mc md me mf op hi cl x0 y0 x1 y1 k W H p iw ih A9 k0 c9))∧Hid (az wr (w.heap.size+1) Va)∧Hid (bz w wr)∧Hid (w.heap.size+4<=wr.heap.size)) (fun i _=>l.length - (intOf i).toNat)
 case atStart=>exact⟨0,none,0,Nat.zero_le _,rfl,ax.nil _ _,LP.o,wM.o,HB4.o,Nat.le_of_eq X4.symm⟩
 case round=>
  clear LP wM HB4 X4;obtain⟨k0,A9,c9,hk,rfl,HO,jK,ja,HB,HS⟩:=hrel;by_cases hlt:k0<l.length
  ·have t:decide (k0<l.length)=true:=by simpa using hlt
   obtain⟨b,off,rfl,hc⟩:=(HR.o.below HB.o).at_ hlt;have hlk:(l.take k0).length=k0:=by rw[List.length_take];omega
   have HT:=Hd (List.take_succ_eq_append_getElem hlt);generalize l[k0]=z at*;unfold eW at hc;obtain⟨A8,c8,w6,hrun,ho,hb⟩:=Rl HO.o z (by omega) HS.o rfl;rw[hlk]at hrun ho;have HO6:Hid (Qv w6 (w.heap.size+4) (.slice A8 (k0+1) c8) (l.take (k0+1))):=by rw[HT.o];exact ho
   have QH:=Hd (jK.o.below hb (by omega));have VN:=Hd (ja.o.below hb (by omega));have sF:=Hd (HB.o.trans (hb.mono (by omega)));have HS6:Hid (w.heap.size+4<=w6.heap.size):=Nat.le_trans HS.o hb.size;have c19:=jK.o.c 19 rfl;have hlt3:w.heap.size+3<wr.heap.size:=by have:=HS.o;omega
   have d19:w6.cell? ⟨w.heap.size+3,19,none⟩=some (.slice A9 k0 c9):=QH.o.cell 19;have f19:w6.frozen? ⟨w.heap.size+3,19,none⟩=false:=QH.o.free 19;have hlt4:w.heap.size+3<w6.heap.size:=by have:=HS6.o;omega
   clear ho hb HT HO jK ja;go_wp2_with (at_builtin;refine bG rfl _ _ 42 42 42 rfl rfl _ _ _ _ rfl rfl hrun ?_;clear hrun)
   go_roundw
   case rel=>
    have hw:Wrote (w.heap.size+3) w6 (w6.setCell ⟨w.heap.size+3,19,none⟩ (.slice A8 (k0+1) c8)):=⟨19,[.slice A8 (k0+1) c8],rfl⟩
    exact⟨k0+1,A8,c8,by omega,by go_num,HO6.o.stays (fun g hg=>hw.far (by have:=(HO6.o.block hg).1;omega)),QH.o.set 19 _,hw.blk (by omega) VN.o,hw.below sF.o (by omega),by rw[hw.size];exact HS6.o⟩
   case measure=>simp[intOf];omega
  ·obtain rfl:k0=l.length:=by omega
   have LJ:Hid (Qv wr (w.heap.size+4) (.slice A9 l.length c9) l):=by have:=HO.o;rwa [List.take_length]at this
   have t:decide (l.length<l.length)=false:=by simp
   clear HO;go_wp2_with (first|(with_reducible refine gL ?_;first|(refine wt 46 0 rfl rfl rfl jK.o (Vc ma mb mc md me mf op hi cl x0 y0 x1 y1 k W H p iw ih A9 l.length c9) rfl underlying46 rfl ?_))|(with_reducible refine gS ?_;first|(refine ay 46 _ _ rfl rfl rfl _ 0 rfl (Vc ma mb mc md me mf op hi cl x0 y0 x1 y1 k W H p iw ih A9 l.length c9) rfl _ ja.o (Vc ma mb mc md me mf op hi cl x0 y0 x1 y1 k W H p iw ih A9 l.length c9) rfl (by simp) ag rfl ?_;intro w7 HW7 E5)))
   have yB:Hid (Qv w7 (w.heap.size+4) (.slice A9 l.length c9) l):=LJ.o.stays (fun g hg=>HW7.o.far (by have:=(LJ.o.block hg).1;omega));obtain⟨A7,c7,e7,h1,h2,h3⟩:=yB.o.row qI
   injection e7 with e1 e2 e3
   subst e1;subst e3
   exact bJ rfl rfl E5.o underlying46 rfl ag ⟨A9,c9,rfl,h3.a1A,h1,h2,HW7.o.below HB.o (by omega),fun a ea=>by
    obtain⟨g1,g2⟩:=ax.ge yB.o ea
    exact⟨by omega,g2⟩⟩
end
section
open Go.RowKit fB fK aF Go.Maps
structure KX(x:Nat)(A W:World):Prop where
 os:W.os=A.os
 tape:W.tape=A.tape
 output:W.output=A.output
 size:A.heap.size<=W.heap.size
 same:∀k,k<A.heap.size->k≠x->W.heap[k]?=A.heap[k]?
theorem KX.refl(x:Nat)(A:World):KX x A A:=⟨rfl,rfl,rfl,nR,fun _ _ _=>rfl⟩
theorem KX.trans{x:Nat}{A B C:World}(h:KX x A B)(k:KX x B C):KX x A C:=⟨k.os.trans h.os,k.tape.trans h.tape,k.output.trans h.output,Nat.le_trans h.size k.size,fun j hj hn=>(k.same j (Nat.lt_of_lt_of_le hj h.size) hn).trans (h.same j hj hn)⟩
theorem KX.of_below{x:Nat}{A W:World}(hb:bz A W):KX x A W:=⟨hb.os,hb.tape,hb.output,hb.size,fun k hk _=>hb.block k hk⟩
theorem KX.aS{x n:Nat}{A W:World}(h:KX x A W)(hn:n<=x)(hs:n<=A.heap.size):Below n A W:=⟨h.os,h.tape,h.output,h.size,fun k hk=>h.same k (by omega) (by omega)⟩
theorem KX.wrote{x:Nat}{A W:World}(hW:Wrote x A W):KX x A W:=by
 have hb:=hW.below (Below.refl 0 A) (Nat.zero_le _);exact⟨hb.os,hb.tape,hb.output,hb.size,fun k _ hn=>hW.far hn⟩
theorem KG(o:dP)(A:Option Addr)(c:Nat)(w:World):(Instr.build 77 #[(0,.agg o.m.cs.toArray),(1,.int .i64 o.N),(2,.bool o.on),(3,.bool o.on),(4,.agg o.r.QX.toArray),(5,.agg (o.lk.cs A c).toArray)]).run prog w=.ok (.agg ((D6 o).cs A c).toArray) w:=by kernel_rfl
theorem Ql(o:dP)(A:Option Addr)(c:Nat)(w:World):(Instr.build 154 #[(0,.int .i64 o.k),(1,.int .i64 o.i),(2,.int .i64 o.p),(3,.int .i64 o.n),(4,.agg ((D6 o).cs A c).toArray)]).run prog w=.ok (.agg (o.fF A c).toArray) w:=by kernel_rfl
structure RJ(r:Nat)(o:dP)(d:Bool)(w:World):Prop where
 no:d=false->az w r Vk
 yes:d=true->∃A c,az w r (o.fF A c)∧nC w A o.lk.l∧∀a,A=some a->r<a.block
theorem RJ.below{r:Nat}{o:dP}{d:Bool}{w w':World}(h:RJ r o d w)(hb:bz w w'):RJ r o d w':=⟨fun e=>(h.no e).below' hb,fun e=>by
 obtain⟨A,c,h1,h2,h3⟩:=h.yes e
 exact⟨A,c,h1.below' hb,h2.below hb,h3⟩⟩
def Ll(o:dP)(w:World)(e:Ending)(w':World):Prop:=∃A c,e=.returned (.agg (o.fF A c).toArray)∧nC w' A o.lk.l∧(∀a,A=some a->w.heap.size<=a.block)∧bz w w'
theorem OH(o:dP)(Ao:Option Addr)(co:Nat)(w:World)(hr:Row eW w Ao o.lk.l)(hn:o.lk.l.length<=20000000) :
  Calls prog 56 #[.agg (o.cs Ao co).toArray] w (Ll o w):=by
 have HR:=Hd hr;have HN:=Hd hn;unfold Ll;clear hr hn;have HB0:Hid (bz w ((w.alloc (.cells (o.cs Ao co).toArray 85)).alloc (.cells Vk.toArray 154))):=(bR.alloc nR _).alloc (by simp) _;have jK:Hid (az ((w.alloc (.cells (o.cs Ao co).toArray 85)).alloc (.cells Vk.toArray 154)) w.heap.size (o.cs Ao co)):=(aA w (o.cs Ao co) _).alloc _;have ja:Hid (az ((w.alloc (.cells (o.cs Ao co).toArray 85)).alloc (.cells Vk.toArray 154)) (w.heap.size+1) Vk):=aV (w.alloc _) _ (by simp) Vk _;go_enter func56,ntmps56
 go_upto_region 1 with(fail)
 generalize ((w.alloc (.cells (o.cs Ao co).toArray 85)).alloc (.cells Vk.toArray 154))=w0 at*
 obtain⟨kr,hkr⟩:=aC (w.heap.size+1)
 have DF:Hid (w.heap.size<kr):=by show _<_;omega
 rw[hkr]at ja ⊢;clear hkr;have FO:Hid (∀W,KX kr w0 W->az W w.heap.size (o.cs Ao co)):=fun W hk=>jK.o.stays (hk.same _ jK.o.inside (Nat.ne_of_lt DF.o));have FK:Hid (∀W,KX kr w0 W->kr<W.heap.size):=fun W hk=>Nat.lt_of_lt_of_le ja.o.inside hk.size
 have FC:Hid (∀W,KX kr w0 W->Calls prog 85 #[.agg ((D6 o).cs Ao co).toArray] W fun e w'=>∃A9 c9,e=.returned (.agg ((D6 o).cs A9 c9).toArray)∧nC w' A9 o.lk.l∧(∀a,A9=some a->W.heap.size<=a.block)∧bz W w'):=fun W hk=>by
  refine(Sl o.m o.N o.on o.on o.r o.lk.k o.lk.W o.lk.H o.lk.p o.lk.iw o.lk.ih Ao o.lk.l co W (Row.below HR.o (HB0.o.trans (hk.aS (Nat.le_of_lt DF.o) HB0.o.size))) HN.o).mono ?_;rintro e w' ⟨A9,c9,h1,h2,-,-,h5,h6⟩;exact⟨A9,c9,h1,⟨h2,fun a ea _=>(h6 a ea).2⟩,fun a ea=>(h6 a ea).1,h5⟩
 refine wR (KX kr) (fun L wx=>RJ kr o (L 23) wx) [3,4,5,6,7,8,9,10,11,12,13,14,15,16,17,18,19,20,21,22,23,24,25] (fun _=>KX.refl _ _) (fun _ _ _ h k=>h.trans k) (fun i=>match i with
  |0=>rp w.heap.size 0
  |1=>rV (.int .i64 o.k)
  |2=>rp w.heap.size 1
  |3=>rV (.int .i64 o.i)
  |4=>rp w.heap.size 2
  |5=>rV (.int .i64 o.p)
  |6=>rp w.heap.size 3
  |7=>rV (.int .i64 o.n)
  |8=>rp w.heap.size 4
  |9=>rV (.agg (o.m.cs).toArray)
  |10=>rp w.heap.size 15
  |11=>rV (.int .i64 o.N)
  |12|14=>rp w.heap.size 14
  |13|15=>rV (.bool o.on)
  |16=>rp w.heap.size 10
  |17=>rV (.agg (o.r.QX).toArray)
  |18=>rp w.heap.size 16
  |19=>rV (.agg (o.lk.cs Ao co).toArray)
  |20=>rV (.agg ((D6 o).cs Ao co).toArray)
  |21=>(⟨fun v wv=>∃A c,v=.agg ((D6 o).cs A c).toArray∧nC wv A o.lk.l∧∀a,A=some a->kr<a.block,fun v w1 w2 h hb=>h.elim fun A h=>h.elim fun c h=>⟨A,c,h.1,h.2.1.stays fun a ea hne=>hb.same _ (Row.lt h.2.1.row ea hne) (Nat.ne_of_gt (h.2.2 a ea)),h.2.2⟩⟩:regs.kW (KX kr))
  |22=>(⟨fun v wv=>∃A c,v=.agg (o.fF A c).toArray∧nC wv A o.lk.l∧∀a,A=some a->kr<a.block,fun v w1 w2 h hb=>h.elim fun A h=>h.elim fun c h=>⟨A,c,h.1,h.2.1.stays fun a ea hne=>hb.same _ (Row.lt h.2.1.row ea hne) (Nat.ne_of_gt (h.2.2 a ea)),h.2.2⟩⟩:regs.kW (KX kr))
  |_=>ra) (KX.of_below bR.drew) (⟨fun _=>ja.o.below' bR.drew,nofun⟩) ⟨?_,?_,?_,?_,?_,?_,?_,?_,?_,?_,?_,?_,?_,?_,?_,?_,?_,?_,?_,?_,?_,?_,?_,?_,trivial⟩ ?_
 any_goals (first|refine zp fun L a w1 hh=>?_|fail)
 have h1:=hh.p 1 w.heap.size 0;have i0:=(FO.o _ hh.rel).inside;rotate_left;have h3:=rq (hh.d 0 3);have ⟨c0,i0⟩:=(FO.o _ hh.rel).ci 0 rfl;rotate_left;have h1:=hh.p 1 w.heap.size 0;have i0:=(FO.o _ hh.rel).inside;rotate_left;have h5:=rq (hh.d 2 5);have ⟨c0,i0⟩:=(FO.o _ hh.rel).ci 1 rfl;rotate_left;have h1:=hh.p 1 w.heap.size 0;have i0:=(FO.o _ hh.rel).inside;rotate_left;have h7:=rq (hh.d 4 7);have ⟨c0,i0⟩:=(FO.o _ hh.rel).ci 2 rfl;rotate_left;have h1:=hh.p 1 w.heap.size 0;have i0:=(FO.o _ hh.rel).inside;rotate_left;have h9:=rq (hh.d 6 9);have ⟨c0,i0⟩:=(FO.o _ hh.rel).ci 3 rfl
 rotate_left;have h1:=hh.p 1 w.heap.size 0;have i0:=(FO.o _ hh.rel).inside;rotate_left
 ·have h11:=rq (hh.d 8 11);have hB:=Hd (FO.o _ hh.rel);have hJ:=Hd hh.st;exact aK 67 _ rfl w.heap.size 4 (by simpa[go_sem]using h11) _ hB.o (o.m.cs) rfl _ underlying67 rfl ag ⟨_,rfl,KX.refl _ _,rfl,hJ.o⟩
 have h1:=hh.p 1 w.heap.size 0;have i0:=(FO.o _ hh.rel).inside;rotate_left;have h13:=rq (hh.d 10 13);have ⟨c0,i0⟩:=(FO.o _ hh.rel).ci 15 rfl;rotate_left;have h1:=hh.p 1 w.heap.size 0;have i0:=(FO.o _ hh.rel).inside;rotate_left;have h15:=rq (hh.d 12 15);have ⟨c0,i0⟩:=(FO.o _ hh.rel).ci 14 rfl;rotate_left;have h1:=hh.p 1 w.heap.size 0;have i0:=(FO.o _ hh.rel).inside;rotate_left;have h17:=rq (hh.d 14 17);have ⟨c0,i0⟩:=(FO.o _ hh.rel).ci 14 rfl;rotate_left;have h1:=hh.p 1 w.heap.size 0;have i0:=(FO.o _ hh.rel).inside;rotate_left
 ·have h19:=rq (hh.d 16 19);have hB:=Hd (FO.o _ hh.rel);have hJ:=Hd hh.st;exact aK 69 _ rfl w.heap.size 10 (by simpa[go_sem]using h19) _ hB.o (o.r.QX) rfl _ underlying69 rfl ag ⟨_,rfl,KX.refl _ _,rfl,hJ.o⟩
 have h1:=hh.p 1 w.heap.size 0;have i0:=(FO.o _ hh.rel).inside;rotate_left
 ·have h21:=rq (hh.d 18 21);have hB:=Hd (FO.o _ hh.rel);have hJ:=Hd hh.st;exact aK 75 _ rfl w.heap.size 16 (by simpa[go_sem]using h21) _ hB.o (o.lk.cs Ao co) rfl _ underlying75 rfl ag ⟨_,rfl,KX.refl _ _,rfl,hJ.o⟩
 ·have h12:=rq (hh.d 9 12);have xK:=rq (hh.d 11 14);have h16:=rq (hh.d 13 16);have h18:=rq (hh.d 15 18);have h20:=rq (hh.d 17 20);have h22:=rq (hh.d 19 22);have hJ:=Hd hh.st;exact wp_build _ _ rfl (by simp[go_sem,h12,xK,h16,h18,h20,h22]) (KG o Ao co w1) ⟨_,rfl,KX.refl _ _,rfl,hJ.o⟩
 ·have h23:=rq (hh.d 20 23);have hC:=Hd (FC.o w1 hh.rel);have hkr:=Hd (FK.o w1 hh.rel);have hJ:=hh.j;clear hh;go_simp;refine hC.o.mono ?_;rintro e w9 ⟨A9,c9,rfl,QR,nD,bC⟩;exact⟨_,rfl,KX.of_below bC,⟨A9,⟨c9,rfl⟩,QR,fun a ea=>by have:=nD a ea;have:=hkr.o;omega⟩,hJ.o.below bC⟩
 ·have h4:=rq (hh.d 1 4);have h6:=rq (hh.d 3 6);have h8:=rq (hh.d 5 8);have h10:=rq (hh.d 7 10)
  obtain⟨A8,c8,e8,hr8,Ko⟩:=(show ∃A c,(a.tmps.getD 24 undef)=.agg ((D6 o).cs A c).toArray∧nC w1 A o.lk.l∧∀a,A=some a->kr<a.block from hh.d 21 24)
  have BG:a.tmps[24]?.getD undef=.agg ((D6 o).cs A8 c8).toArray:=rq (e8);have hJ:=Hd hh.st;exact wp_build _ _ rfl (by simp[go_sem,h4,h6,h8,h10,BG]) (Ql o A8 c8 w1) ⟨_,rfl,KX.refl _ _,⟨A8,c8,rfl,hr8,Ko⟩,hJ.o⟩
 ·have h2:=hh.p 2 kr 0
  obtain⟨A8,c8,e8,hr8,Ko⟩:=(show ∃A c,(a.tmps.getD 25 undef)=.agg (o.fF A c).toArray∧nC w1 A o.lk.l∧∀a,A=some a->kr<a.block from hh.d 22 25)
  have C9:a.tmps[25]?.getD undef=.agg (o.fF A8 c8).toArray:=rq (e8);have rW:=hh.st.no hh.un;refine dw 154 _ _ rfl kr 0 (by simpa[go_sem]using h2) (o.fF A8 c8) (by simpa[go_sem]using C9) _ rW (nE rfl) ag (by rfl) ?_;intro w9 nG gG;exact⟨undef,rfl,KX.wrote nG,trivial,⟨nofun,fun _=>⟨A8,c8,gG,hr8.stays fun a ea hne=>nG.far (Nat.ne_of_gt (Ko a ea)),Ko⟩⟩⟩
 any_goals (have hJ:=hh.j;clear hh;go_simp;exact⟨_,rfl,KX.refl _ _,rfl,hJ.o⟩)
 intro L w4 val hL hJ hR hv;have HR4:=Hd hR;obtain⟨A9,c9,bC,QR,nD⟩:=hJ.yes (hL 23 (by decide));have uX:=Hd bC;have HR9:=Hd QR;have HG9:=Hd nD;clear hv hL hJ hR bC QR nD;simp only[regs.aG,List.map_cons,List.map_nil];simp only[Act.put,List.setIfInBounds_toArray,List.set_cons_zero,List.set_cons_succ]
 skip
 go_wp2_with (fail);exact bJ rfl rfl uX.o underlying154 rfl ag ⟨A9,c9,rfl,HR9.o,fun a ea=>by have:=HG9.o a ea;have:=DF.o;omega,HB0.o.trans (HR4.o.aS (Nat.le_of_lt DF.o) HB0.o.size)⟩
abbrev DX:TypeId:=154
abbrev yN:TypeId:=104
abbrev a1o(w:World)(base:Nat)(v:Value)(l:List iT):Prop:=ax DX 24 iT.fF w base v l
theorem iT.P9(q:iT):∀u∈q.fF,u.oneCell'=true:=by
 have h:q.fF.all (·.oneCell')=true:=rfl;exact fun u hu=>List.all_eq_true.1 h u hu
theorem TF:(prog.info? DX).map (fun i=>(i.zero,i.size,i.bytes))=some (some (.agg Vk.toArray),24,200):=by kernel_rfl
theorem XQ{w:World}{base:Nat}{v:Value}{l:List iT}(h:a1o w base v l)(q:iT){c:Nat}(hn:l.length<=900000)(hbase:base<=w.heap.size) :
  ∃v' w',(Builtin.append_ #[yN,yN] yN #[v,.slice (some ⟨w.heap.size,0,none⟩) 1 c]).run prog (w.alloc (.cells q.fF.toArray DX))=.ok v' w'∧a1o w' base v' (l++[q]) ∧
   (w.alloc (.cells q.fF.toArray DX)).grownBy w' v.ownBlock∧(v'.ownBlock=v.ownBlock∨v'.ownBlock=some (w.heap.size+1)):=by
 have e:[q].flatMap iT.fF=q.fF:=by simp
 obtain⟨v',w',h1,h2,h3,h4⟩:=ax.app (P:=prog) (xs:=[q]) (c:=c) (g:=w.heap.size) (o:=0) underlying104 TF rfl (by decide) (by decide) iT.EG iT.P9
  (h.below (bR.alloc nR (.cells q.fF.toArray DX))) (fun _=>by have:=jv (enc:=iT.fF) iT.EG w [q] DX rfl;rw[e]at this;exact this) (by simp;omega) (by simp;omega)
 refine⟨v',w',h1,h2,h3,?_⟩
 simpa using h4
theorem a0L(q:iT)(w:World):(Instr.buildSlice yN 1 #[(0,.agg q.fF.toArray)]).run prog w=.ok (.slice (some ⟨w.heap.size,0,none⟩) 1 1) (w.alloc (.cells q.fF.toArray DX)):=by kernel_rfl
structure Laid(w:World)(base:Nat)(v:Value)(l:List iT)(os:List dP):Prop where
 own:a1o w base v l
 os:l.map (·.o)=os
 px:∀q∈l,nC w q.A q.o.lk.l∧∀a,q.A=some a->q.o.lk.l≠[]->v.ownBlock≠some a.block
theorem Laid.below{w w':World}{base:Nat}{v:Value}{l:List iT}{os:List dP}(h:Laid w base v l os)(hb:bz w w'):Laid w' base v l os:=⟨ax.below h.own hb,h.os,fun q hq=>⟨(h.px q hq).1.below hb,(h.px q hq).2⟩⟩
theorem Laid.step{w w2:World}{base:Nat}{v:Value}{l:List iT}{os:List dP}(h:Laid w base v l os)(hbase:base<=w.heap.size)(hn:l.length<=900000)(hb:bz w w2){o:dP}{A:Option Addr}{c:Nat}(hr:nC w2 A o.lk.l)(hg:∀a,A=some a->w.heap.size<=a.block){cc:Nat} :
  ∃v' w',(Builtin.append_ #[yN,yN] yN #[v,.slice (some ⟨w2.heap.size,0,none⟩) 1 cc]).run prog (w2.alloc (.cells (o.fF A c).toArray DX))=.ok v' w'∧Laid w' base v' (l++[⟨o,A,c⟩]) (os++[o])∧Below base w2 w':=by
 have h2:=h.below hb;obtain⟨v',w',hrun,ho,hgr,hat⟩:=XQ h2.own ⟨o,A,c⟩ (c:=cc) hn (Nat.le_trans hbase hb.size);have hal:bz w2 (w2.alloc (.cells (o.fF A c).toArray DX)):=bR.alloc nR _
 have hown:∀a,A=some a->v.ownBlock≠some a.block:=fun a ea e=>by
  have h1:=(h.own.block e).2;have:=hg a ea;omega
 have keep:∀(A':Option Addr) (lk:List Nat),nC w2 A' lk->(∀a,A'=some a->lk≠[]->v.ownBlock≠some a.block)->nC w' A' lk∧∀a,A'=some a->lk≠[]->v'.ownBlock≠some a.block:=fun A' lk h3 h4=>by
  refine⟨(h3.below hal).stays fun a ea hne=>hgr.block _ (Row.lt (h3.below hal).row ea hne) (Ne.symm (h4 a ea hne)),fun a ea hne e=>?_⟩;rcases hat with h5|h5
  ·exact h4 a ea hne (h5 ▸ e)
  ·rw[h5]at e;have h6:=Row.lt h3.row ea hne;have:=Option.some.inj e;omega
 refine⟨v',w',hrun,⟨ho,by rw[List.map_append,h.os];rfl,fun q hq=>?_⟩,(hal.mono (Nat.le_trans hbase hb.size)).grown hgr (by simp;have:=hb.size;omega) fun j hj=>(h2.own.block hj).1⟩;rcases List.mem_append.1 hq with hq|hq
 ·exact keep _ _ (h2.px q hq).1 (h2.px q hq).2
 ·rw[List.mem_singleton.1 hq];exact keep A o.lk.l hr fun a ea _=>hown a ea
def yz(os:List dP)(w:World)(e:Ending)(w':World):Prop:=∃A c l,e=.returned (.slice A l.length c)∧xN w' A l∧l.map (·.o)=os∧bz w w'
theorem Laid.done{w:World}{base:Nat}{v:Value}{l:List iT}{os:List dP}(h:Laid w base v l os):∃A c,v=.slice A l.length c∧xN w A l:=by
 obtain⟨A,c,e,_,_,hr⟩:=ax.row h.own iT.EG;exact⟨A,c,e,hr,fun q hq=>(h.px q hq).1⟩
theorem JB(l:List iT)(A:Option Addr)(c:Nat)(w:World)(h:AP w A l)(hth:∀q∈l,q.o.lk.l.length<=300)(hn:l.length<=100000) :
  Calls prog 27 #[.slice A l.length c] w (yz (l.map (·.o)) w):=by
 have Wu:=Hd h;have X0:=Hd hth;have HN:=Hd hn;unfold yz;clear h hth hn;go_enter func27,ntmps27;go_wp2_with (fail)
 go_loopw [8,3] (fun x8 x3 wr=>∃(j:Nat) (l9:List iT),j<=l.length∧x8=.int .i64 j∧Hid (Laid wr w.heap.size x3 l9 ((l.take j).map (·.o)))∧Hid (bz w wr)) (fun x8 _ _=>l.length - (intOf x8).toNat)
 case atStart=>exact⟨0,[],Nat.zero_le _,rfl,⟨ax.nil _ _,by simp,fun q hq=>nomatch hq⟩,bR⟩
 case round=>
  obtain⟨j,l9,hj,rfl,HLD,HB⟩:=hrel;generalize wr=wA at*;by_cases hlt:j<l.length
  ·have t1:decide (j<l.length)=true:=by simpa using hlt
   have iq:=Hd hlt;obtain⟨lb,lo,rA,hcell⟩:=(Wu.o.below HB.o).row (by omega);subst rA
   obtain⟨q,hq⟩:∃q,q=l[j]'hlt:=⟨_,rfl⟩
   have BM:Hid (q∈l):=by rw[hq];exact List.getElem_mem hlt
   have uS:Hid ((l.take (j+1)).map (·.o)=(l.take j).map (·.o)++[q.o]):=by rw[hq,List.take_succ_eq_append_getElem hlt,List.map_append];rfl
   have pg:Hid (wA.rangeAt lb (lo+j*23) q.cs):=by
    rw[hq];exact fun i v hv=>hcell j hlt i v hv
   have HZ2:Hid (az (wA.alloc (.cells Vg.toArray 85)) wA.heap.size Vg):=aA wA Vg _;have iM:Hid (bz wA (wA.alloc (.cells Vg.toArray 85))):=bR.alloc nR _;have c0:=pg.o 0 (.int .i64 q.o.k) rfl;have i0:lb<wA.heap.size:=World.block_lt_of_cell? wA ⟨lb,_,none⟩ c0;have hjb:(j:Int)<=100000:=by have:=HN.o;omega
   clear c0 hcell hq hlt
   go_upto_region 5 with(first|((with_reducible refine gL ?_);refine qw 85 _ rfl rfl _ _ rfl (q.cs) pg.o _ underlying85 rfl ag ?_)|((with_reducible refine gS ?_);refine ay 85 _ _ rfl rfl rfl _ 0 rfl (q.cs) rfl (Vg) HZ2.o (q.cs) rfl (nE rfl) ag (dP.one _ _ _) ?_;intro w3 HW3 dL))
   have HB3:Hid (bz wA w3):=HW3.o.below iM.o nR;have i1:=dL.o.inside;have Zt:=Hd (OH q.o q.A q.c w3 (Row.below (Wu.o.px q BM.o).1 (HB.o.trans (HB3.o.mono HB.o.size))) (by have:=X0.o q BM.o;omega));unfold iT.cs at dL;clear HZ2 iM HW3 pg i0;go_wp2_with (first|(with_reducible refine gL ?_;first|(refine wt 85 0 rfl rfl rfl dL.o (q.o.cs q.A q.c) rfl underlying85 rfl ?_)));refine Zt.o.mono ?_;unfold Ll;rintro e w4 ⟨A9,c9,rfl,QR,nD,bC⟩
   obtain⟨v',w5,hrun,hld,hb5⟩:=(HLD.o.below HB3.o).step (Nat.le_trans HB.o.size HB3.o.size) (by
    have h1:=congrArg List.length HLD.o.os;rw[List.length_map,List.length_map,List.length_take]at h1;have:=HN.o
    omega) bC (o:=q.o) (A:=A9) (c:=c9) QR nD (cc:=1)
   have a4x:=Hd hld;have gI:Hid (bz w w5):=(HB.o.trans (HB3.o.mono HB.o.size)).trans ((bC.mono (Nat.le_trans HB.o.size HB3.o.size)).trans hb5);have hbs:=a0L ⟨q.o,A9,c9⟩ w4;unfold iT.fF at hbs;simp only at hbs;clear QR nD bC hld hb5 i1 dL HB3 HLD Zt;go_wp2_with (first|((with_reducible refine gB ?_);refine jO _ _ _ rfl rfl (by simp[go_sem]) hbs ?_;clear hbs)|(at_builtin;refine bG rfl _ _ 104 104 104 rfl rfl _ _ _ _ rfl rfl hrun ?_;clear hrun))
   go_roundw
   case rel=>exact⟨j+1,_,iq.o,by go_num,by rw[uS.o];exact a4x,gI⟩
   case measure=>have:=iq.o;simp[intOf];omega
  ·obtain rfl:j=l.length:=by omega
   have t1:decide (l.length<l.length)=false:=by simp
   rw[List.take_length]at HLD;obtain⟨A9,c9,rfl,hod⟩:=HLD.o.done;have HOD:=Hd hod;clear hlt hod hj;go_wp2_with (fail);go_ret;exact⟨A9,c9,l9,rfl,HOD.o,HLD.o.os,HB.o⟩
end
section
open Go.RowKit fB fK aF Go.Maps
theorem dM.far{w:World}{g b m:Nat}{s:Sh}{Z:ZZ}{x:aN}(hs:au w g b m s Z x){dm:Nat}{H:Int->Bool}{nd:Int->Nd}(h:dM w dm H nd)(h0:H 0=true):¬af b m s x.t dm:=by
 obtain⟨es,h1,h2,h3⟩:=h.ex
 have i0:I64 (0:Int):=⟨by decide,by decide⟩
 obtain⟨v,ev,A,c,rfl,-⟩:=h3 0 h0;rintro(e|hk)
 ·obtain⟨es2,g1,g2,g3⟩:=hs.map;obtain⟨u,eu,A2,c2,rfl,-⟩:=g3 0 (aj.2 (.inl rfl));subst e;have r1:=h1.lookup (t:=yO) (E:=46) underlying28 (xX w) i0;have r2:=g1.lookup (t:=yO) (E:=46) underlying28 (xX w) i0;rw[ev]at r1;rw[eu]at r2;have r3:=r1.symm.trans r2
  injection r3 with r3 _
  simp only[Option.getD_some,Nd.v,YR]at r3
  injection r3 with r3
  have:=congrArg Array.size r3;simp[Nd.cs,dY]at this
 ·rcases hk with hk|hk|⟨i,hi,hk|hk⟩
  ·exact h1.dQ hs.tree.raw.blk hk
  ·have r1:=h1.lookup (t:=195) (E:=191) underlying195 (L8 w) i0;have r2:=hs.tree.raw.gY (i:=0) i0 (aj.2 (.inl rfl));subst hk;rw[ev]at r1;have r3:=r1.symm.trans r2
   injection r3 with r3 _
   simp only[Option.getD_some,Nd.v]at r3;cases r3
  ·exact h1.dQ (hs.tree.raw.node i hi).blk hk
  ·obtain⟨cur,fr,h4⟩:=(hs.tree.raw.node i hi).own.typed hk;obtain⟨es',clock,h5,_⟩:=h1.own;have:=h4.symm.trans h5;cases this
theorem MB{w:World}{g b m:Nat}{s:Sh}{Z:ZZ}{x:aN}(hs:au w g b m s Z x){k:Nat}{cs:Array Value}{T:TypeId}{fz:Nat×Nat}(h:w.heap[k]?=some (.cells cs T fz))(hT:T=128∨T=41):¬af b m s x.t k:=by
 have hne:∀{cs':Array Value} {T':TypeId} {fz':Nat×Nat},w.heap[k]?=some (.cells cs' T' fz')->T'≠128->T'≠41->False:=fun h2 n1 n2=>by
  have:=h.symm.trans h2;simp only[Option.some.injEq,Obj.cells.injEq]at this;rcases hT with e|e
  ·exact n1 (this.2.1 ▸ e)
  ·exact n2 (this.2.1 ▸ e)
 rintro(e|hk)
 ·obtain⟨es2,g1,_⟩:=hs.map;obtain⟨es',clock,h5,_⟩:=g1.own;rw[e]at h;have:=h.symm.trans h5;cases this
 ·rcases hk with hk|hk|⟨i,hi,hk|hk⟩
  ·have h1:w.heap[b]?=_:=hs.tree.raw.blk;rw[←hk]at h1;exact hne h1 (by decide) (by decide)
  ·obtain⟨es,hm,_⟩:=hs.tree.raw.map;obtain⟨es',clock,h1,_⟩:=hm.own;rw[hk]at h;have:=h.symm.trans h1;cases this
  ·have h1:w.heap[s.g i]?=_:=(hs.tree.raw.node i hi).blk;rw[←hk]at h1;exact hne h1 (by decide) (by decide)
  ·obtain⟨cur,fr,h1⟩:=(hs.tree.raw.node i hi).own.typed hk;exact hne h1 (by decide) (by decide)
section
variable {w w':World}{g b m:Nat}{s:Sh}{Z:ZZ}{x y:aN}{S':bF}
theorem aP.turn(hs:au w g b m s Z x)(ht:ae (af b m s x.t) S' w w'){v:Value}{t:T}(h:aP w v t):aP w' v t:=h.stays fun _ _ a _ hy ea=>by
 obtain⟨cs,fz,h1⟩:=hy a ea;exact(ht.far _ (lt_of_block h1) (MB hs h1 (.inl rfl))).2
theorem wQ.turn(hs:au w g b m s Z x)(ht:ae (af b m s x.t) S' w w'){v:Value}{n:Nd}(h:wQ w v n):wQ w' v n:=by
 obtain⟨A,c,e,hr⟩:=h;refine⟨A,c,e,hr.stays fun a ea hne=>?_⟩;obtain⟨cs,fz,h1⟩:=hr.typ a ea hne;exact(ht.far _ (lt_of_block h1) (MB hs h1 (.inr rfl))).2
theorem dM.turn(hs:au w g b m s Z x)(ht:ae (af b m s x.t) S' w w'){dm:Nat}{H:Int->Bool}{nd:Int->Nd}(h:dM w dm H nd)(h0:H 0=true):dM w' dm H nd:=by
 have hf:=h.far hs h0;obtain⟨es,h1,h2,h3⟩:=h.ex;refine⟨es,h1.stays (ht.far _ h1.inside hf).2,h2,fun i hi=>?_⟩;obtain⟨v,e,hv⟩:=h3 i hi;exact⟨v,e,wQ.turn hs ht hv⟩
end
def ZW(B:Nat)(os:List dP):regs.kW (DR B):=⟨fun v wv=>∃A c l9,v=.slice A (l9:List iT).length c∧xN wv A l9∧l9.map (·.o)=os,fun _ _ _ h hb=>by
 obtain⟨A,c,l9,h1,h2,h3⟩:=h
 exact⟨A,c,l9,h1,h2.dr hb,h3⟩⟩
end
section
open Go.RowKit fB fK aF Go.Maps
end
section
open Go.RowKit fB fK aF Go.Maps xh Go.Shelf
attribute [local go_sem] Oper.semAt_some
theorem KX.below{x:Nat}{A W W':World}(h:KX x A W)(hb:Below A.heap.size W W'):KX x A W':=⟨hb.os.trans h.os,hb.tape.trans h.tape,hb.output.trans h.output,Nat.le_trans h.size hb.size,fun k hk hn=>(hb.block k hk).trans (h.same k hk hn)⟩
theorem KX.set{x:Nat}{A W:World}(h:KX x A W)(v:Value):KX x A (W.setCell ⟨x,0,none⟩ v):=⟨h.os,h.tape,h.output,by simpa[World.setCell]using h.size,fun k hk hn=>(heap_setCell_other _ _ _ _ hn).trans (h.same k hk hn)⟩
theorem KX.bk{x:Nat}{A W W':World}(h:KX x A W)(hb:Bk A.heap.size W W'):KX x A W':=h.below (hb.below nR h.size)
theorem TB(v:Value)(w:World):(invoke (.fn (.method "Walk") #[]) #[.iface 88 v]).run prog w=.ok (.enter 190 #[v]) w:=by kernel_rfl
theorem a1r{t:T}{j:Nat}(h:j<(wd t 0 0).length)(h2:j<(aF.walk t 0).length):(wd t 0 0)[j]=((aF.walk t 0)[j],depth t (aF.walk t 0)[j]):=by
 simp only[wd,List.getElem_map,NF];simp
end
end Go.Proofs.YthmegninhpihkaaGreat
