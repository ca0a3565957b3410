import Derived.Test.YthmegninhpihkaaGreatVDcf
set_option maxHeartbeats 16000000
set_option maxRecDepth 100000
open Go.Proofs.Tryz
namespace Go.Proofs.YthmegninhpihkaaGreat
section
open Go.RowKit fG gm aF Go.Maps
def a1l(wi aT M:Int)(r:aJ×Int×Int)(w:World)(e:Ending)(w':World):Prop:=∃v',e=.returned (.tuple #[v',.int .i64 r.2.1,.int .i64 r.2.2])∧fC w' v' wi aT M r.1∧bz w w'
theorem J5(l:List iK)(Al:Option Addr)(cl:Nat)(wi aT M:Int)(v:Value)(x:aJ)(hx:lV x)(w:World)(hd:fC w v wi aT M x)(ho:xK w Al l)(hok:∀q∈l,kK q.o)(hn:l.length<=1024->Room M x l.length)(hlen:l.length<=1000000) :
  Calls prog 26 #[v,.slice Al l.length cl] w (a1l wi aT M (bK M setSt x (l.map (·.o))) w):=by
 obtain⟨At,ct,m,rfl,ht,hm⟩:=hd.ex;have HD:=Hd hd;have HT:=Hd ht;have HM:=Hd hm;have HX:=Hd hx;have V8:=Hd ho;have dY:=Hd hok;have EF:=Hd hn
 obtain⟨lo,hlo⟩:=aC (l.map (·.o))
 have HLO:=Hd hlo;have ql:Hid (lo.length=l.length):=by show _=_;rw[←hlo,List.length_map]
 have HAT:Hid (∀(k:Nat) (h1:k<l.length) (h2:k<lo.length),lo[k]=l[k].o):=fun k h1 h2=>by
  have e:lo[k]?=some l[k].o:=by rw[←hlo,List.getElem?_map,List.getElem?_eq_getElem h1];rfl
  rw[List.getElem?_eq_getElem h2]at e;exact Option.some.inj e
 rw[hlo];unfold a1l
 obtain⟨R,hR⟩:=aC (bK M setSt x lo)
 have HE:=Hd hR;rw[hR];have hlb:(l.length:Int)<=1000000:=by omega
 clear hR hd ht hm hx ho hok hn hlo hlen;have HB0:Hid (bz w ((w.alloc (.cells (Vb wi aT M At x.t.length ct m).toArray 30)).alloc (.cells Vf.toArray 30))):=(bR.alloc nR _).alloc (by simp) _;have lY:Hid (au ((w.alloc (.cells (Vb wi aT M At x.t.length ct m).toArray 30)).alloc (.cells Vf.toArray 30)) w.heap.size (Vb wi aT M At x.t.length ct m) 30):=(au.new w (Vb wi aT M At x.t.length ct m) 30).al _
 have jd:Hid (au ((w.alloc (.cells (Vb wi aT M At x.t.length ct m).toArray 30)).alloc (.cells Vf.toArray 30)) (w.heap.size+1) Vf 30):=jJ (w.alloc _) _ (by simp) Vf 30;go_enter func26,ntmps26
 go_upto_region 1 with(fail)
 generalize ((w.alloc (.cells (Vb wi aT M At x.t.length ct m).toArray 30)).alloc (.cells Vf.toArray 30))=w0 at*;by_cases CX:1024<l.length
 ·have t1:decide ((1024:Int)<(l.length:Int))=true:=decide_eq_true (by omega);have HE2:Hid (R=(x,0,12)):=by show _=_;rw[←HE.o];exact Ih (by rw[ql.o];exact CX)
  clear CX HE;go_wp2_with (first|(with_reducible refine gL ?_;first|(refine wt 30 0 rfl rfl rfl lY.o.blk ((Vb wi aT M At x.t.length ct m)) rfl underlying30 rfl ?_))|(with_reducible refine gS ?_;first|(refine ay 30 _ _ rfl rfl rfl _ 0 rfl ((Vb wi aT M At x.t.length ct m)) rfl (Vf) jd.o.blk ((Vb wi aT M At x.t.length ct m)) rfl (nE rfl) ag rfl ?_;intro w2 HW2 dE)));rw[HE2.o]
  exact uy rfl rfl rfl rfl dE.o underlying30 rfl ag ⟨_,rfl,(HD.o.below HB0.o).wrote jd.o (by decide) (by unfold kE;simp) HW2.o,HW2.o.below HB0.o (by omega)⟩
 ·have t1:decide ((1024:Int)<(l.length:Int))=false:=decide_eq_false (by omega);have HL:Hid (l.length<=1024):=by show _<=_;omega
  have qU:Hid (Room M x lo.length):=by show Room _ _ _;rw[ql.o];exact EF.o HL.o
  have UZ:Hid (x.t.length<=900):=by have:=uZ HX.o.ok qU.o 0;rw[List.take_zero]at this;exact this
  clear CX EF;go_wp2_with (first|(with_reducible refine gL ?_;first|(refine wt 30 0 rfl rfl rfl lY.o.blk ((Vb wi aT M At x.t.length ct m)) rfl underlying30 rfl ?_)));refine(mM wi aT M _ x.t m (has x.t) x.nd HX.o.ok (by have:=UZ.o;omega) w0 (HT.o.below HB0.o) (HM.o.below HB0.o)).mono ?_;rintro e w1 ⟨m',rfl,hdm,hb1,-⟩;have HB1:=Hd (HB0.o.trans (hb1.mono HB0.o.size));have VF:Hid (dN w1 m' (has x.t) x.nd):=hdm.alike (fun _=>rfl) fun j hj=>(if_pos hj).symm;have fV:=Hd (au.stays lY.o (hb1.block _ lY.o.inside))
  have jm:=Hd (au.stays jd.o (hb1.block _ jd.o.inside));clear hdm hb1 lY jd HB0;have HZ:Hid (au (w1.alloc (.cells Vf.toArray 30)) w1.heap.size Vf 30):=au.new w1 Vf 30;have iD:Hid (Below w1.heap.size w1 (w1.alloc (.cells Vf.toArray 30))):=bR.alloc nR _
  go_upto_region 4 with(first|(with_reducible refine gS ?_;first|(refine ay 30 _ _ rfl rfl rfl _ 0 rfl ((Vb wi aT M At x.t.length ct m')) rfl (Vf) HZ.o.blk ((Vb wi aT M At x.t.length ct m')) rfl (nE rfl) ag rfl ?_;intro w2 HW2 dE)))
  obtain⟨z,hz⟩:=aC w1.heap.size
  have iL:Hid (w.heap.size+1<z):=by rw[←hz];exact jm.o.inside
  rw[hz]at HW2 dE HZ iD ⊢;have o5:Hid (Below z w1 w2):=HW2.o.below iD.o nR;have HB2:=Hd (HB1.o.trans (o5.o.mono (by have:=iL.o;omega)));have lW:Hid (au w2 w.heap.size (Vb wi aT M At x.t.length ct m) 30):=fV.o.stays (o5.o.block _ (by have:=iL.o;omega));have kX:Hid (au w2 (w.heap.size+1) Vf 30):=jm.o.stays (o5.o.block _ (by have:=iL.o;omega))
  have a3q:Hid (EP w2 z wi aT M x):=⟨At,ct,m',HZ.o.wrote HW2.o dE.o,HT.o.below HB2.o,VF.o.below (by (try show Below _ _ _);rw[hz];exact o5.o)⟩
  clear HB1 fV jm HZ iD o5 HW2 dE VF hz
  go_upto_region 5 with(fail)
  go_loopw [8] (fun x8 wr=>∃k:Nat,k<=l.length∧x8=.int .i64 k∧Hid ((aO M x (lo.take k)).2.2=0)∧Hid (EP wr z wi aT M (aO M x (lo.take k)).1)∧Hid (au wr w.heap.size (Vb wi aT M At x.t.length ct m) 30)∧Hid (au wr (w.heap.size+1) Vf 30)∧Hid (bz w wr)) (fun x8 _=>l.length - (intOf x8).toNat)
  case atStart=>exact⟨0,Nat.zero_le _,rfl,by rw[List.take_zero];rfl,by rw[List.take_zero];exact a3q.o,lW.o,kX.o,HB2.o⟩
  case round=>
   obtain⟨k,hk,rfl,HZZ,Dy,HKS,Dx,o5⟩:=hrel;generalize wr=wA at*;clear HB2 lW kX a3q;by_cases hlt:k<l.length
   ·have t2:decide (k<l.length)=true:=decide_eq_true hlt;have gQ:=Hd hlt;have hlt2:k<lo.length:=by rw[ql.o];exact hlt
    have a5d:=Hd hlt2
    have HY:Hid (Ok (aO M x (lo.take k)).1.t∧(aO M x (lo.take k)).1.t.length<=900∧Good (aO M x (lo.take k)).1∧∀i,Fit ((aO M x (lo.take k)).1.nd i)):=
     ⟨yx _ HX.o.ok,uZ HX.o.ok qU.o k,nT _ HX.o.good,Am _ (fun o h=>by
      obtain⟨q,h1,h2⟩:=List.mem_map.1 (show o∈l.map (·.o) by rw[HLO.o];exact List.mem_of_mem_take h)
      rw[←h2];exact dY.o q h1) HX.o.fit⟩
    have nY:=Hd (Qj (M:=M) (x:=x) hlt2 HZZ.o);have HBAD:=Hd (fun hz=>KG (M:=M) (x:=x) (l:=lo) (by rw[ql.o];exact HL.o) hlt2 HZZ.o hz);rw[HAT.o k hlt hlt2,HE.o]at HBAD;rw[HAT.o k hlt hlt2]at nY
    obtain⟨q,hq⟩:∃q,q=l[k]'hlt:=⟨_,rfl⟩
    have V6:Hid (kK q.o):=by show kK _;rw[hq];exact dY.o _ (List.getElem_mem hlt)
    have HQP:Hid (∀W,bz w W->oU W q.A q.o.lk.l):=fun W hb=>by rw[hq];exact(V8.o.px _ (List.getElem_mem hlt)).below hb
    obtain⟨lb,Z5,rA,hcell⟩:=(V8.o.below o5.o).row (by omega)
    have oZ:Hid (wA.rangeAt lb (Z5+k*24) q.fF):=fun i v hv=>by
     rw[hq]at hv;have:=hcell k hlt i v hv;exact this
    rw[←hq]at nY HBAD;subst rA
    obtain⟨y,hy⟩:=aC ((aO M x (lo.take k)).1)
    rw[hy]at nY HBAD HY Dy
    obtain⟨S1,hS1⟩:=aC (aO M x (lo.take (k+1)))
    rw[hS1]at nY;have kH:=Hd hS1
    obtain⟨⟨yn,e1⟩,hr1⟩:∃r,eU M y q.o=r:=⟨_,rfl⟩
    rw[hr1]at nY HBAD;simp only at nY HBAD;obtain⟨Ay,cy,my,hb7,ht7,hm7⟩:=Dy.o;have EK:=Hd hb7;have QQ:=Hd ht7;have IE:=Hd hm7;have HR1:=Hd hr1;have hkb:(k:Int)<=1000000:=by omega
    clear hq hlt hlt2 hcell hy hS1 hr1 hb7 ht7 hm7 Dy HZZ hk;have FT:Hid (∀W,DR wA.heap.size wA W->az W z (Vb wi aT M Ay y.t.length cy my)):=fun W hr=>EK.o.blk.below' hr.bel
    have FR:Hid (∀W,DR wA.heap.size wA W->W.rangeAt lb (Z5+k*24) q.fF∧lb<W.heap.size):=fun W hr=>by
     have hlt0:=World.block_lt_of_cell? wA ⟨lb,_,none⟩ (oZ.o 0 (.int .i64 q.o.k) rfl);exact⟨fun i v hv=>(hr.bel.cell (p:=⟨lb,Z5+k*24+i,none⟩) hlt0).trans (oZ.o i v hv),Nat.lt_of_lt_of_le hlt0 hr.bel.size⟩
    have FC:Hid (∀W,DR wA.heap.size wA W->Calls prog 55 #[.agg (Vb wi aT M Ay y.t.length cy my).toArray,.agg q.fF.toArray] W fun e w'=>∃v',e=.returned (.tuple #[v',.int .i64 e1])∧DP wi aT M yn e1 v' w'∧bz W w'):=fun W hr=>by
     have h1:=Xy q.o q.A q.c wi aT M (.slice Ay y.t.length cy) y my HY.o.1 HY.o.2.1 HY.o.2.2.1 HY.o.2.2.2 V6.o W (HQP.o W (o5.o.trans (hr.bel.mono o5.o.size))) (QQ.o.below hr.bel) (IE.o.below hr.bel);rw[HR1.o]at h1;refine h1.mono ?_;rintro e w' ⟨v',h2,h3,h4,h5⟩;exact⟨v',h2,⟨h3,h4⟩,h5⟩
    go_upto_region 7 with(fail)
    refine QC (DR wA.heap.size) (fun L V wx=>VJ wA.heap.size (L 9) (L 10) (V 9) (V 34) wx∧(L 10=true->L 7=true)∧(L 10=true->L 9=true)) [28,29,30,31,32,33,27,34,35,9,10] (fun _=>DR.refl _ _) (fun _ _ _ h k=>h.trans k) (fun i=>match i with
     |0=>rV (.agg ((Vb wi aT M Ay y.t.length cy my)).toArray)
     |1=>rV (.slice (some ⟨lb,Z5,none⟩) l.length cl)
     |2=>rV (.int .i64 (k:Nat))
     |3=>rV (.pointer (some ⟨lb,(Z5+k*24),none⟩))
     |4=>rV (.agg (q.fF).toArray)
     |5=>(⟨fun v wv=>∃v',v=.tuple #[v',.int .i64 e1]∧DP wi aT M yn e1 v' wv,fun v w1 w2 h hb=>h.elim fun v' h=>⟨v',h.1,h.2.dr hb⟩⟩:regs.kW (DR wA.heap.size))
     |6=>(⟨fun v wv=>∃v',v=.tuple #[v',.int .i64 e1]∧DP wi aT M yn e1 v' wv,fun v w1 w2 h hb=>h.elim fun v' h=>⟨v',h.1,h.2.dr hb⟩⟩:regs.kW (DR wA.heap.size))
     |7=>(⟨fun v wv=>DP wi aT M yn e1 v wv,fun v w1 w2 h hb=>h.dr hb⟩:regs.kW (DR wA.heap.size))
     |8|11=>rV (.int .i64 e1)
     |_=>ra) (DR.below bR.drew nR) (⟨VJ.start (Below.refl 0 _).drew.size,nofun,nofun⟩) ⟨?_,?_,?_,?_,?_,?_,?_,?_,?_,?_,?_,?_,trivial⟩ ?_
    any_goals (first|refine fK fun L a w1 hh=>?_|fail)
    ·have h7:=hh.p 7 z 0;have hB:=Hd (FT.o _ hh.rel);have hJ:=Hd hh.st;exact aK 30 _ rfl z 0 (by simpa[go_sem]using h7) _ hB.o ((Vb wi aT M Ay y.t.length cy my)) rfl _ underlying30 rfl ag ⟨_,rfl,DR.refl _ _,rfl,⟨VJ.slots hJ.o.1 sn sn,hJ.o.2⟩⟩
    have h1:=hh.o 1 (v:=.slice (some ⟨lb,Z5,none⟩) l.length cl) rfl;rotate_left;have h8:=hh.o 8 (v:=.int .i64 (k:Nat)) rfl;rotate_left
    ·have CW:=rq (hh.d 1 29);have h30:=rq (hh.d 2 30);obtain⟨-,li⟩:=FR.o _ hh.rel;have hlt:=gQ.o;have hJ:=hh.j;clear hh;go_simp;exact⟨_,rfl,DR.refl _ _,rfl,⟨VJ.slots hJ.o.1 sn sn,hJ.o.2⟩⟩
    ·have h31:=rq (hh.d 3 31);have hRG:=(FR.o _ hh.rel).1;have hJ:=Hd hh.st;exact wp_load_mid 154 _ rfl lb (Z5+k*24) (by simpa[go_sem]using h31) q.fF _ hRG underlying154 rfl ag ⟨_,rfl,DR.refl _ _,rfl,⟨VJ.slots hJ.o.1 sn sn,hJ.o.2⟩⟩
    ·have h28:=rq (hh.d 0 28);have h32:=rq (hh.d 4 32);have hC:=Hd (FC.o w1 hh.rel);have hbz:=Hd (show wA.heap.size<=w1.heap.size from hh.rel.bel.size);have hJ:=Hd hh.st;have hsz:=Hd hh.size;have hun:=Hd hh.un;clear hh;go_simp;refine hC.o.mono ?_;rintro e w9 ⟨v9,rfl,vO,bD⟩;exact⟨_,rfl,DR.below bD hbz.o,⟨v9,rfl,vO⟩,⟨VJ.slots (VJ.below hJ.o.1 bD) sn sn,hJ.o.2⟩⟩
    ·obtain⟨v8,e8,CV⟩:=(show ∃v',(a.tmps.getD 33 undef)=.tuple #[v',.int .i64 e1]∧DP wi aT M yn e1 v' w1 from hh.d 5 33)
     have VV:a.tmps[33]?.getD undef=.tuple #[v8,.int .i64 e1]:=rq (e8);have V7:=Hd CV;have hJ:=Hd hh.st;have hsz:=Hd hh.size;have hun:=Hd hh.un;clear hh e8 CV;go_simp;exact⟨_,rfl,DR.refl _ _,⟨v8,rfl,V7.o⟩,⟨VJ.slots hJ.o.1 sn sn,hJ.o.2⟩⟩
    ·obtain⟨v8,e8,CV⟩:=(show ∃v',(a.tmps.getD 27 undef)=.tuple #[v',.int .i64 e1]∧DP wi aT M yn e1 v' w1 from hh.d 6 27)
     have h27:a.tmps[27]?.getD undef=.tuple #[v8,.int .i64 e1]:=rq (e8);have V7:=Hd CV;have U4:=Hd (cO hh.st.2.1 hh.un);have hJ:=Hd hh.st;have hsz:=Hd hh.size;have hun:=Hd hh.un;clear hh e8 CV;go_simp;exact⟨_,rfl,DR.refl _ _,V7.o,⟨VJ.told hJ.o.1 U4.o sn,fun _=>rfl,hJ.o.2.2⟩⟩
    ·obtain⟨v8,e8,CV⟩:=(show ∃v',(a.tmps.getD 27 undef)=.tuple #[v',.int .i64 e1]∧DP wi aT M yn e1 v' w1 from hh.d 6 27)
     have h27:a.tmps[27]?.getD undef=.tuple #[v8,.int .i64 e1]:=rq (e8);have V7:=Hd CV;have hJ:=Hd hh.st;have hsz:=Hd hh.size;have hun:=Hd hh.un;clear hh e8 CV;go_simp;exact⟨_,rfl,DR.refl _ _,rfl,⟨VJ.slots hJ.o.1 sn sn,hJ.o.2⟩⟩
    ·have U4:=Hd (cO hh.st.2.2 hh.un);have hbz:=Hd (show wA.heap.size<=w1.heap.size from hh.rel.bel.size);have hJ:=Hd hh.st;have hsz:=Hd hh.size;have hun:=Hd hh.un;clear hh;go_simp;exact⟨_,rfl,DR.below (bR.alloc nR _) hbz.o,trivial,⟨VJ.made hJ.o.1 U4.o (bM.bI (by rw[hsz.o];simp)),hJ.o.2.1,fun _=>rfl⟩⟩
    ·have hup:=hh.up 9 ag;obtain⟨g9,c9,h9,mZ,gK,VS,Xg,-⟩:=hh.st.1.ex hup
     obtain⟨⟨Ud,e8,QI,Ph,ho8⟩,hd8⟩:=(show DP wi aT M yn e1 (a.tmps.getD 34 undef) w1 from hh.d 7 34)
     have hJ:=Hd hh.st;have a0a:=Hd (hh.up 7 ag);refine dn 30 _ _ rfl g9 0 (by have h:=h9;unfold bM.sl at h;simpa[go_sem]using h) Ud (by simpa[go_sem]using e8) _ gK.blk (by rw[QI,Xg];decide) (by rw[QI];kernel_rfl) ho8 ?_;intro w9 ng BD
     have a0n:az w9 g9 Ud:=by
      have e:c9.take 0++Ud++c9.drop (0+Ud.length)=Ud:=by rw[QI,List.drop_of_length_le (by rw[Xg];decide)];simp
      rw[←e];exact BD
     have hP:=hJ.o.1.put h9 mZ gK VS ng a0n Ph QI e8;exact⟨undef,rfl,hP.2,trivial,⟨hP.1,fun _=>a0a.o,fun _=>hup⟩⟩
    have h35:=rq (hh.d 8 35);rotate_left
    any_goals (have hJ:=hh.j;clear hh;go_simp;exact⟨_,rfl,DR.refl _ _,rfl,⟨VJ.slots hJ.o.1 sn sn,hJ.o.2⟩⟩)
    intro L w4 val hL hJ hR hv;have h10:val 10=.int .i64 e1:=hv 11 10 ag;have HR4:=Hd hR;obtain⟨g9,c9,e9,mZ,bD,VS,Xg,hv9⟩:=hJ.1.ex (hL 9 (by decide));have hv34:=hv9 (hL 10 (by decide));have hd34:DP wi aT M yn e1 (val 34) w4:=hv 7 34 ag;have VH:=Hd hd34;have UI:=Hd hv34;have uT:=Hd (And.intro mZ bD);clear hv hL hJ hR hd34 hv34 mZ bD VS Xg hv9;simp only[regs.aG,List.map_cons,List.map_nil,h10];simp only[Act.put,List.setIfInBounds_toArray,List.set_cons_zero,List.set_cons_succ];clear h10
    skip
    rw[e9];clear e9;have Yi:=Hd (EK.o.stays (HR4.o.bel.block _ EK.o.inside));have a2W:=Hd (HKS.o.stays (HR4.o.bel.block _ HKS.o.inside));have a0Y:=Hd (Dx.o.stays (HR4.o.bel.block _ Dx.o.inside));have HB4:=Hd (o5.o.trans (HR4.o.bel.mono o5.o.size));clear EK HKS Dx o5 FT FR FC QQ IE oZ;by_cases he:¬e1=0
    ·have q0:(e1==0)=false:=by simpa using he
     have HE2:Hid (R=(x,((k:Nat):Int),e1)):=HBAD.o he;clear he;go_wp2_with (first|(with_reducible refine gL ?_;first|(refine wt 30 0 rfl rfl rfl a2W.o.blk ((Vb wi aT M At x.t.length ct m)) rfl underlying30 rfl ?_))|(with_reducible refine gS ?_;first|(refine ay 30 _ _ rfl rfl rfl _ 0 rfl ((Vb wi aT M At x.t.length ct m)) rfl (Vf) a0Y.o.blk ((Vb wi aT M At x.t.length ct m)) rfl (nE rfl) ag rfl ?_;intro w5 yA uS)));rw[HE2.o]
     exact uy rfl rfl rfl rfl uS.o underlying30 rfl ag ⟨_,rfl,(HD.o.below HB4.o).wrote a0Y.o (by decide) (by unfold kE;simp) yA.o,yA.o.below HB4.o (by omega)⟩
    ·obtain rfl:e1=0:=Decidable.not_not.1 he;clear he;have q0:((0:Int)==0)=true:=by decide
     obtain⟨An,cn,mn,hvn,htn,hmn⟩:=(VH.o.2 rfl).ex
     have hcn:c9=(Vb wi aT M An yn.t.length cn mn):=by
      have h1:=UI.o.symm.trans hvn
      injection h1 with h1
      have h2:=congrArg Array.toList h1
      simpa using h2
     subst hcn;have HTN:=Hd htn;have HMN:=Hd hmn;obtain⟨hs1,hs2⟩:=nY.o rfl;have xM:=Hd (And.intro hs1 hs2);have Qu:Hid (z≠w.heap.size∧z≠w.heap.size+1∧w.heap.size<=z):=by have:=iL.o;show _∧_;omega
     clear hvn htn hmn hs1 hs2 VH UI;go_wp2_with (first|(with_reducible refine gL ?_;first|(refine lF 30 _ rfl rfl _ 0 rfl ((Vb wi aT M An yn.t.length cn mn)) uT.o.2.blk ((Vb wi aT M An yn.t.length cn mn)) rfl _ underlying30 rfl ag ?_))|(with_reducible refine gS ?_;first|(refine ay 30 _ _ rfl rfl rfl _ 0 rfl ((Vb wi aT M An yn.t.length cn mn)) rfl ((Vb wi aT M Ay y.t.length cy my)) Yi.o.blk ((Vb wi aT M An yn.t.length cn mn)) rfl (nE rfl) ag rfl ?_;intro w6 uG E8)))
     go_roundw
     case rel=>exact⟨k+1,gQ.o,by go_num,by rw[kH.o];exact xM.o.2,by rw[kH.o,xM.o.1];exact⟨An,cn,mn,Yi.o.wrote uG.o E8.o,HTN.o.wrote Yi.o (by decide) uG.o,HMN.o.wrote Yi.o.blk (a0u _ _ _ _ _ _ _) uG.o⟩,a2W.o.stays (uG.o.far (Ne.symm Qu.o.1)),a0Y.o.stays (uG.o.far (Ne.symm Qu.o.2.1)),uG.o.below HB4.o Qu.o.2.2⟩
     case measure=>have:=gQ.o;simp[intOf];omega
   ·obtain rfl:k=l.length:=by omega
    have t2:decide (l.length<l.length)=false:=by simp
    rw[show lo.take l.length=lo by rw[←ql.o];exact List.take_length]at HZZ Dy;have HYN:Hid ((aO M x lo).1.t.length<=900):=by have:=uZ HX.o.ok qU.o lo.length;rwa [List.take_length]at this
    have HYO:Hid (Ok (aO M x lo).1.t):=yx _ HX.o.ok;have HYG:Hid (Good (aO M x lo).1):=nT _ HX.o.good;have HWB:=Hd (fun i hi hw=>Et (M:=M) (x:=x) (l:=lo) (i:=i) (by rw[ql.o];exact HL.o) HZZ.o hi hw);have HWG:=Hd (fun hw=>Ii (M:=M) (x:=x) (l:=lo) (by rw[ql.o];exact HL.o) HZZ.o hw);rw[HE.o,ql.o]at HWB HWG
    obtain⟨y,hy⟩:=aC ((aO M x lo).1)
    rw[hy]at HWB HWG HYN HYO HYG Dy;obtain⟨Ay,cy,my,hb7,ht7,hm7⟩:=Dy.o;have EK:=Hd hb7;have QQ:=Hd ht7;have IE:=Hd hm7;have s3:wA.cell? ⟨z,3,none⟩=some (.slice Ay y.t.length cy):=EK.o.blk.cell 3;have si:=EK.o.inside;clear hlt hk hy hb7 ht7 hm7 Dy HZZ;go_wp2_with (fail);refine(TP Ay y.t cy HYO.o (by have:=HYN.o;omega) (y.t.length+1) 0 wA (aP.a1x QQ.o) (.inl rfl) (by omega)).mono ?_;unfold nU;rintro e w3 ⟨v3,rfl,hown,hb3⟩;have HWL:Hid ((aF.walk y.t 0).length<=1001):=by have:=kN HYO.o (i:=0) (.inl rfl);have:=HYN.o;show _<=_;omega
    have HWA:Hid (∀i,i∈aF.walk y.t 0↔has y.t i=true):=fun i=>jw HYO.o;obtain⟨vA,vc,rfl,-,-,hrow⟩:=hown.lM;have HRW:=Hd hrow;have HB3:=Hd (o5.o.trans (hb3.mono o5.o.size));have a2X:=Hd (HKS.o.stays (hb3.block _ HKS.o.inside));have a2Z:=Hd (Dx.o.stays (hb3.block _ Dx.o.inside));have a3g:=Hd (EK.o.stays (hb3.block _ EK.o.inside));have a2x:=Hd (QQ.o.below hb3);have a2Q:=Hd (IE.o.below hb3);clear hown hrow hb3 s3 si HKS Dx EK QQ IE o5
    obtain⟨al,hal⟩:=aC (aF.walk y.t 0)
    rw[hal]at HWL HWA HRW ⊢;clear hal
    go_upto_region 13 with(fail)
    go_loopw [12] (fun x12 wr=>∃j:Nat,j<=al.length∧x12=.int .i64 j∧Hid (∀i∈al.take j,aN y.t y.nd i≠none)∧Hid (bz w3 wr)) (fun x12 _=>al.length - (intOf x12).toNat)
    case atStart=>exact⟨0,Nat.zero_le _,rfl,(fun i hi=>by simp at hi),bR⟩
    case round=>
     obtain⟨j,hj,rfl,HWN,xQ⟩:=hrel;generalize wr=wB at*;have IV:=Hd (HB3.o.trans (xQ.o.mono HB3.o.size));have a0X:=Hd (a2X.o.stays (xQ.o.block _ a2X.o.inside));have VA:=Hd (a2Z.o.stays (xQ.o.block _ a2Z.o.inside));have a01:=Hd (a3g.o.stays (xQ.o.block _ a3g.o.inside));by_cases hjl:j<al.length
     ·have t3:decide (j<al.length)=true:=decide_eq_true hjl;obtain⟨jb,jo,je,jc⟩:=Row.at_ HRW.o hjl;subst je;have HJL:=Hd hjl;have uO:Hid (al.take (j+1)=al.take j++[al[j]]):=List.take_succ_eq_append_getElem hjl;have IP:Hid (has y.t al[j]=true):=(HWA.o _).1 (List.getElem_mem hjl);have hjb:(j:Int)<=1001:=by have:=HWL.o;omega
      generalize al[j]=id at*;have HJC:Hid (w3.cell? ⟨jb,jo+j,none⟩=some (.int .i64 id)):=jc;have HNN:=Hd (Fe HYO.o (fun i=>HYG.o.m i) (ah.1 IP.o));have FT:Hid (∀W,bz wB W->az W z (Vb wi aT M Ay y.t.length cy my)):=fun W hr=>a01.o.blk.below' hr
      have FJ:Hid (∀W,bz wB W->W.cell? ⟨jb,jo+j,none⟩=some (.int .i64 id)∧jb<W.heap.size):=fun W hr=>by
       have hlt0:=World.block_lt_of_cell? w3 _ HJC.o;have h1:=xQ.o.trans (hr.mono xQ.o.size);exact⟨(h1.cell (p:=⟨jb,_,none⟩) hlt0).trans HJC.o,Nat.lt_of_lt_of_le hlt0 h1.size⟩
      have FC:Hid (∀W,bz wB W->Calls prog 17 #[.agg (Vb wi aT M Ay y.t.length cy my).toArray,.int .i64 id] W (aZ (.tuple #[.agg (ed y.t y.nd id).1.cs.toArray,.bool (ed y.t y.nd id).2]) W)):=fun W hr=>by
       have h1:=xQ.o.trans (hr.mono xQ.o.size);exact JY wi aT M (.slice Ay y.t.length cy) y.t my y.nd HYO.o (by have:=HYN.o;omega) (depth y.t id) id W (a2x.o.below h1) (a2Q.o.below h1) IP.o nR
      obtain⟨qv,hqv⟩:=aC (ed y.t y.nd id)
      rw[hqv]at FC HNN;clear hqv jc hjl hj
      go_upto_region 15 with(fail)
      refine QC (Below wB.heap.size) (fun L V wx=>JN wB.heap.size [] (Vd) (qv.1.cs) (L 9) (L 10) (V 13) wx) [52,53,54,55,56,57,51,58,59,13,14] (fun _=>bR) (fun _ _ _ h k=>h.trans k) (fun i=>match i with
       |0=>rV (.agg ((Vb wi aT M Ay y.t.length cy my)).toArray)
       |1=>rV (.slice (some ⟨jb,jo,none⟩) al.length vc)
       |2=>rV (.int .i64 (j:Nat))
       |3=>rV (.pointer (some ⟨jb,(jo+j),none⟩))
       |4=>rV (.int .i64 id)
       |5|6=>rV (.tuple #[.agg (qv.1.cs).toArray,.bool qv.2])
       |7=>rV (.agg (qv.1.cs).toArray)
       |8|11=>rV (.bool qv.2)
       |_=>ra) (bR.drew) (JN.start (old:=[]) trivial) ⟨?_,?_,?_,?_,?_,?_,?_,?_,?_,?_,?_,?_,trivial⟩ ?_
      any_goals (first|refine fK fun L a w1 hh=>?_|fail)
      ·have h7:=hh.p 7 z 0;have hB:=Hd (FT.o _ hh.rel);have hJ:=Hd hh.st;exact aK 30 _ rfl z 0 (by simpa[go_sem]using h7) _ hB.o ((Vb wi aT M Ay y.t.length cy my)) rfl _ underlying30 rfl ag ⟨_,rfl,bR,rfl,JN.slots hJ.o sn⟩
      have h11:=hh.o 11 (v:=.slice (some ⟨jb,jo,none⟩) al.length vc) rfl;rotate_left;have h12:=hh.o 12 (v:=.int .i64 (j:Nat)) rfl;rotate_left
      ·have h53:=rq (hh.d 1 53);have h54:=rq (hh.d 2 54);obtain⟨-,li⟩:=FJ.o _ hh.rel;have hlt:=HJL.o;have hJ:=hh.j;clear hh;go_simp;exact⟨_,rfl,bR,rfl,JN.slots hJ.o sn⟩
      ·have h55:=rq (hh.d 3 55);obtain⟨c0,li⟩:=FJ.o _ hh.rel;have hJ:=hh.j;clear hh;go_simp;exact⟨_,rfl,bR,rfl,JN.slots hJ.o sn⟩
      ·have h52:=rq (hh.d 0 52);have h56:=rq (hh.d 4 56);have hC:=Hd (FC.o _ hh.rel);have hJ:=hh.j;clear hh;go_simp;refine hC.o.mono ?_;rintro e w9 ⟨rfl,bD⟩;exact⟨_,rfl,bD.mono hJ.o.1.2.1,rfl,JN.slots (JN.below hJ.o bD) sn⟩
      have h57:=rq (hh.d 5 57);rotate_left;have h51:=rq (hh.d 6 51);rotate_left;have h51:=rq (hh.d 6 51);rotate_left
      ·have hJ:=Hd hh.st;have hsz:=Hd hh.size;have hun:=Hd hh.un;clear hh;go_simp;exact⟨_,rfl,bR.alloc hJ.o.1.2.1 _,trivial,JN.new hJ.o hun.o (bM.bI (by rw[hsz.o];simp))⟩
      ·have h58:=rq (hh.d 7 58);have hup:=hh.up 9 ag;obtain⟨g9,vO,mZ,gK⟩:=hh.st.2.1 hup;have h13:a.tmps[13]?.getD undef=.pointer (some ⟨g9,0,none⟩):=rq (vO);rw[hh.un]at gK;have hJ:=Hd hh.st;have hun:=Hd hh.un;refine dn 37 _ _ rfl g9 0 (by simpa[go_sem]using h13) (qv.1.cs) (by simpa[go_sem]using h58) _ gK (nE rfl) ag (by rfl) ?_;intro w9 ng BD;have hP:=hJ.o.Og hup hun.o vO ng BD rfl;exact⟨undef,rfl,hP.2,trivial,hP.1⟩
      have h59:=rq (hh.d 8 59);rotate_left
      any_goals (have hJ:=hh.j;clear hh;go_simp;exact⟨_,rfl,bR,rfl,JN.slots hJ.o sn⟩)
      intro L w5 val hL hJ hR hv;have xI:val 14=.bool qv.2:=hv 11 14 ag;have kL:=Hd hR;clear hv hL hJ hR;simp only[regs.aG,List.map_cons,List.map_nil,xI];simp only[Act.put,List.setIfInBounds_toArray,List.set_cons_zero,List.set_cons_succ];clear xI
      skip
      have gI:Hid (bz w3 w5):=xQ.o.trans (kL.o.mono xQ.o.size);have a3y:=Hd (HB3.o.trans (gI.o.mono HB3.o.size));have a4G:=Hd (a0X.o.stays (kL.o.block _ a0X.o.inside));have a2Y:=Hd (VA.o.stays (kL.o.block _ VA.o.inside));obtain⟨qm,qb⟩:=qv;clear IV a0X VA a01 FT FJ FC;cases qb with
      |false=>
       have HE2:Hid (R=(x,((l.length:Nat):Int),35)):=HWB.o id IP.o (HNN.o.2 rfl);go_wp2_with (first|(with_reducible refine gL ?_;first|(refine wt 30 0 rfl rfl rfl a4G.o.blk ((Vb wi aT M At x.t.length ct m)) rfl underlying30 rfl ?_))|(with_reducible refine gS ?_;first|(refine ay 30 _ _ rfl rfl rfl _ 0 rfl ((Vb wi aT M At x.t.length ct m)) rfl (Vf) a2Y.o.blk ((Vb wi aT M At x.t.length ct m)) rfl (nE rfl) ag rfl ?_;intro w6 uG E8)));rw[HE2.o]
       exact uy rfl rfl rfl rfl E8.o underlying30 rfl ag ⟨_,rfl,(HD.o.below a3y.o).wrote a2Y.o (by decide) (by unfold kE;simp) uG.o,uG.o.below a3y.o (by omega)⟩
      |true=>
       have a4e:Hid (∀i∈al.take (j+1),aN y.t y.nd i≠none):=fun i hi=>by
        rw[uO.o]at hi;rcases List.mem_append.1 hi with h1|h1
        ·exact HWN.o i h1
        ·rw[List.mem_singleton.1 h1];exact fun e=>by have h:=HNN.o.1 e;simp at h
       go_wp2_with (fail)
       go_roundw
       case rel=>exact⟨j+1,HJL.o,by go_num,a4e,gI⟩
       case measure=>have:=HJL.o;simp[intOf];omega
     ·obtain rfl:j=al.length:=by omega
      have t3:decide (al.length<al.length)=false:=by simp
      have HE2:Hid (R=((setSt y).1,((l.length:Nat):Int),0)):=HWG.o fun i hi=>HWN.o i (by rw[List.take_length];exact(HWA.o i).2 hi);have HDY:Hid (fC wB (.agg (Vb wi aT M Ay y.t.length cy my).toArray) wi aT M (setSt y).1):=(EP.doc (a2x.o.below xQ.o) (a2Q.o.below xQ.o)).a1K (Ji y);clear hjl hj
      go_wp2_with (first|(with_reducible refine gL ?_;first|(refine wt 30 0 rfl rfl rfl a01.o.blk ((Vb wi aT M Ay y.t.length cy my)) rfl underlying30 rfl ?_))|(with_reducible refine gS ?_;first|(refine ay 30 _ _ rfl rfl rfl _ 0 rfl ((Vb wi aT M Ay y.t.length cy my)) rfl (Vf) VA.o.blk ((Vb wi aT M Ay y.t.length cy my)) rfl (nE rfl) ag rfl ?_;intro w6 uG E8)));rw[HE2.o]
      exact uy rfl rfl rfl rfl E8.o underlying30 rfl ag ⟨_,rfl,(HDY.o).wrote VA.o (by decide) (by unfold kE;simp) uG.o,uG.o.below IV.o (by omega)⟩
end
section
open Go.RowKit fG gm
theorem ax.ge{α:Type}{T:TypeId}{k:Nat}{enc:α->List Value}{w:World}{base n c:Nat}{A:Option Addr}{l:List α}(h:ax T k enc w base (.slice A n c) l){a:Addr}(e:A=some a):base<=a.block∧∃cs fz,w.heap[a.block]?=some (.cells cs T fz):=by
 rcases h.2 with ⟨e2,_⟩|⟨g,cap,cur,e2,hg,hb,_⟩
 ·injection e2 with e3 _ _
  rw[e]at e3;cases e3
 ·injection e2 with e3 _ _
  rw[e]at e3
  injection e3 with e3
  rw[e3];exact⟨hg,cur,_,hb⟩
def Zd(m:Mp)(op:Int)(hi cl:Bool)(r:Bx)(k W H:Int)(p:Nat)(iw ih:Int)(l:List Nat)(w:World)(e:Ending)(w':World):Prop:=∃A9 cap,e=.returned (MI m op hi cl r k W H p iw ih A9 l.length cap)∧Row eW w' A9 l∧l.length<=cap∧cap<=maxLen∧bz w w'∧∀a,A9=some a->w.heap.size<=a.block∧∃cs fz,w'.heap[a.block]?=some (.cells cs 41 fz)
theorem RG(m:Mp)(op:Int)(hi cl:Bool)(r:Bx)(k W H:Int)(p:Nat)(iw ih:Int)(A:Option Addr)(l:List Nat)(c:Nat)(w:World)(hr:Row eW w A l)(hn:l.length<=20000000):Calls prog 85 #[MI m op hi cl r k W H p iw ih A l.length c] w (Zd m op hi cl r k W H p iw ih l w):=by
 have HR:=Hd hr;unfold Zd;clear hr;unfold MI at*;obtain⟨ma,mb,mc,md,me,mf⟩:=m;obtain⟨x0,y0,x1,y1⟩:=r;simp only;have HB0:Hid (bz w ((w.alloc (.cells (Vc ma mb mc md me mf op hi cl x0 y0 x1 y1 k W H p iw ih A l.length c).toArray 77)).alloc (.cells Va.toArray 46))):=(bR.alloc nR _).alloc (by simp) _
 have oh:Hid (az ((w.alloc (.cells (Vc ma mb mc md me mf op hi cl x0 y0 x1 y1 k W H p iw ih A l.length c).toArray 77)).alloc (.cells Va.toArray 46)) w.heap.size (Vc ma mb mc md me mf op hi cl x0 y0 x1 y1 k W H p iw ih A l.length c)):=(aA w (Vc ma mb mc md me mf op hi cl x0 y0 x1 y1 k W H p iw ih A l.length c) _).alloc _;have IK:Hid (az ((w.alloc (.cells (Vc ma mb mc md me mf op hi cl x0 y0 x1 y1 k W H p iw ih A l.length c).toArray 77)).alloc (.cells Va.toArray 46)) (w.heap.size+1) Va):=aY (w.alloc _) _ (by simp) Va _
 have iL:((w.alloc (.cells (Vc ma mb mc md me mf op hi cl x0 y0 x1 y1 k W H p iw ih A l.length c).toArray 77)).alloc (.cells Va.toArray 46)).heap.size=w.heap.size+2:=by simp
 go_enter func85,ntmps85
 go_upto_region 1 with(fail)
 generalize ((w.alloc (.cells (Vc ma mb mc md me mf op hi cl x0 y0 x1 y1 k W H p iw ih A l.length c).toArray 77)).alloc (.cells Va.toArray 46))=wz at*;have og:Hid (az (wz.alloc (.cells Vd.toArray 67)) w.heap.size (Vc ma mb mc md me mf op hi cl x0 y0 x1 y1 k W H p iw ih A l.length c)):=oh.o.alloc _;have jm:Hid (az (wz.alloc (.cells Vd.toArray 67)) (w.heap.size+1) Va):=IK.o.alloc _;have a2U:Hid (az (wz.alloc (.cells Vd.toArray 67)) (w.heap.size+2) Vd):=aY wz _ iL.symm Vd _;have HB1:Hid (bz w (wz.alloc (.cells Vd.toArray 67))):=HB0.o.alloc (by omega) _
 have a2B:(wz.alloc (.cells Vd.toArray 67)).heap.size=w.heap.size+3:=by simp;omega
 go_upto_region 2 with(first|(with_reducible refine gL ?_;first|(refine wt 67 0 rfl rfl rfl oh.o (Vh ma mb mc md me mf) rfl underlying67 rfl ?_))|(with_reducible refine gS ?_;first|(refine ay 67 _ _ rfl rfl rfl _ 0 rfl (Vh ma mb mc md me mf) rfl _ a2U.o (Vh ma mb mc md me mf) rfl (by simp) ag rfl ?_;intro w2 HW2 Lr)))
 have dE:=Hd (HW2.o.blk (by omega) og.o);have kX:=Hd (HW2.o.blk (by omega) jm.o);have HB2:=Hd (HW2.o.below HB1.o (by omega));have a2A:w2.heap.size=w.heap.size+3:=HW2.o.size.trans a2B;clear HW2 og jm a2U HB1 a2B HB0 oh IK iL;have dM:Hid (az (w2.alloc (.cells Va.toArray 46)) w.heap.size (Vc ma mb mc md me mf op hi cl x0 y0 x1 y1 k W H p iw ih A l.length c)):=dE.o.alloc _;have su:Hid (az (w2.alloc (.cells Va.toArray 46)) (w.heap.size+1) Va):=kX.o.alloc _
 have IL:Hid (az (w2.alloc (.cells Va.toArray 46)) (w.heap.size+3) Va):=aY w2 _ a2A.symm Va _;have HB3:Hid (bz w (w2.alloc (.cells Va.toArray 46))):=HB2.o.alloc (by omega) _;have a2z:(w2.alloc (.cells Va.toArray 46)).heap.size=w.heap.size+4:=by simp;omega
 have c6:=dE.o.c 6 rfl;have c7:=dE.o.c 7 rfl;have c8:=dE.o.c 8 rfl;have c9:=dE.o.c 9 rfl;have c10:=dE.o.c 10 rfl;have c11:=dE.o.c 11 rfl;have c12:=dE.o.c 12 rfl;have c13:=dE.o.c 13 rfl;have c14:=dE.o.c 14 rfl;have c15:=dE.o.c 15 rfl;have c16:=dE.o.c 16 rfl;have c17:=dE.o.c 17 rfl;have c18:=dE.o.c 18 rfl;have d0:w2.cell? ⟨(w.heap.size+2),0,none⟩=some (.int .i64 ma):=Lr.o.cell 0;have d1:w2.cell? ⟨(w.heap.size+2),1,none⟩=some (.int .i64 mb):=Lr.o.cell 1;have d2:w2.cell? ⟨(w.heap.size+2),2,none⟩=some (.int .i64 mc):=Lr.o.cell 2
 have d3:w2.cell? ⟨(w.heap.size+2),3,none⟩=some (.int .i64 md):=Lr.o.cell 3;have d4:w2.cell? ⟨(w.heap.size+2),4,none⟩=some (.int .i64 me):=Lr.o.cell 4;have d5:w2.cell? ⟨(w.heap.size+2),5,none⟩=some (.int .i64 mf):=Lr.o.cell 5;have hlt:w.heap.size<w2.heap.size:=by omega
 have hlt2:w.heap.size+2<w2.heap.size:=by omega
 go_upto_region 3 with(first|(with_reducible refine gS ?_;first|(refine ay 46 _ _ rfl rfl rfl _ 0 rfl [.int .i64 ma,.int .i64 mb,.int .i64 mc,.int .i64 md,.int .i64 me,.int .i64 mf,.int .i64 op,.bool hi,.bool cl,.int .i64 x0,.int .i64 y0,.int .i64 x1,.int .i64 y1,.int .i64 k,.int .i64 W,.int .i64 H,.int .u32 (p:Nat),.int .i64 iw,.int .i64 ih,.slice none 0 0] rfl _ IL.o [.int .i64 ma,.int .i64 mb,.int .i64 mc,.int .i64 md,.int .i64 me,.int .i64 mf,.int .i64 op,.bool hi,.bool cl,.int .i64 x0,.int .i64 y0,.int .i64 x1,.int .i64 y1,.int .i64 k,.int .i64 W,.int .i64 H,.int .u32 (p:Nat),.int .i64 iw,.int .i64 ih,.slice none 0 0] rfl (by simp) ag rfl ?_;intro w4 xC Lp)))
 have nZ:=Hd (xC.o.blk (by omega) dM.o);have wO:=Hd (xC.o.blk (by omega) su.o);have HB4:=Hd (xC.o.below HB3.o (by omega));have XT:w4.heap.size=w.heap.size+4:=xC.o.size.trans a2z;clear xC dM su IL HB3 a2z HB2 dE kX a2A Lr c6 c7 c8 c9 c10 c11 c12 c13 c14 c15 c16 c17 c18 d0 d1 d2 d3 d4 d5 hlt hlt2;have c19:=nZ.o.c 19 rfl;have hlt:w.heap.size<w4.heap.size:=by omega
 go_wp2_with (fail);clear c19 hlt nZ
 go_loopw [68] (fun i wr=>∃(k0:Nat) (A9:Option Addr) (c9:Nat),k0<=l.length∧i=.int .i64 k0∧Hid (Qk wr (w.heap.size+4) (.slice A9 k0 c9) (l.take k0))∧Hid (az wr (w.heap.size+3) (Vc ma mb mc md me mf op hi cl x0 y0 x1 y1 k W H p iw ih A9 k0 c9))∧Hid (az wr (w.heap.size+1) Va)∧Hid (bz w wr)∧Hid (w.heap.size+4<=wr.heap.size)) (fun i _=>l.length - (intOf i).toNat)
 case atStart=>exact⟨0,none,0,Nat.zero_le _,rfl,ax.nil _ _,Lp.o,wO.o,HB4.o,Nat.le_of_eq XT.symm⟩
 case round=>
  clear Lp wO HB4 XT;obtain⟨k0,A9,c9,hk,rfl,HO,jM,jd,HB,HS⟩:=hrel;by_cases hlt:k0<l.length
  ·have t:decide (k0<l.length)=true:=by simpa using hlt
   obtain⟨b,off,rfl,hc⟩:=(HR.o.below HB.o).at_ hlt;have hlk:(l.take k0).length=k0:=by rw[List.length_take];omega
   have HT:=Hd (List.take_succ_eq_append_getElem hlt);generalize l[k0]=z at*;unfold eW at hc;obtain⟨A8,c8,w6,hrun,ho,hb⟩:=QY HO.o z (by omega) HS.o rfl;rw[hlk]at hrun ho;have HO6:Hid (Qk w6 (w.heap.size+4) (.slice A8 (k0+1) c8) (l.take (k0+1))):=by rw[HT.o];exact ho
   have Qx:=Hd (jM.o.below hb (by omega));have Vy:=Hd (jd.o.below hb (by omega));have sD:=Hd (HB.o.trans (hb.mono (by omega)));have HS6:Hid (w.heap.size+4<=w6.heap.size):=Nat.le_trans HS.o hb.size;have c19:=jM.o.c 19 rfl;have hlt3:w.heap.size+3<wr.heap.size:=by have:=HS.o;omega
   have d19:w6.cell? ⟨w.heap.size+3,19,none⟩=some (.slice A9 k0 c9):=Qx.o.cell 19;have f19:w6.frozen? ⟨w.heap.size+3,19,none⟩=false:=Qx.o.free 19;have hlt4:w.heap.size+3<w6.heap.size:=by have:=HS6.o;omega
   clear ho hb HT HO jM jd;go_wp2_with (at_builtin;refine bG rfl _ _ 42 42 42 rfl rfl _ _ _ _ rfl rfl hrun ?_;clear hrun)
   go_roundw
   case rel=>
    have hw:Wrote (w.heap.size+3) w6 (w6.setCell ⟨w.heap.size+3,19,none⟩ (.slice A8 (k0+1) c8)):=⟨19,[.slice A8 (k0+1) c8],rfl⟩
    exact⟨k0+1,A8,c8,by omega,by go_num,HO6.o.stays (fun g hg=>hw.far (by have:=(HO6.o.block hg).1;omega)),Qx.o.set 19 _,hw.blk (by omega) Vy.o,hw.below sD.o (by omega),by rw[hw.size];exact HS6.o⟩
   case measure=>simp[intOf];omega
  ·obtain rfl:k0=l.length:=by omega
   have Lj:Hid (Qk wr (w.heap.size+4) (.slice A9 l.length c9) l):=by have:=HO.o;rwa [List.take_length]at this
   have t:decide (l.length<l.length)=false:=by simp
   clear HO;go_wp2_with (first|(with_reducible refine gL ?_;first|(refine wt 46 0 rfl rfl rfl jM.o (Vc ma mb mc md me mf op hi cl x0 y0 x1 y1 k W H p iw ih A9 l.length c9) rfl underlying46 rfl ?_))|(with_reducible refine gS ?_;first|(refine ay 46 _ _ rfl rfl rfl _ 0 rfl (Vc ma mb mc md me mf op hi cl x0 y0 x1 y1 k W H p iw ih A9 l.length c9) rfl _ jd.o (Vc ma mb mc md me mf op hi cl x0 y0 x1 y1 k W H p iw ih A9 l.length c9) rfl (by simp) ag rfl ?_;intro w7 HW7 EK)))
   have wJ:Hid (Qk w7 (w.heap.size+4) (.slice A9 l.length c9) l):=Lj.o.stays (fun g hg=>HW7.o.far (by have:=(Lj.o.block hg).1;omega));obtain⟨A7,c7,e7,h1,h2,h3⟩:=wJ.o.row qI
   injection e7 with e1 e2 e3
   subst e1;subst e3
   exact bJ rfl rfl EK.o underlying46 rfl ag ⟨A9,c9,rfl,h3.a1z,h1,h2,HW7.o.below HB.o (by omega),fun a ea=>by
    obtain⟨g1,g2⟩:=ax.ge wJ.o ea
    exact⟨by omega,g2⟩⟩
end
section
open Go.RowKit fG gm aF Go.Maps
structure KX(x:Nat)(A W:World):Prop where
 os:W.os=A.os
 tape:W.tape=A.tape
 output:W.output=A.output
 size:A.heap.size<=W.heap.size
 same:∀k,k<A.heap.size->k≠x->W.heap[k]?=A.heap[k]?
theorem KX.refl(x:Nat)(A:World):KX x A A:=⟨rfl,rfl,rfl,nR,fun _ _ _=>rfl⟩
theorem KX.trans{x:Nat}{A B C:World}(h:KX x A B)(k:KX x B C):KX x A C:=⟨k.os.trans h.os,k.tape.trans h.tape,k.output.trans h.output,Nat.le_trans h.size k.size,fun j hj hn=>(k.same j (Nat.lt_of_lt_of_le hj h.size) hn).trans (h.same j hj hn)⟩
theorem KX.of_below{x:Nat}{A W:World}(hb:bz A W):KX x A W:=⟨hb.os,hb.tape,hb.output,hb.size,fun k hk _=>hb.block k hk⟩
theorem KX.aQ{x n:Nat}{A W:World}(h:KX x A W)(hn:n<=x)(hs:n<=A.heap.size):Below n A W:=⟨h.os,h.tape,h.output,h.size,fun k hk=>h.same k (by omega) (by omega)⟩
theorem KX.wrote{x:Nat}{A W:World}(hW:Wrote x A W):KX x A W:=by
 have hb:=hW.below (Below.refl 0 A) (Nat.zero_le _);exact⟨hb.os,hb.tape,hb.output,hb.size,fun k _ hn=>hW.far hn⟩
theorem Ko(o:dH)(A:Option Addr)(c:Nat)(w:World):(Instr.build 77 #[(0,.agg o.m.cs.toArray),(1,.int .i64 o.N),(2,.bool o.on),(3,.bool o.on),(4,.agg o.r.QL.toArray),(5,.agg (o.lk.cs A c).toArray)]).run prog w=.ok (.agg ((DU o).cs A c).toArray) w:=by kernel_rfl
theorem Qa(o:dH)(A:Option Addr)(c:Nat)(w:World):(Instr.build 154 #[(0,.int .i64 o.k),(1,.int .i64 o.i),(2,.int .i64 o.p),(3,.int .i64 o.n),(4,.agg ((DU o).cs A c).toArray)]).run prog w=.ok (.agg (o.fF A c).toArray) w:=by kernel_rfl
structure RJ(r:Nat)(o:dH)(d:Bool)(w:World):Prop where
 no:d=false->az w r Vk
 yes:d=true->∃A c,az w r (o.fF A c)∧oU w A o.lk.l∧∀a,A=some a->r<a.block
theorem RJ.below{r:Nat}{o:dH}{d:Bool}{w w':World}(h:RJ r o d w)(hb:bz w w'):RJ r o d w':=⟨fun e=>(h.no e).below' hb,fun e=>by
 obtain⟨A,c,h1,h2,h3⟩:=h.yes e
 exact⟨A,c,h1.below' hb,h2.below hb,h3⟩⟩
def KO(o:dH)(w:World)(e:Ending)(w':World):Prop:=∃A c,e=.returned (.agg (o.fF A c).toArray)∧oU w' A o.lk.l∧(∀a,A=some a->w.heap.size<=a.block)∧bz w w'
theorem Ox(o:dH)(Ao:Option Addr)(co:Nat)(w:World)(hr:Row eW w Ao o.lk.l)(hn:o.lk.l.length<=20000000) :
  Calls prog 56 #[.agg (o.cs Ao co).toArray] w (KO o w):=by
 have HR:=Hd hr;have HN:=Hd hn;unfold KO;clear hr hn;have HB0:Hid (bz w ((w.alloc (.cells (o.cs Ao co).toArray 85)).alloc (.cells Vk.toArray 154))):=(bR.alloc nR _).alloc (by simp) _;have jM:Hid (az ((w.alloc (.cells (o.cs Ao co).toArray 85)).alloc (.cells Vk.toArray 154)) w.heap.size (o.cs Ao co)):=(aA w (o.cs Ao co) _).alloc _;have jd:Hid (az ((w.alloc (.cells (o.cs Ao co).toArray 85)).alloc (.cells Vk.toArray 154)) (w.heap.size+1) Vk):=aY (w.alloc _) _ (by simp) Vk _;go_enter func56,ntmps56
 go_upto_region 1 with(fail)
 generalize ((w.alloc (.cells (o.cs Ao co).toArray 85)).alloc (.cells Vk.toArray 154))=w0 at*
 obtain⟨kr,hkr⟩:=aC (w.heap.size+1)
 have Dx:Hid (w.heap.size<kr):=by show _<_;omega
 rw[hkr]at jd ⊢;clear hkr;have FO:Hid (∀W,KX kr w0 W->az W w.heap.size (o.cs Ao co)):=fun W hk=>jM.o.stays (hk.same _ jM.o.inside (Nat.ne_of_lt Dx.o));have FK:Hid (∀W,KX kr w0 W->kr<W.heap.size):=fun W hk=>Nat.lt_of_lt_of_le jd.o.inside hk.size
 have FC:Hid (∀W,KX kr w0 W->Calls prog 85 #[.agg ((DU o).cs Ao co).toArray] W fun e w'=>∃A9 c9,e=.returned (.agg ((DU o).cs A9 c9).toArray)∧oU w' A9 o.lk.l∧(∀a,A9=some a->W.heap.size<=a.block)∧bz W w'):=fun W hk=>by
  refine(RG o.m o.N o.on o.on o.r o.lk.k o.lk.W o.lk.H o.lk.p o.lk.iw o.lk.ih Ao o.lk.l co W (Row.below HR.o (HB0.o.trans (hk.aQ (Nat.le_of_lt Dx.o) HB0.o.size))) HN.o).mono ?_;rintro e w' ⟨A9,c9,h1,h2,-,-,h5,h6⟩;exact⟨A9,c9,h1,⟨h2,fun a ea _=>(h6 a ea).2⟩,fun a ea=>(h6 a ea).1,h5⟩
 refine wR (KX kr) (fun L wx=>RJ kr o (L 23) wx) [3,4,5,6,7,8,9,10,11,12,13,14,15,16,17,18,19,20,21,22,23,24,25] (fun _=>KX.refl _ _) (fun _ _ _ h k=>h.trans k) (fun i=>match i with
  |0=>rp w.heap.size 0
  |1=>rV (.int .i64 o.k)
  |2=>rp w.heap.size 1
  |3=>rV (.int .i64 o.i)
  |4=>rp w.heap.size 2
  |5=>rV (.int .i64 o.p)
  |6=>rp w.heap.size 3
  |7=>rV (.int .i64 o.n)
  |8=>rp w.heap.size 4
  |9=>rV (.agg (o.m.cs).toArray)
  |10=>rp w.heap.size 15
  |11=>rV (.int .i64 o.N)
  |12|14=>rp w.heap.size 14
  |13|15=>rV (.bool o.on)
  |16=>rp w.heap.size 10
  |17=>rV (.agg (o.r.QL).toArray)
  |18=>rp w.heap.size 16
  |19=>rV (.agg (o.lk.cs Ao co).toArray)
  |20=>rV (.agg ((DU o).cs Ao co).toArray)
  |21=>(⟨fun v wv=>∃A c,v=.agg ((DU o).cs A c).toArray∧oU wv A o.lk.l∧∀a,A=some a->kr<a.block,fun v w1 w2 h hb=>h.elim fun A h=>h.elim fun c h=>⟨A,c,h.1,h.2.1.stays fun a ea hne=>hb.same _ (Row.lt h.2.1.row ea hne) (Nat.ne_of_gt (h.2.2 a ea)),h.2.2⟩⟩:regs.kW (KX kr))
  |22=>(⟨fun v wv=>∃A c,v=.agg (o.fF A c).toArray∧oU wv A o.lk.l∧∀a,A=some a->kr<a.block,fun v w1 w2 h hb=>h.elim fun A h=>h.elim fun c h=>⟨A,c,h.1,h.2.1.stays fun a ea hne=>hb.same _ (Row.lt h.2.1.row ea hne) (Nat.ne_of_gt (h.2.2 a ea)),h.2.2⟩⟩:regs.kW (KX kr))
  |_=>ra) (KX.of_below bR.drew) (⟨fun _=>jd.o.below' bR.drew,nofun⟩) ⟨?_,?_,?_,?_,?_,?_,?_,?_,?_,?_,?_,?_,?_,?_,?_,?_,?_,?_,?_,?_,?_,?_,?_,?_,trivial⟩ ?_
 any_goals (first|refine zp fun L a w1 hh=>?_|fail)
 have h1:=hh.p 1 w.heap.size 0;have i0:=(FO.o _ hh.rel).inside;rotate_left;have h3:=rq (hh.d 0 3);have ⟨c0,i0⟩:=(FO.o _ hh.rel).ci 0 rfl;rotate_left;have h1:=hh.p 1 w.heap.size 0;have i0:=(FO.o _ hh.rel).inside;rotate_left;have h5:=rq (hh.d 2 5);have ⟨c0,i0⟩:=(FO.o _ hh.rel).ci 1 rfl;rotate_left;have h1:=hh.p 1 w.heap.size 0;have i0:=(FO.o _ hh.rel).inside;rotate_left;have h7:=rq (hh.d 4 7);have ⟨c0,i0⟩:=(FO.o _ hh.rel).ci 2 rfl;rotate_left;have h1:=hh.p 1 w.heap.size 0;have i0:=(FO.o _ hh.rel).inside;rotate_left;have h9:=rq (hh.d 6 9);have ⟨c0,i0⟩:=(FO.o _ hh.rel).ci 3 rfl
 rotate_left;have h1:=hh.p 1 w.heap.size 0;have i0:=(FO.o _ hh.rel).inside;rotate_left
 ·have h11:=rq (hh.d 8 11);have hB:=Hd (FO.o _ hh.rel);have hJ:=Hd hh.st;exact aK 67 _ rfl w.heap.size 4 (by simpa[go_sem]using h11) _ hB.o (o.m.cs) rfl _ underlying67 rfl ag ⟨_,rfl,KX.refl _ _,rfl,hJ.o⟩
 have h1:=hh.p 1 w.heap.size 0;have i0:=(FO.o _ hh.rel).inside;rotate_left;have h13:=rq (hh.d 10 13);have ⟨c0,i0⟩:=(FO.o _ hh.rel).ci 15 rfl;rotate_left;have h1:=hh.p 1 w.heap.size 0;have i0:=(FO.o _ hh.rel).inside;rotate_left;have h15:=rq (hh.d 12 15);have ⟨c0,i0⟩:=(FO.o _ hh.rel).ci 14 rfl;rotate_left;have h1:=hh.p 1 w.heap.size 0;have i0:=(FO.o _ hh.rel).inside;rotate_left;have h17:=rq (hh.d 14 17);have ⟨c0,i0⟩:=(FO.o _ hh.rel).ci 14 rfl;rotate_left;have h1:=hh.p 1 w.heap.size 0;have i0:=(FO.o _ hh.rel).inside;rotate_left
 ·have h19:=rq (hh.d 16 19);have hB:=Hd (FO.o _ hh.rel);have hJ:=Hd hh.st;exact aK 69 _ rfl w.heap.size 10 (by simpa[go_sem]using h19) _ hB.o (o.r.QL) rfl _ underlying69 rfl ag ⟨_,rfl,KX.refl _ _,rfl,hJ.o⟩
 have h1:=hh.p 1 w.heap.size 0;have i0:=(FO.o _ hh.rel).inside;rotate_left
 ·have h21:=rq (hh.d 18 21);have hB:=Hd (FO.o _ hh.rel);have hJ:=Hd hh.st;exact aK 75 _ rfl w.heap.size 16 (by simpa[go_sem]using h21) _ hB.o (o.lk.cs Ao co) rfl _ underlying75 rfl ag ⟨_,rfl,KX.refl _ _,rfl,hJ.o⟩
 ·have h12:=rq (hh.d 9 12);have xI:=rq (hh.d 11 14);have h16:=rq (hh.d 13 16);have h18:=rq (hh.d 15 18);have h20:=rq (hh.d 17 20);have h22:=rq (hh.d 19 22);have hJ:=Hd hh.st;exact wp_build _ _ rfl (by simp[go_sem,h12,xI,h16,h18,h20,h22]) (Ko o Ao co w1) ⟨_,rfl,KX.refl _ _,rfl,hJ.o⟩
 ·have h23:=rq (hh.d 20 23);have hC:=Hd (FC.o w1 hh.rel);have hkr:=Hd (FK.o w1 hh.rel);have hJ:=hh.j;clear hh;go_simp;refine hC.o.mono ?_;rintro e w9 ⟨A9,c9,rfl,QF,mZ,bD⟩;exact⟨_,rfl,KX.of_below bD,⟨A9,⟨c9,rfl⟩,QF,fun a ea=>by have:=mZ a ea;have:=hkr.o;omega⟩,hJ.o.below bD⟩
 ·have h4:=rq (hh.d 1 4);have h6:=rq (hh.d 3 6);have h8:=rq (hh.d 5 8);have h10:=rq (hh.d 7 10)
  obtain⟨A8,c8,e8,hr8,JQ⟩:=(show ∃A c,(a.tmps.getD 24 undef)=.agg ((DU o).cs A c).toArray∧oU w1 A o.lk.l∧∀a,A=some a->kr<a.block from hh.d 21 24)
  have CX:a.tmps[24]?.getD undef=.agg ((DU o).cs A8 c8).toArray:=rq (e8);have hJ:=Hd hh.st;exact wp_build _ _ rfl (by simp[go_sem,h4,h6,h8,h10,CX]) (Qa o A8 c8 w1) ⟨_,rfl,KX.refl _ _,⟨A8,c8,rfl,hr8,JQ⟩,hJ.o⟩
 ·have h2:=hh.p 2 kr 0
  obtain⟨A8,c8,e8,hr8,JQ⟩:=(show ∃A c,(a.tmps.getD 25 undef)=.agg (o.fF A c).toArray∧oU w1 A o.lk.l∧∀a,A=some a->kr<a.block from hh.d 22 25)
  have pO:a.tmps[25]?.getD undef=.agg (o.fF A8 c8).toArray:=rq (e8);have rQ:=hh.st.no hh.un;refine dn 154 _ _ rfl kr 0 (by simpa[go_sem]using h2) (o.fF A8 c8) (by simpa[go_sem]using pO) _ rQ (nE rfl) ag (by rfl) ?_;intro w9 ng gK;exact⟨undef,rfl,KX.wrote ng,trivial,⟨nofun,fun _=>⟨A8,c8,gK,hr8.stays fun a ea hne=>ng.far (Nat.ne_of_gt (JQ a ea)),JQ⟩⟩⟩
 any_goals (have hJ:=hh.j;clear hh;go_simp;exact⟨_,rfl,KX.refl _ _,rfl,hJ.o⟩)
 intro L w4 val hL hJ hR hv;have HR4:=Hd hR;obtain⟨A9,c9,bD,QF,mZ⟩:=hJ.yes (hL 23 (by decide));have uT:=Hd bD;have HR9:=Hd QF;have HG9:=Hd mZ;clear hv hL hJ hR bD QF mZ;simp only[regs.aG,List.map_cons,List.map_nil];simp only[Act.put,List.setIfInBounds_toArray,List.set_cons_zero,List.set_cons_succ]
 skip
 go_wp2_with (fail);exact bJ rfl rfl uT.o underlying154 rfl ag ⟨A9,c9,rfl,HR9.o,fun a ea=>by have:=HG9.o a ea;have:=Dx.o;omega,HB0.o.trans (HR4.o.aQ (Nat.le_of_lt Dx.o) HB0.o.size)⟩
abbrev DL:TypeId:=154
abbrev yN:TypeId:=104
abbrev a1k(w:World)(base:Nat)(v:Value)(l:List iK):Prop:=ax DL 24 iK.fF w base v l
theorem iK.PS(q:iK):∀u∈q.fF,u.oneCell'=true:=by
 have h:q.fF.all (·.oneCell')=true:=rfl;exact fun u hu=>List.all_eq_true.1 h u hu
theorem Tf:(prog.info? DL).map (fun i=>(i.zero,i.size,i.bytes))=some (some (.agg Vk.toArray),24,200):=by kernel_rfl
theorem XG{w:World}{base:Nat}{v:Value}{l:List iK}(h:a1k w base v l)(q:iK){c:Nat}(hn:l.length<=900000)(hbase:base<=w.heap.size) :
  ∃v' w',(Builtin.append_ #[yN,yN] yN #[v,.slice (some ⟨w.heap.size,0,none⟩) 1 c]).run prog (w.alloc (.cells q.fF.toArray DL))=.ok v' w'∧a1k w' base v' (l++[q]) ∧
   (w.alloc (.cells q.fF.toArray DL)).grownBy w' v.ownBlock∧(v'.ownBlock=v.ownBlock∨v'.ownBlock=some (w.heap.size+1)):=by
 have e:[q].flatMap iK.fF=q.fF:=by simp
 obtain⟨v',w',h1,h2,h3,h4⟩:=ax.app (P:=prog) (xs:=[q]) (c:=c) (g:=w.heap.size) (o:=0) underlying104 Tf rfl (by decide) (by decide) iK.Ep iK.PS
  (h.below (bR.alloc nR (.cells q.fF.toArray DL))) (fun _=>by have:=jA (enc:=iK.fF) iK.Ep w [q] DL rfl;rw[e]at this;exact this) (by simp;omega) (by simp;omega)
 refine⟨v',w',h1,h2,h3,?_⟩
 simpa using h4
theorem a0E(q:iK)(w:World):(Instr.buildSlice yN 1 #[(0,.agg q.fF.toArray)]).run prog w=.ok (.slice (some ⟨w.heap.size,0,none⟩) 1 1) (w.alloc (.cells q.fF.toArray DL)):=by kernel_rfl
structure Laid(w:World)(base:Nat)(v:Value)(l:List iK)(os:List dH):Prop where
 own:a1k w base v l
 os:l.map (·.o)=os
 px:∀q∈l,oU w q.A q.o.lk.l∧∀a,q.A=some a->q.o.lk.l≠[]->v.ownBlock≠some a.block
theorem Laid.below{w w':World}{base:Nat}{v:Value}{l:List iK}{os:List dH}(h:Laid w base v l os)(hb:bz w w'):Laid w' base v l os:=⟨ax.below h.own hb,h.os,fun q hq=>⟨(h.px q hq).1.below hb,(h.px q hq).2⟩⟩
theorem Laid.step{w w2:World}{base:Nat}{v:Value}{l:List iK}{os:List dH}(h:Laid w base v l os)(hbase:base<=w.heap.size)(hn:l.length<=900000)(hb:bz w w2){o:dH}{A:Option Addr}{c:Nat}(hr:oU w2 A o.lk.l)(hg:∀a,A=some a->w.heap.size<=a.block){cc:Nat} :
  ∃v' w',(Builtin.append_ #[yN,yN] yN #[v,.slice (some ⟨w2.heap.size,0,none⟩) 1 cc]).run prog (w2.alloc (.cells (o.fF A c).toArray DL))=.ok v' w'∧Laid w' base v' (l++[⟨o,A,c⟩]) (os++[o])∧Below base w2 w':=by
 have h2:=h.below hb;obtain⟨v',w',hrun,ho,hgr,hat⟩:=XG h2.own ⟨o,A,c⟩ (c:=cc) hn (Nat.le_trans hbase hb.size);have hal:bz w2 (w2.alloc (.cells (o.fF A c).toArray DL)):=bR.alloc nR _
 have hown:∀a,A=some a->v.ownBlock≠some a.block:=fun a ea e=>by
  have h1:=(h.own.block e).2;have:=hg a ea;omega
 have keep:∀(A':Option Addr) (lk:List Nat),oU w2 A' lk->(∀a,A'=some a->lk≠[]->v.ownBlock≠some a.block)->oU w' A' lk∧∀a,A'=some a->lk≠[]->v'.ownBlock≠some a.block:=fun A' lk h3 h4=>by
  refine⟨(h3.below hal).stays fun a ea hne=>hgr.block _ (Row.lt (h3.below hal).row ea hne) (Ne.symm (h4 a ea hne)),fun a ea hne e=>?_⟩;rcases hat with h5|h5
  ·exact h4 a ea hne (h5 ▸ e)
  ·rw[h5]at e;have h6:=Row.lt h3.row ea hne;have:=Option.some.inj e;omega
 refine⟨v',w',hrun,⟨ho,by rw[List.map_append,h.os];rfl,fun q hq=>?_⟩,(hal.mono (Nat.le_trans hbase hb.size)).grown hgr (by simp;have:=hb.size;omega) fun j hj=>(h2.own.block hj).1⟩;rcases List.mem_append.1 hq with hq|hq
 ·exact keep _ _ (h2.px q hq).1 (h2.px q hq).2
 ·rw[List.mem_singleton.1 hq];exact keep A o.lk.l hr fun a ea _=>hown a ea
def yz(os:List dH)(w:World)(e:Ending)(w':World):Prop:=∃A c l,e=.returned (.slice A l.length c)∧xK w' A l∧l.map (·.o)=os∧bz w w'
theorem Laid.done{w:World}{base:Nat}{v:Value}{l:List iK}{os:List dH}(h:Laid w base v l os):∃A c,v=.slice A l.length c∧xK w A l:=by
 obtain⟨A,c,e,_,_,hr⟩:=ax.row h.own iK.Ep;exact⟨A,c,e,hr,fun q hq=>(h.px q hq).1⟩
theorem Jm(l:List iK)(A:Option Addr)(c:Nat)(w:World)(h:AB w A l)(hth:∀q∈l,q.o.lk.l.length<=300)(hn:l.length<=100000) :
  Calls prog 27 #[.slice A l.length c] w (yz (l.map (·.o)) w):=by
 have V8:=Hd h;have XQ:=Hd hth;have HN:=Hd hn;unfold yz;clear h hth hn;go_enter func27,ntmps27;go_wp2_with (fail)
 go_loopw [8,3] (fun x8 x3 wr=>∃(j:Nat) (l9:List iK),j<=l.length∧x8=.int .i64 j∧Hid (Laid wr w.heap.size x3 l9 ((l.take j).map (·.o)))∧Hid (bz w wr)) (fun x8 _ _=>l.length - (intOf x8).toNat)
 case atStart=>exact⟨0,[],Nat.zero_le _,rfl,⟨ax.nil _ _,by simp,fun q hq=>nomatch hq⟩,bR⟩
 case round=>
  obtain⟨j,l9,hj,rfl,HLD,HB⟩:=hrel;generalize wr=wA at*;by_cases hlt:j<l.length
  ·have t1:decide (j<l.length)=true:=by simpa using hlt
   have gQ:=Hd hlt;obtain⟨lb,lo,rA,hcell⟩:=(V8.o.below HB.o).row (by omega);subst rA
   obtain⟨q,hq⟩:∃q,q=l[j]'hlt:=⟨_,rfl⟩
   have BK:Hid (q∈l):=by rw[hq];exact List.getElem_mem hlt
   have uO:Hid ((l.take (j+1)).map (·.o)=(l.take j).map (·.o)++[q.o]):=by rw[hq,List.take_succ_eq_append_getElem hlt,List.map_append];rfl
   have oZ:Hid (wA.rangeAt lb (lo+j*23) q.cs):=by
    rw[hq];exact fun i v hv=>hcell j hlt i v hv
   have HZ2:Hid (az (wA.alloc (.cells Vg.toArray 85)) wA.heap.size Vg):=aA wA Vg _;have iO:Hid (bz wA (wA.alloc (.cells Vg.toArray 85))):=bR.alloc nR _;have c0:=oZ.o 0 (.int .i64 q.o.k) rfl;have i0:lb<wA.heap.size:=World.block_lt_of_cell? wA ⟨lb,_,none⟩ c0;have hjb:(j:Int)<=100000:=by have:=HN.o;omega
   clear c0 hcell hq hlt
   go_upto_region 5 with(first|((with_reducible refine gL ?_);refine qp 85 _ rfl rfl _ _ rfl (q.cs) oZ.o _ underlying85 rfl ag ?_)|((with_reducible refine gS ?_);refine ay 85 _ _ rfl rfl rfl _ 0 rfl (q.cs) rfl (Vg) HZ2.o (q.cs) rfl (nE rfl) ag (dH.one _ _ _) ?_;intro w3 HW3 dM))
   have HB3:Hid (bz wA w3):=HW3.o.below iO.o nR;have i1:=dM.o.inside;have Zk:=Hd (Ox q.o q.A q.c w3 (Row.below (V8.o.px q BK.o).1 (HB.o.trans (HB3.o.mono HB.o.size))) (by have:=XQ.o q BK.o;omega));unfold iK.cs at dM;clear HZ2 iO HW3 oZ i0;go_wp2_with (first|(with_reducible refine gL ?_;first|(refine wt 85 0 rfl rfl rfl dM.o (q.o.cs q.A q.c) rfl underlying85 rfl ?_)));refine Zk.o.mono ?_;unfold KO;rintro e w4 ⟨A9,c9,rfl,QF,mZ,bD⟩
   obtain⟨v',w5,hrun,hld,hb5⟩:=(HLD.o.below HB3.o).step (Nat.le_trans HB.o.size HB3.o.size) (by
    have h1:=congrArg List.length HLD.o.os;rw[List.length_map,List.length_map,List.length_take]at h1;have:=HN.o
    omega) bD (o:=q.o) (A:=A9) (c:=c9) QF mZ (cc:=1)
   have a4y:=Hd hld;have gI:Hid (bz w w5):=(HB.o.trans (HB3.o.mono HB.o.size)).trans ((bD.mono (Nat.le_trans HB.o.size HB3.o.size)).trans hb5);have hbs:=a0E ⟨q.o,A9,c9⟩ w4;unfold iK.fF at hbs;simp only at hbs;clear QF mZ bD hld hb5 i1 dM HB3 HLD Zk;go_wp2_with (first|((with_reducible refine gB ?_);refine jv _ _ _ rfl rfl (by simp[go_sem]) hbs ?_;clear hbs)|(at_builtin;refine bG rfl _ _ 104 104 104 rfl rfl _ _ _ _ rfl rfl hrun ?_;clear hrun))
   go_roundw
   case rel=>exact⟨j+1,_,gQ.o,by go_num,by rw[uO.o];exact a4y,gI⟩
   case measure=>have:=gQ.o;simp[intOf];omega
  ·obtain rfl:j=l.length:=by omega
   have t1:decide (l.length<l.length)=false:=by simp
   rw[List.take_length]at HLD;obtain⟨A9,c9,rfl,hod⟩:=HLD.o.done;have HOD:=Hd hod;clear hlt hod hj;go_wp2_with (fail);go_ret;exact⟨A9,c9,l9,rfl,HOD.o,HLD.o.os,HB.o⟩
end
section
open Go.RowKit fG gm aF Go.Maps
theorem dN.far{w:World}{g b m:Nat}{s:Sh}{Z:ZZ}{x:aJ}(hs:ak w g b m s Z x){dm:Nat}{H:Int->Bool}{nd:Int->Nd}(h:dN w dm H nd)(h0:H 0=true):¬af b m s x.t dm:=by
 obtain⟨es,h1,h2,h3⟩:=h.ex
 have i0:I64 (0:Int):=⟨by decide,by decide⟩
 obtain⟨v,ev,A,c,rfl,-⟩:=h3 0 h0;rintro(e|hk)
 ·obtain⟨es2,g1,g2,g3⟩:=hs.map;obtain⟨u,eu,A2,c2,rfl,-⟩:=g3 0 (ah.2 (.inl rfl));subst e;have r1:=h1.lookup (t:=yO) (E:=46) underlying28 (xU w) i0;have r2:=g1.lookup (t:=yO) (E:=46) underlying28 (xU w) i0;rw[ev]at r1;rw[eu]at r2;have r3:=r1.symm.trans r2
  injection r3 with r3 _
  simp only[Option.getD_some,Nd.v,YI]at r3
  injection r3 with r3
  have:=congrArg Array.size r3;simp[Nd.cs,dZ]at this
 ·rcases hk with hk|hk|⟨i,hi,hk|hk⟩
  ·exact h1.dR hs.tree.raw.blk hk
  ·have r1:=h1.lookup (t:=195) (E:=191) underlying195 (LH w) i0;have r2:=hs.tree.raw.ik (i:=0) i0 (ah.2 (.inl rfl));subst hk;rw[ev]at r1;have r3:=r1.symm.trans r2
   injection r3 with r3 _
   simp only[Option.getD_some,Nd.v]at r3;cases r3
  ·exact h1.dR (hs.tree.raw.node i hi).blk hk
  ·obtain⟨cur,fr,h4⟩:=(hs.tree.raw.node i hi).own.typed hk;obtain⟨es',clock,h5,_⟩:=h1.own;have:=h4.symm.trans h5;cases this
theorem LQ{w:World}{g b m:Nat}{s:Sh}{Z:ZZ}{x:aJ}(hs:ak w g b m s Z x){k:Nat}{cs:Array Value}{T:TypeId}{fz:Nat×Nat}(h:w.heap[k]?=some (.cells cs T fz))(hT:T=128∨T=41):¬af b m s x.t k:=by
 have hne:∀{cs':Array Value} {T':TypeId} {fz':Nat×Nat},w.heap[k]?=some (.cells cs' T' fz')->T'≠128->T'≠41->False:=fun h2 n1 n2=>by
  have:=h.symm.trans h2;simp only[Option.some.injEq,Obj.cells.injEq]at this;rcases hT with e|e
  ·exact n1 (this.2.1 ▸ e)
  ·exact n2 (this.2.1 ▸ e)
 rintro(e|hk)
 ·obtain⟨es2,g1,_⟩:=hs.map;obtain⟨es',clock,h5,_⟩:=g1.own;rw[e]at h;have:=h.symm.trans h5;cases this
 ·rcases hk with hk|hk|⟨i,hi,hk|hk⟩
  ·have h1:w.heap[b]?=_:=hs.tree.raw.blk;rw[←hk]at h1;exact hne h1 (by decide) (by decide)
  ·obtain⟨es,hm,_⟩:=hs.tree.raw.map;obtain⟨es',clock,h1,_⟩:=hm.own;rw[hk]at h;have:=h.symm.trans h1;cases this
  ·have h1:w.heap[s.g i]?=_:=(hs.tree.raw.node i hi).blk;rw[←hk]at h1;exact hne h1 (by decide) (by decide)
  ·obtain⟨cur,fr,h1⟩:=(hs.tree.raw.node i hi).own.typed hk;exact hne h1 (by decide) (by decide)
section
variable {w w':World}{g b m:Nat}{s:Sh}{Z:ZZ}{x y:aJ}{S':bF}
theorem aP.turn(hs:ak w g b m s Z x)(ht:ae (af b m s x.t) S' w w'){v:Value}{t:T}(h:aP w v t):aP w' v t:=h.stays fun _ _ a _ hy ea=>by
 obtain⟨cs,fz,h1⟩:=hy a ea;exact(ht.far _ (lt_of_block h1) (LQ hs h1 (.inl rfl))).2
theorem wU.turn(hs:ak w g b m s Z x)(ht:ae (af b m s x.t) S' w w'){v:Value}{n:Nd}(h:wU w v n):wU w' v n:=by
 obtain⟨A,c,e,hr⟩:=h;refine⟨A,c,e,hr.stays fun a ea hne=>?_⟩;obtain⟨cs,fz,h1⟩:=hr.typ a ea hne;exact(ht.far _ (lt_of_block h1) (LQ hs h1 (.inr rfl))).2
theorem dN.turn(hs:ak w g b m s Z x)(ht:ae (af b m s x.t) S' w w'){dm:Nat}{H:Int->Bool}{nd:Int->Nd}(h:dN w dm H nd)(h0:H 0=true):dN w' dm H nd:=by
 have hf:=h.far hs h0;obtain⟨es,h1,h2,h3⟩:=h.ex;refine⟨es,h1.stays (ht.far _ h1.inside hf).2,h2,fun i hi=>?_⟩;obtain⟨v,e,hv⟩:=h3 i hi;exact⟨v,e,wU.turn hs ht hv⟩
end
def ZK(B:Nat)(os:List dH):regs.kW (DR B):=⟨fun v wv=>∃A c l9,v=.slice A (l9:List iK).length c∧xK wv A l9∧l9.map (·.o)=os,fun _ _ _ h hb=>by
 obtain⟨A,c,l9,h1,h2,h3⟩:=h
 exact⟨A,c,l9,h1,h2.dr hb,h3⟩⟩
end
section
open Go.RowKit fG gm aF Go.Maps
end
section
open Go.RowKit fG gm aF Go.Maps xk Go.Shelf
attribute [local go_sem] Oper.semAt_some
theorem KX.below{x:Nat}{A W W':World}(h:KX x A W)(hb:Below A.heap.size W W'):KX x A W':=⟨hb.os.trans h.os,hb.tape.trans h.tape,hb.output.trans h.output,Nat.le_trans h.size hb.size,fun k hk hn=>(hb.block k hk).trans (h.same k hk hn)⟩
theorem KX.set{x:Nat}{A W:World}(h:KX x A W)(v:Value):KX x A (W.setCell ⟨x,0,none⟩ v):=⟨h.os,h.tape,h.output,by simpa[World.setCell]using h.size,fun k hk hn=>(heap_setCell_other _ _ _ _ hn).trans (h.same k hk hn)⟩
theorem KX.bk{x:Nat}{A W W':World}(h:KX x A W)(hb:Bk A.heap.size W W'):KX x A W':=h.below (hb.below nR h.size)
theorem SY(v:Value)(w:World):(invoke (.fn (.method "Walk") #[]) #[.iface 88 v]).run prog w=.ok (.enter 190 #[v]) w:=by kernel_rfl
theorem a1n{t:T}{j:Nat}(h:j<(wd t 0 0).length)(h2:j<(aF.walk t 0).length):(wd t 0 0)[j]=((aF.walk t 0)[j],depth t (aF.walk t 0)[j]):=by
 simp only[wd,List.getElem_map,Nq];simp
end
end Go.Proofs.YthmegninhpihkaaGreat
