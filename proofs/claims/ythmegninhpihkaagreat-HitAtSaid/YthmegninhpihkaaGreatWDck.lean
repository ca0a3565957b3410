import Derived.Test.YthmegninhpihkaaGreatWDcf
set_option maxHeartbeats 16000000
set_option maxRecDepth 100000
open Go.Proofs.Tryz
namespace Go.Proofs.YthmegninhpihkaaGreat
section
open Go.RowKit fF fO aF Go.Maps
def a2O(wi aH M:Int)(r:aJ×Int×Int)(w:World)(e:Ending)(w':World):Prop:=∃v',e=.returned (.tuple #[v',.int .i64 r.2.1,.int .i64 r.2.2])∧eX w' v' wi aH M r.1∧bz w w'
theorem ML(l:List iZ)(Al:Option Addr)(cl:Nat)(wi aH M:Int)(v:Value)(x:aJ)(hx:mV x)(w:World)(hd:eX w v wi aH M x)(ho:yK w Al l)(hok:∀q∈l,mW q.o)(hn:l.length<=1024->Room M x l.length)(hlen:l.length<=1000000) :
  Calls prog 26 #[v,.slice Al l.length cl] w (a2O wi aH M (cO M setSt x (l.map (·.o))) w):=by
 obtain⟨At,ct,m,rfl,ht,hm⟩:=hd.ex;have HD:=Hd hd;have HT:=Hd ht;have HM:=Hd hm;have HX:=Hd hx;have NK:=Hd ho;have dW:=Hd hok;have Gn:=Hd hn
 obtain⟨lo,hlo⟩:=aB (l.map (·.o))
 have XX:=Hd hlo;have mX:Hid (lo.length=l.length):=by show _=_;rw[←hlo,List.length_map]
 have HAT:Hid (∀(k:Nat) (h1:k<l.length) (h2:k<lo.length),lo[k]=l[k].o):=fun k h1 h2=>by
  have e:lo[k]?=some l[k].o:=by rw[←hlo,List.getElem?_map,List.getElem?_eq_getElem h1];rfl
  rw[List.getElem?_eq_getElem h2]at e;exact Option.some.inj e
 rw[hlo];unfold a2O
 obtain⟨R,hR⟩:=aB (cO M setSt x lo)
 have HE:=Hd hR;rw[hR];have hlb:(l.length:Int)<=1000000:=by omega
 clear hR hd ht hm hx ho hok hn hlo hlen;have HB0:Hid (bz w ((w.alloc (.cells (Vb wi aH M At x.t.length ct m).toArray 30)).alloc (.cells Vf.toArray 30))):=(bR.alloc nR _).alloc (by simp) _;have jR:Hid (au ((w.alloc (.cells (Vb wi aH M At x.t.length ct m).toArray 30)).alloc (.cells Vf.toArray 30)) w.heap.size (Vb wi aH M At x.t.length ct m) 30):=(au.new w (Vb wi aH M At x.t.length ct m) 30).al _
 have jm:Hid (au ((w.alloc (.cells (Vb wi aH M At x.t.length ct m).toArray 30)).alloc (.cells Vf.toArray 30)) (w.heap.size+1) Vf 30):=jO (w.alloc _) _ (by simp) Vf 30;go_enter func26,ntmps26
 go_upto_region 1 with(fail)
 generalize ((w.alloc (.cells (Vb wi aH M At x.t.length ct m).toArray 30)).alloc (.cells Vf.toArray 30))=w0 at*;by_cases Ba:1024<l.length
 ·have t1:decide ((1024:Int)<(l.length:Int))=true:=decide_eq_true (by omega);have HE2:Hid (R=(x,0,12)):=by show _=_;rw[←HE.o];exact Jy (by rw[mX.o];exact Ba)
  clear Ba HE;go_wp2_with (first|(with_reducible refine gL ?_;first|(refine wt 30 0 rfl rfl rfl jR.o.blk ((Vb wi aH M At x.t.length ct m)) rfl underlying30 rfl ?_))|(with_reducible refine gS ?_;first|(refine ay 30 _ _ rfl rfl rfl _ 0 rfl ((Vb wi aH M At x.t.length ct m)) rfl (Vf) jm.o.blk ((Vb wi aH M At x.t.length ct m)) rfl (nE rfl) ag rfl ?_;intro w2 HW2 dh)));rw[HE2.o]
  exact vF rfl rfl rfl rfl dh.o underlying30 rfl ag ⟨_,rfl,(HD.o.below HB0.o).wrote jm.o (by decide) (by unfold kU;simp) HW2.o,HW2.o.below HB0.o (by omega)⟩
 ·have t1:decide ((1024:Int)<(l.length:Int))=false:=decide_eq_false (by omega);have HL:Hid (l.length<=1024):=by show _<=_;omega
  have qR:Hid (Room M x lo.length):=by show Room _ _ _;rw[mX.o];exact Gn.o HL.o
  have XR:Hid (x.t.length<=900):=by have:=wu HX.o.ok qR.o 0;rw[List.take_zero]at this;exact this
  clear Ba Gn;go_wp2_with (first|(with_reducible refine gL ?_;first|(refine wt 30 0 rfl rfl rfl jR.o.blk ((Vb wi aH M At x.t.length ct m)) rfl underlying30 rfl ?_)));refine(nM wi aH M _ x.t m (has x.t) x.nd HX.o.ok (by have:=XR.o;omega) w0 (HT.o.below HB0.o) (HM.o.below HB0.o)).mono ?_;rintro e w1 ⟨m',rfl,hdm,hb1,-⟩;have HB1:=Hd (HB0.o.trans (hb1.mono HB0.o.size));have Ye:Hid (dQ w1 m' (has x.t) x.nd):=hdm.alike (fun _=>rfl) fun j hj=>(if_pos hj).symm;have eU:=Hd (au.stays jR.o (hb1.block _ jR.o.inside))
  have jw:=Hd (au.stays jm.o (hb1.block _ jm.o.inside));clear hdm hb1 jR jm HB0;have HZ:Hid (au (w1.alloc (.cells Vf.toArray 30)) w1.heap.size Vf 30):=au.new w1 Vf 30;have jV:Hid (Below w1.heap.size w1 (w1.alloc (.cells Vf.toArray 30))):=bR.alloc nR _
  go_upto_region 4 with(first|(with_reducible refine gS ?_;first|(refine ay 30 _ _ rfl rfl rfl _ 0 rfl ((Vb wi aH M At x.t.length ct m')) rfl (Vf) HZ.o.blk ((Vb wi aH M At x.t.length ct m')) rfl (nE rfl) ag rfl ?_;intro w2 HW2 dh)))
  obtain⟨z,hz⟩:=aB w1.heap.size
  have iQ:Hid (w.heap.size+1<z):=by rw[←hz];exact jw.o.inside
  rw[hz]at HW2 dh HZ jV ⊢;have pY:Hid (Below z w1 w2):=HW2.o.below jV.o nR;have HB2:=Hd (HB1.o.trans (pY.o.mono (by have:=iQ.o;omega)));have mY:Hid (au w2 w.heap.size (Vb wi aH M At x.t.length ct m) 30):=eU.o.stays (pY.o.block _ (by have:=iQ.o;omega));have lL:Hid (au w2 (w.heap.size+1) Vf 30):=jw.o.stays (pY.o.block _ (by have:=iQ.o;omega))
  have a4Z:Hid (GH w2 z wi aH M x):=⟨At,ct,m',HZ.o.wrote HW2.o dh.o,HT.o.below HB2.o,Ye.o.below (by (try show Below _ _ _);rw[hz];exact pY.o)⟩
  clear HB1 eU jw HZ jV pY HW2 dh Ye hz
  go_upto_region 5 with(fail)
  go_loopw [8] (fun x8 wr=>∃k:Nat,k<=l.length∧x8=.int .i64 k∧Hid ((aT M x (lo.take k)).2.2=0)∧Hid (GH wr z wi aH M (aT M x (lo.take k)).1)∧Hid (au wr w.heap.size (Vb wi aH M At x.t.length ct m) 30)∧Hid (au wr (w.heap.size+1) Vf 30)∧Hid (bz w wr)) (fun x8 _=>l.length - (intOf x8).toNat)
  case atStart=>exact⟨0,Nat.zero_le _,rfl,by rw[List.take_zero];rfl,by rw[List.take_zero];exact a4Z.o,mY.o,lL.o,HB2.o⟩
  case round=>
   obtain⟨k,hk,rfl,HZZ,sJ,X6,EG,pY⟩:=hrel;generalize wr=wA at*;clear HB2 mY lL a4Z;by_cases hlt:k<l.length
   ·have t2:decide (k<l.length)=true:=decide_eq_true hlt;have dV:=Hd hlt;have hlt2:k<lo.length:=by rw[mX.o];exact hlt
    have a6R:=Hd hlt2
    have HY:Hid (Ok (aT M x (lo.take k)).1.t∧(aT M x (lo.take k)).1.t.length<=900∧Good (aT M x (lo.take k)).1∧∀i,Fit ((aT M x (lo.take k)).1.nd i)):=
     ⟨zC _ HX.o.ok,wu HX.o.ok qR.o k,oQ _ HX.o.good,BM _ (fun o h=>by
      obtain⟨q,h1,h2⟩:=List.mem_map.1 (show o∈l.map (·.o) by rw[XX.o];exact List.mem_of_mem_take h)
      rw[←h2];exact dW.o q h1) HX.o.fit⟩
    have oZ:=Hd (SE (M:=M) (x:=x) hlt2 HZZ.o);have HBAD:=Hd (fun hz=>Nk (M:=M) (x:=x) (l:=lo) (by rw[mX.o];exact HL.o) hlt2 HZZ.o hz);rw[HAT.o k hlt hlt2,HE.o]at HBAD;rw[HAT.o k hlt hlt2]at oZ
    obtain⟨q,hq⟩:∃q,q=l[k]'hlt:=⟨_,rfl⟩
    have JP:Hid (mW q.o):=by show mW _;rw[hq];exact dW.o _ (List.getElem_mem hlt)
    have HQP:Hid (∀W,bz w W->nP W q.A q.o.lk.l):=fun W hb=>by rw[hq];exact(NK.o.px _ (List.getElem_mem hlt)).below hb
    obtain⟨lb,lof,rA,hcell⟩:=(NK.o.below pY.o).row (by omega)
    have oh:Hid (wA.rangeAt lb (lof+k*24) q.fP):=fun i v hv=>by
     rw[hq]at hv;have:=hcell k hlt i v hv;exact this
    rw[←hq]at oZ HBAD;subst rA
    obtain⟨y,hy⟩:=aB ((aT M x (lo.take k)).1)
    rw[hy]at oZ HBAD HY sJ
    obtain⟨S1,hS1⟩:=aB (aT M x (lo.take (k+1)))
    rw[hS1]at oZ;have kZ:=Hd hS1
    obtain⟨⟨yn,e1⟩,hr1⟩:∃r,fQ M y q.o=r:=⟨_,rfl⟩
    rw[hr1]at oZ HBAD;simp only at oZ HBAD;obtain⟨Ay,cy,my,hb7,ht7,hm7⟩:=sJ.o;have Gv:=Hd hb7;have TR:=Hd ht7;have JX:=Hd hm7;have HR1:=Hd hr1;have hkb:(k:Int)<=1000000:=by omega
    clear hq hlt hlt2 hcell hy hS1 hr1 hb7 ht7 hm7 sJ HZZ hk;have FT:Hid (∀W,DR wA.heap.size wA W->aA W z (Vb wi aH M Ay y.t.length cy my)):=fun W hr=>Gv.o.blk.below' hr.bel
    have FR:Hid (∀W,DR wA.heap.size wA W->W.rangeAt lb (lof+k*24) q.fP∧lb<W.heap.size):=fun W hr=>by
     have hlt0:=World.block_lt_of_cell? wA ⟨lb,_,none⟩ (oh.o 0 (.int .i64 q.o.k) rfl);exact⟨fun i v hv=>(hr.bel.cell (p:=⟨lb,lof+k*24+i,none⟩) hlt0).trans (oh.o i v hv),Nat.lt_of_lt_of_le hlt0 hr.bel.size⟩
    have FC:Hid (∀W,DR wA.heap.size wA W->Calls prog 55 #[.agg (Vb wi aH M Ay y.t.length cy my).toArray,.agg q.fP.toArray] W fun e w'=>∃v',e=.returned (.tuple #[v',.int .i64 e1])∧DP wi aH M yn e1 v' w'∧bz W w'):=fun W hr=>by
     have h1:=Zq q.o q.A q.c wi aH M (.slice Ay y.t.length cy) y my HY.o.1 HY.o.2.1 HY.o.2.2.1 HY.o.2.2.2 JP.o W (HQP.o W (pY.o.trans (hr.bel.mono pY.o.size))) (TR.o.below hr.bel) (JX.o.below hr.bel);rw[HR1.o]at h1;refine h1.mono ?_;rintro e w' ⟨v',h2,h3,h4,h5⟩;exact⟨v',h2,⟨h3,h4⟩,h5⟩
    go_upto_region 7 with(fail)
    refine Kr (DR wA.heap.size) (fun L V wx=>VJ wA.heap.size (L 9) (L 10) (V 9) (V 34) wx∧(L 10=true->L 7=true)∧(L 10=true->L 9=true)) [28,29,30,31,32,33,27,34,35,9,10] (fun _=>DR.refl _ _) (fun _ _ _ h k=>h.trans k) (fun i=>match i with
     |0=>rV (.agg ((Vb wi aH M Ay y.t.length cy my)).toArray)
     |1=>rV (.slice (some ⟨lb,lof,none⟩) l.length cl)
     |2=>rV (.int .i64 (k:Nat))
     |3=>rV (.pointer (some ⟨lb,(lof+k*24),none⟩))
     |4=>rV (.agg (q.fP).toArray)
     |5=>(⟨fun v wv=>∃v',v=.tuple #[v',.int .i64 e1]∧DP wi aH M yn e1 v' wv,fun v w1 w2 h hb=>h.elim fun v' h=>⟨v',h.1,h.2.dr hb⟩⟩:regs.kX (DR wA.heap.size))
     |6=>(⟨fun v wv=>∃v',v=.tuple #[v',.int .i64 e1]∧DP wi aH M yn e1 v' wv,fun v w1 w2 h hb=>h.elim fun v' h=>⟨v',h.1,h.2.dr hb⟩⟩:regs.kX (DR wA.heap.size))
     |7=>(⟨fun v wv=>DP wi aH M yn e1 v wv,fun v w1 w2 h hb=>h.dr hb⟩:regs.kX (DR wA.heap.size))
     |8|11=>rV (.int .i64 e1)
     |_=>ra) (DR.below bR.drew nR) (⟨VJ.start (Below.refl 0 _).drew.size,nofun,nofun⟩) ⟨?_,?_,?_,?_,?_,?_,?_,?_,?_,?_,?_,?_,trivial⟩ ?_
    any_goals (first|refine fK fun L a w1 hh=>?_|fail)
    ·have h7:=hh.p 7 z 0;have hB:=Hd (FT.o _ hh.rel);have hJ:=Hd hh.st;exact aN 30 _ rfl z 0 (by simpa[go_sem]using h7) _ hB.o ((Vb wi aH M Ay y.t.length cy my)) rfl _ underlying30 rfl ag ⟨_,rfl,DR.refl _ _,rfl,⟨VJ.slots hJ.o.1 sn sn,hJ.o.2⟩⟩
    have h1:=hh.o 1 (v:=.slice (some ⟨lb,lof,none⟩) l.length cl) rfl;rotate_left;have h8:=hh.o 8 (v:=.int .i64 (k:Nat)) rfl;rotate_left
    ·have CS:=rq (hh.d 1 29);have h30:=rq (hh.d 2 30);obtain⟨-,li⟩:=FR.o _ hh.rel;have hlt:=dV.o;have hJ:=hh.j;clear hh;go_simp;exact⟨_,rfl,DR.refl _ _,rfl,⟨VJ.slots hJ.o.1 sn sn,hJ.o.2⟩⟩
    ·have h31:=rq (hh.d 3 31);have hRG:=(FR.o _ hh.rel).1;have hJ:=Hd hh.st;exact wp_load_mid 154 _ rfl lb (lof+k*24) (by simpa[go_sem]using h31) q.fP _ hRG underlying154 rfl ag ⟨_,rfl,DR.refl _ _,rfl,⟨VJ.slots hJ.o.1 sn sn,hJ.o.2⟩⟩
    ·have h28:=rq (hh.d 0 28);have h32:=rq (hh.d 4 32);have hC:=Hd (FC.o w1 hh.rel);have hbz:=Hd (show wA.heap.size<=w1.heap.size from hh.rel.bel.size);have hJ:=Hd hh.st;have hsz:=Hd hh.size;have hun:=Hd hh.un;clear hh;go_simp;refine hC.o.mono ?_;rintro e w9 ⟨v9,rfl,qj,aY⟩;exact⟨_,rfl,DR.below aY hbz.o,⟨v9,rfl,qj⟩,⟨VJ.slots (VJ.below hJ.o.1 aY) sn sn,hJ.o.2⟩⟩
    ·obtain⟨v8,e8,tJ⟩:=(show ∃v',(a.tmps.getD 33 undef)=.tuple #[v',.int .i64 e1]∧DP wi aH M yn e1 v' w1 from hh.d 5 33)
     have TG:a.tmps[33]?.getD undef=.tuple #[v8,.int .i64 e1]:=rq (e8);have KG:=Hd tJ;have hJ:=Hd hh.st;have hsz:=Hd hh.size;have hun:=Hd hh.un;clear hh e8 tJ;go_simp;exact⟨_,rfl,DR.refl _ _,⟨v8,rfl,KG.o⟩,⟨VJ.slots hJ.o.1 sn sn,hJ.o.2⟩⟩
    ·obtain⟨v8,e8,tJ⟩:=(show ∃v',(a.tmps.getD 27 undef)=.tuple #[v',.int .i64 e1]∧DP wi aH M yn e1 v' w1 from hh.d 6 27)
     have h27:a.tmps[27]?.getD undef=.tuple #[v8,.int .i64 e1]:=rq (e8);have KG:=Hd tJ;have NR:=Hd (bU hh.st.2.1 hh.un);have hJ:=Hd hh.st;have hsz:=Hd hh.size;have hun:=Hd hh.un;clear hh e8 tJ;go_simp;exact⟨_,rfl,DR.refl _ _,KG.o,⟨VJ.told hJ.o.1 NR.o sn,fun _=>rfl,hJ.o.2.2⟩⟩
    ·obtain⟨v8,e8,tJ⟩:=(show ∃v',(a.tmps.getD 27 undef)=.tuple #[v',.int .i64 e1]∧DP wi aH M yn e1 v' w1 from hh.d 6 27)
     have h27:a.tmps[27]?.getD undef=.tuple #[v8,.int .i64 e1]:=rq (e8);have KG:=Hd tJ;have hJ:=Hd hh.st;have hsz:=Hd hh.size;have hun:=Hd hh.un;clear hh e8 tJ;go_simp;exact⟨_,rfl,DR.refl _ _,rfl,⟨VJ.slots hJ.o.1 sn sn,hJ.o.2⟩⟩
    ·have NR:=Hd (bU hh.st.2.2 hh.un);have hbz:=Hd (show wA.heap.size<=w1.heap.size from hh.rel.bel.size);have hJ:=Hd hh.st;have hsz:=Hd hh.size;have hun:=Hd hh.un;clear hh;go_simp;exact⟨_,rfl,DR.below (bR.alloc nR _) hbz.o,trivial,⟨VJ.made hJ.o.1 NR.o (bJ.aZ (by rw[hsz.o];simp)),hJ.o.2.1,fun _=>rfl⟩⟩
    ·have hup:=hh.up 9 ag;obtain⟨g9,c9,h9,jA,fJ,Yt,TB,-⟩:=hh.st.1.ex hup
     obtain⟨⟨WO,e8,TC,Q3,ho8⟩,hd8⟩:=(show DP wi aH M yn e1 (a.tmps.getD 34 undef) w1 from hh.d 7 34)
     have hJ:=Hd hh.st;have VS:=Hd (hh.up 7 ag);refine bW 30 _ _ rfl g9 0 (by have h:=h9;unfold bJ.sl at h;simpa[go_sem]using h) WO (by simpa[go_sem]using e8) _ fJ.blk (by rw[TC,TB];decide) (by rw[TC];kernel_rfl) ho8 ?_;intro w9 lu xg
     have V6:aA w9 g9 WO:=by
      have e:c9.take 0++WO++c9.drop (0+WO.length)=WO:=by rw[TC,List.drop_of_length_le (by rw[TB];decide)];simp
      rw[←e];exact xg
     have hP:=hJ.o.1.put h9 jA fJ Yt lu V6 Q3 TC e8;exact⟨undef,rfl,hP.2,trivial,⟨hP.1,fun _=>VS.o,fun _=>hup⟩⟩
    have h35:=rq (hh.d 8 35);rotate_left
    any_goals (have hJ:=hh.j;clear hh;go_simp;exact⟨_,rfl,DR.refl _ _,rfl,⟨VJ.slots hJ.o.1 sn sn,hJ.o.2⟩⟩)
    intro L w4 val hL hJ hR hv;have h10:val 10=.int .i64 e1:=hv 11 10 ag;have HR4:=Hd hR;obtain⟨g9,c9,e9,jA,aY,Yt,TB,hv9⟩:=hJ.1.ex (hL 9 (by decide));have hv34:=hv9 (hL 10 (by decide));have hd34:DP wi aH M yn e1 (val 34) w4:=hv 7 34 ag;have Yg:=Hd hd34;have Xy:=Hd hv34;have pV:=Hd (And.intro jA aY);clear hv hL hJ hR hd34 hv34 jA aY Yt TB hv9;simp only[regs.aG,List.map_cons,List.map_nil,h10];simp only[Act.put,List.setIfInBounds_toArray,List.set_cons_zero,List.set_cons_succ];clear h10
    skip
    rw[e9];clear e9;have a0c:=Hd (Gv.o.stays (HR4.o.bel.block _ Gv.o.inside));have a4D:=Hd (X6.o.stays (HR4.o.bel.block _ X6.o.inside));have a2l:=Hd (EG.o.stays (HR4.o.bel.block _ EG.o.inside));have HB4:=Hd (pY.o.trans (HR4.o.bel.mono pY.o.size));clear Gv X6 EG pY FT FR FC TR JX oh;by_cases he:¬e1=0
    ·have q0:(e1==0)=false:=by simpa using he
     have HE2:Hid (R=(x,((k:Nat):Int),e1)):=HBAD.o he;clear he;go_wp2_with (first|(with_reducible refine gL ?_;first|(refine wt 30 0 rfl rfl rfl a4D.o.blk ((Vb wi aH M At x.t.length ct m)) rfl underlying30 rfl ?_))|(with_reducible refine gS ?_;first|(refine ay 30 _ _ rfl rfl rfl _ 0 rfl ((Vb wi aH M At x.t.length ct m)) rfl (Vf) a2l.o.blk ((Vb wi aH M At x.t.length ct m)) rfl (nE rfl) ag rfl ?_;intro w5 vM vW)));rw[HE2.o]
     exact vF rfl rfl rfl rfl vW.o underlying30 rfl ag ⟨_,rfl,(HD.o.below HB4.o).wrote a2l.o (by decide) (by unfold kU;simp) vM.o,vM.o.below HB4.o (by omega)⟩
    ·obtain rfl:e1=0:=Decidable.not_not.1 he;clear he;have q0:((0:Int)==0)=true:=by decide
     obtain⟨An,cn,mn,hvn,htn,hmn⟩:=(Yg.o.2 rfl).ex
     have hcn:c9=(Vb wi aH M An yn.t.length cn mn):=by
      have h1:=Xy.o.symm.trans hvn
      injection h1 with h1
      have h2:=congrArg Array.toList h1
      simpa using h2
     subst hcn;have HTN:=Hd htn;have HMN:=Hd hmn;obtain⟨hs1,hs2⟩:=oZ.o rfl;have yM:=Hd (And.intro hs1 hs2);have SX:Hid (z≠w.heap.size∧z≠w.heap.size+1∧w.heap.size<=z):=by have:=iQ.o;show _∧_;omega
     clear hvn htn hmn hs1 hs2 Yg Xy;go_wp2_with (first|(with_reducible refine gL ?_;first|(refine kM 30 _ rfl rfl _ 0 rfl ((Vb wi aH M An yn.t.length cn mn)) pV.o.2.blk ((Vb wi aH M An yn.t.length cn mn)) rfl _ underlying30 rfl ag ?_))|(with_reducible refine gS ?_;first|(refine ay 30 _ _ rfl rfl rfl _ 0 rfl ((Vb wi aH M An yn.t.length cn mn)) rfl ((Vb wi aH M Ay y.t.length cy my)) a0c.o.blk ((Vb wi aH M An yn.t.length cn mn)) rfl (nE rfl) ag rfl ?_;intro w6 sG EH)))
     go_roundw
     case rel=>exact⟨k+1,dV.o,by go_num,by rw[kZ.o];exact yM.o.2,by rw[kZ.o,yM.o.1];exact⟨An,cn,mn,a0c.o.wrote sG.o EH.o,HTN.o.wrote a0c.o (by decide) sG.o,HMN.o.wrote a0c.o.blk (a1H _ _ _ _ _ _ _) sG.o⟩,a4D.o.stays (sG.o.far (Ne.symm SX.o.1)),a2l.o.stays (sG.o.far (Ne.symm SX.o.2.1)),sG.o.below HB4.o SX.o.2.2⟩
     case measure=>have:=dV.o;simp[intOf];omega
   ·obtain rfl:k=l.length:=by omega
    have t2:decide (l.length<l.length)=false:=by simp
    rw[show lo.take l.length=lo by rw[←mX.o];exact List.take_length]at HZZ sJ;have HYN:Hid ((aT M x lo).1.t.length<=900):=by have:=wu HX.o.ok qR.o lo.length;rwa [List.take_length]at this
    have HYO:Hid (Ok (aT M x lo).1.t):=zC _ HX.o.ok;have HYG:Hid (Good (aT M x lo).1):=oQ _ HX.o.good;have HWB:=Hd (fun i hi hw=>Gf (M:=M) (x:=x) (l:=lo) (i:=i) (by rw[mX.o];exact HL.o) HZZ.o hi hw);have HWG:=Hd (fun hw=>Jz (M:=M) (x:=x) (l:=lo) (by rw[mX.o];exact HL.o) HZZ.o hw);rw[HE.o,mX.o]at HWB HWG
    obtain⟨y,hy⟩:=aB ((aT M x lo).1)
    rw[hy]at HWB HWG HYN HYO HYG sJ;obtain⟨Ay,cy,my,hb7,ht7,hm7⟩:=sJ.o;have Gv:=Hd hb7;have TR:=Hd ht7;have JX:=Hd hm7;have s3:wA.cell? ⟨z,3,none⟩=some (.slice Ay y.t.length cy):=Gv.o.blk.cell 3;have si:=Gv.o.inside;clear hlt hk hy hb7 ht7 hm7 sJ HZZ;go_wp2_with (fail);refine(O1 Ay y.t cy HYO.o (by have:=HYN.o;omega) (y.t.length+1) 0 wA (aQ.a2Y TR.o) (.inl rfl) (by omega)).mono ?_;unfold oU;rintro e w3 ⟨v3,rfl,hown,hb3⟩;have HWL:Hid ((aF.walk y.t 0).length<=1001):=by have:=lH HYO.o (i:=0) (.inl rfl);have:=HYN.o;show _<=_;omega
    have HWA:Hid (∀i,i∈aF.walk y.t 0↔has y.t i=true):=fun i=>iI HYO.o;obtain⟨vA,vc,rfl,-,-,hrow⟩:=hown.kE;have HRW:=Hd hrow;have HB3:=Hd (pY.o.trans (hb3.mono pY.o.size));have a4E:=Hd (X6.o.stays (hb3.block _ X6.o.inside));have a4G:=Hd (EG.o.stays (hb3.block _ EG.o.inside));have a4N:=Hd (Gv.o.stays (hb3.block _ Gv.o.inside));have a4f:=Hd (TR.o.below hb3);have a4y:=Hd (JX.o.below hb3);clear hown hrow hb3 s3 si X6 EG Gv TR JX pY
    obtain⟨al,hal⟩:=aB (aF.walk y.t 0)
    rw[hal]at HWL HWA HRW ⊢;clear hal
    go_upto_region 13 with(fail)
    go_loopw [12] (fun x12 wr=>∃j:Nat,j<=al.length∧x12=.int .i64 j∧Hid (∀i∈al.take j,aV y.t y.nd i≠none)∧Hid (bz w3 wr)) (fun x12 _=>al.length - (intOf x12).toNat)
    case atStart=>exact⟨0,Nat.zero_le _,rfl,(fun i hi=>by simp at hi),bR⟩
    case round=>
     obtain⟨j,hj,rfl,HWN,yQ⟩:=hrel;generalize wr=wB at*;have CE:=Hd (HB3.o.trans (yQ.o.mono HB3.o.size));have a2k:=Hd (a4E.o.stays (yQ.o.block _ a4E.o.inside));have X7:=Hd (a4G.o.stays (yQ.o.block _ a4G.o.inside));have a2o:=Hd (a4N.o.stays (yQ.o.block _ a4N.o.inside));by_cases hjl:j<al.length
     ·have t3:decide (j<al.length)=true:=decide_eq_true hjl;obtain⟨jb,jo,je,jc⟩:=Row.at_ HRW.o hjl;subst je;have HJL:=Hd hjl;have qQ:Hid (al.take (j+1)=al.take j++[al[j]]):=List.take_succ_eq_append_getElem hjl;have J8:Hid (has y.t al[j]=true):=(HWA.o _).1 (List.getElem_mem hjl);have hjb:(j:Int)<=1001:=by have:=HWL.o;omega
      generalize al[j]=id at*;have HJC:Hid (w3.cell? ⟨jb,jo+j,none⟩=some (.int .i64 id)):=jc;have HNN:=Hd (G8 HYO.o (fun i=>HYG.o.m i) (aj.1 J8.o));have FT:Hid (∀W,bz wB W->aA W z (Vb wi aH M Ay y.t.length cy my)):=fun W hr=>a2o.o.blk.below' hr
      have FJ:Hid (∀W,bz wB W->W.cell? ⟨jb,jo+j,none⟩=some (.int .i64 id)∧jb<W.heap.size):=fun W hr=>by
       have hlt0:=World.block_lt_of_cell? w3 _ HJC.o;have h1:=yQ.o.trans (hr.mono yQ.o.size);exact⟨(h1.cell (p:=⟨jb,_,none⟩) hlt0).trans HJC.o,Nat.lt_of_lt_of_le hlt0 h1.size⟩
      have FC:Hid (∀W,bz wB W->Calls prog 17 #[.agg (Vb wi aH M Ay y.t.length cy my).toArray,.int .i64 id] W (aX (.tuple #[.agg (dR y.t y.nd id).1.cs.toArray,.bool (dR y.t y.nd id).2]) W)):=fun W hr=>by
       have h1:=yQ.o.trans (hr.mono yQ.o.size);exact Bq wi aH M (.slice Ay y.t.length cy) y.t my y.nd HYO.o (by have:=HYN.o;omega) (depth y.t id) id W (a4f.o.below h1) (a4y.o.below h1) J8.o nR
      obtain⟨qv,hqv⟩:=aB (dR y.t y.nd id)
      rw[hqv]at FC HNN;clear hqv jc hjl hj
      go_upto_region 15 with(fail)
      refine Kr (Below wB.heap.size) (fun L V wx=>JN wB.heap.size [] (Vd) (qv.1.cs) (L 9) (L 10) (V 13) wx) [52,53,54,55,56,57,51,58,59,13,14] (fun _=>bR) (fun _ _ _ h k=>h.trans k) (fun i=>match i with
       |0=>rV (.agg ((Vb wi aH M Ay y.t.length cy my)).toArray)
       |1=>rV (.slice (some ⟨jb,jo,none⟩) al.length vc)
       |2=>rV (.int .i64 (j:Nat))
       |3=>rV (.pointer (some ⟨jb,(jo+j),none⟩))
       |4=>rV (.int .i64 id)
       |5|6=>rV (.tuple #[.agg (qv.1.cs).toArray,.bool qv.2])
       |7=>rV (.agg (qv.1.cs).toArray)
       |8|11=>rV (.bool qv.2)
       |_=>ra) (bR.drew) (JN.start (old:=[]) trivial) ⟨?_,?_,?_,?_,?_,?_,?_,?_,?_,?_,?_,?_,trivial⟩ ?_
      any_goals (first|refine fK fun L a w1 hh=>?_|fail)
      ·have h7:=hh.p 7 z 0;have hB:=Hd (FT.o _ hh.rel);have hJ:=Hd hh.st;exact aN 30 _ rfl z 0 (by simpa[go_sem]using h7) _ hB.o ((Vb wi aH M Ay y.t.length cy my)) rfl _ underlying30 rfl ag ⟨_,rfl,bR,rfl,JN.slots hJ.o sn⟩
      have h11:=hh.o 11 (v:=.slice (some ⟨jb,jo,none⟩) al.length vc) rfl;rotate_left;have h12:=hh.o 12 (v:=.int .i64 (j:Nat)) rfl;rotate_left
      ·have h53:=rq (hh.d 1 53);have h54:=rq (hh.d 2 54);obtain⟨-,li⟩:=FJ.o _ hh.rel;have hlt:=HJL.o;have hJ:=hh.j;clear hh;go_simp;exact⟨_,rfl,bR,rfl,JN.slots hJ.o sn⟩
      ·have h55:=rq (hh.d 3 55);obtain⟨c0,li⟩:=FJ.o _ hh.rel;have hJ:=hh.j;clear hh;go_simp;exact⟨_,rfl,bR,rfl,JN.slots hJ.o sn⟩
      ·have h52:=rq (hh.d 0 52);have h56:=rq (hh.d 4 56);have hC:=Hd (FC.o _ hh.rel);have hJ:=hh.j;clear hh;go_simp;refine hC.o.mono ?_;rintro e w9 ⟨rfl,aY⟩;exact⟨_,rfl,aY.mono hJ.o.1.2.1,rfl,JN.slots (JN.below hJ.o aY) sn⟩
      have h57:=rq (hh.d 5 57);rotate_left;have h51:=rq (hh.d 6 51);rotate_left;have h51:=rq (hh.d 6 51);rotate_left
      ·have hJ:=Hd hh.st;have hsz:=Hd hh.size;have hun:=Hd hh.un;clear hh;go_simp;exact⟨_,rfl,bR.alloc hJ.o.1.2.1 _,trivial,JN.new hJ.o hun.o (bJ.aZ (by rw[hsz.o];simp))⟩
      ·have h58:=rq (hh.d 7 58);have hup:=hh.up 9 ag;obtain⟨g9,qj,jA,fJ⟩:=hh.st.2.1 hup;have h13:a.tmps[13]?.getD undef=.pointer (some ⟨g9,0,none⟩):=rq (qj);rw[hh.un]at fJ;have hJ:=Hd hh.st;have hun:=Hd hh.un;refine bW 37 _ _ rfl g9 0 (by simpa[go_sem]using h13) (qv.1.cs) (by simpa[go_sem]using h58) _ fJ (nE rfl) ag (by rfl) ?_;intro w9 lu xg;have hP:=hJ.o.Ht hup hun.o qj lu xg rfl;exact⟨undef,rfl,hP.2,trivial,hP.1⟩
      have h59:=rq (hh.d 8 59);rotate_left
      any_goals (have hJ:=hh.j;clear hh;go_simp;exact⟨_,rfl,bR,rfl,JN.slots hJ.o sn⟩)
      intro L w5 val hL hJ hR hv;have xh:val 14=.bool qv.2:=hv 11 14 ag;have kL:=Hd hR;clear hv hL hJ hR;simp only[regs.aG,List.map_cons,List.map_nil,xh];simp only[Act.put,List.setIfInBounds_toArray,List.set_cons_zero,List.set_cons_succ];clear xh
      skip
      have gV:Hid (bz w3 w5):=yQ.o.trans (kL.o.mono yQ.o.size);have a5h:=Hd (HB3.o.trans (gV.o.mono HB3.o.size));have a6t:=Hd (a2k.o.stays (kL.o.block _ a2k.o.inside));have a4F:=Hd (X7.o.stays (kL.o.block _ X7.o.inside));obtain⟨qm,qb⟩:=qv;clear CE a2k X7 a2o FT FJ FC;cases qb with
      |false=>
       have HE2:Hid (R=(x,((l.length:Nat):Int),35)):=HWB.o id J8.o (HNN.o.2 rfl);go_wp2_with (first|(with_reducible refine gL ?_;first|(refine wt 30 0 rfl rfl rfl a6t.o.blk ((Vb wi aH M At x.t.length ct m)) rfl underlying30 rfl ?_))|(with_reducible refine gS ?_;first|(refine ay 30 _ _ rfl rfl rfl _ 0 rfl ((Vb wi aH M At x.t.length ct m)) rfl (Vf) a4F.o.blk ((Vb wi aH M At x.t.length ct m)) rfl (nE rfl) ag rfl ?_;intro w6 sG EH)));rw[HE2.o]
       exact vF rfl rfl rfl rfl EH.o underlying30 rfl ag ⟨_,rfl,(HD.o.below a5h.o).wrote a4F.o (by decide) (by unfold kU;simp) sG.o,sG.o.below a5h.o (by omega)⟩
      |true=>
       have a5S:Hid (∀i∈al.take (j+1),aV y.t y.nd i≠none):=fun i hi=>by
        rw[qQ.o]at hi;rcases List.mem_append.1 hi with h1|h1
        ·exact HWN.o i h1
        ·rw[List.mem_singleton.1 h1];exact fun e=>by have h:=HNN.o.1 e;simp at h
       go_wp2_with (fail)
       go_roundw
       case rel=>exact⟨j+1,HJL.o,by go_num,a5S,gV⟩
       case measure=>have:=HJL.o;simp[intOf];omega
     ·obtain rfl:j=al.length:=by omega
      have t3:decide (al.length<al.length)=false:=by simp
      have HE2:Hid (R=((setSt y).1,((l.length:Nat):Int),0)):=HWG.o fun i hi=>HWN.o i (by rw[List.take_length];exact(HWA.o i).2 hi);have HDY:Hid (eX wB (.agg (Vb wi aH M Ay y.t.length cy my).toArray) wi aH M (setSt y).1):=(GH.doc (a4f.o.below yQ.o) (a4y.o.below yQ.o)).a3k (KZ y);clear hjl hj
      go_wp2_with (first|(with_reducible refine gL ?_;first|(refine wt 30 0 rfl rfl rfl a2o.o.blk ((Vb wi aH M Ay y.t.length cy my)) rfl underlying30 rfl ?_))|(with_reducible refine gS ?_;first|(refine ay 30 _ _ rfl rfl rfl _ 0 rfl ((Vb wi aH M Ay y.t.length cy my)) rfl (Vf) X7.o.blk ((Vb wi aH M Ay y.t.length cy my)) rfl (nE rfl) ag rfl ?_;intro w6 sG EH)));rw[HE2.o]
      exact vF rfl rfl rfl rfl EH.o underlying30 rfl ag ⟨_,rfl,(HDY.o).wrote X7.o (by decide) (by unfold kU;simp) sG.o,sG.o.below CE.o (by omega)⟩
end
section
open Go.RowKit fF fO
theorem ak.ge{α:Type}{T:TypeId}{k:Nat}{enc:α->List Value}{w:World}{base n c:Nat}{A:Option Addr}{l:List α}(h:ak T k enc w base (.slice A n c) l){a:Addr}(e:A=some a):base<=a.block∧∃cs fz,w.heap[a.block]?=some (.cells cs T fz):=by
 rcases h.2 with ⟨e2,_⟩|⟨g,cap,cur,e2,hg,hb,_⟩
 ·injection e2 with e3 _ _
  rw[e]at e3;cases e3
 ·injection e2 with e3 _ _
  rw[e]at e3
  injection e3 with e3
  rw[e3];exact⟨hg,cur,_,hb⟩
def a0R(m:Mp)(op:Int)(hi cl:Bool)(r:Bx)(k W H:Int)(p:Nat)(iw ih:Int)(l:List Nat)(w:World)(e:Ending)(w':World):Prop:=∃A9 cap,e=.returned (Kt m op hi cl r k W H p iw ih A9 l.length cap)∧Row eW w' A9 l∧l.length<=cap∧cap<=maxLen∧bz w w'∧∀a,A9=some a->w.heap.size<=a.block∧∃cs fz,w'.heap[a.block]?=some (.cells cs 41 fz)
theorem UH(m:Mp)(op:Int)(hi cl:Bool)(r:Bx)(k W H:Int)(p:Nat)(iw ih:Int)(A:Option Addr)(l:List Nat)(c:Nat)(w:World)(hr:Row eW w A l)(hn:l.length<=20000000):Calls prog 85 #[Kt m op hi cl r k W H p iw ih A l.length c] w (a0R m op hi cl r k W H p iw ih l w):=by
 have HR:=Hd hr;unfold a0R;clear hr;unfold Kt at*;obtain⟨ma,mb,mc,md,me,mf⟩:=m;obtain⟨x0,y0,x1,y1⟩:=r;simp only;have HB0:Hid (bz w ((w.alloc (.cells (Vc ma mb mc md me mf op hi cl x0 y0 x1 y1 k W H p iw ih A l.length c).toArray 77)).alloc (.cells Va.toArray 46))):=(bR.alloc nR _).alloc (by simp) _
 have lg:Hid (aA ((w.alloc (.cells (Vc ma mb mc md me mf op hi cl x0 y0 x1 y1 k W H p iw ih A l.length c).toArray 77)).alloc (.cells Va.toArray 46)) w.heap.size (Vc ma mb mc md me mf op hi cl x0 y0 x1 y1 k W H p iw ih A l.length c)):=(az w (Vc ma mb mc md me mf op hi cl x0 y0 x1 y1 k W H p iw ih A l.length c) _).alloc _;have J5:Hid (aA ((w.alloc (.cells (Vc ma mb mc md me mf op hi cl x0 y0 x1 y1 k W H p iw ih A l.length c).toArray 77)).alloc (.cells Va.toArray 46)) (w.heap.size+1) Va):=aW (w.alloc _) _ (by simp) Va _
 have iQ:((w.alloc (.cells (Vc ma mb mc md me mf op hi cl x0 y0 x1 y1 k W H p iw ih A l.length c).toArray 77)).alloc (.cells Va.toArray 46)).heap.size=w.heap.size+2:=by simp
 go_enter func85,ntmps85
 go_upto_region 1 with(fail)
 generalize ((w.alloc (.cells (Vc ma mb mc md me mf op hi cl x0 y0 x1 y1 k W H p iw ih A l.length c).toArray 77)).alloc (.cells Va.toArray 46))=wz at*;have lW:Hid (aA (wz.alloc (.cells Vd.toArray 67)) w.heap.size (Vc ma mb mc md me mf op hi cl x0 y0 x1 y1 k W H p iw ih A l.length c)):=lg.o.alloc _;have jw:Hid (aA (wz.alloc (.cells Vd.toArray 67)) (w.heap.size+1) Va):=J5.o.alloc _;have a4C:Hid (aA (wz.alloc (.cells Vd.toArray 67)) (w.heap.size+2) Vd):=aW wz _ iQ.symm Vd _;have HB1:Hid (bz w (wz.alloc (.cells Vd.toArray 67))):=HB0.o.alloc (by omega) _
 have XC:(wz.alloc (.cells Vd.toArray 67)).heap.size=w.heap.size+3:=by simp;omega
 go_upto_region 2 with(first|(with_reducible refine gL ?_;first|(refine wt 67 0 rfl rfl rfl lg.o (Vh ma mb mc md me mf) rfl underlying67 rfl ?_))|(with_reducible refine gS ?_;first|(refine ay 67 _ _ rfl rfl rfl _ 0 rfl (Vh ma mb mc md me mf) rfl _ a4C.o (Vh ma mb mc md me mf) rfl (by simp) ag rfl ?_;intro w2 HW2 NV)))
 have dh:=Hd (HW2.o.blk (by omega) lW.o);have lL:=Hd (HW2.o.blk (by omega) jw.o);have HB2:=Hd (HW2.o.below HB1.o (by omega));have a4i:w2.heap.size=w.heap.size+3:=HW2.o.size.trans XC;clear HW2 lW jw a4C HB1 XC HB0 lg J5 iQ;have dO:Hid (aA (w2.alloc (.cells Va.toArray 46)) w.heap.size (Vc ma mb mc md me mf op hi cl x0 y0 x1 y1 k W H p iw ih A l.length c)):=dh.o.alloc _;have tY:Hid (aA (w2.alloc (.cells Va.toArray 46)) (w.heap.size+1) Va):=lL.o.alloc _
 have J6:Hid (aA (w2.alloc (.cells Va.toArray 46)) (w.heap.size+3) Va):=aW w2 _ a4i.symm Va _;have HB3:Hid (bz w (w2.alloc (.cells Va.toArray 46))):=HB2.o.alloc (by omega) _;have a4h:(w2.alloc (.cells Va.toArray 46)).heap.size=w.heap.size+4:=by simp;omega
 have c6:=dh.o.c 6 rfl;have c7:=dh.o.c 7 rfl;have c8:=dh.o.c 8 rfl;have c9:=dh.o.c 9 rfl;have c10:=dh.o.c 10 rfl;have c11:=dh.o.c 11 rfl;have c12:=dh.o.c 12 rfl;have c13:=dh.o.c 13 rfl;have c14:=dh.o.c 14 rfl;have c15:=dh.o.c 15 rfl;have c16:=dh.o.c 16 rfl;have c17:=dh.o.c 17 rfl;have c18:=dh.o.c 18 rfl;have d0:w2.cell? ⟨(w.heap.size+2),0,none⟩=some (.int .i64 ma):=NV.o.cell 0;have d1:w2.cell? ⟨(w.heap.size+2),1,none⟩=some (.int .i64 mb):=NV.o.cell 1;have d2:w2.cell? ⟨(w.heap.size+2),2,none⟩=some (.int .i64 mc):=NV.o.cell 2
 have d3:w2.cell? ⟨(w.heap.size+2),3,none⟩=some (.int .i64 md):=NV.o.cell 3;have d4:w2.cell? ⟨(w.heap.size+2),4,none⟩=some (.int .i64 me):=NV.o.cell 4;have d5:w2.cell? ⟨(w.heap.size+2),5,none⟩=some (.int .i64 mf):=NV.o.cell 5;have hlt:w.heap.size<w2.heap.size:=by omega
 have hlt2:w.heap.size+2<w2.heap.size:=by omega
 go_upto_region 3 with(first|(with_reducible refine gS ?_;first|(refine ay 46 _ _ rfl rfl rfl _ 0 rfl [.int .i64 ma,.int .i64 mb,.int .i64 mc,.int .i64 md,.int .i64 me,.int .i64 mf,.int .i64 op,.bool hi,.bool cl,.int .i64 x0,.int .i64 y0,.int .i64 x1,.int .i64 y1,.int .i64 k,.int .i64 W,.int .i64 H,.int .u32 (p:Nat),.int .i64 iw,.int .i64 ih,.slice none 0 0] rfl _ J6.o [.int .i64 ma,.int .i64 mb,.int .i64 mc,.int .i64 md,.int .i64 me,.int .i64 mf,.int .i64 op,.bool hi,.bool cl,.int .i64 x0,.int .i64 y0,.int .i64 x1,.int .i64 y1,.int .i64 k,.int .i64 W,.int .i64 H,.int .u32 (p:Nat),.int .i64 iw,.int .i64 ih,.slice none 0 0] rfl (by simp) ag rfl ?_;intro w4 yF NU)))
 have nT:=Hd (yF.o.blk (by omega) dO.o);have xP:=Hd (yF.o.blk (by omega) tY.o);have HB4:=Hd (yF.o.below HB3.o (by omega));have ZJ:w4.heap.size=w.heap.size+4:=yF.o.size.trans a4h;clear yF dO tY J6 HB3 a4h HB2 dh lL a4i NV c6 c7 c8 c9 c10 c11 c12 c13 c14 c15 c16 c17 c18 d0 d1 d2 d3 d4 d5 hlt hlt2;have c19:=nT.o.c 19 rfl;have hlt:w.heap.size<w4.heap.size:=by omega
 go_wp2_with (fail);clear c19 hlt nT
 go_loopw [68] (fun i wr=>∃(k0:Nat) (A9:Option Addr) (c9:Nat),k0<=l.length∧i=.int .i64 k0∧Hid (SG wr (w.heap.size+4) (.slice A9 k0 c9) (l.take k0))∧Hid (aA wr (w.heap.size+3) (Vc ma mb mc md me mf op hi cl x0 y0 x1 y1 k W H p iw ih A9 k0 c9))∧Hid (aA wr (w.heap.size+1) Va)∧Hid (bz w wr)∧Hid (w.heap.size+4<=wr.heap.size)) (fun i _=>l.length - (intOf i).toNat)
 case atStart=>exact⟨0,none,0,Nat.zero_le _,rfl,ak.nil _ _,NU.o,xP.o,HB4.o,Nat.le_of_eq ZJ.symm⟩
 case round=>
  clear NU xP HB4 ZJ;obtain⟨k0,A9,c9,hk,rfl,HO,jS,jm,HB,HS⟩:=hrel;by_cases hlt:k0<l.length
  ·have t:decide (k0<l.length)=true:=by simpa using hlt
   obtain⟨b,off,rfl,hc⟩:=(HR.o.below HB.o).at_ hlt;have hlk:(l.take k0).length=k0:=by rw[List.length_take];omega
   have HT:=Hd (List.take_succ_eq_append_getElem hlt);generalize l[k0]=z at*;unfold eW at hc;obtain⟨A8,c8,w6,hrun,ho,hb⟩:=Ud HO.o z (by omega) HS.o rfl;rw[hlk]at hrun ho;have XO:Hid (SG w6 (w.heap.size+4) (.slice A8 (k0+1) c8) (l.take (k0+1))):=by rw[HT.o];exact ho
   have Td:=Hd (jS.o.below hb (by omega));have X5:=Hd (jm.o.below hb (by omega));have ou:=Hd (HB.o.trans (hb.mono (by omega)));have HS6:Hid (w.heap.size+4<=w6.heap.size):=Nat.le_trans HS.o hb.size;have c19:=jS.o.c 19 rfl;have hlt3:w.heap.size+3<wr.heap.size:=by have:=HS.o;omega
   have d19:w6.cell? ⟨w.heap.size+3,19,none⟩=some (.slice A9 k0 c9):=Td.o.cell 19;have f19:w6.frozen? ⟨w.heap.size+3,19,none⟩=false:=Td.o.free 19;have hlt4:w.heap.size+3<w6.heap.size:=by have:=HS6.o;omega
   clear ho hb HT HO jS jm;go_wp2_with (at_builtin;refine bg rfl _ _ 42 42 42 rfl rfl _ _ _ _ rfl rfl hrun ?_;clear hrun)
   go_roundw
   case rel=>
    have hw:Wrote (w.heap.size+3) w6 (w6.setCell ⟨w.heap.size+3,19,none⟩ (.slice A8 (k0+1) c8)):=⟨19,[.slice A8 (k0+1) c8],rfl⟩
    exact⟨k0+1,A8,c8,by omega,by go_num,XO.o.stays (fun g hg=>hw.far (by have:=(XO.o.block hg).1;omega)),Td.o.set 19 _,hw.blk (by omega) X5.o,hw.below ou.o (by omega),by rw[hw.size];exact HS6.o⟩
   case measure=>simp[intOf];omega
  ·obtain rfl:k0=l.length:=by omega
   have NP:Hid (SG wr (w.heap.size+4) (.slice A9 l.length c9) l):=by have:=HO.o;rwa [List.take_length]at this
   have t:decide (l.length<l.length)=false:=by simp
   clear HO;go_wp2_with (first|(with_reducible refine gL ?_;first|(refine wt 46 0 rfl rfl rfl jS.o (Vc ma mb mc md me mf op hi cl x0 y0 x1 y1 k W H p iw ih A9 l.length c9) rfl underlying46 rfl ?_))|(with_reducible refine gS ?_;first|(refine ay 46 _ _ rfl rfl rfl _ 0 rfl (Vc ma mb mc md me mf op hi cl x0 y0 x1 y1 k W H p iw ih A9 l.length c9) rfl _ jm.o (Vc ma mb mc md me mf op hi cl x0 y0 x1 y1 k W H p iw ih A9 l.length c9) rfl (by simp) ag rfl ?_;intro w7 HW7 Gv)))
   have xK:Hid (SG w7 (w.heap.size+4) (.slice A9 l.length c9) l):=NP.o.stays (fun g hg=>HW7.o.far (by have:=(NP.o.block hg).1;omega));obtain⟨A7,c7,e7,h1,h2,h3⟩:=xK.o.row rG
   injection e7 with e1 e2 e3
   subst e1;subst e3
   exact bP rfl rfl Gv.o underlying46 rfl ag ⟨A9,c9,rfl,h3.a3a,h1,h2,HW7.o.below HB.o (by omega),fun a ea=>by
    obtain⟨g1,g2⟩:=ak.ge xK.o ea
    exact⟨by omega,g2⟩⟩
end
section
open Go.RowKit fF fO aF Go.Maps
structure KX(x:Nat)(A W:World):Prop where
 os:W.os=A.os
 tape:W.tape=A.tape
 output:W.output=A.output
 size:A.heap.size<=W.heap.size
 same:∀k,k<A.heap.size->k≠x->W.heap[k]?=A.heap[k]?
theorem KX.refl(x:Nat)(A:World):KX x A A:=⟨rfl,rfl,rfl,nR,fun _ _ _=>rfl⟩
theorem KX.trans{x:Nat}{A B C:World}(h:KX x A B)(k:KX x B C):KX x A C:=⟨k.os.trans h.os,k.tape.trans h.tape,k.output.trans h.output,Nat.le_trans h.size k.size,fun j hj hn=>(k.same j (Nat.lt_of_lt_of_le hj h.size) hn).trans (h.same j hj hn)⟩
theorem KX.of_below{x:Nat}{A W:World}(hb:bz A W):KX x A W:=⟨hb.os,hb.tape,hb.output,hb.size,fun k hk _=>hb.block k hk⟩
theorem KX.aS{x n:Nat}{A W:World}(h:KX x A W)(hn:n<=x)(hs:n<=A.heap.size):Below n A W:=⟨h.os,h.tape,h.output,h.size,fun k hk=>h.same k (by omega) (by omega)⟩
theorem KX.wrote{x:Nat}{A W:World}(hW:Wrote x A W):KX x A W:=by
 have hb:=hW.below (Below.refl 0 A) (Nat.zero_le _);exact⟨hb.os,hb.tape,hb.output,hb.size,fun k _ hn=>hW.far hn⟩
theorem MQ(o:dU)(A:Option Addr)(c:Nat)(w:World):(Instr.build 77 #[(0,.agg o.m.cs.toArray),(1,.int .i64 o.N),(2,.bool o.on),(3,.bool o.on),(4,.agg o.r.Eo.toArray),(5,.agg (o.lk.cs A c).toArray)]).run prog w=.ok (.agg ((EU o).cs A c).toArray) w:=by kernel_rfl
theorem Sl(o:dU)(A:Option Addr)(c:Nat)(w:World):(Instr.build 154 #[(0,.int .i64 o.k),(1,.int .i64 o.i),(2,.int .i64 o.p),(3,.int .i64 o.n),(4,.agg ((EU o).cs A c).toArray)]).run prog w=.ok (.agg (o.fP A c).toArray) w:=by kernel_rfl
structure RJ(r:Nat)(o:dU)(d:Bool)(w:World):Prop where
 no:d=false->aA w r Vl
 yes:d=true->∃A c,aA w r (o.fP A c)∧nP w A o.lk.l∧∀a,A=some a->r<a.block
theorem RJ.below{r:Nat}{o:dU}{d:Bool}{w w':World}(h:RJ r o d w)(hb:bz w w'):RJ r o d w':=⟨fun e=>(h.no e).below' hb,fun e=>by
 obtain⟨A,c,h1,h2,h3⟩:=h.yes e
 exact⟨A,c,h1.below' hb,h2.below hb,h3⟩⟩
def Nu(o:dU)(w:World)(e:Ending)(w':World):Prop:=∃A c,e=.returned (.agg (o.fP A c).toArray)∧nP w' A o.lk.l∧(∀a,A=some a->w.heap.size<=a.block)∧bz w w'
theorem Qp(o:dU)(Ao:Option Addr)(co:Nat)(w:World)(hr:Row eW w Ao o.lk.l)(hn:o.lk.l.length<=20000000) :
  Calls prog 56 #[.agg (o.cs Ao co).toArray] w (Nu o w):=by
 have HR:=Hd hr;have HN:=Hd hn;unfold Nu;clear hr hn;have HB0:Hid (bz w ((w.alloc (.cells (o.cs Ao co).toArray 85)).alloc (.cells Vl.toArray 154))):=(bR.alloc nR _).alloc (by simp) _;have jS:Hid (aA ((w.alloc (.cells (o.cs Ao co).toArray 85)).alloc (.cells Vl.toArray 154)) w.heap.size (o.cs Ao co)):=(az w (o.cs Ao co) _).alloc _;have jm:Hid (aA ((w.alloc (.cells (o.cs Ao co).toArray 85)).alloc (.cells Vl.toArray 154)) (w.heap.size+1) Vl):=aW (w.alloc _) _ (by simp) Vl _;go_enter func56,ntmps56
 go_upto_region 1 with(fail)
 generalize ((w.alloc (.cells (o.cs Ao co).toArray 85)).alloc (.cells Vl.toArray 154))=w0 at*
 obtain⟨kr,hkr⟩:=aB (w.heap.size+1)
 have EG:Hid (w.heap.size<kr):=by show _<_;omega
 rw[hkr]at jm ⊢;clear hkr;have FO:Hid (∀W,KX kr w0 W->aA W w.heap.size (o.cs Ao co)):=fun W hk=>jS.o.stays (hk.same _ jS.o.inside (Nat.ne_of_lt EG.o));have FK:Hid (∀W,KX kr w0 W->kr<W.heap.size):=fun W hk=>Nat.lt_of_lt_of_le jm.o.inside hk.size
 have FC:Hid (∀W,KX kr w0 W->Calls prog 85 #[.agg ((EU o).cs Ao co).toArray] W fun e w'=>∃A9 c9,e=.returned (.agg ((EU o).cs A9 c9).toArray)∧nP w' A9 o.lk.l∧(∀a,A9=some a->W.heap.size<=a.block)∧bz W w'):=fun W hk=>by
  refine(UH o.m o.N o.on o.on o.r o.lk.k o.lk.W o.lk.H o.lk.p o.lk.iw o.lk.ih Ao o.lk.l co W (Row.below HR.o (HB0.o.trans (hk.aS (Nat.le_of_lt EG.o) HB0.o.size))) HN.o).mono ?_;rintro e w' ⟨A9,c9,h1,h2,-,-,h5,h6⟩;exact⟨A9,c9,h1,⟨h2,fun a ea _=>(h6 a ea).2⟩,fun a ea=>(h6 a ea).1,h5⟩
 refine wR (KX kr) (fun L wx=>RJ kr o (L 23) wx) [3,4,5,6,7,8,9,10,11,12,13,14,15,16,17,18,19,20,21,22,23,24,25] (fun _=>KX.refl _ _) (fun _ _ _ h k=>h.trans k) (fun i=>match i with
  |0=>rp w.heap.size 0
  |1=>rV (.int .i64 o.k)
  |2=>rp w.heap.size 1
  |3=>rV (.int .i64 o.i)
  |4=>rp w.heap.size 2
  |5=>rV (.int .i64 o.p)
  |6=>rp w.heap.size 3
  |7=>rV (.int .i64 o.n)
  |8=>rp w.heap.size 4
  |9=>rV (.agg (o.m.cs).toArray)
  |10=>rp w.heap.size 15
  |11=>rV (.int .i64 o.N)
  |12|14=>rp w.heap.size 14
  |13|15=>rV (.bool o.on)
  |16=>rp w.heap.size 10
  |17=>rV (.agg (o.r.Eo).toArray)
  |18=>rp w.heap.size 16
  |19=>rV (.agg (o.lk.cs Ao co).toArray)
  |20=>rV (.agg ((EU o).cs Ao co).toArray)
  |21=>(⟨fun v wv=>∃A c,v=.agg ((EU o).cs A c).toArray∧nP wv A o.lk.l∧∀a,A=some a->kr<a.block,fun v w1 w2 h hb=>h.elim fun A h=>h.elim fun c h=>⟨A,c,h.1,h.2.1.stays fun a ea hne=>hb.same _ (Row.lt h.2.1.row ea hne) (Nat.ne_of_gt (h.2.2 a ea)),h.2.2⟩⟩:regs.kX (KX kr))
  |22=>(⟨fun v wv=>∃A c,v=.agg (o.fP A c).toArray∧nP wv A o.lk.l∧∀a,A=some a->kr<a.block,fun v w1 w2 h hb=>h.elim fun A h=>h.elim fun c h=>⟨A,c,h.1,h.2.1.stays fun a ea hne=>hb.same _ (Row.lt h.2.1.row ea hne) (Nat.ne_of_gt (h.2.2 a ea)),h.2.2⟩⟩:regs.kX (KX kr))
  |_=>ra) (KX.of_below bR.drew) (⟨fun _=>jm.o.below' bR.drew,nofun⟩) ⟨?_,?_,?_,?_,?_,?_,?_,?_,?_,?_,?_,?_,?_,?_,?_,?_,?_,?_,?_,?_,?_,?_,?_,?_,trivial⟩ ?_
 any_goals (first|refine zp fun L a w1 hh=>?_|fail)
 have h1:=hh.p 1 w.heap.size 0;have i0:=(FO.o _ hh.rel).inside;rotate_left;have h3:=rq (hh.d 0 3);have ⟨c0,i0⟩:=(FO.o _ hh.rel).ci 0 rfl;rotate_left;have h1:=hh.p 1 w.heap.size 0;have i0:=(FO.o _ hh.rel).inside;rotate_left;have h5:=rq (hh.d 2 5);have ⟨c0,i0⟩:=(FO.o _ hh.rel).ci 1 rfl;rotate_left;have h1:=hh.p 1 w.heap.size 0;have i0:=(FO.o _ hh.rel).inside;rotate_left;have h7:=rq (hh.d 4 7);have ⟨c0,i0⟩:=(FO.o _ hh.rel).ci 2 rfl;rotate_left;have h1:=hh.p 1 w.heap.size 0;have i0:=(FO.o _ hh.rel).inside;rotate_left;have h9:=rq (hh.d 6 9);have ⟨c0,i0⟩:=(FO.o _ hh.rel).ci 3 rfl
 rotate_left;have h1:=hh.p 1 w.heap.size 0;have i0:=(FO.o _ hh.rel).inside;rotate_left
 ·have h11:=rq (hh.d 8 11);have hB:=Hd (FO.o _ hh.rel);have hJ:=Hd hh.st;exact aN 67 _ rfl w.heap.size 4 (by simpa[go_sem]using h11) _ hB.o (o.m.cs) rfl _ underlying67 rfl ag ⟨_,rfl,KX.refl _ _,rfl,hJ.o⟩
 have h1:=hh.p 1 w.heap.size 0;have i0:=(FO.o _ hh.rel).inside;rotate_left;have h13:=rq (hh.d 10 13);have ⟨c0,i0⟩:=(FO.o _ hh.rel).ci 15 rfl;rotate_left;have h1:=hh.p 1 w.heap.size 0;have i0:=(FO.o _ hh.rel).inside;rotate_left;have h15:=rq (hh.d 12 15);have ⟨c0,i0⟩:=(FO.o _ hh.rel).ci 14 rfl;rotate_left;have h1:=hh.p 1 w.heap.size 0;have i0:=(FO.o _ hh.rel).inside;rotate_left;have h17:=rq (hh.d 14 17);have ⟨c0,i0⟩:=(FO.o _ hh.rel).ci 14 rfl;rotate_left;have h1:=hh.p 1 w.heap.size 0;have i0:=(FO.o _ hh.rel).inside;rotate_left
 ·have h19:=rq (hh.d 16 19);have hB:=Hd (FO.o _ hh.rel);have hJ:=Hd hh.st;exact aN 69 _ rfl w.heap.size 10 (by simpa[go_sem]using h19) _ hB.o (o.r.Eo) rfl _ underlying69 rfl ag ⟨_,rfl,KX.refl _ _,rfl,hJ.o⟩
 have h1:=hh.p 1 w.heap.size 0;have i0:=(FO.o _ hh.rel).inside;rotate_left
 ·have h21:=rq (hh.d 18 21);have hB:=Hd (FO.o _ hh.rel);have hJ:=Hd hh.st;exact aN 75 _ rfl w.heap.size 16 (by simpa[go_sem]using h21) _ hB.o (o.lk.cs Ao co) rfl _ underlying75 rfl ag ⟨_,rfl,KX.refl _ _,rfl,hJ.o⟩
 ·have h12:=rq (hh.d 9 12);have xh:=rq (hh.d 11 14);have h16:=rq (hh.d 13 16);have h18:=rq (hh.d 15 18);have h20:=rq (hh.d 17 20);have h22:=rq (hh.d 19 22);have hJ:=Hd hh.st;exact wp_build _ _ rfl (by simp[go_sem,h12,xh,h16,h18,h20,h22]) (MQ o Ao co w1) ⟨_,rfl,KX.refl _ _,rfl,hJ.o⟩
 ·have h23:=rq (hh.d 20 23);have hC:=Hd (FC.o w1 hh.rel);have hkr:=Hd (FK.o w1 hh.rel);have hJ:=hh.j;clear hh;go_simp;refine hC.o.mono ?_;rintro e w9 ⟨A9,c9,rfl,L8,jA,aY⟩;exact⟨_,rfl,KX.of_below aY,⟨A9,⟨c9,rfl⟩,L8,fun a ea=>by have:=jA a ea;have:=hkr.o;omega⟩,hJ.o.below aY⟩
 ·have h4:=rq (hh.d 1 4);have h6:=rq (hh.d 3 6);have h8:=rq (hh.d 5 8);have h10:=rq (hh.d 7 10)
  obtain⟨A8,c8,e8,hr8,MC⟩:=(show ∃A c,(a.tmps.getD 24 undef)=.agg ((EU o).cs A c).toArray∧nP w1 A o.lk.l∧∀a,A=some a->kr<a.block from hh.d 21 24)
  have Ba:a.tmps[24]?.getD undef=.agg ((EU o).cs A8 c8).toArray:=rq (e8);have hJ:=Hd hh.st;exact wp_build _ _ rfl (by simp[go_sem,h4,h6,h8,h10,Ba]) (Sl o A8 c8 w1) ⟨_,rfl,KX.refl _ _,⟨A8,c8,rfl,hr8,MC⟩,hJ.o⟩
 ·have h2:=hh.p 2 kr 0
  obtain⟨A8,c8,e8,hr8,MC⟩:=(show ∃A c,(a.tmps.getD 25 undef)=.agg (o.fP A c).toArray∧nP w1 A o.lk.l∧∀a,A=some a->kr<a.block from hh.d 22 25)
  have Dj:a.tmps[25]?.getD undef=.agg (o.fP A8 c8).toArray:=rq (e8);have ql:=hh.st.no hh.un;refine bW 154 _ _ rfl kr 0 (by simpa[go_sem]using h2) (o.fP A8 c8) (by simpa[go_sem]using Dj) _ ql (nE rfl) ag (by rfl) ?_;intro w9 lu fJ;exact⟨undef,rfl,KX.wrote lu,trivial,⟨nofun,fun _=>⟨A8,c8,fJ,hr8.stays fun a ea hne=>lu.far (Nat.ne_of_gt (MC a ea)),MC⟩⟩⟩
 any_goals (have hJ:=hh.j;clear hh;go_simp;exact⟨_,rfl,KX.refl _ _,rfl,hJ.o⟩)
 intro L w4 val hL hJ hR hv;have HR4:=Hd hR;obtain⟨A9,c9,aY,L8,jA⟩:=hJ.yes (hL 23 (by decide));have pV:=Hd aY;have Du:=Hd L8;have HG9:=Hd jA;clear hv hL hJ hR aY L8 jA;simp only[regs.aG,List.map_cons,List.map_nil];simp only[Act.put,List.setIfInBounds_toArray,List.set_cons_zero,List.set_cons_succ]
 skip
 go_wp2_with (fail);exact bP rfl rfl pV.o underlying154 rfl ag ⟨A9,c9,rfl,Du.o,fun a ea=>by have:=HG9.o a ea;have:=EG.o;omega,HB0.o.trans (HR4.o.aS (Nat.le_of_lt EG.o) HB0.o.size)⟩
abbrev EP:TypeId:=154
abbrev zU:TypeId:=104
abbrev a2N(w:World)(base:Nat)(v:Value)(l:List iZ):Prop:=ak EP 24 iZ.fP w base v l
theorem iZ.RH(q:iZ):∀u∈q.fP,u.oneCell'=true:=by
 have h:q.fP.all (·.oneCell')=true:=rfl;exact fun u hu=>List.all_eq_true.1 h u hu
theorem VP:(prog.info? EP).map (fun i=>(i.zero,i.size,i.bytes))=some (some (.agg Vl.toArray),24,200):=by kernel_rfl
theorem Zy{w:World}{base:Nat}{v:Value}{l:List iZ}(h:a2N w base v l)(q:iZ){c:Nat}(hn:l.length<=900000)(hbase:base<=w.heap.size) :
  ∃v' w',(Builtin.append_ #[zU,zU] zU #[v,.slice (some ⟨w.heap.size,0,none⟩) 1 c]).run prog (w.alloc (.cells q.fP.toArray EP))=.ok v' w'∧a2N w' base v' (l++[q]) ∧
   (w.alloc (.cells q.fP.toArray EP)).grownBy w' v.ownBlock∧(v'.ownBlock=v.ownBlock∨v'.ownBlock=some (w.heap.size+1)):=by
 have e:[q].flatMap iZ.fP=q.fP:=by simp
 obtain⟨v',w',h1,h2,h3,h4⟩:=ak.app (P:=prog) (xs:=[q]) (c:=c) (g:=w.heap.size) (o:=0) underlying104 VP rfl (by decide) (by decide) iZ.F7 iZ.RH
  (h.below (bR.alloc nR (.cells q.fP.toArray EP))) (fun _=>by have:=jE (enc:=iZ.fP) iZ.F7 w [q] EP rfl;rw[e]at this;exact this) (by simp;omega) (by simp;omega)
 refine⟨v',w',h1,h2,h3,?_⟩
 simpa using h4
theorem a1R(q:iZ)(w:World):(Instr.buildSlice zU 1 #[(0,.agg q.fP.toArray)]).run prog w=.ok (.slice (some ⟨w.heap.size,0,none⟩) 1 1) (w.alloc (.cells q.fP.toArray EP)):=by kernel_rfl
structure Laid(w:World)(base:Nat)(v:Value)(l:List iZ)(os:List dU):Prop where
 own:a2N w base v l
 os:l.map (·.o)=os
 px:∀q∈l,nP w q.A q.o.lk.l∧∀a,q.A=some a->q.o.lk.l≠[]->v.ownBlock≠some a.block
theorem Laid.below{w w':World}{base:Nat}{v:Value}{l:List iZ}{os:List dU}(h:Laid w base v l os)(hb:bz w w'):Laid w' base v l os:=⟨ak.below h.own hb,h.os,fun q hq=>⟨(h.px q hq).1.below hb,(h.px q hq).2⟩⟩
theorem Laid.step{w w2:World}{base:Nat}{v:Value}{l:List iZ}{os:List dU}(h:Laid w base v l os)(hbase:base<=w.heap.size)(hn:l.length<=900000)(hb:bz w w2){o:dU}{A:Option Addr}{c:Nat}(hr:nP w2 A o.lk.l)(hg:∀a,A=some a->w.heap.size<=a.block){cc:Nat} :
  ∃v' w',(Builtin.append_ #[zU,zU] zU #[v,.slice (some ⟨w2.heap.size,0,none⟩) 1 cc]).run prog (w2.alloc (.cells (o.fP A c).toArray EP))=.ok v' w'∧Laid w' base v' (l++[⟨o,A,c⟩]) (os++[o])∧Below base w2 w':=by
 have h2:=h.below hb;obtain⟨v',w',hrun,ho,hgr,hat⟩:=Zy h2.own ⟨o,A,c⟩ (c:=cc) hn (Nat.le_trans hbase hb.size);have hal:bz w2 (w2.alloc (.cells (o.fP A c).toArray EP)):=bR.alloc nR _
 have hown:∀a,A=some a->v.ownBlock≠some a.block:=fun a ea e=>by
  have h1:=(h.own.block e).2;have:=hg a ea;omega
 have keep:∀(A':Option Addr) (lk:List Nat),nP w2 A' lk->(∀a,A'=some a->lk≠[]->v.ownBlock≠some a.block)->nP w' A' lk∧∀a,A'=some a->lk≠[]->v'.ownBlock≠some a.block:=fun A' lk h3 h4=>by
  refine⟨(h3.below hal).stays fun a ea hne=>hgr.block _ (Row.lt (h3.below hal).row ea hne) (Ne.symm (h4 a ea hne)),fun a ea hne e=>?_⟩;rcases hat with h5|h5
  ·exact h4 a ea hne (h5 ▸ e)
  ·rw[h5]at e;have h6:=Row.lt h3.row ea hne;have:=Option.some.inj e;omega
 refine⟨v',w',hrun,⟨ho,by rw[List.map_append,h.os];rfl,fun q hq=>?_⟩,(hal.mono (Nat.le_trans hbase hb.size)).grown hgr (by simp;have:=hb.size;omega) fun j hj=>(h2.own.block hj).1⟩;rcases List.mem_append.1 hq with hq|hq
 ·exact keep _ _ (h2.px q hq).1 (h2.px q hq).2
 ·rw[List.mem_singleton.1 hq];exact keep A o.lk.l hr fun a ea _=>hown a ea
def zD(os:List dU)(w:World)(e:Ending)(w':World):Prop:=∃A c l,e=.returned (.slice A l.length c)∧yK w' A l∧l.map (·.o)=os∧bz w w'
theorem Laid.done{w:World}{base:Nat}{v:Value}{l:List iZ}{os:List dU}(h:Laid w base v l os):∃A c,v=.slice A l.length c∧yK w A l:=by
 obtain⟨A,c,e,_,_,hr⟩:=ak.row h.own iZ.F7;exact⟨A,c,e,hr,fun q hq=>(h.px q hq).1⟩
theorem Le(l:List iZ)(A:Option Addr)(c:Nat)(w:World)(h:BX w A l)(hth:∀q∈l,q.o.lk.l.length<=300)(hn:l.length<=100000) :
  Calls prog 27 #[.slice A l.length c] w (zD (l.map (·.o)) w):=by
 have NK:=Hd h;have ZH:=Hd hth;have HN:=Hd hn;unfold zD;clear h hth hn;go_enter func27,ntmps27;go_wp2_with (fail)
 go_loopw [8,3] (fun x8 x3 wr=>∃(j:Nat) (l9:List iZ),j<=l.length∧x8=.int .i64 j∧Hid (Laid wr w.heap.size x3 l9 ((l.take j).map (·.o)))∧Hid (bz w wr)) (fun x8 _ _=>l.length - (intOf x8).toNat)
 case atStart=>exact⟨0,[],Nat.zero_le _,rfl,⟨ak.nil _ _,by simp,fun q hq=>nomatch hq⟩,bR⟩
 case round=>
  obtain⟨j,l9,hj,rfl,HLD,HB⟩:=hrel;generalize wr=wA at*;by_cases hlt:j<l.length
  ·have t1:decide (j<l.length)=true:=by simpa using hlt
   have dV:=Hd hlt;obtain⟨lb,lo,rA,hcell⟩:=(NK.o.below HB.o).row (by omega);subst rA
   obtain⟨q,hq⟩:∃q,q=l[j]'hlt:=⟨_,rfl⟩
   have Dv:Hid (q∈l):=by rw[hq];exact List.getElem_mem hlt
   have qQ:Hid ((l.take (j+1)).map (·.o)=(l.take j).map (·.o)++[q.o]):=by rw[hq,List.take_succ_eq_append_getElem hlt,List.map_append];rfl
   have oh:Hid (wA.rangeAt lb (lo+j*23) q.cs):=by
    rw[hq];exact fun i v hv=>hcell j hlt i v hv
   have HZ2:Hid (aA (wA.alloc (.cells Vg.toArray 85)) wA.heap.size Vg):=az wA Vg _;have jW:Hid (bz wA (wA.alloc (.cells Vg.toArray 85))):=bR.alloc nR _;have c0:=oh.o 0 (.int .i64 q.o.k) rfl;have i0:lb<wA.heap.size:=World.block_lt_of_cell? wA ⟨lb,_,none⟩ c0;have hjb:(j:Int)<=100000:=by have:=HN.o;omega
   clear c0 hcell hq hlt
   go_upto_region 5 with(first|((with_reducible refine gL ?_);refine lF 85 _ rfl rfl _ _ rfl (q.cs) oh.o _ underlying85 rfl ag ?_)|((with_reducible refine gS ?_);refine ay 85 _ _ rfl rfl rfl _ 0 rfl (q.cs) rfl (Vg) HZ2.o (q.cs) rfl (nE rfl) ag (dU.one _ _ _) ?_;intro w3 HW3 dO))
   have HB3:Hid (bz wA w3):=HW3.o.below jW.o nR;have i1:=dO.o.inside;have HRO:=Hd (Qp q.o q.A q.c w3 (Row.below (NK.o.px q Dv.o).1 (HB.o.trans (HB3.o.mono HB.o.size))) (by have:=ZH.o q Dv.o;omega));unfold iZ.cs at dO;clear HZ2 jW HW3 oh i0;go_wp2_with (first|(with_reducible refine gL ?_;first|(refine wt 85 0 rfl rfl rfl dO.o (q.o.cs q.A q.c) rfl underlying85 rfl ?_)));refine HRO.o.mono ?_;unfold Nu;rintro e w4 ⟨A9,c9,rfl,L8,jA,aY⟩
   obtain⟨v',w5,hrun,hld,hb5⟩:=(HLD.o.below HB3.o).step (Nat.le_trans HB.o.size HB3.o.size) (by
    have h1:=congrArg List.length HLD.o.os;rw[List.length_map,List.length_map,List.length_take]at h1;have:=HN.o
    omega) aY (o:=q.o) (A:=A9) (c:=c9) L8 jA (cc:=1)
   have a6m:=Hd hld;have gV:Hid (bz w w5):=(HB.o.trans (HB3.o.mono HB.o.size)).trans ((aY.mono (Nat.le_trans HB.o.size HB3.o.size)).trans hb5);have hbs:=a1R ⟨q.o,A9,c9⟩ w4;unfold iZ.fP at hbs;simp only at hbs;clear L8 jA aY hld hb5 i1 dO HB3 HLD HRO;go_wp2_with (first|((with_reducible refine gB ?_);refine iT _ _ _ rfl rfl (by simp[go_sem]) hbs ?_;clear hbs)|(at_builtin;refine bg rfl _ _ 104 104 104 rfl rfl _ _ _ _ rfl rfl hrun ?_;clear hrun))
   go_roundw
   case rel=>exact⟨j+1,_,dV.o,by go_num,by rw[qQ.o];exact a6m,gV⟩
   case measure=>have:=dV.o;simp[intOf];omega
  ·obtain rfl:j=l.length:=by omega
   have t1:decide (l.length<l.length)=false:=by simp
   rw[List.take_length]at HLD;obtain⟨A9,c9,rfl,hod⟩:=HLD.o.done;have HOD:=Hd hod;clear hlt hod hj;go_wp2_with (fail);go_ret;exact⟨A9,c9,l9,rfl,HOD.o,HLD.o.os,HB.o⟩
end
section
open Go.RowKit fF fO aF Go.Maps
theorem dQ.far{w:World}{g b m:Nat}{s:Sh}{Z:ZZ}{x:aJ}(hs:ax w g b m s Z x){dm:Nat}{H:Int->Bool}{nd:Int->Nd}(h:dQ w dm H nd)(h0:H 0=true):¬af b m s x.t dm:=by
 obtain⟨es,h1,h2,h3⟩:=h.ex
 have i0:I64 (0:Int):=⟨by decide,by decide⟩
 obtain⟨v,ev,A,c,rfl,-⟩:=h3 0 h0;rintro(e|hk)
 ·obtain⟨es2,g1,g2,g3⟩:=hs.map;obtain⟨u,eu,A2,c2,rfl,-⟩:=g3 0 (aj.2 (.inl rfl));subst e;have r1:=h1.lookup (t:=zV) (E:=46) underlying28 (yS w) i0;have r2:=g1.lookup (t:=zV) (E:=46) underlying28 (yS w) i0;rw[ev]at r1;rw[eu]at r2;have r3:=r1.symm.trans r2
  injection r3 with r3 _
  simp only[Option.getD_some,Nd.v,plv]at r3
  injection r3 with r3
  have:=congrArg Array.size r3;simp[Nd.cs,eP]at this
 ·rcases hk with hk|hk|⟨i,hi,hk|hk⟩
  ·exact h1.dX hs.tree.raw.blk hk
  ·have r1:=h1.lookup (t:=195) (E:=191) underlying195 (Ob w) i0;have r2:=hs.tree.raw.iF (i:=0) i0 (aj.2 (.inl rfl));subst hk;rw[ev]at r1;have r3:=r1.symm.trans r2
   injection r3 with r3 _
   simp only[Option.getD_some,Nd.v]at r3;cases r3
  ·exact h1.dX (hs.tree.raw.node i hi).blk hk
  ·obtain⟨cur,fr,h4⟩:=(hs.tree.raw.node i hi).own.typed hk;obtain⟨es',clock,h5,_⟩:=h1.own;have:=h4.symm.trans h5;cases this
theorem Oj{w:World}{g b m:Nat}{s:Sh}{Z:ZZ}{x:aJ}(hs:ax w g b m s Z x){k:Nat}{cs:Array Value}{T:TypeId}{fz:Nat×Nat}(h:w.heap[k]?=some (.cells cs T fz))(hT:T=128∨T=41):¬af b m s x.t k:=by
 have hne:∀{cs':Array Value} {T':TypeId} {fz':Nat×Nat},w.heap[k]?=some (.cells cs' T' fz')->T'≠128->T'≠41->False:=fun h2 n1 n2=>by
  have:=h.symm.trans h2;simp only[Option.some.injEq,Obj.cells.injEq]at this;rcases hT with e|e
  ·exact n1 (this.2.1 ▸ e)
  ·exact n2 (this.2.1 ▸ e)
 rintro(e|hk)
 ·obtain⟨es2,g1,_⟩:=hs.map;obtain⟨es',clock,h5,_⟩:=g1.own;rw[e]at h;have:=h.symm.trans h5;cases this
 ·rcases hk with hk|hk|⟨i,hi,hk|hk⟩
  ·have h1:w.heap[b]?=_:=hs.tree.raw.blk;rw[←hk]at h1;exact hne h1 (by decide) (by decide)
  ·obtain⟨es,hm,_⟩:=hs.tree.raw.map;obtain⟨es',clock,h1,_⟩:=hm.own;rw[hk]at h;have:=h.symm.trans h1;cases this
  ·have h1:w.heap[s.g i]?=_:=(hs.tree.raw.node i hi).blk;rw[←hk]at h1;exact hne h1 (by decide) (by decide)
  ·obtain⟨cur,fr,h1⟩:=(hs.tree.raw.node i hi).own.typed hk;exact hne h1 (by decide) (by decide)
section
variable {w w':World}{g b m:Nat}{s:Sh}{Z:ZZ}{x y:aJ}{S':bI}
theorem aQ.turn(hs:ax w g b m s Z x)(ht:ae (af b m s x.t) S' w w'){v:Value}{t:T}(h:aQ w v t):aQ w' v t:=h.stays fun _ _ a _ hy ea=>by
 obtain⟨cs,fz,h1⟩:=hy a ea;exact(ht.far _ (lt_of_block h1) (Oj hs h1 (.inl rfl))).2
theorem xW.turn(hs:ax w g b m s Z x)(ht:ae (af b m s x.t) S' w w'){v:Value}{n:Nd}(h:xW w v n):xW w' v n:=by
 obtain⟨A,c,e,hr⟩:=h;refine⟨A,c,e,hr.stays fun a ea hne=>?_⟩;obtain⟨cs,fz,h1⟩:=hr.typ a ea hne;exact(ht.far _ (lt_of_block h1) (Oj hs h1 (.inr rfl))).2
theorem dQ.turn(hs:ax w g b m s Z x)(ht:ae (af b m s x.t) S' w w'){dm:Nat}{H:Int->Bool}{nd:Int->Nd}(h:dQ w dm H nd)(h0:H 0=true):dQ w' dm H nd:=by
 have hf:=h.far hs h0;obtain⟨es,h1,h2,h3⟩:=h.ex;refine⟨es,h1.stays (ht.far _ h1.inside hf).2,h2,fun i hi=>?_⟩;obtain⟨v,e,hv⟩:=h3 i hi;exact⟨v,e,xW.turn hs ht hv⟩
end
def a04(B:Nat)(os:List dU):regs.kX (DR B):=⟨fun v wv=>∃A c l9,v=.slice A (l9:List iZ).length c∧yK wv A l9∧l9.map (·.o)=os,fun _ _ _ h hb=>by
 obtain⟨A,c,l9,h1,h2,h3⟩:=h
 exact⟨A,c,l9,h1,h2.dr hb,h3⟩⟩
end
section
open Go.RowKit fF fO aF Go.Maps
end
section
open Go.RowKit fF fO aF Go.Maps yl Go.Shelf
attribute [local go_sem] Oper.semAt_some
theorem KX.below{x:Nat}{A W W':World}(h:KX x A W)(hb:Below A.heap.size W W'):KX x A W':=⟨hb.os.trans h.os,hb.tape.trans h.tape,hb.output.trans h.output,Nat.le_trans h.size hb.size,fun k hk hn=>(hb.block k hk).trans (h.same k hk hn)⟩
theorem KX.set{x:Nat}{A W:World}(h:KX x A W)(v:Value):KX x A (W.setCell ⟨x,0,none⟩ v):=⟨h.os,h.tape,h.output,by simpa[World.setCell]using h.size,fun k hk hn=>(heap_setCell_other _ _ _ _ hn).trans (h.same k hk hn)⟩
theorem KX.bk{x:Nat}{A W W':World}(h:KX x A W)(hb:Bk A.heap.size W W'):KX x A W':=h.below (hb.below nR h.size)
theorem VL(v:Value)(w:World):(invoke (.fn (.method "Walk") #[]) #[.iface 88 v]).run prog w=.ok (.enter 190 #[v]) w:=by kernel_rfl
theorem a2Q{t:T}{j:Nat}(h:j<(wd t 0 0).length)(h2:j<(aF.walk t 0).length):(wd t 0 0)[j]=((aF.walk t 0)[j],depth t (aF.walk t 0)[j]):=by
 simp only[wd,List.getElem_map,Pg];simp
end
end Go.Proofs.YthmegninhpihkaaGreat
