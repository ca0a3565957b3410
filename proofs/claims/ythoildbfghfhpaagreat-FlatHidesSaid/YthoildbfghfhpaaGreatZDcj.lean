import Derived.Test.YthoildbfghfhpaaGreatZDcf
set_option maxHeartbeats 16000000
set_option maxRecDepth 100000
open Go.Proofs.Tryz
namespace Go.Proofs.YthoildbfghfhpaaGreat
section
open Go.RowKit pxm imm trm Go.Maps
def DApQ (wi hei M:Int) (r:PSc×Int×Int) (w:World) (e:Ending) (w':World):Prop:=∃ v',e=.returned (.tuple #[v',.int .i64 r.2.1,.int .i64 r.2.2])∧DocAt w' v' wi hei M r.1∧Below w.heap.size w w'
theorem dapply_any (l:List OpR) (Al:Option Addr) (cl:Nat) (wi hei M:Int) (v:Value) (x:PSc) (hx:Sane x) (w:World) (hd:DocAt w v wi hei M x) (ho:OpsD w Al l) (hok:∀ q∈l,OpOk q.o) (hn:l.length<=1024->Room M x l.length) (hlen:l.length<=1000000) :
  Calls prog 39 #[v,.slice Al l.length cl] w (DApQ wi hei M (applyS M setSt x (l.map (·.o))) w):=by
 obtain ⟨At,ct,m,rfl,ht,hm⟩:=hd.ex;have HD:=Hd hd;have HT:=Hd ht;have HM:=Hd hm;have HX:=Hd hx;have HOP:=Hd ho;have HOK:=Hd hok;have HRM:=Hd hn
 obtain ⟨lo,hlo⟩:∃ lo,l.map (·.o)=lo:=⟨_,rfl⟩
 have HLO:=Hd hlo;have HLL:Hid (lo.length=l.length):=by show _=_;rw [← hlo,List.length_map]
 have HAT:Hid (∀ (k:Nat) (h1:k<l.length) (h2:k<lo.length),lo[k]=l[k].o):=fun k h1 h2=>by
  have e:lo[k]?=some l[k].o:=by rw [← hlo,List.getElem?_map,List.getElem?_eq_getElem h1];rfl
  rw [List.getElem?_eq_getElem h2] at e;exact Option.some.inj e
 rw [hlo];unfold DApQ
 obtain ⟨R,hR⟩:∃ R,applyS M setSt x lo=R:=⟨_,rfl⟩
 have HE:=Hd hR;rw [hR];have hlb:(l.length:Int)<=1000000:=by omega
 clear hR hd ht hm hx ho hok hn hlo hlen;have HB0:Hid (Below w.heap.size w ((w.alloc (.cells (Vb wi hei M At x.t.length ct m).toArray 34)).alloc (.cells Vf.toArray 34))):=(bR.alloc nR _).alloc (by simp) _;have HKs:Hid (BlkT ((w.alloc (.cells (Vb wi hei M At x.t.length ct m).toArray 34)).alloc (.cells Vf.toArray 34)) w.heap.size (Vb wi hei M At x.t.length ct m) 34):=(BlkT.new w (Vb wi hei M At x.t.length ct m) 34).al _
 have HKr:Hid (BlkT ((w.alloc (.cells (Vb wi hei M At x.t.length ct m).toArray 34)).alloc (.cells Vf.toArray 34)) (w.heap.size+1) Vf 34):=blkT_at (w.alloc _) _ (by simp) Vf 34;go_enter func39,ntmps39
 go_upto_region 1 with (fail)
 generalize ((w.alloc (.cells (Vb wi hei M At x.t.length ct m).toArray 34)).alloc (.cells Vf.toArray 34))=w0 at *;by_cases h24:1024<l.length
 ·have t1:decide ((1024:Int)<(l.length:Int))=true:=decide_eq_true (by omega);have HE2:Hid (R=(x,0,12)):=by show _=_;rw [← HE.o];exact applyS_over (by rw [HLL.o];exact h24)
  clear h24 HE;go_wp2_with (first | (with_reducible refine gL ?_;first | (refine wt 34 0 rfl rfl rfl HKs.o.blk ((Vb wi hei M At x.t.length ct m)) rfl underlying34 rfl ?_)) | (with_reducible refine gS ?_;first | (refine wpl_stow 34 _ _ rfl rfl rfl _ 0 rfl ((Vb wi hei M At x.t.length ct m)) rfl (Vf) HKr.o.blk ((Vb wi hei M At x.t.length ct m)) rfl (nE rfl) (by kernel_rfl) rfl ?_;intro w2 HW2 HK2)));rw [HE2.o]
  exact blk_ret3 rfl rfl rfl rfl HK2.o underlying34 rfl (by kernel_rfl) ⟨_,rfl,(HD.o.below HB0.o).wrote HKr.o (by decide) (by unfold noPx;simp) HW2.o,HW2.o.below HB0.o (by omega)⟩
 ·have t1:decide ((1024:Int)<(l.length:Int))=false:=decide_eq_false (by omega);have HL:Hid (l.length<=1024):=by show _<=_;omega
  have HRL:Hid (Room M x lo.length):=by show Room _ _ _;rw [HLL.o];exact HRM.o HL.o
  have HNX:Hid (x.t.length<=900):=by have:=room_take HX.o.ok HRL.o 0;rw [List.take_zero] at this;exact this
  clear h24 HRM;go_wp2_with (first | (with_reducible refine gL ?_;first | (refine wt 34 0 rfl rfl rfl HKs.o.blk ((Vb wi hei M At x.t.length ct m)) rfl underlying34 rfl ?_)));refine (dcopied_any wi hei M _ x.t m (has x.t) x.nd HX.o.ok (by have:=HNX.o;omega) w0 (HT.o.below HB0.o) (HM.o.below HB0.o)).mono ?_;rintro e w1 ⟨m',rfl,hdm,hb1,-⟩;have HB1:=Hd (HB0.o.trans (hb1.mono HB0.o.size));have HDM1:Hid (DMap w1 m' (has x.t) x.nd):=hdm.alike (fun _=>rfl) fun j hj=>(if_pos hj).symm;have HKs1:=Hd (BlkT.stays HKs.o (hb1.block _ HKs.o.inside))
  have HKr1:=Hd (BlkT.stays HKr.o (hb1.block _ HKr.o.inside));clear hdm hb1 HKs HKr HB0;have HZ:Hid (BlkT (w1.alloc (.cells Vf.toArray 34)) w1.heap.size Vf 34):=BlkT.new w1 Vf 34;have HBz:Hid (Below w1.heap.size w1 (w1.alloc (.cells Vf.toArray 34))):=bR.alloc nR _
  go_upto_region 4 with (first | (with_reducible refine gS ?_;first | (refine wpl_stow 34 _ _ rfl rfl rfl _ 0 rfl ((Vb wi hei M At x.t.length ct m')) rfl (Vf) HZ.o.blk ((Vb wi hei M At x.t.length ct m')) rfl (nE rfl) (by kernel_rfl) rfl ?_;intro w2 HW2 HK2)))
  obtain ⟨z,hz⟩:∃ z,w1.heap.size=z:=⟨_,rfl⟩
  have HSZ:Hid (w.heap.size+1<z):=by rw [← hz];exact HKr1.o.inside
  rw [hz] at HW2 HK2 HZ HBz ⊢;have HBW:Hid (Below z w1 w2):=HW2.o.below HBz.o nR;have HB2:=Hd (HB1.o.trans (HBW.o.mono (by have:=HSZ.o;omega)));have HKs2:Hid (BlkT w2 w.heap.size (Vb wi hei M At x.t.length ct m) 34):=HKs1.o.stays (HBW.o.block _ (by have:=HSZ.o;omega));have HKr2:Hid (BlkT w2 (w.heap.size+1) Vf 34):=HKr1.o.stays (HBW.o.block _ (by have:=HSZ.o;omega))
  have HDB2:Hid (DBlk w2 z wi hei M x):=⟨At,ct,m',HZ.o.wrote HW2.o HK2.o,HT.o.below HB2.o,HDM1.o.below (by rw [hz];exact HBW.o)⟩
  clear HB1 HKs1 HKr1 HZ HBz HBW HW2 HK2 HDM1 hz
  go_upto_region 5 with (fail)
  go_loopw [8] (fun x8 wr=>∃ k:Nat,k<=l.length∧x8=.int .i64 k∧Hid ((allS M x (lo.take k)).2.2=0)∧Hid (DBlk wr z wi hei M (allS M x (lo.take k)).1)∧Hid (BlkT wr w.heap.size (Vb wi hei M At x.t.length ct m) 34)∧Hid (BlkT wr (w.heap.size+1) Vf 34)∧Hid (Below w.heap.size w wr)) (fun x8 _=>l.length - (intOf x8).toNat)
  case atStart=>exact ⟨0,Nat.zero_le _,rfl,by rw [List.take_zero];rfl,by rw [List.take_zero];exact HDB2.o,HKs2.o,HKr2.o,HB2.o⟩
  case round=>
   obtain ⟨k,hk,rfl,HZZ,HDB,HKS,HKR,HBW⟩:=hrel;generalize wr=wA at *;clear HB2 HKs2 HKr2 HDB2;by_cases hlt:k<l.length
   ·have t2:decide (k<l.length)=true:=decide_eq_true hlt;have HLT:=Hd hlt;have hlt2:k<lo.length:=by rw [HLL.o];exact hlt
    have HLT2:=Hd hlt2
    have HY:Hid (Ok (allS M x (lo.take k)).1.t∧(allS M x (lo.take k)).1.t.length<=900∧Good (allS M x (lo.take k)).1∧∀ i,Fit ((allS M x (lo.take k)).1.nd i)):=
     ⟨allS_ok _ HX.o.ok,room_take HX.o.ok HRL.o k,allS_good _ HX.o.good,allS_fit _ (fun o h=>by
      obtain ⟨q,h1,h2⟩:=List.mem_map.1 (show o∈l.map (·.o) by rw [HLO.o];exact List.mem_of_mem_take h)
      rw [← h2];exact HOK.o q h1) HX.o.fit⟩
    have HSTEP:=Hd (allS_take (M:=M) (x:=x) hlt2 HZZ.o);have HBAD:=Hd (fun hz=>applyS_bad (M:=M) (x:=x) (l:=lo) (by rw [HLL.o];exact HL.o) hlt2 HZZ.o hz);rw [HAT.o k hlt hlt2,HE.o] at HBAD;rw [HAT.o k hlt hlt2] at HSTEP
    obtain ⟨q,hq⟩:∃ q,q=l[k]'hlt:=⟨_,rfl⟩
    have HQO:Hid (OpOk q.o):=by show OpOk _;rw [hq];exact HOK.o _ (List.getElem_mem hlt)
    have HQP:Hid (∀ W,Below w.heap.size w W->PxR W q.A q.o.lk.l):=fun W hb=>by rw [hq];exact (HOP.o.px _ (List.getElem_mem hlt)).below hb
    obtain ⟨lb,lof,rA,hcell⟩:=(HOP.o.below HBW.o).row (by omega)
    have HRG:Hid (wA.rangeAt lb (lof+k*24) q.dcs):=fun i v hv=>by
     rw [hq] at hv;have:=hcell k hlt i v hv;exact this
    rw [← hq] at HSTEP HBAD;subst rA
    obtain ⟨y,hy⟩:∃ y,(allS M x (lo.take k)).1=y:=⟨_,rfl⟩
    rw [hy] at HSTEP HBAD HY HDB
    obtain ⟨S1,hS1⟩:∃ S1,allS M x (lo.take (k+1))=S1:=⟨_,rfl⟩
    rw [hS1] at HSTEP;have HS1:=Hd hS1
    obtain ⟨⟨yn,e1⟩,hr1⟩:∃ r,doS M y q.o=r:=⟨_,rfl⟩
    rw [hr1] at HSTEP HBAD;simp only at HSTEP HBAD;obtain ⟨Ay,cy,my,hb7,ht7,hm7⟩:=HDB.o;have HK7:=Hd hb7;have HT7:=Hd ht7;have HM7:=Hd hm7;have HR1:=Hd hr1;have hkb:(k:Int)<=1000000:=by omega
    clear hq hlt hlt2 hcell hy hS1 hr1 hb7 ht7 hm7 HDB HZZ hk;have FT:Hid (∀ W,DR wA.heap.size wA W->Blk W z (Vb wi hei M Ay y.t.length cy my)):=fun W hr=>HK7.o.blk.below' hr.bel
    have FR:Hid (∀ W,DR wA.heap.size wA W->W.rangeAt lb (lof+k*24) q.dcs∧lb<W.heap.size):=fun W hr=>by
     have hlt0:=World.block_lt_of_cell? wA ⟨lb,_,none⟩ (HRG.o 0 (.int .i64 q.o.k) rfl);exact ⟨fun i v hv=>(hr.bel.cell (p:=⟨lb,lof+k*24+i,none⟩) hlt0).trans (HRG.o i v hv),Nat.lt_of_lt_of_le hlt0 hr.bel.size⟩
    have FC:Hid (∀ W,DR wA.heap.size wA W->Calls prog 80 #[.agg (Vb wi hei M Ay y.t.length cy my).toArray,.agg q.dcs.toArray] W fun e w'=>∃ v',e=.returned (.tuple #[v',.int .i64 e1])∧DP wi hei M yn e1 v' w'∧Below W.heap.size W w'):=fun W hr=>by
     have h1:=ddo_any q.o q.A q.c wi hei M (.slice Ay y.t.length cy) y my HY.o.1 HY.o.2.1 HY.o.2.2.1 HY.o.2.2.2 HQO.o W (HQP.o W (HBW.o.trans (hr.bel.mono HBW.o.size))) (HT7.o.below hr.bel) (HM7.o.below hr.bel);rw [HR1.o] at h1;refine h1.mono ?_;rintro e w' ⟨v',h2,h3,h4,h5⟩;exact ⟨v',h2,⟨h3,h4⟩,h5⟩
    go_upto_region 7 with (fail)
    refine wRv (DR wA.heap.size) (fun L V wx=>VJ wA.heap.size (L 9) (L 10) (V 9) (V 34) wx∧(L 10=true->L 7=true)∧(L 10=true->L 9=true)) [28,29,30,31,32,33,27,34,35,9,10] (fun _=>DR.refl _ _) (fun _ _ _ h k=>h.trans k) (fun i=>match i with
     |0=>rV (.agg ((Vb wi hei M Ay y.t.length cy my)).toArray)
     |1=>rV (.slice (some ⟨lb,lof,none⟩) l.length cl)
     |2=>rV (.int .i64 (k:Nat))
     |3=>rV (.pointer (some ⟨lb,(lof+k*24),none⟩))
     |4=>rV (.agg (q.dcs).toArray)
     | 5=>(⟨fun v wv=>∃ v',v=.tuple #[v',.int .i64 e1]∧DP wi hei M yn e1 v' wv,fun v w1 w2 h hb=>h.elim fun v' h=>⟨v',h.1,h.2.dr hb⟩⟩:regs.Say (DR wA.heap.size))
     | 6=>(⟨fun v wv=>∃ v',v=.tuple #[v',.int .i64 e1]∧DP wi hei M yn e1 v' wv,fun v w1 w2 h hb=>h.elim fun v' h=>⟨v',h.1,h.2.dr hb⟩⟩:regs.Say (DR wA.heap.size))
     | 7=>(⟨fun v wv=>DP wi hei M yn e1 v wv,fun v w1 w2 h hb=>h.dr hb⟩:regs.Say (DR wA.heap.size))
     |8|11=>rV (.int .i64 e1)
     | _=>ra) (DR.below bR.drew nR) (⟨VJ.start (Below.refl 0 _).drew.size,nofun,nofun⟩) ⟨?_,?_,?_,?_,?_,?_,?_,?_,?_,?_,?_,?_,trivial⟩ ?_
    any_goals (first|refine zpv fun L a w1 hh=>?_|fail)
    ·have h7:=hh.p 7 z 0;have hB:=Hd (FT.o _ hh.rel);have hJ:=Hd hh.st;exact wp_take 34 _ rfl z 0 (by simpa [go_sem] using h7) _ hB.o ((Vb wi hei M Ay y.t.length cy my)) rfl _ underlying34 rfl (by kernel_rfl) ⟨_,rfl,DR.refl _ _,rfl,⟨VJ.slots hJ.o.1 sn sn,hJ.o.2⟩⟩
    have h1:=hh.o 1 (v:=.slice (some ⟨lb,lof,none⟩) l.length cl) rfl;rotate_left;have h8:=hh.o 8 (v:=.int .i64 (k:Nat)) rfl;rotate_left
    ·have h29:=rq (hh.d 1 29);have h30:=rq (hh.d 2 30);obtain ⟨-,li⟩:=FR.o _ hh.rel;have hlt:=HLT.o;have hJ:=hh.j;clear hh;go_simp;exact ⟨_,rfl,DR.refl _ _,rfl,⟨VJ.slots hJ.o.1 sn sn,hJ.o.2⟩⟩
    ·have h31:=rq (hh.d 3 31);have hRG:=(FR.o _ hh.rel).1;have hJ:=Hd hh.st;exact wp_load_mid 193 _ rfl lb (lof+k*24) (by simpa [go_sem] using h31) q.dcs _ hRG underlying193 rfl (by kernel_rfl) ⟨_,rfl,DR.refl _ _,rfl,⟨VJ.slots hJ.o.1 sn sn,hJ.o.2⟩⟩
    ·have h28:=rq (hh.d 0 28);have h32:=rq (hh.d 4 32);have hC:=Hd (FC.o w1 hh.rel);have hbz:=Hd (show wA.heap.size<=w1.heap.size from hh.rel.bel.size);have hJ:=Hd hh.st;have hsz:=Hd hh.size;have hun:=Hd hh.un;clear hh;go_simp;refine hC.o.mono ?_;rintro e w9 ⟨v9,rfl,hp9,hb9⟩;exact ⟨_,rfl,DR.below hb9 hbz.o,⟨v9,rfl,hp9⟩,⟨VJ.slots (VJ.below hJ.o.1 hb9) sn sn,hJ.o.2⟩⟩
    ·obtain ⟨v8,e8,hp8⟩:=(show ∃ v',(a.tmps.getD 33 undef)=.tuple #[v',.int .i64 e1]∧DP wi hei M yn e1 v' w1 from hh.d 5 33)
     have h33:a.tmps[33]?.getD undef=.tuple #[v8,.int .i64 e1]:=rq (e8);have HP8:=Hd hp8;have hJ:=Hd hh.st;have hsz:=Hd hh.size;have hun:=Hd hh.un;clear hh e8 hp8;go_simp;exact ⟨_,rfl,DR.refl _ _,⟨v8,rfl,HP8.o⟩,⟨VJ.slots hJ.o.1 sn sn,hJ.o.2⟩⟩
    ·obtain ⟨v8,e8,hp8⟩:=(show ∃ v',(a.tmps.getD 27 undef)=.tuple #[v',.int .i64 e1]∧DP wi hei M yn e1 v' w1 from hh.d 6 27)
     have h27:a.tmps[27]?.getD undef=.tuple #[v8,.int .i64 e1]:=rq (e8);have HP8:=Hd hp8;have HN8:=Hd (not_yet hh.st.2.1 hh.un);have hJ:=Hd hh.st;have hsz:=Hd hh.size;have hun:=Hd hh.un;clear hh e8 hp8;go_simp;exact ⟨_,rfl,DR.refl _ _,HP8.o,⟨VJ.told hJ.o.1 HN8.o sn,fun _=>rfl,hJ.o.2.2⟩⟩
    ·obtain ⟨v8,e8,hp8⟩:=(show ∃ v',(a.tmps.getD 27 undef)=.tuple #[v',.int .i64 e1]∧DP wi hei M yn e1 v' w1 from hh.d 6 27)
     have h27:a.tmps[27]?.getD undef=.tuple #[v8,.int .i64 e1]:=rq (e8);have HP8:=Hd hp8;have hJ:=Hd hh.st;have hsz:=Hd hh.size;have hun:=Hd hh.un;clear hh e8 hp8;go_simp;exact ⟨_,rfl,DR.refl _ _,rfl,⟨VJ.slots hJ.o.1 sn sn,hJ.o.2⟩⟩
    ·have HN8:=Hd (not_yet hh.st.2.2 hh.un);have hbz:=Hd (show wA.heap.size<=w1.heap.size from hh.rel.bel.size);have hJ:=Hd hh.st;have hsz:=Hd hh.size;have hun:=Hd hh.un;clear hh;go_simp;exact ⟨_,rfl,DR.below (bR.alloc nR _) hbz.o,trivial,⟨VJ.made hJ.o.1 HN8.o (regv.sl_same (by rw [hsz.o];simp)),hJ.o.2.1,fun _=>rfl⟩⟩
    ·have hup:=hh.up 9 (by kernel_rfl);obtain ⟨g9,c9,h9,hg9,hB9,hn9,hl9,-⟩:=hh.st.1.ex hup
     obtain ⟨⟨cs8,e8,hl8,hn8,ho8⟩,hd8⟩:=(show DP wi hei M yn e1 (a.tmps.getD 34 undef) w1 from hh.d 7 34)
     have hJ:=Hd hh.st;have hu34:=Hd (hh.up 7 (by kernel_rfl));refine wp_stow 34 _ _ rfl g9 0 (by have h:=h9;unfold regv.sl at h;simpa [go_sem] using h) cs8 (by simpa [go_sem] using e8) _ hB9.blk (by rw [hl8,hl9];decide) (by rw [hl8];kernel_rfl) ho8 ?_;intro w9 hW9 hC9
     have hC9':Blk w9 g9 cs8:=by
      have e:c9.take 0++cs8++c9.drop (0+cs8.length)=cs8:=by rw [hl8,List.drop_of_length_le (by rw [hl9];decide)];simp
      rw [← e];exact hC9
     have hP:=hJ.o.1.put h9 hg9 hB9 hn9 hW9 hC9' hn8 hl8 e8;exact ⟨undef,rfl,hP.2,trivial,⟨hP.1,fun _=>hu34.o,fun _=>hup⟩⟩
    have h35:=rq (hh.d 8 35);rotate_left
    any_goals (have hJ:=hh.j;clear hh;go_simp;exact ⟨_,rfl,DR.refl _ _,rfl,⟨VJ.slots hJ.o.1 sn sn,hJ.o.2⟩⟩)
    intro L w4 val hL hJ hR hv;have h10:val 10=.int .i64 e1:=hv 11 10 (by kernel_rfl);have HR4:=Hd hR;obtain ⟨g9,c9,e9,hg9,hb9,hn9,hl9,hv9⟩:=hJ.1.ex (hL 9 (by decide));have hv34:=hv9 (hL 10 (by decide));have hd34:DP wi hei M yn e1 (val 34) w4:=hv 7 34 (by kernel_rfl);have HD34:=Hd hd34;have HV34:=Hd hv34;have HB9:=Hd (And.intro hg9 hb9);clear hv hL hJ hR hd34 hv34 hg9 hb9 hn9 hl9 hv9;simp only [regs.putAll,List.map_cons,List.map_nil,h10];simp only [Act.put,List.setIfInBounds_toArray,List.set_cons_zero,List.set_cons_succ];clear h10
    skip
    rw [e9];clear e9;have HK74:=Hd (HK7.o.stays (HR4.o.bel.block _ HK7.o.inside));have HKS4:=Hd (HKS.o.stays (HR4.o.bel.block _ HKS.o.inside));have HKR4:=Hd (HKR.o.stays (HR4.o.bel.block _ HKR.o.inside));have HB4:=Hd (HBW.o.trans (HR4.o.bel.mono HBW.o.size));clear HK7 HKS HKR HBW FT FR FC HT7 HM7 HRG;by_cases he:¬ e1=0
    ·have q0:(e1==0)=false:=by simpa using he
     have HE2:Hid (R=(x,((k:Nat):Int),e1)):=HBAD.o he;clear he;go_wp2_with (first | (with_reducible refine gL ?_;first | (refine wt 34 0 rfl rfl rfl HKS4.o.blk ((Vb wi hei M At x.t.length ct m)) rfl underlying34 rfl ?_)) | (with_reducible refine gS ?_;first | (refine wpl_stow 34 _ _ rfl rfl rfl _ 0 rfl ((Vb wi hei M At x.t.length ct m)) rfl (Vf) HKR4.o.blk ((Vb wi hei M At x.t.length ct m)) rfl (nE rfl) (by kernel_rfl) rfl ?_;intro w5 HW5 HK5)));rw [HE2.o]
     exact blk_ret3 rfl rfl rfl rfl HK5.o underlying34 rfl (by kernel_rfl) ⟨_,rfl,(HD.o.below HB4.o).wrote HKR4.o (by decide) (by unfold noPx;simp) HW5.o,HW5.o.below HB4.o (by omega)⟩
    ·obtain rfl:e1=0:=Decidable.not_not.1 he;clear he;have q0:((0:Int)==0)=true:=by decide
     obtain ⟨An,cn,mn,hvn,htn,hmn⟩:=(HD34.o.2 rfl).ex
     have hcn:c9=(Vb wi hei M An yn.t.length cn mn):=by
      have h1:=HV34.o.symm.trans hvn
      injection h1 with h1
      have h2:=congrArg Array.toList h1
      simpa using h2
     subst hcn;have HTN:=Hd htn;have HMN:=Hd hmn;obtain ⟨hs1,hs2⟩:=HSTEP.o rfl;have HNEW:=Hd (And.intro hs1 hs2);have HNZ:Hid (z≠w.heap.size∧z≠w.heap.size+1∧w.heap.size<=z):=by have:=HSZ.o;show _∧_;omega
     clear hvn htn hmn hs1 hs2 HD34 HV34;go_wp2_with (first | (with_reducible refine gL ?_;first | (refine wpl_take 34 _ rfl rfl _ 0 rfl ((Vb wi hei M An yn.t.length cn mn)) HB9.o.2.blk ((Vb wi hei M An yn.t.length cn mn)) rfl _ underlying34 rfl (by kernel_rfl) ?_)) | (with_reducible refine gS ?_;first | (refine wpl_stow 34 _ _ rfl rfl rfl _ 0 rfl ((Vb wi hei M An yn.t.length cn mn)) rfl ((Vb wi hei M Ay y.t.length cy my)) HK74.o.blk ((Vb wi hei M An yn.t.length cn mn)) rfl (nE rfl) (by kernel_rfl) rfl ?_;intro w6 HW6 HK6)))
     go_roundw
     case rel=>exact ⟨k+1,HLT.o,by go_num,by rw [HS1.o];exact HNEW.o.2,by rw [HS1.o,HNEW.o.1];exact ⟨An,cn,mn,HK74.o.wrote HW6.o HK6.o,HTN.o.wrote HK74.o (by decide) HW6.o,HMN.o.wrote HK74.o.blk (dcs_px _ _ _ _ _ _ _) HW6.o⟩,HKS4.o.stays (HW6.o.far (Ne.symm HNZ.o.1)),HKR4.o.stays (HW6.o.far (Ne.symm HNZ.o.2.1)),HW6.o.below HB4.o HNZ.o.2.2⟩
     case measure=>have:=HLT.o;simp [intOf];omega
   ·obtain rfl:k=l.length:=by omega
    have t2:decide (l.length<l.length)=false:=by simp
    rw [show lo.take l.length=lo by rw [← HLL.o];exact List.take_length] at HZZ HDB;have HYN:Hid ((allS M x lo).1.t.length<=900):=by have:=room_take HX.o.ok HRL.o lo.length;rwa [List.take_length] at this
    have HYO:Hid (Ok (allS M x lo).1.t):=allS_ok _ HX.o.ok;have HYG:Hid (Good (allS M x lo).1):=allS_good _ HX.o.good;have HWB:=Hd (fun i hi hw=>applyS_world (M:=M) (x:=x) (l:=lo) (i:=i) (by rw [HLL.o];exact HL.o) HZZ.o hi hw);have HWG:=Hd (fun hw=>applyS_good (M:=M) (x:=x) (l:=lo) (by rw [HLL.o];exact HL.o) HZZ.o hw);rw [HE.o,HLL.o] at HWB HWG
    obtain ⟨y,hy⟩:∃ y,(allS M x lo).1=y:=⟨_,rfl⟩
    rw [hy] at HWB HWG HYN HYO HYG HDB;obtain ⟨Ay,cy,my,hb7,ht7,hm7⟩:=HDB.o;have HK7:=Hd hb7;have HT7:=Hd ht7;have HM7:=Hd hm7;have s3:wA.cell? ⟨z,3,none⟩=some (.slice Ay y.t.length cy):=HK7.o.blk.cell 3;have si:=HK7.o.inside;clear hlt hk hy hb7 ht7 hm7 HDB HZZ;go_wp2_with (fail);refine (dwalk Ay y.t cy HYO.o (by have:=HYN.o;omega) (y.t.length+1) 0 wA (DTree.srow HT7.o) (.inl rfl) (by omega)).mono ?_;unfold KidsQ;rintro e w3 ⟨v3,rfl,hown,hb3⟩;have HWL:Hid ((trm.walk y.t 0).length<=1001):=by have:=walk_le HYO.o (i:=0) (.inl rfl);have:=HYN.o;show _<=_;omega
    have HWA:Hid (∀ i,i∈trm.walk y.t 0↔has y.t i=true):=fun i=>walk_all HYO.o;obtain ⟨vA,vc,rfl,-,-,hrow⟩:=hown.irow;have HRW:=Hd hrow;have HB3:=Hd (HBW.o.trans (hb3.mono HBW.o.size));have HKS3:=Hd (HKS.o.stays (hb3.block _ HKS.o.inside));have HKR3:=Hd (HKR.o.stays (hb3.block _ HKR.o.inside));have HK73:=Hd (HK7.o.stays (hb3.block _ HK7.o.inside));have HT73:=Hd (HT7.o.below hb3);have HM73:=Hd (HM7.o.below hb3);clear hown hrow hb3 s3 si HKS HKR HK7 HT7 HM7 HBW
    obtain ⟨al,hal⟩:∃ al,trm.walk y.t 0=al:=⟨_,rfl⟩
    rw [hal] at HWL HWA HRW ⊢;clear hal
    go_upto_region 13 with (fail)
    go_loopw [12] (fun x12 wr=>∃ j:Nat,j<=al.length∧x12=.int .i64 j∧Hid (∀ i∈al.take j,worldOf y.t y.nd i≠none)∧Hid (Below w3.heap.size w3 wr)) (fun x12 _=>al.length - (intOf x12).toNat)
    case atStart=>exact ⟨0,Nat.zero_le _,rfl,(fun i hi=>by simp at hi),bR⟩
    case round=>
     obtain ⟨j,hj,rfl,HWN,HB3r⟩:=hrel;generalize wr=wB at *;have HBB:=Hd (HB3.o.trans (HB3r.o.mono HB3.o.size));have HKSB:=Hd (HKS3.o.stays (HB3r.o.block _ HKS3.o.inside));have HKRB:=Hd (HKR3.o.stays (HB3r.o.block _ HKR3.o.inside));have HK7B:=Hd (HK73.o.stays (HB3r.o.block _ HK73.o.inside));by_cases hjl:j<al.length
     ·have t3:decide (j<al.length)=true:=decide_eq_true hjl;obtain ⟨jb,jo,je,jc⟩:=Row.at_ HRW.o hjl;subst je;have HJL:=Hd hjl;have HTK:Hid (al.take (j+1)=al.take j++[al[j]]):=List.take_succ_eq_append_getElem hjl;have HHI:Hid (has y.t al[j]=true):=(HWA.o _).1 (List.getElem_mem hjl);have hjb:(j:Int)<=1001:=by have:=HWL.o;omega
      generalize al[j]=id at *;have HJC:Hid (w3.cell? ⟨jb,jo+j,none⟩=some (.int .i64 id)):=jc;have HNN:=Hd (worldV_none HYO.o (fun i=>HYG.o.m i) (has_iff.1 HHI.o));have FT:Hid (∀ W,Below wB.heap.size wB W->Blk W z (Vb wi hei M Ay y.t.length cy my)):=fun W hr=>HK7B.o.blk.below' hr
      have FJ:Hid (∀ W,Below wB.heap.size wB W->W.cell? ⟨jb,jo+j,none⟩=some (.int .i64 id)∧jb<W.heap.size):=fun W hr=>by
       have hlt0:=World.block_lt_of_cell? w3 _ HJC.o;have h1:=HB3r.o.trans (hr.mono HB3r.o.size);exact ⟨(h1.cell (p:=⟨jb,_,none⟩) hlt0).trans HJC.o,Nat.lt_of_lt_of_le hlt0 h1.size⟩
      have FC:Hid (∀ W,Below wB.heap.size wB W->Calls prog 49 #[.agg (Vb wi hei M Ay y.t.length cy my).toArray,.int .i64 id] W fun e w'=>e=.returned (.tuple #[.agg (worldV y.t y.nd id).1.cs.toArray,.bool (worldV y.t y.nd id).2])∧Below W.heap.size W w'):=fun W hr=>by
       have h1:=HB3r.o.trans (hr.mono HB3r.o.size);exact dworld_any wi hei M (.slice Ay y.t.length cy) y.t my y.nd HYO.o (by have:=HYN.o;omega) (depth y.t id) id W (HT73.o.below h1) (HM73.o.below h1) HHI.o nR
      obtain ⟨qv,hqv⟩:∃ qv,worldV y.t y.nd id=qv:=⟨_,rfl⟩
      rw [hqv] at FC HNN;clear hqv jc hjl hj
      go_upto_region 15 with (fail)
      refine wRv (Below wB.heap.size) (fun L V wx=>JN wB.heap.size [] (Vd) (qv.1.cs) (L 9) (L 10) (V 13) wx) [52,53,54,55,56,57,51,58,59,13,14] (fun _=>bR) (fun _ _ _ h k=>h.trans k) (fun i=>match i with
       |0=>rV (.agg ((Vb wi hei M Ay y.t.length cy my)).toArray)
       |1=>rV (.slice (some ⟨jb,jo,none⟩) al.length vc)
       |2=>rV (.int .i64 (j:Nat))
       |3=>rV (.pointer (some ⟨jb,(jo+j),none⟩))
       |4=>rV (.int .i64 id)
       |5|6=>rV (.tuple #[.agg (qv.1.cs).toArray,.bool qv.2])
       |7=>rV (.agg (qv.1.cs).toArray)
       |8|11=>rV (.bool qv.2)
       | _=>ra) (bR.drew) (JN.start (old:=[]) trivial) ⟨?_,?_,?_,?_,?_,?_,?_,?_,?_,?_,?_,?_,trivial⟩ ?_
      any_goals (first|refine zpv fun L a w1 hh=>?_|fail)
      ·have h7:=hh.p 7 z 0;have hB:=Hd (FT.o _ hh.rel);have hJ:=Hd hh.st;exact wp_take 34 _ rfl z 0 (by simpa [go_sem] using h7) _ hB.o ((Vb wi hei M Ay y.t.length cy my)) rfl _ underlying34 rfl (by kernel_rfl) ⟨_,rfl,bR,rfl,JN.slots hJ.o sn⟩
      have h11:=hh.o 11 (v:=.slice (some ⟨jb,jo,none⟩) al.length vc) rfl;rotate_left;have h12:=hh.o 12 (v:=.int .i64 (j:Nat)) rfl;rotate_left
      ·have h53:=rq (hh.d 1 53);have h54:=rq (hh.d 2 54);obtain ⟨-,li⟩:=FJ.o _ hh.rel;have hlt:=HJL.o;have hJ:=hh.j;clear hh;go_simp;exact ⟨_,rfl,bR,rfl,JN.slots hJ.o sn⟩
      ·have h55:=rq (hh.d 3 55);obtain ⟨c0,li⟩:=FJ.o _ hh.rel;have hJ:=hh.j;clear hh;go_simp;exact ⟨_,rfl,bR,rfl,JN.slots hJ.o sn⟩
      ·have h52:=rq (hh.d 0 52);have h56:=rq (hh.d 4 56);have hC:=Hd (FC.o _ hh.rel);have hJ:=hh.j;clear hh;go_simp;refine hC.o.mono ?_;rintro e w9 ⟨rfl,hb9⟩;exact ⟨_,rfl,hb9.mono hJ.o.1.2.1,rfl,JN.slots (JN.below hJ.o hb9) sn⟩
      have h57:=rq (hh.d 5 57);rotate_left;have h51:=rq (hh.d 6 51);rotate_left;have h51:=rq (hh.d 6 51);rotate_left
      ·have hJ:=Hd hh.st;have hsz:=Hd hh.size;have hun:=Hd hh.un;clear hh;go_simp;exact ⟨_,rfl,bR.alloc hJ.o.1.2.1 _,trivial,JN.new hJ.o hun.o (regv.sl_same (by rw [hsz.o];simp))⟩
      ·have h58:=rq (hh.d 7 58);have hup:=hh.up 9 (by kernel_rfl);obtain ⟨g9,h9,hg9,hB9⟩:=hh.st.2.1 hup;have h13:a.tmps[13]?.getD undef=.pointer (some ⟨g9,0,none⟩):=rq (h9);rw [hh.un] at hB9;have hJ:=Hd hh.st;have hun:=Hd hh.un;refine wp_stow 47 _ _ rfl g9 0 (by simpa [go_sem] using h13) (qv.1.cs) (by simpa [go_sem] using h58) _ hB9 (nE rfl) (by kernel_rfl) (by rfl) ?_;intro w9 hW9 hC9;have hP:=hJ.o.stow hup hun.o h9 hW9 hC9 rfl;exact ⟨undef,rfl,hP.2,trivial,hP.1⟩
      have h59:=rq (hh.d 8 59);rotate_left
      any_goals (have hJ:=hh.j;clear hh;go_simp;exact ⟨_,rfl,bR,rfl,JN.slots hJ.o sn⟩)
      intro L w5 val hL hJ hR hv;have h14:val 14=.bool qv.2:=hv 11 14 (by kernel_rfl);have HR5:=Hd hR;clear hv hL hJ hR;simp only [regs.putAll,List.map_cons,List.map_nil,h14];simp only [Act.put,List.setIfInBounds_toArray,List.set_cons_zero,List.set_cons_succ];clear h14
      skip
      have HB5:Hid (Below w3.heap.size w3 w5):=HB3r.o.trans (HR5.o.mono HB3r.o.size);have HBB5:=Hd (HB3.o.trans (HB5.o.mono HB3.o.size));have HKS5:=Hd (HKSB.o.stays (HR5.o.block _ HKSB.o.inside));have HKR5:=Hd (HKRB.o.stays (HR5.o.block _ HKRB.o.inside));obtain ⟨qm,qb⟩:=qv;clear HBB HKSB HKRB HK7B FT FJ FC;cases qb with
      | false=>
       have HE2:Hid (R=(x,((l.length:Nat):Int),35)):=HWB.o id HHI.o (HNN.o.2 rfl);go_wp2_with (first | (with_reducible refine gL ?_;first | (refine wt 34 0 rfl rfl rfl HKS5.o.blk ((Vb wi hei M At x.t.length ct m)) rfl underlying34 rfl ?_)) | (with_reducible refine gS ?_;first | (refine wpl_stow 34 _ _ rfl rfl rfl _ 0 rfl ((Vb wi hei M At x.t.length ct m)) rfl (Vf) HKR5.o.blk ((Vb wi hei M At x.t.length ct m)) rfl (nE rfl) (by kernel_rfl) rfl ?_;intro w6 HW6 HK6)));rw [HE2.o]
       exact blk_ret3 rfl rfl rfl rfl HK6.o underlying34 rfl (by kernel_rfl) ⟨_,rfl,(HD.o.below HBB5.o).wrote HKR5.o (by decide) (by unfold noPx;simp) HW6.o,HW6.o.below HBB5.o (by omega)⟩
      | true=>
       have HWN2:Hid (∀ i∈al.take (j+1),worldOf y.t y.nd i≠none):=fun i hi=>by
        rw [HTK.o] at hi;rcases List.mem_append.1 hi with h1 | h1
        ·exact HWN.o i h1
        ·rw [List.mem_singleton.1 h1];exact fun e=>by have h:=HNN.o.1 e;simp at h
       go_wp2_with (fail)
       go_roundw
       case rel=>exact ⟨j+1,HJL.o,by go_num,HWN2,HB5⟩
       case measure=>have:=HJL.o;simp [intOf];omega
     ·obtain rfl:j=al.length:=by omega
      have t3:decide (al.length<al.length)=false:=by simp
      have HE2:Hid (R=((setSt y).1,((l.length:Nat):Int),0)):=HWG.o fun i hi=>HWN.o i (by rw [List.take_length];exact (HWA.o i).2 hi);have HDY:Hid (DocAt wB (.agg (Vb wi hei M Ay y.t.length cy my).toArray) wi hei M (setSt y).1):=(DBlk.doc (HT73.o.below HB3r.o) (HM73.o.below HB3r.o)).like2 (setSt_self y);clear hjl hj
      go_wp2_with (first | (with_reducible refine gL ?_;first | (refine wt 34 0 rfl rfl rfl HK7B.o.blk ((Vb wi hei M Ay y.t.length cy my)) rfl underlying34 rfl ?_)) | (with_reducible refine gS ?_;first | (refine wpl_stow 34 _ _ rfl rfl rfl _ 0 rfl ((Vb wi hei M Ay y.t.length cy my)) rfl (Vf) HKRB.o.blk ((Vb wi hei M Ay y.t.length cy my)) rfl (nE rfl) (by kernel_rfl) rfl ?_;intro w6 HW6 HK6)));rw [HE2.o]
      exact blk_ret3 rfl rfl rfl rfl HK6.o underlying34 rfl (by kernel_rfl) ⟨_,rfl,(HDY.o).wrote HKRB.o (by decide) (by unfold noPx;simp) HW6.o,HW6.o.below HBB.o (by omega)⟩
end
section
open Go.RowKit pxm imm
theorem SOwn.ge {α:Type} {T:TypeId} {k:Nat} {enc:α->List Value} {w:World} {base n c:Nat} {A:Option Addr} {l:List α} (h:SOwn T k enc w base (.slice A n c) l) {a:Addr} (e:A=some a):base<=a.block∧∃ cs fz,w.heap[a.block]?=some (.cells cs T fz):=by
 rcases h.2 with ⟨e2,_⟩ | ⟨g,cap,cur,e2,hg,hb,_⟩
 ·injection e2 with e3 _ _
  rw [e] at e3;cases e3
 ·injection e2 with e3 _ _
  rw [e] at e3
  injection e3 with e3
  rw [e3];exact ⟨hg,cur,_,hb⟩
def RefQ3 (m:Mp) (op:Int) (hi cl:Bool) (r:Bx) (k W H:Int) (p:Nat) (iw ih:Int) (l:List Nat) (w:World) (e:Ending) (w':World):Prop:=∃ A9 cap,e=.returned (ndV m op hi cl r k W H p iw ih A9 l.length cap)∧Row eW w' A9 l∧l.length<=cap∧cap<=maxLen∧Below w.heap.size w w'∧∀ a,A9=some a->w.heap.size<=a.block∧∃ cs fz,w'.heap[a.block]?=some (.cells cs 49 fz)
theorem ref_any3 (m:Mp) (op:Int) (hi cl:Bool) (r:Bx) (k W H:Int) (p:Nat) (iw ih:Int) (A:Option Addr) (l:List Nat) (c:Nat) (w:World) (hr:Row eW w A l) (hn:l.length<=20000000):Calls prog 50 #[ndV m op hi cl r k W H p iw ih A l.length c] w (RefQ3 m op hi cl r k W H p iw ih l w):=by
 have HR:=Hd hr;unfold RefQ3;clear hr;unfold ndV at *;obtain ⟨ma,mb,mc,md,me,mf⟩:=m;obtain ⟨x0,y0,x1,y1⟩:=r;simp only;have HB0:Hid (Below w.heap.size w ((w.alloc (.cells (Vc ma mb mc md me mf op hi cl x0 y0 x1 y1 k W H p iw ih A l.length c).toArray 93)).alloc (.cells Va.toArray 54))):=(bR.alloc nR _).alloc (by simp) _
 have HK0:Hid (Blk ((w.alloc (.cells (Vc ma mb mc md me mf op hi cl x0 y0 x1 y1 k W H p iw ih A l.length c).toArray 93)).alloc (.cells Va.toArray 54)) w.heap.size (Vc ma mb mc md me mf op hi cl x0 y0 x1 y1 k W H p iw ih A l.length c)):=(blk_new w (Vc ma mb mc md me mf op hi cl x0 y0 x1 y1 k W H p iw ih A l.length c) _).alloc _;have HKr0:Hid (Blk ((w.alloc (.cells (Vc ma mb mc md me mf op hi cl x0 y0 x1 y1 k W H p iw ih A l.length c).toArray 93)).alloc (.cells Va.toArray 54)) (w.heap.size+1) Va):=blk_at (w.alloc _) _ (by simp) Va _
 have HSZ:((w.alloc (.cells (Vc ma mb mc md me mf op hi cl x0 y0 x1 y1 k W H p iw ih A l.length c).toArray 93)).alloc (.cells Va.toArray 54)).heap.size=w.heap.size+2:=by simp
 go_enter func50,ntmps50
 go_upto_region 1 with (fail)
 generalize ((w.alloc (.cells (Vc ma mb mc md me mf op hi cl x0 y0 x1 y1 k W H p iw ih A l.length c).toArray 93)).alloc (.cells Va.toArray 54))=wz at *;have HK1:Hid (Blk (wz.alloc (.cells Vd.toArray 65)) w.heap.size (Vc ma mb mc md me mf op hi cl x0 y0 x1 y1 k W H p iw ih A l.length c)):=HK0.o.alloc _;have HKr1:Hid (Blk (wz.alloc (.cells Vd.toArray 65)) (w.heap.size+1) Va):=HKr0.o.alloc _;have HKm1:Hid (Blk (wz.alloc (.cells Vd.toArray 65)) (w.heap.size+2) Vd):=blk_at wz _ HSZ.symm Vd _;have HB1:Hid (Below w.heap.size w (wz.alloc (.cells Vd.toArray 65))):=HB0.o.alloc (by omega) _
 have HSZ1:(wz.alloc (.cells Vd.toArray 65)).heap.size=w.heap.size+3:=by simp;omega
 go_upto_region 2 with (first | (with_reducible refine gL ?_;first | (refine wt 65 0 rfl rfl rfl HK0.o (Vh ma mb mc md me mf) rfl underlying65 rfl ?_)) | (with_reducible refine gS ?_;first | (refine wpl_stow 65 _ _ rfl rfl rfl _ 0 rfl (Vh ma mb mc md me mf) rfl _ HKm1.o (Vh ma mb mc md me mf) rfl (by simp) (by kernel_rfl) rfl ?_;intro w2 HW2 HKm2)))
 have HK2:=Hd (HW2.o.blk (by omega) HK1.o);have HKr2:=Hd (HW2.o.blk (by omega) HKr1.o);have HB2:=Hd (HW2.o.below HB1.o (by omega));have HSZ2:w2.heap.size=w.heap.size+3:=HW2.o.size.trans HSZ1;clear HW2 HK1 HKr1 HKm1 HB1 HSZ1 HB0 HK0 HKr0 HSZ;have HK3:Hid (Blk (w2.alloc (.cells Va.toArray 54)) w.heap.size (Vc ma mb mc md me mf op hi cl x0 y0 x1 y1 k W H p iw ih A l.length c)):=HK2.o.alloc _;have HKr3:Hid (Blk (w2.alloc (.cells Va.toArray 54)) (w.heap.size+1) Va):=HKr2.o.alloc _
 have HKo3:Hid (Blk (w2.alloc (.cells Va.toArray 54)) (w.heap.size+3) Va):=blk_at w2 _ HSZ2.symm Va _;have HB3:Hid (Below w.heap.size w (w2.alloc (.cells Va.toArray 54))):=HB2.o.alloc (by omega) _;have HSZ3:(w2.alloc (.cells Va.toArray 54)).heap.size=w.heap.size+4:=by simp;omega
 have c6:=HK2.o.c 6 rfl;have c7:=HK2.o.c 7 rfl;have c8:=HK2.o.c 8 rfl;have c9:=HK2.o.c 9 rfl;have c10:=HK2.o.c 10 rfl;have c11:=HK2.o.c 11 rfl;have c12:=HK2.o.c 12 rfl;have c13:=HK2.o.c 13 rfl;have c14:=HK2.o.c 14 rfl;have c15:=HK2.o.c 15 rfl;have c16:=HK2.o.c 16 rfl;have c17:=HK2.o.c 17 rfl;have c18:=HK2.o.c 18 rfl;have d0:w2.cell? ⟨(w.heap.size+2),0,none⟩=some (.int .i64 ma):=HKm2.o.cell 0;have d1:w2.cell? ⟨(w.heap.size+2),1,none⟩=some (.int .i64 mb):=HKm2.o.cell 1;have d2:w2.cell? ⟨(w.heap.size+2),2,none⟩=some (.int .i64 mc):=HKm2.o.cell 2
 have d3:w2.cell? ⟨(w.heap.size+2),3,none⟩=some (.int .i64 md):=HKm2.o.cell 3;have d4:w2.cell? ⟨(w.heap.size+2),4,none⟩=some (.int .i64 me):=HKm2.o.cell 4;have d5:w2.cell? ⟨(w.heap.size+2),5,none⟩=some (.int .i64 mf):=HKm2.o.cell 5;have hlt:w.heap.size<w2.heap.size:=by omega
 have hlt2:w.heap.size+2<w2.heap.size:=by omega
 go_upto_region 3 with (first | (with_reducible refine gS ?_;first | (refine wpl_stow 54 _ _ rfl rfl rfl _ 0 rfl [.int .i64 ma,.int .i64 mb,.int .i64 mc,.int .i64 md,.int .i64 me,.int .i64 mf,.int .i64 op,.bool hi,.bool cl,.int .i64 x0,.int .i64 y0,.int .i64 x1,.int .i64 y1,.int .i64 k,.int .i64 W,.int .i64 H,.int .u32 (p:Nat),.int .i64 iw,.int .i64 ih,.slice none 0 0] rfl _ HKo3.o [.int .i64 ma,.int .i64 mb,.int .i64 mc,.int .i64 md,.int .i64 me,.int .i64 mf,.int .i64 op,.bool hi,.bool cl,.int .i64 x0,.int .i64 y0,.int .i64 x1,.int .i64 y1,.int .i64 k,.int .i64 W,.int .i64 H,.int .u32 (p:Nat),.int .i64 iw,.int .i64 ih,.slice none 0 0] rfl (by simp) (by kernel_rfl) rfl ?_;intro w4 HW4 HKo4)))
 have HK4:=Hd (HW4.o.blk (by omega) HK3.o);have HKr4:=Hd (HW4.o.blk (by omega) HKr3.o);have HB4:=Hd (HW4.o.below HB3.o (by omega));have HSZ4:w4.heap.size=w.heap.size+4:=HW4.o.size.trans HSZ3;clear HW4 HK3 HKr3 HKo3 HB3 HSZ3 HB2 HK2 HKr2 HSZ2 HKm2 c6 c7 c8 c9 c10 c11 c12 c13 c14 c15 c16 c17 c18 d0 d1 d2 d3 d4 d5 hlt hlt2;have c19:=HK4.o.c 19 rfl;have hlt:w.heap.size<w4.heap.size:=by omega
 go_wp2_with (fail);clear c19 hlt HK4
 go_loopw [68] (fun i wr=>∃ (k0:Nat) (A9:Option Addr) (c9:Nat),k0<=l.length∧i=.int .i64 k0∧Hid (WOwn wr (w.heap.size+4) (.slice A9 k0 c9) (l.take k0))∧Hid (Blk wr (w.heap.size+3) (Vc ma mb mc md me mf op hi cl x0 y0 x1 y1 k W H p iw ih A9 k0 c9))∧Hid (Blk wr (w.heap.size+1) Va)∧Hid (Below w.heap.size w wr)∧Hid (w.heap.size+4<=wr.heap.size)) (fun i _=>l.length - (intOf i).toNat)
 case atStart=>exact ⟨0,none,0,Nat.zero_le _,rfl,SOwn.nil _ _,HKo4.o,HKr4.o,HB4.o,Nat.le_of_eq HSZ4.symm⟩
 case round=>
  clear HKo4 HKr4 HB4 HSZ4;obtain ⟨k0,A9,c9,hk,rfl,HO,HKo,HKr,HB,HS⟩:=hrel;by_cases hlt:k0<l.length
  ·have t:decide (k0<l.length)=true:=by simpa using hlt
   obtain ⟨b,off,rfl,hc⟩:=(HR.o.below HB.o).at_ hlt;have hlk:(l.take k0).length=k0:=by rw [List.length_take];omega
   have HT:=Hd (List.take_succ_eq_append_getElem hlt);generalize l[k0]=z at *;unfold eW at hc;obtain ⟨A8,c8,w6,hrun,ho,hb⟩:=wown_app HO.o z (by omega) HS.o rfl;rw [hlk] at hrun ho;have HO6:Hid (WOwn w6 (w.heap.size+4) (.slice A8 (k0+1) c8) (l.take (k0+1))):=by rw [HT.o];exact ho
   have HKo6:=Hd (HKo.o.below hb (by omega));have HKr6:=Hd (HKr.o.below hb (by omega));have HB6:=Hd (HB.o.trans (hb.mono (by omega)));have HS6:Hid (w.heap.size+4<=w6.heap.size):=Nat.le_trans HS.o hb.size;have c19:=HKo.o.c 19 rfl;have hlt3:w.heap.size+3<wr.heap.size:=by have:=HS.o;omega
   have d19:w6.cell? ⟨w.heap.size+3,19,none⟩=some (.slice A9 k0 c9):=HKo6.o.cell 19;have f19:w6.frozen? ⟨w.heap.size+3,19,none⟩=false:=HKo6.o.free 19;have hlt4:w.heap.size+3<w6.heap.size:=by have:=HS6.o;omega
   clear ho hb HT HO HKo HKr;go_wp2_with (at_builtin;refine wpl_append rfl _ _ 50 50 50 rfl rfl _ _ _ _ rfl rfl hrun ?_;clear hrun)
   go_roundw
   case rel=>
    have hw:Wrote (w.heap.size+3) w6 (w6.setCell ⟨w.heap.size+3,19,none⟩ (.slice A8 (k0+1) c8)):=⟨19,[.slice A8 (k0+1) c8],rfl⟩
    exact ⟨k0+1,A8,c8,by omega,by go_num,HO6.o.stays (fun g hg=>hw.far (by have:=(HO6.o.block hg).1;omega)),HKo6.o.set 19 _,hw.blk (by omega) HKr6.o,hw.below HB6.o (by omega),by rw [hw.size];exact HS6.o⟩
   case measure=>simp [intOf];omega
  ·obtain rfl:k0=l.length:=by omega
   have HO2:Hid (WOwn wr (w.heap.size+4) (.slice A9 l.length c9) l):=by have:=HO.o;rwa [List.take_length] at this
   have t:decide (l.length<l.length)=false:=by simp
   clear HO;go_wp2_with (first | (with_reducible refine gL ?_;first | (refine wt 54 0 rfl rfl rfl HKo.o (Vc ma mb mc md me mf op hi cl x0 y0 x1 y1 k W H p iw ih A9 l.length c9) rfl underlying54 rfl ?_)) | (with_reducible refine gS ?_;first | (refine wpl_stow 54 _ _ rfl rfl rfl _ 0 rfl (Vc ma mb mc md me mf op hi cl x0 y0 x1 y1 k W H p iw ih A9 l.length c9) rfl _ HKr.o (Vc ma mb mc md me mf op hi cl x0 y0 x1 y1 k W H p iw ih A9 l.length c9) rfl (by simp) (by kernel_rfl) rfl ?_;intro w7 HW7 HK7)))
   have HO7:Hid (WOwn w7 (w.heap.size+4) (.slice A9 l.length c9) l):=HO2.o.stays (fun g hg=>HW7.o.far (by have:=(HO2.o.block hg).1;omega));obtain ⟨A7,c7,e7,h1,h2,h3⟩:=HO7.o.row eWs_len
   injection e7 with e1 e2 e3
   subst e1;subst e3
   exact blk_ret rfl rfl HK7.o underlying54 rfl (by kernel_rfl) ⟨A9,c9,rfl,h3.row1,h1,h2,HW7.o.below HB.o (by omega),fun a ea=>by
    obtain ⟨g1,g2⟩:=SOwn.ge HO7.o ea
    exact ⟨by omega,g2⟩⟩
end
section
open Go.RowKit pxm imm trm Go.Maps
structure KX (x:Nat) (A W:World):Prop where
 os:W.os=A.os
 tape:W.tape=A.tape
 output:W.output=A.output
 size:A.heap.size<=W.heap.size
 same:∀ k,k<A.heap.size->k≠x->W.heap[k]?=A.heap[k]?
theorem KX.refl (x:Nat) (A:World):KX x A A:=⟨rfl,rfl,rfl,nR,fun _ _ _=>rfl⟩
theorem KX.trans {x:Nat} {A B C:World} (h:KX x A B) (k:KX x B C):KX x A C:=⟨k.os.trans h.os,k.tape.trans h.tape,k.output.trans h.output,Nat.le_trans h.size k.size,fun j hj hn=>(k.same j (Nat.lt_of_lt_of_le hj h.size) hn).trans (h.same j hj hn)⟩
theorem KX.of_below {x:Nat} {A W:World} (hb:Below A.heap.size A W):KX x A W:=⟨hb.os,hb.tape,hb.output,hb.size,fun k hk _=>hb.block k hk⟩
theorem KX.to_below {x n:Nat} {A W:World} (h:KX x A W) (hn:n<=x) (hs:n<=A.heap.size):Below n A W:=⟨h.os,h.tape,h.output,h.size,fun k hk=>h.same k (by omega) (by omega)⟩
theorem KX.wrote {x:Nat} {A W:World} (hW:Wrote x A W):KX x A W:=by
 have hb:=hW.below (Below.refl 0 A) (Nat.zero_le _);exact ⟨hb.os,hb.tape,hb.output,hb.size,fun k _ hn=>hW.far hn⟩
theorem build_refn (o:Op9) (A:Option Addr) (c:Nat) (w:World):(Instr.build 93 #[(0,.agg o.m.cs.toArray),(1,.int .i64 o.N),(2,.bool o.on),(3,.bool o.on),(4,.agg o.r.cs4.toArray),(5,.agg (o.lk.cs A c).toArray)]).run prog w=.ok (.agg ((refN o).cs A c).toArray) w:=by kernel_rfl
theorem build_dop (o:Op9) (A:Option Addr) (c:Nat) (w:World):(Instr.build 193 #[(0,.int .i64 o.k),(1,.int .i64 o.i),(2,.int .i64 o.p),(3,.int .i64 o.n),(4,.agg ((refN o).cs A c).toArray)]).run prog w=.ok (.agg (o.dcs A c).toArray) w:=by kernel_rfl
structure RJ (r:Nat) (o:Op9) (d:Bool) (w:World):Prop where
 no:d=false->Blk w r Vk
 yes:d=true->∃ A c,Blk w r (o.dcs A c)∧PxR w A o.lk.l∧∀ a,A=some a->r<a.block
theorem RJ.below {r:Nat} {o:Op9} {d:Bool} {w w':World} (h:RJ r o d w) (hb:Below w.heap.size w w'):RJ r o d w':=⟨fun e=>(h.no e).below' hb,fun e=>by
 obtain ⟨A,c,h1,h2,h3⟩:=h.yes e
 exact ⟨A,c,h1.below' hb,h2.below hb,h3⟩⟩
def RefOpQ (o:Op9) (w:World) (e:Ending) (w':World):Prop:=∃ A c,e=.returned (.agg (o.dcs A c).toArray)∧PxR w' A o.lk.l∧(∀ a,A=some a->w.heap.size<=a.block)∧Below w.heap.size w w'
theorem refop_any (o:Op9) (Ao:Option Addr) (co:Nat) (w:World) (hr:Row eW w Ao o.lk.l) (hn:o.lk.l.length<=20000000) :
  Calls prog 81 #[.agg (o.cs Ao co).toArray] w (RefOpQ o w):=by
 have HR:=Hd hr;have HN:=Hd hn;unfold RefOpQ;clear hr hn;have HB0:Hid (Below w.heap.size w ((w.alloc (.cells (o.cs Ao co).toArray 99)).alloc (.cells Vk.toArray 193))):=(bR.alloc nR _).alloc (by simp) _;have HKo:Hid (Blk ((w.alloc (.cells (o.cs Ao co).toArray 99)).alloc (.cells Vk.toArray 193)) w.heap.size (o.cs Ao co)):=(blk_new w (o.cs Ao co) _).alloc _;have HKr:Hid (Blk ((w.alloc (.cells (o.cs Ao co).toArray 99)).alloc (.cells Vk.toArray 193)) (w.heap.size+1) Vk):=blk_at (w.alloc _) _ (by simp) Vk _;go_enter func81,ntmps81
 go_upto_region 1 with (fail)
 generalize ((w.alloc (.cells (o.cs Ao co).toArray 99)).alloc (.cells Vk.toArray 193))=w0 at *
 obtain ⟨kr,hkr⟩:∃ kr,w.heap.size+1=kr:=⟨_,rfl⟩
 have HKR:Hid (w.heap.size<kr):=by show _<_;omega
 rw [hkr] at HKr ⊢;clear hkr;have FO:Hid (∀ W,KX kr w0 W->Blk W w.heap.size (o.cs Ao co)):=fun W hk=>HKo.o.stays (hk.same _ HKo.o.inside (Nat.ne_of_lt HKR.o));have FK:Hid (∀ W,KX kr w0 W->kr<W.heap.size):=fun W hk=>Nat.lt_of_lt_of_le HKr.o.inside hk.size
 have FC:Hid (∀ W,KX kr w0 W->Calls prog 50 #[.agg ((refN o).cs Ao co).toArray] W fun e w'=>∃ A9 c9,e=.returned (.agg ((refN o).cs A9 c9).toArray)∧PxR w' A9 o.lk.l∧(∀ a,A9=some a->W.heap.size<=a.block)∧Below W.heap.size W w'):=fun W hk=>by
  refine (ref_any3 o.m o.N o.on o.on o.r o.lk.k o.lk.W o.lk.H o.lk.p o.lk.iw o.lk.ih Ao o.lk.l co W (Row.below HR.o (HB0.o.trans (hk.to_below (Nat.le_of_lt HKR.o) HB0.o.size))) HN.o).mono ?_;rintro e w' ⟨A9,c9,h1,h2,-,-,h5,h6⟩;exact ⟨A9,c9,h1,⟨h2,fun a ea _=>(h6 a ea).2⟩,fun a ea=>(h6 a ea).1,h5⟩
 refine wR (KX kr) (fun L wx=>RJ kr o (L 23) wx) [3,4,5,6,7,8,9,10,11,12,13,14,15,16,17,18,19,20,21,22,23,24,25] (fun _=>KX.refl _ _) (fun _ _ _ h k=>h.trans k) (fun i=>match i with
  |0=>rp w.heap.size 0
  |1=>rV (.int .i64 o.k)
  |2=>rp w.heap.size 1
  |3=>rV (.int .i64 o.i)
  |4=>rp w.heap.size 2
  |5=>rV (.int .i64 o.p)
  |6=>rp w.heap.size 3
  |7=>rV (.int .i64 o.n)
  |8=>rp w.heap.size 4
  |9=>rV (.agg (o.m.cs).toArray)
  |10=>rp w.heap.size 15
  |11=>rV (.int .i64 o.N)
  |12|14=>rp w.heap.size 14
  |13|15=>rV (.bool o.on)
  |16=>rp w.heap.size 10
  |17=>rV (.agg (o.r.cs4).toArray)
  |18=>rp w.heap.size 16
  |19=>rV (.agg (o.lk.cs Ao co).toArray)
  |20=>rV (.agg ((refN o).cs Ao co).toArray)
  | 21=>(⟨fun v wv=>∃ A c,v=.agg ((refN o).cs A c).toArray∧PxR wv A o.lk.l∧∀ a,A=some a->kr<a.block,fun v w1 w2 h hb=>h.elim fun A h=>h.elim fun c h=>⟨A,c,h.1,h.2.1.stays fun a ea hne=>hb.same _ (Row.lt h.2.1.row ea hne) (Nat.ne_of_gt (h.2.2 a ea)),h.2.2⟩⟩:regs.Say (KX kr))
  | 22=>(⟨fun v wv=>∃ A c,v=.agg (o.dcs A c).toArray∧PxR wv A o.lk.l∧∀ a,A=some a->kr<a.block,fun v w1 w2 h hb=>h.elim fun A h=>h.elim fun c h=>⟨A,c,h.1,h.2.1.stays fun a ea hne=>hb.same _ (Row.lt h.2.1.row ea hne) (Nat.ne_of_gt (h.2.2 a ea)),h.2.2⟩⟩:regs.Say (KX kr))
  | _=>ra) (KX.of_below bR.drew) (⟨fun _=>HKr.o.below' bR.drew,nofun⟩) ⟨?_,?_,?_,?_,?_,?_,?_,?_,?_,?_,?_,?_,?_,?_,?_,?_,?_,?_,?_,?_,?_,?_,?_,?_,trivial⟩ ?_
 any_goals (first|refine zp fun L a w1 hh=>?_|fail)
 have h1:=hh.p 1 w.heap.size 0;have i0:=(FO.o _ hh.rel).inside;rotate_left;have h3:=rq (hh.d 0 3);have ⟨c0,i0⟩:=(FO.o _ hh.rel).ci 0 rfl;rotate_left;have h1:=hh.p 1 w.heap.size 0;have i0:=(FO.o _ hh.rel).inside;rotate_left;have h5:=rq (hh.d 2 5);have ⟨c0,i0⟩:=(FO.o _ hh.rel).ci 1 rfl;rotate_left;have h1:=hh.p 1 w.heap.size 0;have i0:=(FO.o _ hh.rel).inside;rotate_left;have h7:=rq (hh.d 4 7);have ⟨c0,i0⟩:=(FO.o _ hh.rel).ci 2 rfl;rotate_left;have h1:=hh.p 1 w.heap.size 0;have i0:=(FO.o _ hh.rel).inside;rotate_left;have h9:=rq (hh.d 6 9);have ⟨c0,i0⟩:=(FO.o _ hh.rel).ci 3 rfl
 rotate_left;have h1:=hh.p 1 w.heap.size 0;have i0:=(FO.o _ hh.rel).inside;rotate_left
 ·have h11:=rq (hh.d 8 11);have hB:=Hd (FO.o _ hh.rel);have hJ:=Hd hh.st;exact wp_take 65 _ rfl w.heap.size 4 (by simpa [go_sem] using h11) _ hB.o (o.m.cs) rfl _ underlying65 rfl (by kernel_rfl) ⟨_,rfl,KX.refl _ _,rfl,hJ.o⟩
 have h1:=hh.p 1 w.heap.size 0;have i0:=(FO.o _ hh.rel).inside;rotate_left;have h13:=rq (hh.d 10 13);have ⟨c0,i0⟩:=(FO.o _ hh.rel).ci 15 rfl;rotate_left;have h1:=hh.p 1 w.heap.size 0;have i0:=(FO.o _ hh.rel).inside;rotate_left;have h15:=rq (hh.d 12 15);have ⟨c0,i0⟩:=(FO.o _ hh.rel).ci 14 rfl;rotate_left;have h1:=hh.p 1 w.heap.size 0;have i0:=(FO.o _ hh.rel).inside;rotate_left;have h17:=rq (hh.d 14 17);have ⟨c0,i0⟩:=(FO.o _ hh.rel).ci 14 rfl;rotate_left;have h1:=hh.p 1 w.heap.size 0;have i0:=(FO.o _ hh.rel).inside;rotate_left
 ·have h19:=rq (hh.d 16 19);have hB:=Hd (FO.o _ hh.rel);have hJ:=Hd hh.st;exact wp_take 91 _ rfl w.heap.size 10 (by simpa [go_sem] using h19) _ hB.o (o.r.cs4) rfl _ underlying91 rfl (by kernel_rfl) ⟨_,rfl,KX.refl _ _,rfl,hJ.o⟩
 have h1:=hh.p 1 w.heap.size 0;have i0:=(FO.o _ hh.rel).inside;rotate_left
 ·have h21:=rq (hh.d 18 21);have hB:=Hd (FO.o _ hh.rel);have hJ:=Hd hh.st;exact wp_take 74 _ rfl w.heap.size 16 (by simpa [go_sem] using h21) _ hB.o (o.lk.cs Ao co) rfl _ underlying74 rfl (by kernel_rfl) ⟨_,rfl,KX.refl _ _,rfl,hJ.o⟩
 ·have h12:=rq (hh.d 9 12);have h14:=rq (hh.d 11 14);have h16:=rq (hh.d 13 16);have h18:=rq (hh.d 15 18);have h20:=rq (hh.d 17 20);have h22:=rq (hh.d 19 22);have hJ:=Hd hh.st;exact wp_build _ _ rfl (by simp [go_sem,h12,h14,h16,h18,h20,h22]) (build_refn o Ao co w1) ⟨_,rfl,KX.refl _ _,rfl,hJ.o⟩
 ·have h23:=rq (hh.d 20 23);have hC:=Hd (FC.o w1 hh.rel);have hkr:=Hd (FK.o w1 hh.rel);have hJ:=hh.j;clear hh;go_simp;refine hC.o.mono ?_;rintro e w9 ⟨A9,c9,rfl,hr9,hg9,hb9⟩;exact ⟨_,rfl,KX.of_below hb9,⟨A9,⟨c9,rfl⟩,hr9,fun a ea=>by have:=hg9 a ea;have:=hkr.o;omega⟩,hJ.o.below hb9⟩
 ·have h4:=rq (hh.d 1 4);have h6:=rq (hh.d 3 6);have h8:=rq (hh.d 5 8);have h10:=rq (hh.d 7 10)
  obtain ⟨A8,c8,e8,hr8,hg8⟩:=(show ∃ A c,(a.tmps.getD 24 undef)=.agg ((refN o).cs A c).toArray∧PxR w1 A o.lk.l∧∀ a,A=some a->kr<a.block from hh.d 21 24)
  have h24:a.tmps[24]?.getD undef=.agg ((refN o).cs A8 c8).toArray:=rq (e8);have hJ:=Hd hh.st;exact wp_build _ _ rfl (by simp [go_sem,h4,h6,h8,h10,h24]) (build_dop o A8 c8 w1) ⟨_,rfl,KX.refl _ _,⟨A8,c8,rfl,hr8,hg8⟩,hJ.o⟩
 ·have h2:=hh.p 2 kr 0
  obtain ⟨A8,c8,e8,hr8,hg8⟩:=(show ∃ A c,(a.tmps.getD 25 undef)=.agg (o.dcs A c).toArray∧PxR w1 A o.lk.l∧∀ a,A=some a->kr<a.block from hh.d 22 25)
  have h25:a.tmps[25]?.getD undef=.agg (o.dcs A8 c8).toArray:=rq (e8);have hB8:=hh.st.no hh.un;refine wp_stow 193 _ _ rfl kr 0 (by simpa [go_sem] using h2) (o.dcs A8 c8) (by simpa [go_sem] using h25) _ hB8 (nE rfl) (by kernel_rfl) (by rfl) ?_;intro w9 hW9 hB9;exact ⟨undef,rfl,KX.wrote hW9,trivial,⟨nofun,fun _=>⟨A8,c8,hB9,hr8.stays fun a ea hne=>hW9.far (Nat.ne_of_gt (hg8 a ea)),hg8⟩⟩⟩
 any_goals (have hJ:=hh.j;clear hh;go_simp;exact ⟨_,rfl,KX.refl _ _,rfl,hJ.o⟩)
 intro L w4 val hL hJ hR hv;have HR4:=Hd hR;obtain ⟨A9,c9,hb9,hr9,hg9⟩:=hJ.yes (hL 23 (by decide));have HB9:=Hd hb9;have HR9:=Hd hr9;have HG9:=Hd hg9;clear hv hL hJ hR hb9 hr9 hg9;simp only [regs.putAll,List.map_cons,List.map_nil];simp only [Act.put,List.setIfInBounds_toArray,List.set_cons_zero,List.set_cons_succ]
 skip
 go_wp2_with (fail);exact blk_ret rfl rfl HB9.o underlying193 rfl (by kernel_rfl) ⟨A9,c9,rfl,HR9.o,fun a ea=>by have:=HG9.o a ea;have:=HKR.o;omega,HB0.o.trans (HR4.o.to_below (Nat.le_of_lt HKR.o) HB0.o.size)⟩
abbrev tDOp:TypeId:=193
abbrev tDOps:TypeId:=125
abbrev DOwn (w:World) (base:Nat) (v:Value) (l:List OpR):Prop:=SOwn tDOp 24 OpR.dcs w base v l
theorem OpR.dcs_plain (q:OpR):∀ u∈q.dcs,u.oneCell'=true:=by
 have h:q.dcs.all (·.oneCell')=true:=rfl;exact fun u hu=>List.all_eq_true.1 h u hu
theorem info_dop:(prog.info? tDOp).map (fun i=>(i.zero,i.size,i.bytes))=some (some (.agg Vk.toArray),24,200):=by kernel_rfl
theorem app_dop {w:World} {base:Nat} {v:Value} {l:List OpR} (h:DOwn w base v l) (q:OpR) {c:Nat} (hn:l.length<=900000) (hbase:base<=w.heap.size) :
  ∃ v' w',(Builtin.append_ #[tDOps,tDOps] tDOps #[v,.slice (some ⟨w.heap.size,0,none⟩) 1 c]).run prog (w.alloc (.cells q.dcs.toArray tDOp))=.ok v' w'∧DOwn w' base v' (l++[q]) ∧
   (w.alloc (.cells q.dcs.toArray tDOp)).grownBy w' v.ownBlock∧(v'.ownBlock=v.ownBlock∨v'.ownBlock=some (w.heap.size+1)):=by
 have e:[q].flatMap OpR.dcs=q.dcs:=by simp
 obtain ⟨v',w',h1,h2,h3,h4⟩:=SOwn.app (P:=prog) (xs:=[q]) (c:=c) (g:=w.heap.size) (o:=0) underlying125 info_dop rfl (by decide) (by decide) OpR.dcs_len OpR.dcs_plain
  (h.below (bR.alloc nR (.cells q.dcs.toArray tDOp))) (fun _=>by have:=srow_new (enc:=OpR.dcs) OpR.dcs_len w [q] tDOp rfl;rw [e] at this;exact this) (by simp;omega) (by simp;omega)
 refine ⟨v',w',h1,h2,h3,?_⟩
 simpa using h4
theorem bs_dop (q:OpR) (w:World):(Instr.buildSlice tDOps 1 #[(0,.agg q.dcs.toArray)]).run prog w=.ok (.slice (some ⟨w.heap.size,0,none⟩) 1 1) (w.alloc (.cells q.dcs.toArray tDOp)):=by kernel_rfl
structure Laid (w:World) (base:Nat) (v:Value) (l:List OpR) (os:List Op9):Prop where
 own:DOwn w base v l
 os:l.map (·.o)=os
 px:∀ q∈l,PxR w q.A q.o.lk.l∧∀ a,q.A=some a->q.o.lk.l≠[]->v.ownBlock≠some a.block
theorem Laid.below {w w':World} {base:Nat} {v:Value} {l:List OpR} {os:List Op9} (h:Laid w base v l os) (hb:Below w.heap.size w w'):Laid w' base v l os:=⟨SOwn.below h.own hb,h.os,fun q hq=>⟨(h.px q hq).1.below hb,(h.px q hq).2⟩⟩
theorem Laid.step {w w2:World} {base:Nat} {v:Value} {l:List OpR} {os:List Op9} (h:Laid w base v l os) (hbase:base<=w.heap.size) (hn:l.length<=900000) (hb:Below w.heap.size w w2) {o:Op9} {A:Option Addr} {c:Nat} (hr:PxR w2 A o.lk.l) (hg:∀ a,A=some a->w.heap.size<=a.block) {cc:Nat} :
  ∃ v' w',(Builtin.append_ #[tDOps,tDOps] tDOps #[v,.slice (some ⟨w2.heap.size,0,none⟩) 1 cc]).run prog (w2.alloc (.cells (o.dcs A c).toArray tDOp))=.ok v' w'∧Laid w' base v' (l++[⟨o,A,c⟩]) (os++[o])∧Below base w2 w':=by
 have h2:=h.below hb;obtain ⟨v',w',hrun,ho,hgr,hat⟩:=app_dop h2.own ⟨o,A,c⟩ (c:=cc) hn (Nat.le_trans hbase hb.size);have hal:Below w2.heap.size w2 (w2.alloc (.cells (o.dcs A c).toArray tDOp)):=bR.alloc nR _
 have hown:∀ a,A=some a->v.ownBlock≠some a.block:=fun a ea e=>by
  have h1:=(h.own.block e).2;have:=hg a ea;omega
 have keep:∀ (A':Option Addr) (lk:List Nat),PxR w2 A' lk->(∀ a,A'=some a->lk≠[]->v.ownBlock≠some a.block)->PxR w' A' lk∧∀ a,A'=some a->lk≠[]->v'.ownBlock≠some a.block:=fun A' lk h3 h4=>by
  refine ⟨(h3.below hal).stays fun a ea hne=>hgr.block _ (Row.lt (h3.below hal).row ea hne) (Ne.symm (h4 a ea hne)),fun a ea hne e=>?_⟩;rcases hat with h5 | h5
  ·exact h4 a ea hne (h5 ▸ e)
  ·rw [h5] at e;have h6:=Row.lt h3.row ea hne;have:=Option.some.inj e;omega
 refine ⟨v',w',hrun,⟨ho,by rw [List.map_append,h.os];rfl,fun q hq=>?_⟩,(hal.mono (Nat.le_trans hbase hb.size)).grown hgr (by simp;have:=hb.size;omega) fun j hj=>(h2.own.block hj).1⟩;rcases List.mem_append.1 hq with hq | hq
 ·exact keep _ _ (h2.px q hq).1 (h2.px q hq).2
 ·rw [List.mem_singleton.1 hq];exact keep A o.lk.l hr fun a ea _=>hown a ea
def RefOpsQ (os:List Op9) (w:World) (e:Ending) (w':World):Prop:=∃ A c l,e=.returned (.slice A l.length c)∧OpsD w' A l∧l.map (·.o)=os∧Below w.heap.size w w'
theorem Laid.done {w:World} {base:Nat} {v:Value} {l:List OpR} {os:List Op9} (h:Laid w base v l os):∃ A c,v=.slice A l.length c∧OpsD w A l:=by
 obtain ⟨A,c,e,_,_,hr⟩:=SOwn.row h.own OpR.dcs_len;exact ⟨A,c,e,hr,fun q hq=>(h.px q hq).1⟩
theorem refops_any (l:List OpR) (A:Option Addr) (c:Nat) (w:World) (h:OpsR w A l) (hth:∀ q∈l,q.o.lk.l.length<=300) (hn:l.length<=100000) :
  Calls prog 40 #[.slice A l.length c] w (RefOpsQ (l.map (·.o)) w):=by
 have HOP:=Hd h;have HTH:=Hd hth;have HN:=Hd hn;unfold RefOpsQ;clear h hth hn;go_enter func40,ntmps40;go_wp2_with (fail)
 go_loopw [8,3] (fun x8 x3 wr=>∃ (j:Nat) (l9:List OpR),j<=l.length∧x8=.int .i64 j∧Hid (Laid wr w.heap.size x3 l9 ((l.take j).map (·.o)))∧Hid (Below w.heap.size w wr)) (fun x8 _ _=>l.length - (intOf x8).toNat)
 case atStart=>exact ⟨0,[],Nat.zero_le _,rfl,⟨SOwn.nil _ _,by simp,fun q hq=>nomatch hq⟩,bR⟩
 case round=>
  obtain ⟨j,l9,hj,rfl,HLD,HB⟩:=hrel;generalize wr=wA at *;by_cases hlt:j<l.length
  ·have t1:decide (j<l.length)=true:=by simpa using hlt
   have HLT:=Hd hlt;obtain ⟨lb,lo,rA,hcell⟩:=(HOP.o.below HB.o).row (by omega);subst rA
   obtain ⟨q,hq⟩:∃ q,q=l[j]'hlt:=⟨_,rfl⟩
   have HQM:Hid (q∈l):=by rw [hq];exact List.getElem_mem hlt
   have HTK:Hid ((l.take (j+1)).map (·.o)=(l.take j).map (·.o)++[q.o]):=by rw [hq,List.take_succ_eq_append_getElem hlt,List.map_append];rfl
   have HRG:Hid (wA.rangeAt lb (lo+j*23) q.cs):=by
    rw [hq];exact fun i v hv=>hcell j hlt i v hv
   have HZ2:Hid (Blk (wA.alloc (.cells Vg.toArray 99)) wA.heap.size Vg):=blk_new wA Vg _;have HBa:Hid (Below wA.heap.size wA (wA.alloc (.cells Vg.toArray 99))):=bR.alloc nR _;have c0:=HRG.o 0 (.int .i64 q.o.k) rfl;have i0:lb<wA.heap.size:=World.block_lt_of_cell? wA ⟨lb,_,none⟩ c0;have hjb:(j:Int)<=100000:=by have:=HN.o;omega
   clear c0 hcell hq hlt
   go_upto_region 5 with (first | ((with_reducible refine gL ?_);refine wpl_row 99 _ rfl rfl _ _ rfl (q.cs) HRG.o _ underlying99 rfl (by kernel_rfl) ?_) | ((with_reducible refine gS ?_);refine wpl_stow 99 _ _ rfl rfl rfl _ 0 rfl (q.cs) rfl (Vg) HZ2.o (q.cs) rfl (nE rfl) (by kernel_rfl) (Op9.one _ _ _) ?_;intro w3 HW3 HK3))
   have HB3:Hid (Below wA.heap.size wA w3):=HW3.o.below HBa.o nR;have i1:=HK3.o.inside;have HRO:=Hd (refop_any q.o q.A q.c w3 (Row.below (HOP.o.px q HQM.o).1 (HB.o.trans (HB3.o.mono HB.o.size))) (by have:=HTH.o q HQM.o;omega));unfold OpR.cs at HK3;clear HZ2 HBa HW3 HRG i0;go_wp2_with (first | (with_reducible refine gL ?_;first | (refine wt 99 0 rfl rfl rfl HK3.o (q.o.cs q.A q.c) rfl underlying99 rfl ?_)));refine HRO.o.mono ?_;unfold RefOpQ;rintro e w4 ⟨A9,c9,rfl,hr9,hg9,hb9⟩
   obtain ⟨v',w5,hrun,hld,hb5⟩:=(HLD.o.below HB3.o).step (Nat.le_trans HB.o.size HB3.o.size) (by
    have h1:=congrArg List.length HLD.o.os;rw [List.length_map,List.length_map,List.length_take] at h1;have:=HN.o
    omega) hb9 (o:=q.o) (A:=A9) (c:=c9) hr9 hg9 (cc:=1)
   have HLD5:=Hd hld;have HB5:Hid (Below w.heap.size w w5):=(HB.o.trans (HB3.o.mono HB.o.size)).trans ((hb9.mono (Nat.le_trans HB.o.size HB3.o.size)).trans hb5);have hbs:=bs_dop ⟨q.o,A9,c9⟩ w4;unfold OpR.dcs at hbs;simp only at hbs;clear hr9 hg9 hb9 hld hb5 i1 HK3 HB3 HLD HRO;go_wp2_with (first | ((with_reducible refine gB ?_);refine wpl_bs _ _ _ rfl rfl (by simp [go_sem]) hbs ?_;clear hbs) | (at_builtin;refine wpl_append rfl _ _ 125 125 125 rfl rfl _ _ _ _ rfl rfl hrun ?_;clear hrun))
   go_roundw
   case rel=>exact ⟨j+1,_,HLT.o,by go_num,by rw [HTK.o];exact HLD5,HB5⟩
   case measure=>have:=HLT.o;simp [intOf];omega
  ·obtain rfl:j=l.length:=by omega
   have t1:decide (l.length<l.length)=false:=by simp
   rw [List.take_length] at HLD;obtain ⟨A9,c9,rfl,hod⟩:=HLD.o.done;have HOD:=Hd hod;clear hlt hod hj;go_wp2_with (fail);go_ret;exact ⟨A9,c9,l9,rfl,HOD.o,HLD.o.os,HB.o⟩
end
section
open Go.RowKit pxm imm trm Go.Maps
theorem DMap.far {w:World} {g b m:Nat} {s:Sh} {Z:ZZ} {x:PSc} (hs:SceneAt w g b m s Z x) {dm:Nat} {H:Int->Bool} {nd:Int->Nd} (h:DMap w dm H nd) (h0:H 0=true):¬ SFoot b m s x.t dm:=by
 obtain ⟨es,h1,h2,h3⟩:=h.ex
 have i0:I64 (0:Int):=⟨by decide,by decide⟩
 obtain ⟨v,ev,A,c,rfl,-⟩:=h3 0 h0;rintro (e | hk)
 ·obtain ⟨es2,g1,g2,g3⟩:=hs.map;obtain ⟨u,eu,A2,c2,rfl,-⟩:=g3 0 (has_iff.2 (.inl rfl));subst e;have r1:=h1.lookup (t:=tDNs) (E:=54) underlying32 (zero_dn w) i0;have r2:=g1.lookup (t:=tDNs) (E:=54) underlying32 (zero_dn w) i0;rw [ev] at r1;rw [eu] at r2;have r3:=r1.symm.trans r2
  injection r3 with r3 _
  simp only [Option.getD_some,Nd.v,plv] at r3
  injection r3 with r3
  have:=congrArg Array.size r3;simp [Nd.cs,plcs] at this
 ·rcases hk with hk | hk | ⟨i,hi,hk | hk⟩
  ·exact h1.not_blk hs.tree.raw.blk hk
  ·have r1:=h1.lookup (t:=186) (E:=182) underlying186 (zeroPtr w) i0;have r2:=hs.tree.raw.look_some (i:=0) i0 (has_iff.2 (.inl rfl));subst hk;rw [ev] at r1;have r3:=r1.symm.trans r2
   injection r3 with r3 _
   simp only [Option.getD_some,Nd.v] at r3;cases r3
  ·exact h1.not_blk (hs.tree.raw.node i hi).blk hk
  ·obtain ⟨cur,fr,h4⟩:=(hs.tree.raw.node i hi).own.typed hk;obtain ⟨es',clock,h5,_⟩:=h1.own;have:=h4.symm.trans h5;cases this
theorem typ_far {w:World} {g b m:Nat} {s:Sh} {Z:ZZ} {x:PSc} (hs:SceneAt w g b m s Z x) {k:Nat} {cs:Array Value} {T:TypeId} {fz:Nat×Nat} (h:w.heap[k]?=some (.cells cs T fz)) (hT:T=132∨T=49):¬ SFoot b m s x.t k:=by
 have hne:∀ {cs':Array Value} {T':TypeId} {fz':Nat×Nat},w.heap[k]?=some (.cells cs' T' fz')->T'≠132->T'≠49->False:=fun h2 n1 n2=>by
  have:=h.symm.trans h2;simp only [Option.some.injEq,Obj.cells.injEq] at this;rcases hT with e | e
  ·exact n1 (this.2.1 ▸ e)
  ·exact n2 (this.2.1 ▸ e)
 rintro (e | hk)
 ·obtain ⟨es2,g1,_⟩:=hs.map;obtain ⟨es',clock,h5,_⟩:=g1.own;rw [e] at h;have:=h.symm.trans h5;cases this
 ·rcases hk with hk | hk | ⟨i,hi,hk | hk⟩
  ·have h1:w.heap[b]?=_:=hs.tree.raw.blk;rw [← hk] at h1;exact hne h1 (by decide) (by decide)
  ·obtain ⟨es,hm,_⟩:=hs.tree.raw.map;obtain ⟨es',clock,h1,_⟩:=hm.own;rw [hk] at h;have:=h.symm.trans h1;cases this
  ·have h1:w.heap[s.g i]?=_:=(hs.tree.raw.node i hi).blk;rw [← hk] at h1;exact hne h1 (by decide) (by decide)
  ·obtain ⟨cur,fr,h1⟩:=(hs.tree.raw.node i hi).own.typed hk;exact hne h1 (by decide) (by decide)
section
variable {w w':World} {g b m:Nat} {s:Sh} {Z:ZZ} {x y:PSc} {S':Bset}
theorem DTree.turn (hs:SceneAt w g b m s Z x) (ht:TurnP (SFoot b m s x.t) S' w w') {v:Value} {t:T} (h:DTree w v t):DTree w' v t:=h.stays fun _ _ a _ hy ea=>by
 obtain ⟨cs,fz,h1⟩:=hy a ea;exact (ht.far _ (lt_of_block h1) (typ_far hs h1 (.inl rfl))).2
theorem DPl.turn (hs:SceneAt w g b m s Z x) (ht:TurnP (SFoot b m s x.t) S' w w') {v:Value} {n:Nd} (h:DPl w v n):DPl w' v n:=by
 obtain ⟨A,c,e,hr⟩:=h;refine ⟨A,c,e,hr.stays fun a ea hne=>?_⟩;obtain ⟨cs,fz,h1⟩:=hr.typ a ea hne;exact (ht.far _ (lt_of_block h1) (typ_far hs h1 (.inr rfl))).2
theorem DMap.turn (hs:SceneAt w g b m s Z x) (ht:TurnP (SFoot b m s x.t) S' w w') {dm:Nat} {H:Int->Bool} {nd:Int->Nd} (h:DMap w dm H nd) (h0:H 0=true):DMap w' dm H nd:=by
 have hf:=h.far hs h0;obtain ⟨es,h1,h2,h3⟩:=h.ex;refine ⟨es,h1.stays (ht.far _ h1.inside hf).2,h2,fun i hi=>?_⟩;obtain ⟨v,e,hv⟩:=h3 i hi;exact ⟨v,e,DPl.turn hs ht hv⟩
end
def oneQ (p:Nat):Bset:=fun k=>k=p
abbrev tPl:TypeId:=37
structure PlS (w0:World) (p g b m:Nat) (s:Sh) (za zb zc:Int) (x:PSc) (w:World):Prop where
 blk:∃ A c dm,BlkT w p [.pointer (some ⟨g,0,none⟩),.int .i64 za,.int .i64 zb,.int .i64 zc,.slice A x.t.length c,.map (some dm)] tPl∧DTree w (.slice A x.t.length c) x.t∧DMap w dm (has x.t) x.nd
 my:MyS w0 g b m s ⟨za,⟨zb,zc⟩,oneQ p⟩ x w
 pge:w0.heap.size<=p
theorem PlS.below {w0 w w':World} {p g b m:Nat} {s:Sh} {za zb zc:Int} {x:PSc} (h:PlS w0 p g b m s za zb zc x w) (hb:Below w.heap.size w w'):PlS w0 p g b m s za zb zc x w':=by
 obtain ⟨A,c,dm,h1,h2,h3⟩:=h.blk;exact ⟨⟨A,c,dm,h1.stays (hb.block _ h1.inside),h2.below hb,h3.below hb⟩,h.my.below hb,h.pge⟩
theorem PlS.new {w0 w w':World} {p g b m:Nat} {s:Sh} {Z:ZZ} {x:PSc} {A:Option Addr} {c dm:Nat} (h:MyS w0 g b m s Z x w) (hp:p=w.heap.size) (hb:Below w.heap.size w w') (h1:BlkT w' p [.pointer (some ⟨g,0,none⟩),.int .i64 Z.1,.int .i64 Z.2.1,.int .i64 Z.2.2,.slice A x.t.length c,.map (some dm)] tPl) (h2:DTree w' (.slice A x.t.length c) x.t) (h3:DMap w' dm (has x.t) x.nd):PlS w0 p g b m s Z.1 Z.2.1 Z.2.2 x w':=
 ⟨⟨A,c,dm,h1,h2,h3⟩,⟨h.at_.part (E':=oneQ p) (fun k hk _=>hb.block k hk) fun k hk=>by
  obtain rfl:k=p:=hk
  exact ⟨h1.inside,.inr (Nat.le_of_eq hp.symm)⟩,h.ft,h.bel.trans (hb.mono h.bel.size)⟩,by rw [hp];exact h.bel.size⟩
def sayRow (B:Nat) (os:List Op9):regs.Say (DR B):=⟨fun v wv=>∃ A c l9,v=.slice A (l9:List OpR).length c∧OpsD wv A l9∧l9.map (·.o)=os,fun _ _ _ h hb=>by
 obtain ⟨A,c,l9,h1,h2,h3⟩:=h
 exact ⟨A,c,l9,h1,h2.dr hb,h3⟩⟩
end
section
open Go.RowKit pxm imm trm Go.Maps
end
end Go.Proofs.YthoildbfghfhpaaGreat
