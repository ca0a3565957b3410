import Derived.Test.YtekdoeilpheklaaGreatWFlB
set_option maxHeartbeats 16000000
set_option maxRecDepth 100000
open Go.Proofs.Tryz
namespace Go.Proofs.YtekdoeilpheklaaGreat
section
open Go.RowKit fH fV aF Go.Maps
theorem DZ{k W H:Int}{p:Nat}{iw ih:Int}{l:List Nat}(h:uP k W H p iw ih l=0)(x y:Int):(oC (uQ k W H p iw ih l x y)).Right:=by
 unfold uP at h;unfold uQ;by_cases h0:k=0
 ·subst h0;rw[if_neg (by decide),show pV 0 W iw=0 from rfl,show pV 0 H ih=0 from rfl];rw[if_neg (fun e=>by have:=Fh.1 e;omega)];exact oO
 rw[if_neg h0]at h;by_cases h1:k=1
 ·subst h1;rw[if_pos rfl]at h;rw[if_neg (by decide)];split
  ·split at h
   ·have h2:(rb p && !sW iw ih l)=true:=by
     unfold OO at h;split at h
     ·assumption
     ·cases h
    rw[Bool.and_eq_true]at h2;exact P4.sK.1 h2.1
   ·cases h
  ·exact oO
 rw[if_neg h1]at h;by_cases h2:k=2
 ·rw[if_pos h2]at h;rw[if_pos h2]
  have h3:(jE iw ih l && !sZ W H p)=true:=by
   unfold OO at h;split at h
   ·assumption
   ·cases h
  rw[Bool.and_eq_true]at h3;have h4:=h3.1;unfold jE at h4;rw[Bool.and_eq_true,decide_eq_true_eq,decide_eq_true_eq]at h4;have h5:=h4.2;unfold chk at h5;unfold yf;split
  ·rw[List.getD_eq_getElem?_getD];split at h5
   ·split at h5
    ·split at h5
     ·rename_i hall
      cases e:l[(y*iw+x).toNat]? with
      |none=>exact oO
      |some z=>exact P4.sK.1 (List.all_eq_true.1 hall z (List.mem_of_getElem? e))
     ·cases h5
    ·cases h5
   ·cases h5
  ·exact oO
 ·rw[if_neg h2]at h;cases h
theorem Au{k W H:Int}{p:Nat}{iw ih:Int}{l:List Nat}(h:uP k W H p iw ih l=0):k=2->iD iw ih l.length=true:=by
 rintro rfl;unfold uP at h;rw[if_neg (by decide),if_neg (by decide),if_pos rfl]at h
 have h3:(jE iw ih l && !sZ W H p)=true:=by
  unfold OO at h;split at h
  ·assumption
  ·cases h
 rw[Bool.and_eq_true]at h3;have h4:=h3.1;unfold jE at h4;rw[Bool.and_eq_true,decide_eq_true_eq,decide_eq_true_eq]at h4;have h5:=h4.2;unfold chk at h5;split at h5
 ·split at h5
  ·assumption
  ·cases h5
 ·cases h5
theorem AO(q:iG)(p:Pt)(w:World)(h:pI w q)(hk:q.it.Ok)(hok:∀b:Mp,b.right=true->kX b p):Calls prog 33 #[.agg q.cs.toArray,.agg p.cs.toArray] w (aJ (.bool (q.it.c.all fun c=>c.eG p)) w):=by
 have HB0:Hid (bz w ((w.alloc (.cells q.cs.toArray 51)).alloc (.cells p.cs.toArray 66))):=(bR.alloc nR _).alloc (by simp) _;have gJ:Hid (ax ((w.alloc (.cells q.cs.toArray 51)).alloc (.cells p.cs.toArray 66)) w.heap.size q.cs):=(az w q.cs _).alloc _;have bQ:Hid (ax ((w.alloc (.cells q.cs.toArray 51)).alloc (.cells p.cs.toArray 66)) (w.heap.size+1) p.cs):=aQ (w.alloc _) _ (by simp) p.cs _
 have HC:=Hd (Dk q.it.c q.Ac q.cc p (w.heap.size+1) ((w.alloc (.cells q.cs.toArray 51)).alloc (.cells p.cs.toArray 66)) hk.c hk.few bQ.o (aT.below h.rW HB0.o) hok);clear h hk hok;generalize (q.it.c.all fun c=>c.eG p)=r at*;go_enter func33,ntmps33
 go_upto_region 1 with(fail)
 generalize ((w.alloc (.cells q.cs.toArray 51)).alloc (.cells p.cs.toArray 66))=w0 at*;have c13:=gJ.o.c 13 rfl;have i1:=gJ.o.inside;go_wp2_with (fail);refine HC.o.mono ?_;rintro e w2 ⟨rfl,hb⟩;have HB:=Hd (HB0.o.trans (hb.mono HB0.o.size));clear hb HC c13 i1;go_wp2_with (fail);go_ret;exact⟨rfl,HB.o⟩
theorem PY{z o:Nat}(hz:(oC z).Right)(ho:o<256)(g:Nat)(w:World)(hc:w.cell? ⟨g,0,none⟩=some (.int .i64 (o:Nat))) :
  Calls prog 37 #[.int .u32 (z:Nat),.slice (some ⟨g,0,none⟩) 1 1] w (aJ (.int .u32 (((oC z).times o).num:Nat)) w):=by
 have h:=Zw (oC z) hz (some ⟨g,0,none⟩) [o] 1 w (fun x hx=>by rw[List.mem_singleton.1 hx];exact ho) (fun _=>⟨g,0,rfl,fun j hj=>by
  have:j=0:=by simpa using hj
  subst this
  exact hc⟩) (by unfold maxLen;simp)
 rw[Oo]at h;exact h
theorem AP(q:iG)(x y:Int)(w:World)(h:pI w q)(hk:q.it.Ok)(hx:-32768<=x∧x<=32767)(hy:-32768<=y∧y<=32767):Calls prog 13 #[.agg q.cs.toArray,.int .i64 x,.int .i64 y] w (aJ (.int .u32 (q.it.at_ x y:Nat)) w):=by
 have HCT:=Hd (fun w=>pg x y w (by constructor<;>omega) (by constructor<;>omega));have dM:Hid (∀b:Mp,b.right=true->kX b (Ei x y)):=fun b hb=>MH hb hx hy;have HF:Hid (q.it.free x y=q.it.c.all fun c=>c.eG (Ei x y)):=rfl;have HAT:Hid (q.it.at_ x y=if q.it.free x y=true then ((oC (uQ q.it.lk.k q.it.lk.W q.it.lk.H q.it.lk.p q.it.lk.iw q.it.lk.ih q.it.lk.l ((q.it.b.from_ (Ei x y)).x / 65536) ((q.it.b.from_ (Ei x y)).y / 65536))).times q.it.o).num else 0):=rfl;generalize q.it.at_ x y=R at*;generalize q.it.free x y=fr at*;generalize Ei x y=p at*;have HI:=Hd h
 have TV:=Hd hk;have HB0:Hid (bz w (w.alloc (.cells q.cs.toArray 51))):=bR.alloc nR _;have kE:Hid (ax (w.alloc (.cells q.cs.toArray 51)) w.heap.size q.cs):=az w q.cs _;have KD:=Hd (fun w h=>AO q p w h TV.o dM.o);rw[←HF.o]at KD;have H1:Hid (∀w,Calls prog 36 #[.agg q.it.b.cs.toArray,.agg p.cs.toArray] w (aJ (.agg (q.it.b.from_ p).cs.toArray) w)):=fun w=>Ou q.it.b p w (dM.o _ hk.b)
 have H2:Hid (∀w,Calls prog 35 #[.agg (q.it.b.from_ p).cs.toArray] w (aJ (.tuple #[.int .i64 ((q.it.b.from_ p).x / 65536),.int .i64 ((q.it.b.from_ p).y / 65536)]) w)):=fun w=>Ba _ w (AZ (dM.o _ hk.b));clear hx hy h hk HF dM;generalize (q.it.b.from_ p).x / 65536=u at*;generalize (q.it.b.from_ p).y / 65536=v at*;have HZR:=Hd (DZ TV.o.lk u v)
 have HLA:Hid (∀w,Row eW w q.A q.it.lk.l->Calls prog 34 #[.agg (q.it.lk.cs q.A q.c).toArray,.int .i64 u,.int .i64 v] w (aJ (.int .u32 ((uQ q.it.lk.k q.it.lk.W q.it.lk.H q.it.lk.p q.it.lk.iw q.it.lk.ih q.it.lk.l u v:Nat):Int)) w)):=fun w hr=>Vx q.it.lk.k q.it.lk.W q.it.lk.H q.it.lk.p q.it.lk.iw q.it.lk.ih q.A q.it.lk.l q.c u v (Au TV.o.lk) (by have:=TV.o.l;unfold maxLen;omega) w hr;generalize uQ q.it.lk.k q.it.lk.W q.it.lk.H q.it.lk.p q.it.lk.iw q.it.lk.ih q.it.lk.l u v=z at*
 have H4:=Hd (fun w1 g8 hc=>PY HZR.o TV.o.o g8 w1 hc);generalize ((oC z).times q.it.o).num=zz at*;go_enter func13,ntmps13
 go_upto_region 1 with(fail)
 generalize (w.alloc (.cells q.cs.toArray 51))=w0 at*;go_wp2_with (fail);refine(HCT.o _).mono ?_;rintro e w1 ⟨rfl,hb⟩;have HB1:=Hd (HB0.o.trans (hb.mono HB0.o.size));have gJ:=Hd (kE.o.below' hb);clear hb HCT HB0 kE;have HZ:Hid (ax (w1.alloc (.cells #[.int .i64 0,.int .i64 0] 66)) w1.heap.size [.int .i64 0,.int .i64 0]):=az w1 [.int .i64 0,.int .i64 0] _;have iH:Hid (bz w (w1.alloc (.cells #[.int .i64 0,.int .i64 0] 66))):=HB1.o.alloc HB1.o.size _;have HKa:Hid (ax (w1.alloc (.cells #[.int .i64 0,.int .i64 0] 66)) w.heap.size q.cs):=gJ.o.alloc _
 have Dt:Hid (w.heap.size<w1.heap.size):=gJ.o.inside
 go_upto_region 2 with(first|(with_reducible refine gS ?_;first|(refine ay 66 _ _ rfl rfl rfl _ 0 rfl (p.cs) rfl ([.int .i64 0,.int .i64 0]) HZ.o (p.cs) rfl (nE rfl) af rfl ?_;intro w2 HW2 HP2)))
 have HB2:Hid (bz w w2):=HW2.o.below iH.o HB1.o.size;have bQ:Hid (ax w2 w.heap.size q.cs):=HKa.o.stays (HW2.o.far (Nat.ne_of_lt Dt.o));clear HZ iH HKa HW2 HB1 gJ;generalize w1.heap.size=pb at*;have i1:=bQ.o.inside;have i2:=HP2.o.inside;go_wp2_with (first|(with_reducible refine gL ?_;first|(refine wt 51 0 rfl rfl rfl bQ.o (q.cs) rfl underlying51 rfl ?_)|(refine wt 66 0 rfl rfl rfl HP2.o (p.cs) rfl underlying66 rfl ?_)));refine(KD.o w2 (HI.o.below HB2.o)).mono ?_;rintro e w3 ⟨rfl,hb⟩
 have HB3:=Hd (HB2.o.trans (hb.mono HB2.o.size));have dI:=Hd (bQ.o.below' hb);have HP3:=Hd (HP2.o.below' hb);clear hb KD HB2 bQ HP2 i1 i2;cases fr with
 |false=>
  have HR:=Hd (HAT.o.trans (if_neg (by decide)));go_wp2_with (fail);go_ret;exact⟨aA (by rw[HR.o];rfl),HB3.o⟩
 |true=>
  have HR:=Hd (HAT.o.trans (if_pos rfl));have H3:Hid (∀W,bz w3 W->Calls prog 34 #[.agg (q.it.lk.cs q.A q.c).toArray,.int .i64 u,.int .i64 v] W (aJ (.int .u32 (z:Nat)) W)):=fun W hb=>HLA.o W (Row.below HI.o.px (HB3.o.trans (hb.mono HB3.o.size)));have F1:Hid (∀W,bz w3 W->ax W w.heap.size q.cs):=fun W hb=>dI.o.below' hb;have F2:Hid (∀W,bz w3 W->ax W pb p.cs):=fun W hb=>HP3.o.below' hb;clear HLA dI HP3 HI TV HZR HAT
  go_upto_region 4 with(fail)
  refine Kt [15,16,17,18,19,20,21,22,23,24,25,26,27,28,6] (fun i=>match i with
   |0=>rp w.heap.size 15
   |1=>rV (.agg (q.it.lk.cs q.A q.c).toArray)
   |2=>rp w.heap.size 7
   |3=>rV (.agg (q.it.b.cs).toArray)
   |4=>rV (.agg (p.cs).toArray)
   |5=>rV (.agg ((q.it.b.from_ p).cs).toArray)
   |6=>rV (.tuple #[.int .i64 u,.int .i64 v])
   |7=>rV (.int .i64 u)
   |8=>rV (.int .i64 v)
   |9=>rV (.int .u32 (z:Nat))
   |10=>rp w.heap.size 14
   |11=>rV (.int .i64 (q.it.o:Nat))
   |12=>regs.kD.one (.int .i64 (q.it.o:Nat))
   |13|14=>rV (.int .u32 (zz:Nat))
   |_=>ra) ⟨?_,?_,?_,?_,?_,?_,?_,?_,?_,?_,?_,?_,?_,?_,?_,trivial⟩ ?_
  any_goals (first|refine zp fun L a w1 hh=>?_|fail)
  have h3:=hh.p 3 w.heap.size 0;have i0:=(F1.o _ hh.rel).inside;rotate_left
  ·have h15:=rq (hh.d 0 15);have hB:=Hd (F1.o _ hh.rel);have hJ:=Hd hh.st;exact aK 49 _ rfl w.heap.size 15 (by simpa[go_sem]using h15) _ hB.o (q.it.lk.cs q.A q.c) rfl _ underlying49 rfl af ⟨_,rfl,rB,rfl,hJ.o⟩
  have h3:=hh.p 3 w.heap.size 0;have i0:=(F1.o _ hh.rel).inside;rotate_left
  ·have h17:=rq (hh.d 2 17);have hB:=Hd (F1.o _ hh.rel);have hJ:=Hd hh.st;exact aK 41 _ rfl w.heap.size 7 (by simpa[go_sem]using h17) _ hB.o (q.it.b.cs) rfl _ underlying41 rfl af ⟨_,rfl,rB,rfl,hJ.o⟩
  ·have h7:=hh.p 7 pb 0;have hB:=Hd (F2.o _ hh.rel);have hJ:=Hd hh.st;exact aK 66 _ rfl pb 0 (by simpa[go_sem]using h7) _ hB.o (p.cs) rfl _ underlying66 rfl af ⟨_,rfl,rB,rfl,hJ.o⟩
  ·have h18:=rq (hh.d 3 18);have h19:=rq (hh.d 4 19);have hC:=Hd (H1.o w1);have hJ:=hh.j;clear hh;go_simp;refine hC.o.mono ?_;rintro e w9 ⟨rfl,aS⟩;exact⟨_,rfl,aS,rfl,hJ.o⟩
  ·have h20:=rq (hh.d 5 20);have hC:=Hd (H2.o w1);have hJ:=hh.j;clear hh;go_simp;refine hC.o.mono ?_;rintro e w9 ⟨rfl,aS⟩;exact⟨_,rfl,aS,rfl,hJ.o⟩
  have h21:=rq (hh.d 6 21);rotate_left;have h21:=rq (hh.d 6 21);rotate_left
  ·have h16:=rq (hh.d 1 16);have h22:=rq (hh.d 7 22);have h23:=rq (hh.d 8 23);have hC:=Hd (H3.o w1 hh.rel);have hJ:=hh.j;clear hh;go_simp;refine hC.o.mono ?_;rintro e w9 ⟨rfl,aS⟩;exact⟨_,rfl,aS,rfl,hJ.o⟩
  have h3:=hh.p 3 w.heap.size 0;have i0:=(F1.o _ hh.rel).inside;rotate_left;have xq:=rq (hh.d 10 25);have ⟨c0,i0⟩:=(F1.o _ hh.rel).ci 14 rfl;rotate_left
  ·have CJ:=rq (hh.d 11 26);have hJ:=hh.j;clear hh;go_simp;exact⟨_,rfl,bR.alloc nR _,⟨_,rfl,cell_of_row _ _ 0 _ _ _ (heap_alloc_new w1 _)⟩,hJ.o⟩
  ·have tq:=rq (hh.d 9 24)
   obtain⟨g8,e8,hc8⟩:=(show ∃g,(a.tmps.getD 27 undef)=.slice (some ⟨g,0,none⟩) 1 1∧w1.cell? ⟨g,0,none⟩=some (.int .i64 (q.it.o:Nat)) from hh.d 12 27)
   have h27:a.tmps[27]?.getD undef=.slice (some ⟨g8,0,none⟩) 1 1:=rq (e8);have hC:=Hd (H4.o w1 g8 hc8);have hJ:=Hd hh.st;clear hh e8 hc8;go_simp;refine hC.o.mono ?_;rintro e w9 ⟨rfl,aS⟩;exact⟨_,rfl,aS,rfl,hJ.o⟩
  have h28:=rq (hh.d 13 28);rotate_left
  any_goals (clear hh;go_simp;exact⟨_,rfl,rB,rfl,trivial⟩)
  intro L w4 val hL hJ hR hv;have h6:val 6=.int .u32 (zz:Nat):=hv 14 6 af;have HR4:=Hd hR;clear hv hL hJ hR;simp only[regs.aC,List.map_cons,List.map_nil,h6];simp only[Act.put,List.setIfInBounds_toArray,List.set_cons_zero,List.set_cons_succ];clear h6
  skip
  go_wp2_with (fail);go_ret;exact⟨aA (by rw[HR.o]),HB3.o.trans (HR4.o.mono HB3.o.size)⟩
theorem Jw(b:Mp)(r:Bx)(w:World):(Instr.build 122 #[(0,.agg b.cs.toArray),(1,.agg r.cs.toArray)]).run prog w=.ok (.agg (Cl.mk b r).cs.toArray) w:=by kernel_rfl
theorem oz(q:iG)(x y:Int)(w:World)(h:pI w q)(hk:q.it.Ok)(hx:-32768<=x∧x<=32767)(hy:-32768<=y∧y<=32767):Calls prog 15 #[.agg q.cs.toArray,.int .i64 x,.int .i64 y] w (aJ (.bool (q.it.covers x y)) w):=by
 have HCT:=Hd (fun w=>pg x y w (by constructor<;>omega) (by constructor<;>omega));have dM:Hid (∀b:Mp,b.right=true->kX b (Ei x y)):=fun b hb=>MH hb hx hy;have HF:Hid (q.it.free x y=q.it.c.all fun c=>c.eG (Ei x y)):=rfl;have HCV:Hid (q.it.covers x y=((Cl.mk q.it.b (Bx.nrm ⟨0,0,pV q.it.lk.k q.it.lk.W q.it.lk.iw,pV q.it.lk.k q.it.lk.H q.it.lk.ih⟩)).eG (Ei x y)&&q.it.free x y)):=rfl;generalize q.it.covers x y=R at*;generalize q.it.free x y=fr at*;generalize Ei x y=p at*;have HI:=Hd h;have TV:=Hd hk
 have HB0:Hid (bz w (w.alloc (.cells q.cs.toArray 51))):=bR.alloc nR _;have kE:Hid (ax (w.alloc (.cells q.cs.toArray 51)) w.heap.size q.cs):=az w q.cs _;have KD:=Hd (fun w h=>AO q p w h TV.o dM.o);rw[←HF.o]at KD
 have iO:Hid (∀w,Calls prog 44 #[.agg (q.it.lk.cs q.A q.c).toArray] w (aJ (.tuple #[.int .i64 (pV q.it.lk.k q.it.lk.W q.it.lk.iw),.int .i64 (pV q.it.lk.k q.it.lk.H q.it.lk.ih)]) w)):=fun w=>size_any q.it.lk.k q.it.lk.W q.it.lk.H q.it.lk.p q.it.lk.iw q.it.lk.ih q.A q.it.lk.l.length q.c w;generalize pV q.it.lk.k q.it.lk.W q.it.lk.iw=sx at*;generalize pV q.it.lk.k q.it.lk.H q.it.lk.ih=sv at*
 have H1:Hid (∀w,Calls prog 45 (Vr sx sv).toArray w (aJ (.agg (Bx.nrm ⟨0,0,sx,sv⟩).cs.toArray) w)):=fun w=>a0K ⟨0,0,sx,sv⟩ w;generalize Bx.nrm ⟨0,0,sx,sv⟩=rr at*;have H2:=Hd (fun w=>Jr (Cl.mk q.it.b rr) p w (dM.o _ hk.b));clear hx hy h hk HF dM;go_enter func15,ntmps15
 go_upto_region 1 with(fail)
 generalize (w.alloc (.cells q.cs.toArray 51))=w0 at*;go_wp2_with (fail);refine(HCT.o _).mono ?_;rintro e w1 ⟨rfl,hb⟩;have HB1:=Hd (HB0.o.trans (hb.mono HB0.o.size));have gJ:=Hd (kE.o.below' hb);clear hb HCT HB0 kE;have HZ:Hid (ax (w1.alloc (.cells #[.int .i64 0,.int .i64 0] 66)) w1.heap.size [.int .i64 0,.int .i64 0]):=az w1 [.int .i64 0,.int .i64 0] _;have iH:Hid (bz w (w1.alloc (.cells #[.int .i64 0,.int .i64 0] 66))):=HB1.o.alloc HB1.o.size _;have HKa:Hid (ax (w1.alloc (.cells #[.int .i64 0,.int .i64 0] 66)) w.heap.size q.cs):=gJ.o.alloc _
 have Dt:Hid (w.heap.size<w1.heap.size):=gJ.o.inside
 go_upto_region 2 with(first|(with_reducible refine gS ?_;first|(refine ay 66 _ _ rfl rfl rfl _ 0 rfl (p.cs) rfl ([.int .i64 0,.int .i64 0]) HZ.o (p.cs) rfl (nE rfl) af rfl ?_;intro w2 HW2 HP2)))
 have HB2:Hid (bz w w2):=HW2.o.below iH.o HB1.o.size;have bQ:Hid (ax w2 w.heap.size q.cs):=HKa.o.stays (HW2.o.far (Nat.ne_of_lt Dt.o));clear HZ iH HKa HW2 HB1 gJ;generalize w1.heap.size=pb at*;have i1:=bQ.o.inside;go_wp2_with (first|(with_reducible refine gL ?_;first|(refine wt 49 15 rfl rfl rfl bQ.o (q.it.lk.cs q.A q.c) rfl underlying49 rfl ?_)));refine(iO.o w2).mono ?_;rintro e w3 ⟨rfl,hb⟩;have HB3:=Hd (HB2.o.trans (hb.mono HB2.o.size));have dI:=Hd (bQ.o.below' hb);have HP3:=Hd (HP2.o.below' hb);clear hb iO HB2 bQ HP2 i1
 have H3:=Hd (fun W (hb:bz w3 W)=>KD.o W (HI.o.below (HB3.o.trans (hb.mono HB3.o.size))));have F1:Hid (∀W,bz w3 W->ax W w.heap.size q.cs):=fun W hb=>dI.o.below' hb;have F2:Hid (∀W,bz w3 W->ax W pb p.cs):=fun W hb=>HP3.o.below' hb;clear dI HP3 HI TV KD;generalize (Cl.mk q.it.b rr).eG p=hv at*
 go_upto_region 3 with(fail)
 cases hv with
 |false=>
  refine Kt [19,20,21,22,23,24,25,26,27,28,29,30,31,6] (fun i=>match i with
   |0=>rp w.heap.size 7
   |1=>rV (.agg (q.it.b.cs).toArray)
   |2=>rV (.int .i64 sx)
   |3=>rV (.int .i64 sv)
   |4=>rV (.agg (rr.cs).toArray)
   |5=>rV (.agg ((Cl.mk q.it.b rr).cs).toArray)
   |6=>rV (.agg (p.cs).toArray)
   |7|8|12|13=>rV (.bool false)
   |9|10|11=>rV (undef)
   |_=>ra) ⟨?_,?_,?_,?_,?_,?_,?_,?_,?_,?_,?_,?_,?_,?_,trivial⟩ ?_
  any_goals (first|refine zp fun L a w1 hh=>?_|fail)
  have h3:=hh.p 3 w.heap.size 0;have i0:=(F1.o _ hh.rel).inside;rotate_left
  ·have h19:=rq (hh.d 0 19);have hB:=Hd (F1.o _ hh.rel);have hJ:=Hd hh.st;exact aK 41 _ rfl w.heap.size 7 (by simpa[go_sem]using h19) _ hB.o (q.it.b.cs) rfl _ underlying41 rfl af ⟨_,rfl,rB,rfl,hJ.o⟩
  have h8:=hh.o 8 (v:=.int .i64 sx) rfl;rotate_left;have h9:=hh.o 9 (v:=.int .i64 sv) rfl;rotate_left
  ·have h21:=rq (hh.d 2 21);have h22:=rq (hh.d 3 22);have hC:=Hd (H1.o w1);have hJ:=hh.j;clear hh;go_simp;refine hC.o.mono ?_;rintro e w9 ⟨rfl,aS⟩;exact⟨_,rfl,aS,rfl,hJ.o⟩
  ·have h20:=rq (hh.d 1 20);have h23:=rq (hh.d 4 23);have hJ:=Hd hh.st;exact wp_build _ _ rfl (by simp[go_sem,h20,h23]) (Jw q.it.b rr w1) ⟨_,rfl,rB,rfl,hJ.o⟩
  ·have h7:=hh.p 7 pb 0;have hB:=Hd (F2.o _ hh.rel);have hJ:=Hd hh.st;exact aK 66 _ rfl pb 0 (by simpa[go_sem]using h7) _ hB.o (p.cs) rfl _ underlying66 rfl af ⟨_,rfl,rB,rfl,hJ.o⟩
  ·have tq:=rq (hh.d 5 24);have xq:=rq (hh.d 6 25);have hC:=Hd (H2.o w1);have hJ:=hh.j;clear hh;go_simp;refine hC.o.mono ?_;rintro e w9 ⟨rfl,aS⟩;exact⟨_,rfl,aS,rfl,hJ.o⟩
  have CJ:=rq (hh.d 7 26);rotate_left
  ·refine sz rfl rfl
  ·refine sz rfl rfl
  ·refine sz rfl rfl
  have h27:=rq (hh.d 8 27);rotate_left;have h31:=rq (hh.d 12 31);rotate_left
  any_goals (clear hh;go_simp;exact⟨_,rfl,rB,rfl,trivial⟩)
  intro L w4 val hL hJ hR hv;have h6:val 6=.bool false:=hv 13 6 af;have HR4:=Hd hR;clear hv hL hJ hR;simp only[regs.aC,List.map_cons,List.map_nil,h6];simp only[Act.put,List.setIfInBounds_toArray,List.set_cons_zero,List.set_cons_succ];clear h6;generalize val 19=v19,val 20=v20,val 21=v21,val 22=v22,val 23=v23,val 24=v24,val 25=v25,val 26=v26,val 27=v27,val 28=v28,val 29=v29,val 30=v30,val 31=v31 at*;go_wp2_with (fail);go_ret;exact⟨by rw[HCV.o];rfl,HB3.o.trans (HR4.o.mono HB3.o.size)⟩
 |true=>
  refine Kt [19,20,21,22,23,24,25,26,27,28,29,30,31,6] (fun i=>match i with
   |0=>rp w.heap.size 7
   |1=>rV (.agg (q.it.b.cs).toArray)
   |2=>rV (.int .i64 sx)
   |3=>rV (.int .i64 sv)
   |4=>rV (.agg (rr.cs).toArray)
   |5=>rV (.agg ((Cl.mk q.it.b rr).cs).toArray)
   |6|10=>rV (.agg (p.cs).toArray)
   |7|8=>rT
   |9=>rV (.agg (q.cs).toArray)
   |11|12|13=>rV (.bool fr)
   |_=>ra) ⟨?_,?_,?_,?_,?_,?_,?_,?_,?_,?_,?_,?_,?_,?_,trivial⟩ ?_
  any_goals (first|refine zp fun L a w1 hh=>?_|fail)
  any_goals (first|refine sy rfl rfl fun L a w1 hh=>?_|fail)
  have h3:=hh.p 3 w.heap.size 0;have i0:=(F1.o _ hh.rel).inside;rotate_left
  ·have h19:=rq (hh.d 0 19);have hB:=Hd (F1.o _ hh.rel);have hJ:=Hd hh.st;exact aK 41 _ rfl w.heap.size 7 (by simpa[go_sem]using h19) _ hB.o (q.it.b.cs) rfl _ underlying41 rfl af ⟨_,rfl,rB,rfl,hJ.o⟩
  have h8:=hh.o 8 (v:=.int .i64 sx) rfl;rotate_left;have h9:=hh.o 9 (v:=.int .i64 sv) rfl;rotate_left
  ·have h21:=rq (hh.d 2 21);have h22:=rq (hh.d 3 22);have hC:=Hd (H1.o w1);have hJ:=hh.j;clear hh;go_simp;refine hC.o.mono ?_;rintro e w9 ⟨rfl,aS⟩;exact⟨_,rfl,aS,rfl,hJ.o⟩
  ·have h20:=rq (hh.d 1 20);have h23:=rq (hh.d 4 23);have hJ:=Hd hh.st;exact wp_build _ _ rfl (by simp[go_sem,h20,h23]) (Jw q.it.b rr w1) ⟨_,rfl,rB,rfl,hJ.o⟩
  ·have h7:=hh.p 7 pb 0;have hB:=Hd (F2.o _ hh.rel);have hJ:=Hd hh.st;exact aK 66 _ rfl pb 0 (by simpa[go_sem]using h7) _ hB.o (p.cs) rfl _ underlying66 rfl af ⟨_,rfl,rB,rfl,hJ.o⟩
  ·have tq:=rq (hh.d 5 24);have xq:=rq (hh.d 6 25);have hC:=Hd (H2.o w1);have hJ:=hh.j;clear hh;go_simp;refine hC.o.mono ?_;rintro e w9 ⟨rfl,aS⟩;exact⟨_,rfl,aS,rfl,hJ.o⟩
  have CJ:=rq (hh.d 7 26);rotate_left
  ·have h3:=hh.p 3 w.heap.size 0;have hB:=Hd (F1.o _ hh.rel);have hJ:=Hd hh.st;exact aK 51 _ rfl w.heap.size 0 (by simpa[go_sem]using h3) _ hB.o (q.cs) rfl _ underlying51 rfl af ⟨_,rfl,rB,rfl,hJ.o⟩
  ·have h7:=hh.p 7 pb 0;have hB:=Hd (F2.o _ hh.rel);have hJ:=Hd hh.st;exact aK 66 _ rfl pb 0 (by simpa[go_sem]using h7) _ hB.o (p.cs) rfl _ underlying66 rfl af ⟨_,rfl,rB,rfl,hJ.o⟩
  ·have h28:=rq (hh.d 9 28);have yw:=rq (hh.d 10 29);have hC:=Hd (H3.o w1 hh.rel);have hJ:=hh.j;clear hh;go_simp;refine hC.o.mono ?_;rintro e w9 ⟨rfl,aS⟩;exact⟨_,rfl,aS,rfl,hJ.o⟩
  have h27:=rq (hh.d 8 27);have h30:=rq (hh.d 11 30);rotate_left;have h31:=rq (hh.d 12 31);rotate_left
  any_goals (clear hh;go_simp;exact⟨_,rfl,rB,rfl,trivial⟩)
  intro L w4 val hL hJ hR hv;have h6:val 6=.bool fr:=hv 13 6 af;have HR4:=Hd hR;clear hv hL hJ hR;simp only[regs.aC,List.map_cons,List.map_nil,h6];simp only[Act.put,List.setIfInBounds_toArray,List.set_cons_zero,List.set_cons_succ];clear h6
  skip
  go_wp2_with (fail);go_ret;exact⟨by rw[HCV.o];rfl,HB3.o.trans (HR4.o.mono HB3.o.size)⟩
end
end Go.Proofs.YtekdoeilpheklaaGreat
