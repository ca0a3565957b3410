import Derived.Test.YthoildbfghfhpaaGreatYScenePlaysW
set_option maxHeartbeats 16000000
set_option maxRecDepth 100000
namespace Go.Proofs.YthoildbfghfhpaaGreat
section
open Go.RowKit pxm imm trm Go.Maps
def BelA (a b:World):Prop:=Below a.heap.size a b
theorem BelA.refl (a:World):BelA a a:=bR
theorem BelA.trans {a b c:World} (h:BelA a b) (k:BelA b c):BelA a c:=Below.trans h (Below.mono k h.size)
def sayCp (w0:World) (x:PSc):regs.Say BelA:=⟨fun v wv=>∃ g b m s E,v=.pointer (some ⟨g,0,none⟩)∧MyS w0 g b m s ⟨8,⟨8,20⟩,E⟩ x wv,fun _ _ _ h hb=>by
 obtain ⟨g,b,m,s,E,h1,h2⟩:=h
 exact ⟨g,b,m,s,E,h1,h2.below hb⟩⟩
def sayPv (w0:World) (x:PSc) (A:Option Addr) (n c dm:Nat):regs.Say BelA:=⟨fun v wv=>∃ g b m s E,v=.agg (Vm g 8 8 20 A n c dm).toArray∧MyS w0 g b m s ⟨8,⟨8,20⟩,E⟩ x wv,fun _ _ _ h hb=>by
 obtain ⟨g,b,m,s,E,h1,h2⟩:=h
 exact ⟨g,b,m,s,E,h1,h2.below hb⟩⟩
def sayPq (w0:World) (x:PSc):regs.Say BelA:=⟨fun v wv=>∃ q g b m s,v=.pointer (some ⟨q,0,none⟩)∧PlS w0 q g b m s 8 8 20 x wv,fun _ _ _ h hb=>by
 obtain ⟨q,g,b,m,s,h1,h2⟩:=h
 exact ⟨q,g,b,m,s,h1,h2.below hb⟩⟩
def sayRi (l:List Int):regs.Say regs.bl:=⟨fun v wv=>∃ A c,v=.slice A l.length c∧Row eI wv A l,fun _ _ _ h hb=>by
 obtain ⟨A,c,h1,h2⟩:=h
 exact ⟨A,c,h1,Row.below h2 hb⟩⟩
def UpTo (x y:PSc) (k:Nat):Prop:=(trm.walk x.t 0).length=(trm.walk y.t 0).length∧(trm.walk x.t 0).take k=(trm.walk y.t 0).take k∧∀ i∈(trm.walk x.t 0).take k,par x.t i=par y.t i∧x.nd i=y.nd i
theorem UpTo.start {x y:PSc} (h:(trm.walk x.t 0).length=(trm.walk y.t 0).length):UpTo x y 0:=⟨h,rfl,fun i hi=>by simp at hi⟩
theorem UpTo.step {x y:PSc} {k:Nat} (h:UpTo x y k) (h1:k<(trm.walk x.t 0).length) (h2:k<(trm.walk y.t 0).length) (e:(trm.walk x.t 0)[k]=(trm.walk y.t 0)[k]) (hp:par x.t (trm.walk x.t 0)[k]=par y.t (trm.walk x.t 0)[k]) (hn:x.nd (trm.walk x.t 0)[k]=y.nd (trm.walk x.t 0)[k]):UpTo x y (k+1):=by
 refine ⟨h.1,?_,fun i hi=>?_⟩
 ·rw [List.take_succ_eq_append_getElem h1,List.take_succ_eq_append_getElem h2,h.2.1,e]
 ·rw [List.take_succ_eq_append_getElem h1] at hi;rcases List.mem_append.1 hi with hi | hi
  ·exact h.2.2 i hi
  ·rw [List.mem_singleton.1 hi];exact ⟨hp,hn⟩
theorem UpTo.all {x y:PSc} (ok:Ok x.t) (ok':Ok y.t) (h:UpTo x y (trm.walk x.t 0).length):same x y:=by
 obtain ⟨h1,h2,h3⟩:=h;rw [List.take_length] at h2 h3;rw [h1,List.take_length] at h2;exact ⟨fun q=>alike_of_walk ok ok' h2 (fun i hi=>(h3 i hi).1) q,fun i hi=>eqN_iff.2 (h3 i ((walk_all ok).2 hi)).2⟩
theorem same.walk {x y:PSc} (ok:Ok x.t) (ok':Ok y.t) (h:same x y):trm.walk x.t 0=trm.walk y.t 0:=alike_walk ok ok' h.1 0
theorem same.par {x y:PSc} (ok:Ok x.t) (ok':Ok y.t) (h:same x y) (i:Int):par x.t i=par y.t i:=alike_par ok ok' h.1 i
theorem copies_in (A1:Option Addr) (L1:List OpL) (c1:Nat) (B1:Option Addr) (L2:List OpL) (e1:Nat) (w:World) (h1:TrAt w A1 L1) (_:L1.length*24<=140737488351232) (h2:TrAt w B1 L2) (_:L2.length*24<=140737488351232) :
  Calls Tryz.prog 3 #[.slice A1 L1.length c1,.slice B1 L2.length e1] w fun e w'=>e=.returned (.bool true)∧Below w.heap.size w w':=by
 have HT1:=Hd h1;have HT2:=Hd h2;have HSZ:=Hd (size_law L1 A1 c1 w h1);clear h1 h2;go_enter Tryz.func3,Tryz.ntmps3;go_wp2_with (fail);refine HSZ.out.mono ?_;unfold SizeQ;rintro e w1 ⟨n,rfl,hn,hn64,hb1⟩;have HB1:=Hd hb1;have HNF:=Hd hn;clear hb1 hn HSZ;by_cases hbad:n<0
 ·have t1:decide (n<0)=true:=decide_eq_true hbad;clear hbad hn64 HNF;go_wp2_with (fail);refine (awake_any _).mono ?_;rintro e w9 ⟨rfl,hb9⟩;have HB9:=Hd (HB1.out.trans (hb9.mono HB1.out.size));clear hb9;go_wp2_with (fail);go_ret;exact ⟨rfl,HB9.out⟩
 have t1:decide (n<0)=false:=decide_eq_false hbad;have HF1:Hid (fits L1):=HNF.out.1 (by omega);have HSZ:=Hd (size_law L2 B1 e1 w1 (HT2.out.below HB1.out));clear hbad hn64 HNF;go_wp2_with (fail);refine HSZ.out.mono ?_;unfold SizeQ;rintro e w2 ⟨n',rfl,hn,hn64,hb2⟩;have HB2:=Hd (HB1.out.trans (hb2.mono HB1.out.size));have HNF:=Hd hn;clear hb2 hn HSZ HB1;by_cases hbad:n'<0
 ·have t2:decide (n'<0)=true:=decide_eq_true hbad;clear hbad hn64 HNF;go_wp2_with (fail);refine (awake_any _).mono ?_;rintro e w9 ⟨rfl,hb9⟩;have HB9:=Hd (HB2.out.trans (hb9.mono HB2.out.size));clear hb9;go_wp2_with (fail);go_ret;exact ⟨rfl,HB9.out⟩
 have t2:decide (n'<0)=false:=decide_eq_false hbad;have HF2:Hid (fits L2):=HNF.out.1 (by omega);clear hbad hn64 HNF;have HNEW:=Hd (new_ok (w:=w2) ⟨8,⟨8,20⟩,fun _=>False⟩ (fun _ e=>e.elim) ⟨show (1:Int)<=8 by decide,show (8:Int)<=4096 by decide⟩ ⟨show (1:Int)<=8 by decide,show (8:Int)<=4096 by decide⟩ ⟨show (1:Int)<=20 by decide,show (20:Int)<=65536 by decide⟩);go_wp2_with (fail);refine HNEW.out.mono ?_;unfold NewQ;rintro e w3 ⟨g,b,m,s0,rfl,hs1,hb3,hf3,-⟩
 have HMY:Hid (MyS w g b m s0 ⟨8,⟨8,20⟩,fun _=>False⟩ PSc.new w3):=⟨hs1,fun k hk=>Nat.le_trans HB2.out.size (hf3 k hk),HB2.out.trans (hb3.mono HB2.out.size)⟩
 clear hs1 hb3 hf3 HNEW HB2;go_wp2_with (fail);refine (dnew_any 8 8 20 w3).mono ?_;rintro e w4 ⟨v3,rfl,hd3,hb3⟩;obtain ⟨A2,c2,m2,rfl,ht3,hm3⟩:=hd3.ex;have HMY3:Hid (MyS w g b m s0 ⟨8,⟨8,20⟩,fun _=>False⟩ PSc.new w4):=HMY.out.below hb3;have HT3:Hid (DTree w4 (.slice A2 PSc.new.t.length c2) PSc.new.t):=ht3;have HM3:Hid (DMap w4 m2 (has PSc.new.t) PSc.new.nd):=hm3;have hbl:=build_pl g 8 8 20 A2 PSc.new.t.length c2 m2 w4;clear hd3 hb3 ht3 hm3 HMY
 have HPL:Hid (PlS w w4.heap.size g b m s0 8 8 20 PSc.new (w4.alloc (.cells (Vm g 8 8 20 A2 PSc.new.t.length c2 m2).toArray tPl))):=PlS.new HMY3.out rfl (bR.alloc nR _) (BlkT.new w4 (Vm g 8 8 20 A2 PSc.new.t.length c2 m2) tPl) (HT3.out.below (bR.alloc nR _)) (HM3.out.below (bR.alloc nR _));have hlb:(L1.length:Int)<=30:=by have:=HF1.out.2.1;omega
 go_upto_region 7 with ((with_reducible refine gU ?_);refine wpl_build _ _ rfl rfl (by simp [go_sem]) hbl ?_)
 clear hbl;generalize (w4.alloc (.cells (Vm g 8 8 20 A2 PSc.new.t.length c2 m2).toArray tPl))=w5 at *;generalize w4.heap.size=p at *
 go_upto_region 8 with (fail)
 go_loopw [42] (fun xi wr=>∃ j:Nat,j<=L1.length∧xi=.int .i64 j∧Hid (∃ s x,PlS w p g b m s 8 8 20 x wr∧Sane x∧x.t.length<=0+total (L1.take j))) (fun xi _=>L1.length - (intOf xi).toNat)
 case atStart=>exact ⟨0,Nat.zero_le _,rfl,s0,PSc.new,HPL.out,PSc.new_sane,Nat.zero_le _⟩
 case round=>
  obtain ⟨j,hj,rfl,HX1⟩:=hrel;generalize wr=wA at *;obtain ⟨s,x,hpl,hsx,hlx⟩:=HX1.out;have HPW1:=Hd hpl;have HSX1:=Hd hsx;have HLX1:=Hd hlx;clear hpl hsx hlx HX1;by_cases hlt:j<L1.length
  ·have t4:decide (j<L1.length)=true:=by simpa using hlt
   have HLT1:=Hd hlt;obtain ⟨lb,lo,rA,hcell⟩:=(HT1.out.below HPW1.out.bel).row (by omega);subst rA
   obtain ⟨q9,hq⟩:∃ q,q=L1[j]'hlt:=⟨_,rfl⟩
   have hqc:wA.cell? ⟨lb,lo+j,none⟩=some (.slice q9.A q9.l.length q9.c):=by
    have:=hcell j hlt 0 (.slice q9.A q9.l.length q9.c) (by rw [hq];rfl)
    rwa [Nat.mul_one,Nat.add_zero] at this
   have HQM:Hid (q9∈L1):=by rw [hq];exact List.getElem_mem hlt
   have HTK:Hid (L1.take (j+1)=L1.take j++[q9]):=by rw [hq];exact List.take_succ_eq_append_getElem hlt
   have i0:=World.block_lt_of_cell? wA ⟨lb,_,none⟩ hqc
   have HQL:Hid (x.t.length+q9.l.length<=0+total (L1.take (j+1))∧total (L1.take (j+1))<=120):=by
    refine ⟨?_,Nat.le_trans (total_take (j+1)) HF1.out.2.2⟩;rw [HTK.out,total_snoc];have:=HLX1.out;omega
   have HTHQ:Hid (∀ o∈q9.l,o.o.lk.l.length<=300):=HF1.out.1 q9 HQM.out
   have HRM:Hid (q9.l.length<=1024->Room 20 x q9.l.length):=fun _=>by
    have:=HQL.out;exact ⟨by omega,.inl (by omega)⟩
   obtain ⟨os,hos⟩:∃ os,q9.l.map (·.o)=os:=⟨_,rfl⟩
   have hosl:os.length=q9.l.length:=by rw [← hos,List.length_map]
   obtain ⟨z,hy⟩:∃ yy9,(applyS 20 setSt x os).1=yy9:=⟨_,rfl⟩
   have HSY:Hid (Sane z):=by
    show Sane z;rw [← hy];refine HSX1.out.apply fun o ho'=>?_;rw [← hos] at ho';obtain ⟨q',h1,h2⟩:=List.mem_map.1 ho';rw [← h2];exact ((HT1.out.ops q9 HQM.out).px q' h1).2.ok (HTHQ.out q' h1)
   have HYL:Hid (z.t.length<=0+total (L1.take (j+1))):=by
    have h1:=(applyS_len (M:=20) (l:=os) HSX1.out.ok).1;rw [hy,hosl] at h1;exact Nat.le_trans h1 HQL.out.1
   have HDO:Hid (Calls Tryz.prog 12 #[.pointer (some ⟨p,0,none⟩),.slice q9.A q9.l.length q9.c] wA fun e w'=>e=.returned (.bool true)∧(∃ s',PlS w p g b m s' 8 8 20 z w')∧Below w.heap.size wA w'):=by
    have h1:=pdo_any HPW1.out HSX1.out q9.l q9.A q9.c (HT1.out.ops q9 HQM.out) HTHQ.out (by have:=HQL.out;omega) HRM.out;rw [hos,hy] at h1;exact h1
   clear hcell hq hlt hos hosl hy hj;go_wp2_with (fail);refine HDO.out.mono ?_;rintro e w5 ⟨rfl,⟨s9,hp2⟩,-⟩;have HP5:=Hd hp2;clear hp2 hqc i0 HDO;go_wp2_with (fail)
   go_roundw
   case rel=>exact ⟨j+1,HLT1.out,by go_num,s9,z,HP5.out,HSY.out,HYL.out⟩
   case measure=>have:=HLT1.out;simp [intOf];omega
  ·obtain rfl:j=L1.length:=by omega
   have t4:decide (L1.length<L1.length)=false:=by simp
   have HLA1:Hid (x.t.length<=0+120):=by
    have h1:=HLX1.out;have h2:=HF1.out.2.2;rw [List.take_length] at h1;show _<=_;omega
   clear hlt hj;have HPB:=Hd HPW1.out.bel;obtain ⟨Ap,cp,dp,hbp,htp,hmp⟩:=HPW1.out.blk;have HBP:=Hd hbp;have HTP:=Hd htp;have HMP:=Hd hmp;have FPB:Hid (∀ W,BelA wA W->Blk W p (Vm g 8 8 20 Ap x.t.length cp dp)):=fun W hb=>HBP.out.blk.below' hb
   have FDT:Hid (∀ W,BelA wA W->DTree W (.slice Ap x.t.length cp) x.t∧DMap W dp (has x.t) x.nd):=fun W hb=>⟨HTP.out.below hb,HMP.out.below hb⟩
   have FCP:Hid (∀ W,BelA wA W->Calls Tryz.prog 13 #[.pointer (some ⟨g,0,none⟩)] W fun e w'=>∃ g2 b2 m2 s2 E,e=.returned (.pointer (some ⟨g2,0,none⟩))∧MyS wA g2 b2 m2 s2 ⟨8,⟨8,20⟩,E⟩ x w'∧Below W.heap.size W w'):=fun W hb=>by
    refine (scopy_any (HPW1.out.my.at_.below hb) (by have:=HLA1.out;omega)).mono ?_;unfold SCopyQ;rintro e w' ⟨g2,b2,m2,s2,h1,h2,h3,h4,-⟩;exact ⟨g2,b2,m2,s2,_,h1,⟨h2,fun k hk=>Nat.le_trans hb.size (h4 k hk),BelA.trans hb h3⟩,h3⟩
   clear hbp htp hmp
   go_upto_region 13 with (fail)
   refine wR (BelA) (regs.noJ) [51,52,53,54,55,56,57,58,10] (fun _=>BelA.refl _) (fun _ _ _ h k=>h.trans k) (fun i=>match i with
    |0=>rp g 0
    | 1=>sayCp wA x
    |2|3=>rp p 0
    |4=>rp p 1
    |5=>rV (.agg ((Vc 8 8 20 Ap x.t.length cp dp)).toArray)
    | 6=>sayPv wA x Ap x.t.length cp dp
    | 7=>sayPq wA x
    | 8=>sayPq wA x
    | _=>ra) (bR.drew) (regs.noJ_ok _ _) ⟨?_,?_,?_,?_,?_,?_,?_,?_,?_,trivial⟩ ?_
   any_goals (first|refine zp fun L a w1 hh=>?_|fail)
   have h5:=hh.p 5 g 0;rotate_left
   ·have h51:=rq (hh.d 0 51);have hC:=Hd (FCP.out w1 hh.rel);have hJ:=hh.j;clear hh;go_simp;refine hC.out.mono ?_;rintro e w9 ⟨g9,b9,m9,s9,E9,rfl,hm9,hb9⟩;exact ⟨_,rfl,hb9,⟨g9,b9,m9,s9,E9,rfl,hm9⟩,hJ.out⟩
   have h7:=hh.p 7 p 0;rotate_left;have h53:=rq (hh.d 2 53);rotate_left;have h54:=rq (hh.d 3 54);have i0:=(FPB.out _ hh.rel).inside;rotate_left
   ·have h55:=rq (hh.d 4 55);have hB:=Hd (FPB.out _ hh.rel);have hJ:=Hd hh.st;exact wp_take 34 _ rfl p 1 (by simpa [go_sem] using h55) _ hB.out ((Vc 8 8 20 Ap x.t.length cp dp)) rfl _ Tryz.underlying34 rfl (by kernel_rfl) ⟨_,rfl,BelA.refl _,rfl,hJ.out⟩
   ·have h56:=rq (hh.d 5 56)
    obtain ⟨g2,b2,n2,s2,E2,e8,hm8⟩:=(show ∃ g b m s E,(a.tmps.getD 52 undef)=.pointer (some ⟨g,0,none⟩)∧MyS wA g b m s ⟨8,⟨8,20⟩,E⟩ x w1 from hh.d 1 52)
    have h52:a.tmps[52]?.getD undef=.pointer (some ⟨g2,0,none⟩):=rq (e8);have hJ:=Hd hh.st;exact wp_build _ _ rfl (by simp [go_sem,h52,h56]) (build_pl g2 8 8 20 Ap x.t.length cp dp w1) ⟨_,rfl,BelA.refl _,⟨g2,b2,n2,s2,E2,rfl,hm8⟩,hJ.out⟩
   ·obtain ⟨g2,b2,n2,s2,E2,e8,hm8⟩:=(show ∃ g b m s E,(a.tmps.getD 57 undef)=.agg (Vm g 8 8 20 Ap x.t.length cp dp).toArray∧MyS wA g b m s ⟨8,⟨8,20⟩,E⟩ x w1 from hh.d 6 57)
    have h57:a.tmps[57]?.getD undef=.agg (Vm g2 8 8 20 Ap x.t.length cp dp).toArray:=rq (e8);have hD:=Hd (FDT.out w1 hh.rel);have hM8:=Hd hm8;have hJ:=Hd hh.st;clear hh e8 hm8;go_simp;exact ⟨_,rfl,bR.alloc nR _,⟨w1.heap.size,g2,b2,n2,s2,rfl,PlS.new hM8.out rfl (bR.alloc nR _) (BlkT.new w1 (Vm g2 8 8 20 Ap x.t.length cp dp) tPl) (hD.out.1.below (bR.alloc nR _)) (hD.out.2.below (bR.alloc nR _))⟩,hJ.out⟩
   ·obtain ⟨q8,g2,b2,n2,s2,e8,hm8⟩:=(show ∃ q g b m s,(a.tmps.getD 58 undef)=.pointer (some ⟨q,0,none⟩)∧PlS wA q g b m s 8 8 20 x w1 from hh.d 7 58)
    have h58:a.tmps[58]?.getD undef=.pointer (some ⟨q8,0,none⟩):=rq (e8);have hM8:=Hd hm8;have hJ:=Hd hh.st;clear hh e8 hm8;go_simp;exact ⟨_,rfl,BelA.refl _,⟨q8,g2,b2,n2,s2,rfl,hM8.out⟩,hJ.out⟩
   any_goals (have hJ:=hh.j;clear hh;go_simp;exact ⟨_,rfl,BelA.refl _,rfl,hJ.out⟩)
   intro L w13 val hL hJ hR hv;have HR13:=Hd hR;have hp13:(sayPq wA x).p (val 10) w13:=hv 8 10 (by kernel_rfl);obtain ⟨q,g2,b2,n2,s2,e10,hq13⟩:=hp13;have HQ13:=Hd hq13;clear hv hL hJ hR hq13;simp only [regs.putAll,List.map_cons,List.map_nil];simp only [Act.put,List.setIfInBounds_toArray,List.set_cons_zero,List.set_cons_succ]
   skip
   rw [e10];clear e10;have HP13:Hid (PlS w p g b m s 8 8 20 x w13):=HPW1.out.below HR13.out;have HEQ:=Hd (sequal HP13.out.my.at_ HQ13.out.my.at_ HSX1.out.fit HSX1.out.fit (by have:=HLA1.out;omega) (by have:=HLA1.out;omega) ⟨rfl,rfl⟩);obtain ⟨Aq0,cq0,dq0,hbq0,-,-⟩:=HQ13.out.blk;have qc:w13.cell? ⟨q,0,none⟩=some (.pointer (some ⟨g2,0,none⟩)):=hbq0.blk.cell 0;have qi:=hbq0.inside;clear hbq0 FPB FDT FCP;go_wp2_with (fail);refine HEQ.out.mono ?_;unfold EqQ;rintro e w14 ⟨r,rfl,hr,hb14⟩;obtain rfl:r=true:=hr.2 (same_self _);have HQ14:Hid (PlS wA q g2 b2 n2 s2 8 8 20 x w14):=HQ13.out.below hb14
   have HTA:Hid (TrAt wA B1 L2):=HT2.out.below HPB.out;have hlb2:(L2.length:Int)<=30:=by have:=HF2.out.2.1;omega
   clear hb14 hr HEQ qc qi HP13 HQ13 HBP HTP HMP HR13
   go_upto_region 17 with (fail)
   go_loopw [75] (fun xi wr=>∃ j:Nat,j<=L2.length∧xi=.int .i64 j∧Hid (∃ t y,PlS wA q g2 b2 n2 t 8 8 20 y wr∧Sane y∧y.t.length<=120+total (L2.take j))) (fun xi _=>L2.length - (intOf xi).toNat)
   case atStart=>exact ⟨0,Nat.zero_le _,rfl,s2,x,HQ14.out,HSX1.out,by have:=HLA1.out;omega⟩
   case round=>
    obtain ⟨j,hj,rfl,HX2⟩:=hrel;generalize wr=wB at *;obtain ⟨t,y,hpl,hsx,hlx⟩:=HX2.out;have HPW2:=Hd hpl;have HSX2:=Hd hsx;have HLX2:=Hd hlx;clear hpl hsx hlx HX2;by_cases hlt:j<L2.length
    ·have t4:decide (j<L2.length)=true:=by simpa using hlt
     have HLT2:=Hd hlt;obtain ⟨lb,lo,rA,hcell⟩:=(HTA.out.below HPW2.out.bel).row (by omega);subst rA
     obtain ⟨q9,hq⟩:∃ q,q=L2[j]'hlt:=⟨_,rfl⟩
     have hqc:wB.cell? ⟨lb,lo+j,none⟩=some (.slice q9.A q9.l.length q9.c):=by
      have:=hcell j hlt 0 (.slice q9.A q9.l.length q9.c) (by rw [hq];rfl)
      rwa [Nat.mul_one,Nat.add_zero] at this
     have HQM:Hid (q9∈L2):=by rw [hq];exact List.getElem_mem hlt
     have HTK:Hid (L2.take (j+1)=L2.take j++[q9]):=by rw [hq];exact List.take_succ_eq_append_getElem hlt
     have i0:=World.block_lt_of_cell? wB ⟨lb,_,none⟩ hqc
     have HQL:Hid (y.t.length+q9.l.length<=120+total (L2.take (j+1))∧total (L2.take (j+1))<=120):=by
      refine ⟨?_,Nat.le_trans (total_take (j+1)) HF2.out.2.2⟩;rw [HTK.out,total_snoc];have:=HLX2.out;omega
     have HTHQ:Hid (∀ o∈q9.l,o.o.lk.l.length<=300):=HF2.out.1 q9 HQM.out
     have HRM:Hid (q9.l.length<=1024->Room 20 y q9.l.length):=fun _=>by
      have:=HQL.out;exact ⟨by omega,.inl (by omega)⟩
     obtain ⟨os,hos⟩:∃ os,q9.l.map (·.o)=os:=⟨_,rfl⟩
     have hosl:os.length=q9.l.length:=by rw [← hos,List.length_map]
     obtain ⟨z,hy⟩:∃ yy9,(applyS 20 setSt y os).1=yy9:=⟨_,rfl⟩
     have HSY:Hid (Sane z):=by
      show Sane z;rw [← hy];refine HSX2.out.apply fun o ho'=>?_;rw [← hos] at ho';obtain ⟨q',h1,h2⟩:=List.mem_map.1 ho';rw [← h2];exact ((HTA.out.ops q9 HQM.out).px q' h1).2.ok (HTHQ.out q' h1)
     have HYL:Hid (z.t.length<=120+total (L2.take (j+1))):=by
      have h1:=(applyS_len (M:=20) (l:=os) HSX2.out.ok).1;rw [hy,hosl] at h1;exact Nat.le_trans h1 HQL.out.1
     have HDO:Hid (Calls Tryz.prog 12 #[.pointer (some ⟨q,0,none⟩),.slice q9.A q9.l.length q9.c] wB fun e w'=>e=.returned (.bool true)∧(∃ s',PlS wA q g2 b2 n2 s' 8 8 20 z w')∧Below wA.heap.size wB w'):=by
      have h1:=pdo_any HPW2.out HSX2.out q9.l q9.A q9.c (HTA.out.ops q9 HQM.out) HTHQ.out (by have:=HQL.out;omega) HRM.out;rw [hos,hy] at h1;exact h1
     clear hcell hq hlt hos hosl hy hj;go_wp2_with (fail);refine HDO.out.mono ?_;rintro e w5 ⟨rfl,⟨s9,hp2⟩,-⟩;have HP5:=Hd hp2;clear hp2 hqc i0 HDO;go_wp2_with (fail)
     go_roundw
     case rel=>exact ⟨j+1,HLT2.out,by go_num,s9,z,HP5.out,HSY.out,HYL.out⟩
     case measure=>have:=HLT2.out;simp [intOf];omega
    ·obtain rfl:j=L2.length:=by omega
     have t4:decide (L2.length<L2.length)=false:=by simp
     have HLA2:Hid (y.t.length<=120+120):=by
      have h1:=HLX2.out;have h2:=HF2.out.2.2;rw [List.take_length] at h1;show _<=_;omega
     clear hlt hj;have HPA:Hid (PlS w p g b m s 8 8 20 x wB):=HPW1.out.below HPW2.out.bel;obtain ⟨Ap,cp,dp,hbp,htp,hmp⟩:=HPA.out.blk;obtain ⟨Aq,cq,dq,hbq,htq,hmq⟩:=HPW2.out.blk;have HBP:=Hd hbp;have HTP:=Hd htp;have HMP:=Hd hmp;have HBQ:=Hd hbq;have HTQ:=Hd htq;have HMQ:=Hd hmq
     have FPQ:Hid (∀ W,regs.bl wB W->Blk W p (Vm g 8 8 20 Ap x.t.length cp dp)∧Blk W q (Vm g2 8 8 20 Aq y.t.length cq dq)):=fun W hb=>⟨HBP.out.blk.below' hb,HBQ.out.blk.below' hb⟩
     have HXL:Hid ((trm.walk x.t 0).length=x.t.length+1∧(trm.walk y.t 0).length=y.t.length+1):=⟨walk_len HSX1.out.ok,walk_len HSX2.out.ok⟩
     have HXM:Hid ((∀ i,i∈trm.walk x.t 0↔has x.t i=true)∧∀ i,i∈trm.walk y.t 0↔has y.t i=true):=⟨fun i=>walk_all HSX1.out.ok,fun i=>walk_all HSX2.out.ok⟩
     have FWX:Hid (∀ W,regs.bl wB W->Calls Tryz.prog 15 #[.slice Ap x.t.length cp,.int .i64 0] W fun e w'=>∃ A c,e=.returned (.slice A (trm.walk x.t 0).length c)∧Row eI w' A (trm.walk x.t 0)∧Below W.heap.size W w'):=fun W hb=>by
      refine (dwalk Ap x.t cp HSX1.out.ok (by have:=HLA1.out;omega) (x.t.length+1) 0 W (DTree.srow (HTP.out.below hb)) (.inl rfl) (by omega)).mono ?_;unfold KidsQ;rintro e w' ⟨v,rfl,ho,hb'⟩;obtain ⟨A,c,rfl,-,-,hr⟩:=ho.irow;exact ⟨A,c,rfl,hr,hb'⟩
     have FWY:Hid (∀ W,regs.bl wB W->Calls Tryz.prog 15 #[.slice Aq y.t.length cq,.int .i64 0] W fun e w'=>∃ A c,e=.returned (.slice A (trm.walk y.t 0).length c)∧Row eI w' A (trm.walk y.t 0)∧Below W.heap.size W w'):=fun W hb=>by
      refine (dwalk Aq y.t cq HSX2.out.ok (by have:=HLA2.out;omega) (y.t.length+1) 0 W (DTree.srow (HTQ.out.below hb)) (.inl rfl) (by omega)).mono ?_;unfold KidsQ;rintro e w' ⟨v,rfl,ho,hb'⟩;obtain ⟨A,c,rfl,-,-,hr⟩:=ho.irow;exact ⟨A,c,rfl,hr,hb'⟩
     obtain ⟨X,hX⟩:∃ X,trm.walk x.t 0=X:=⟨_,rfl⟩
     obtain ⟨Y,hY⟩:∃ Y,trm.walk y.t 0=Y:=⟨_,rfl⟩
     have HXE:=Hd (And.intro hX hY);rw [hX] at FWX HXL HXM;rw [hY] at FWY HXL HXM;clear hbp htp hmp hbq htq hmq hX hY
     go_upto_region 22 with (fail)
     refine wRn [84,85,86,87,88,89,90,91,92,93,94,95,13,14] (fun i=>match i with
      |0|1=>rp p 0
      |2=>rp p 1
      |3=>rp p 4
      |4=>rV (.slice Ap x.t.length cp)
      | 5=>sayRi X
      |6|7=>rp q 0
      |8=>rp q 1
      |9=>rp q 4
      |10=>rV (.slice Aq y.t.length cq)
      | 11=>sayRi Y
      | 12=>sayRi X
      | 13=>sayRi Y
      | _=>ra) ⟨?_,?_,?_,?_,?_,?_,?_,?_,?_,?_,?_,?_,?_,?_,trivial⟩ ?_
     any_goals (first|refine zp fun L a w1 hh=>?_|fail)
     have h7:=hh.p 7 p 0;rotate_left;have h84:=rq (hh.d 0 84);rotate_left;have h85:=rq (hh.d 1 85);have i0:=((FPQ.out _ hh.rel).1).inside;rotate_left;have h86:=rq (hh.d 2 86);have i0:=((FPQ.out _ hh.rel).1).inside;rotate_left;have h87:=rq (hh.d 3 87);have ⟨c0,i0⟩:=((FPQ.out _ hh.rel).1).ci 4 rfl;rotate_left
     ·have h88:=rq (hh.d 4 88);have hC:=Hd (FWX.out _ hh.rel);have hJ:=hh.j;clear hh;go_simp;refine hC.out.mono ?_;rintro e w9 ⟨A9,c9,rfl,hr9,hb9⟩;exact ⟨_,rfl,hb9,⟨A9,c9,rfl,hr9⟩,hJ.out⟩
     have h10:=hh.p 10 q 0;rotate_left;have h90:=rq (hh.d 6 90);rotate_left;have h91:=rq (hh.d 7 91);have i0:=((FPQ.out _ hh.rel).2).inside;rotate_left;have h92:=rq (hh.d 8 92);have i0:=((FPQ.out _ hh.rel).2).inside;rotate_left;have h93:=rq (hh.d 9 93);have ⟨c0,i0⟩:=((FPQ.out _ hh.rel).2).ci 4 rfl;rotate_left
     ·have h94:=rq (hh.d 10 94);have hC:=Hd (FWY.out _ hh.rel);have hJ:=hh.j;clear hh;go_simp;refine hC.out.mono ?_;rintro e w9 ⟨A9,c9,rfl,hr9,hb9⟩;exact ⟨_,rfl,hb9,⟨A9,c9,rfl,hr9⟩,hJ.out⟩
     ·obtain ⟨A8,c8,e8,hr8⟩:=(show ∃ A c,(a.tmps.getD 89 undef)=.slice A (X).length c∧Row eI w1 A (X) from hh.d 5 89)
      have h89:a.tmps[89]?.getD undef=.slice A8 (X).length c8:=rq (e8);have hR8:=Hd hr8;have hJ:=Hd hh.st;clear hh e8 hr8;go_simp;exact ⟨_,rfl,rB,⟨A8,c8,rfl,hR8.out⟩,hJ.out⟩
     ·obtain ⟨A8,c8,e8,hr8⟩:=(show ∃ A c,(a.tmps.getD 95 undef)=.slice A (Y).length c∧Row eI w1 A (Y) from hh.d 11 95)
      have h95:a.tmps[95]?.getD undef=.slice A8 (Y).length c8:=rq (e8);have hR8:=Hd hr8;have hJ:=Hd hh.st;clear hh e8 hr8;go_simp;exact ⟨_,rfl,rB,⟨A8,c8,rfl,hR8.out⟩,hJ.out⟩
     any_goals (clear hh;go_simp;exact ⟨_,rfl,rB,rfl,trivial⟩)
     intro L w22 val hL hJ hR hv;have HR22:=Hd hR
     obtain ⟨A13,c13,e13,hr13⟩:=(show (sayRi X).p (val 13) w22 from hv 12 13 (by kernel_rfl))
     obtain ⟨A14,c14,e14,hr14⟩:=(show (sayRi Y).p (val 14) w22 from hv 13 14 (by kernel_rfl))
     have HR13:=Hd hr13;have HR14:=Hd hr14;clear hv hL hJ hR hr13 hr14;simp only [regs.putAll,List.map_cons,List.map_nil];simp only [Act.put,List.setIfInBounds_toArray,List.set_cons_zero,List.set_cons_succ]
     skip
     rw [e13];clear e13;rw [e14];clear e14;have HB22:Hid (Below wB.heap.size wB w22):=HR22.out;have hxl:(X.length:Int)<=100000:=by have:=HXL.out.1;have:=HLA1.out;omega
     have hyl:(Y.length:Int)<=100000:=by have:=HXL.out.2;have:=HLA2.out;omega
     clear FWX FWY HR22
     obtain ⟨b0,hb0⟩:∃ b0,decide (X.length=Y.length)=b0:=⟨_,rfl⟩
     have HB0:Hid (b0=true↔X.length=Y.length):=by show _↔_;rw [← hb0,decide_eq_true_eq]
     clear hb0
     go_upto_region 23 with (fail)
     go_cut [15] from 96 (fun u wx=>u=.bool b0∧wx=w22)
     case first=>
      by_cases hlen:X.length=Y.length
      ·have t0:decide (X.length=Y.length)=true:=decide_eq_true hlen;have t9:((X.length:Int)==(Y.length:Int))=true:=by simp;omega
       have t8:(X.length==Y.length)=true:=by simpa using hlen
       obtain rfl:b0=true:=HB0.out.2 hlen;clear hlen;go_wp2_with (fail)
       go_meet
       case rel=>exact ⟨rfl,rfl⟩
      ·have t0:decide (X.length=Y.length)=false:=decide_eq_false hlen;have t9:((X.length:Int)==(Y.length:Int))=false:=by simp;omega
       have t8:(X.length==Y.length)=false:=by simpa using hlen
       obtain rfl:b0=false:=by cases b0 with | false=>rfl | true=>exact absurd (HB0.out.1 rfl) hlen
       clear hlen;go_wp2_with (fail)
       go_meet
       case rel=>exact ⟨rfl,rfl⟩
     case rest=>
     obtain ⟨hu9,hw9⟩:=hcut;have hw9:=hw9.symm;subst hw9;subst hu9
     go_upto_region 25 with (fail)
     go_loopw [15,16] (fun x15 x16 wr=>∃ (k:Nat) (bq:Bool),k<=X.length∧x15=.bool bq∧x16=.int .i64 k∧Hid (if bq=true then UpTo x y k else ¬ same x y)∧Hid (Below w22.heap.size w22 wr)) (fun _ x16 _=>X.length - (intOf x16).toNat)
     case atStart=>
      refine ⟨0,b0,Nat.zero_le _,rfl,rfl,?_,bR⟩;cases b0 with
      | true=>exact UpTo.start (by rw [HXE.out.1,HXE.out.2];exact HB0.out.1 rfl)
      | false=>
       exact fun h=>by
        have h1:=congrArg List.length (h.walk HSX1.out.ok HSX2.out.ok);rw [HXE.out.1,HXE.out.2] at h1;exact absurd (HB0.out.2 h1) (by decide)
     case round=>
      obtain ⟨k,bq,hk,rfl,rfl,HU,HBR⟩:=hrel;generalize wr=wD at *;have HBD:Hid (Below wB.heap.size wB wD):=HB22.out.trans (HBR.out.mono HB22.out.size);by_cases hgo:bq=true∧k<X.length
      ·obtain ⟨rfl,hkx⟩:=hgo;have hU:UpTo x y k:=by have h:=HU.out;rwa [if_pos rfl] at h
       have t1:decide (k<X.length)=true:=decide_eq_true hkx;have hky:k<Y.length:=by have h:=hU.1;rw [HXE.out.1,HXE.out.2] at h;omega
       have HLT:=Hd hkx;have HLT2:=Hd hky;obtain ⟨xb,xo,ex,kx⟩:=Row.at_ (Row.below HR13.out HBR.out) hkx;obtain ⟨yb,yo,ey,ky⟩:=Row.at_ (Row.below HR14.out HBR.out) hky;subst ex;subst ey;unfold eI at kx ky
       obtain ⟨xk,hxk⟩:∃ xk,xk=X[k]'hkx:=⟨_,rfl⟩
       obtain ⟨yk,hyk⟩:∃ yk,yk=Y[k]'hky:=⟨_,rfl⟩
       have HHX:Hid (has x.t xk=true):=by rw [hxk];exact (HXM.out.1 _).1 (List.getElem_mem hkx)
       have HHY:Hid (has y.t yk=true):=by rw [hyk];exact (HXM.out.2 _).1 (List.getElem_mem hky)
       have HSTP:Hid (xk=yk->par x.t xk=par y.t xk->x.nd xk=y.nd xk->UpTo x y (k+1)):=by
        rw [hxk,hyk];intro e1 e2 e3;obtain ⟨q1,q2⟩:=HXE.out;subst q1 q2;exact hU.step hkx hky e1 e2 e3
       have HSAM:Hid (same x y->xk=yk∧par x.t xk=par y.t xk∧eqN (x.nd xk) (y.nd xk)=true):=fun h=>by
        have h1:=h.walk HSX1.out.ok HSX2.out.ok;rw [HXE.out.1,HXE.out.2] at h1;refine ⟨?_,h.par HSX1.out.ok HSX2.out.ok _,h.2 _ HHX.out⟩;rw [hxk,hyk];exact List.getElem_of_eq h1 hkx
       rw [← hxk] at kx;rw [← hyk] at ky;have hkb:(k:Int)<=100000:=by omega
       have FX:Hid (∀ W,regs.bl wD W->W.cell? ⟨xb,xo+k,none⟩=some (.int .i64 xk)∧xb<W.heap.size):=fun W hb=>by
        have l1:=World.block_lt_of_cell? wD _ kx;exact ⟨(Below.cell hb (p:=⟨xb,xo+k,none⟩) l1).trans kx,Nat.lt_of_lt_of_le l1 hb.size⟩
       have FY:Hid (∀ W,regs.bl wD W->W.cell? ⟨yb,yo+k,none⟩=some (.int .i64 yk)∧yb<W.heap.size):=fun W hb=>by
        have l1:=World.block_lt_of_cell? wD _ ky;exact ⟨(Below.cell hb (p:=⟨yb,yo+k,none⟩) l1).trans ky,Nat.lt_of_lt_of_le l1 hb.size⟩
       have FPQ0:=Hd FPQ.out;clear FPQ;have FPQ:Hid (∀ W,regs.bl wD W->Blk W p (Vm g 8 8 20 Ap x.t.length cp dp)∧Blk W q (Vm g2 8 8 20 Aq y.t.length cq dq)):=fun W hb=>FPQ0.out W (HBD.out.trans (Below.mono hb HBD.out.size));clear hxk hyk kx ky hkx hky hk hU HU;by_cases he:¬ xk=yk
       ·have HNE:Hid ((xk==yk)=false):=by show _=_;simpa using he
        have HNS:Hid (¬ same x y):=fun h=>he (HSAM.out h).1;clear he
        go_upto_region 27 with (fail)
        refine wRn [110,111,112,113,114,115,116,117,118,119,120,121,122,123,124,125,126,127,128,129,130,131,132,133,134,135,136,137,138,139,140,141,142,143,144,145,146,147,148,149,150,151,152,153,154,155,156,157,158,159,160,161,162,163,164,15] (fun i=>match i with
         |0=>rV (.slice (some ⟨xb,xo,none⟩) X.length c13)
         |1|5=>rV (.int .i64 (k:Nat))
         |2=>rV (.pointer (some ⟨xb,(xo+k),none⟩))
         |3=>rV (.int .i64 xk)
         |4=>rV (.slice (some ⟨yb,yo,none⟩) Y.length c14)
         |6=>rV (.pointer (some ⟨yb,(yo+k),none⟩))
         |7=>rV (.int .i64 yk)
         |8|9|31|32|54|55=>rV (.bool false)
         |10|11|12|13|14|15|16|17|18|19|20|21|22|23|24|25|26|27|28|29|30|33|34|35|36|37|38|39|40|41|42|43|44|45|46|47|48|49|50|51|52|53=>rV (undef)
         | _=>ra) ⟨?_,?_,?_,?_,?_,?_,?_,?_,?_,?_,?_,?_,?_,?_,?_,?_,?_,?_,?_,?_,?_,?_,?_,?_,?_,?_,?_,?_,?_,?_,?_,?_,?_,?_,?_,?_,?_,?_,?_,?_,?_,?_,?_,?_,?_,?_,?_,?_,?_,?_,?_,?_,?_,?_,?_,?_,trivial⟩ ?_
        any_goals (first|refine zp fun L a w1 hh=>?_|fail)
        have h13:=hh.o 13 (v:=.slice (some ⟨xb,xo,none⟩) X.length c13) rfl;rotate_left;have h16:=hh.o 16 (v:=.int .i64 (k:Nat)) rfl;rotate_left
        ·have h110:=rq (hh.d 0 110);have h111:=rq (hh.d 1 111)
         obtain ⟨-,li⟩:=(FX.out _ hh.rel)
         have hlt:=HLT.out;clear hh;go_simp;exact ⟨_,rfl,rB,rfl,trivial⟩
        ·have h112:=rq (hh.d 2 112)
         obtain ⟨c0,li⟩:=(FX.out _ hh.rel)
         clear hh;go_simp;exact ⟨_,rfl,rB,rfl,trivial⟩
        have h14:=hh.o 14 (v:=.slice (some ⟨yb,yo,none⟩) Y.length c14) rfl;rotate_left;have h16:=hh.o 16 (v:=.int .i64 (k:Nat)) rfl;rotate_left
        ·have h114:=rq (hh.d 4 114);have h115:=rq (hh.d 5 115)
         obtain ⟨-,li⟩:=(FY.out _ hh.rel)
         have hlt:=HLT2.out;clear hh;go_simp;exact ⟨_,rfl,rB,rfl,trivial⟩
        ·have h116:=rq (hh.d 6 116)
         obtain ⟨c0,li⟩:=(FY.out _ hh.rel)
         clear hh;go_simp;exact ⟨_,rfl,rB,rfl,trivial⟩
        have h113:=rq (hh.d 3 113);have h117:=rq (hh.d 7 117);have hne:=HNE.out;rotate_left;have h118:=rq (hh.d 8 118);rotate_left
        ·refine sz rfl rfl
        ·refine sz rfl rfl
        ·refine sz rfl rfl
        ·refine sz rfl rfl
        ·refine sz rfl rfl
        ·refine sz rfl rfl
        ·refine sz rfl rfl
        ·refine sz rfl rfl
        ·refine sz rfl rfl
        ·refine sz rfl rfl
        ·refine sz rfl rfl
        ·refine sz rfl rfl
        ·refine sz rfl rfl
        ·refine sz rfl rfl
        ·refine sz rfl rfl
        ·refine sz rfl rfl
        ·refine sz rfl rfl
        ·refine sz rfl rfl
        ·refine sz rfl rfl
        ·refine sz rfl rfl
        ·refine sz rfl rfl
        have h119:=rq (hh.d 9 119);rotate_left;have h141:=rq (hh.d 31 141);rotate_left
        ·refine sz rfl rfl
        ·refine sz rfl rfl
        ·refine sz rfl rfl
        ·refine sz rfl rfl
        ·refine sz rfl rfl
        ·refine sz rfl rfl
        ·refine sz rfl rfl
        ·refine sz rfl rfl
        ·refine sz rfl rfl
        ·refine sz rfl rfl
        ·refine sz rfl rfl
        ·refine sz rfl rfl
        ·refine sz rfl rfl
        ·refine sz rfl rfl
        ·refine sz rfl rfl
        ·refine sz rfl rfl
        ·refine sz rfl rfl
        ·refine sz rfl rfl
        ·refine sz rfl rfl
        ·refine sz rfl rfl
        ·refine sz rfl rfl
        have h142:=rq (hh.d 32 142);rotate_left;have h164:=rq (hh.d 54 164);rotate_left
        any_goals (clear hh;go_simp;exact ⟨_,rfl,rB,rfl,trivial⟩)
        intro L w27 val hL hJ hR hv;have h15:val 15=.bool false:=hv 55 15 (by kernel_rfl);have HR27:=Hd hR;clear hv hL hJ hR;simp only [regs.putAll,List.map_cons,List.map_nil,h15];simp only [Act.put,List.setIfInBounds_toArray,List.set_cons_zero,List.set_cons_succ];clear h15
        generalize val 110=v110,val 111=v111,val 112=v112,val 113=v113,val 114=v114,val 115=v115,val 116=v116,val 117=v117,val 118=v118,val 119=v119,val 120=v120,val 121=v121,val 122=v122,val 123=v123,val 124=v124,val 125=v125,val 126=v126,val 127=v127,val 128=v128,val 129=v129,val 130=v130,val 131=v131,val 132=v132,val 133=v133,val 134=v134,val 135=v135,val 136=v136,val 137=v137,val 138=v138,val 139=v139,val 140=v140,val 141=v141,val 142=v142,val 143=v143,val 144=v144,val 145=v145,val 146=v146,val 147=v147,val 148=v148,val 149=v149,val 150=v150,val 151=v151,val 152=v152,val 153=v153,val 154=v154,val 155=v155,val 156=v156,val 157=v157,val 158=v158,val 159=v159,val 160=v160,val 161=v161,val 162=v162,val 163=v163,val 164=v164 at *
        have HB27:Hid (Below w22.heap.size w22 w27):=HBR.out.trans (Below.mono HR27.out HBR.out.size);go_wp2_with (fail)
        go_roundw
        case rel=>exact ⟨k+1,false,HLT.out,rfl,by go_num,HNS.out,HB27.out⟩
        case measure=>have:=HLT.out;simp [intOf];omega
       obtain rfl:xk=yk:=Classical.byContradiction he;have HI64:Hid (I64 xk):=has_64 HSX1.out.ok HHX.out;obtain ⟨An1,cn1,hr1,hl1⟩:=HMP.out.look HI64.out HHX.out;obtain ⟨An2,cn2,hr2,hl2⟩:=HMQ.out.look HI64.out HHY.out
       have FLK:Hid (∀ W,regs.bl wD W->(Instr.lookup tDNs (.map (some dp)) (.int .i64 xk) false).run Tryz.prog W=.ok (.agg ((x.nd xk).cs An1 cn1).toArray) W∧(Instr.lookup tDNs (.map (some dq)) (.int .i64 xk) false).run Tryz.prog W=.ok (.agg ((y.nd xk).cs An2 cn2).toArray) W):=fun W hb=>⟨hl1 W (HBD.out.trans (Below.mono hb HBD.out.size)),hl2 W (HBD.out.trans (Below.mono hb HBD.out.size))⟩
       have FAL:Hid (∀ W,regs.bl wD W->Calls Tryz.prog 17 #[.agg ((x.nd xk).cs An1 cn1).toArray,.agg ((y.nd xk).cs An2 cn2).toArray] W fun e w'=>e=.returned (.bool (eqN (x.nd xk) (y.nd xk)))∧Below W.heap.size W w'):=fun W hb=>alike_any _ _ An1 An2 cn1 cn2 W (Row.below hr1.row (HBD.out.trans (Below.mono hb HBD.out.size))) (Row.below hr2.row (HBD.out.trans (Below.mono hb HBD.out.size))) ⟨by have:=(HSX1.out.fit xk).len;omega,by have:=(HSX2.out.fit xk).len;omega⟩
       have FPA:Hid (∀ W,regs.bl wD W->Calls Tryz.prog 16 #[.slice Ap x.t.length cp,.int .i64 xk] W (fun e w'=>e=.returned (.int .i64 (par x.t xk))∧Below W.heap.size W w')∧Calls Tryz.prog 16 #[.slice Aq y.t.length cq,.int .i64 xk] W fun e w'=>e=.returned (.int .i64 (par y.t xk))∧Below W.heap.size W w'):=fun W hb=>⟨dpar Ap x.t cp xk W (DTree.srow (HTP.out.below (HBD.out.trans (Below.mono hb HBD.out.size)))) (by have:=HLA1.out;omega),dpar Aq y.t cq xk W (DTree.srow (HTQ.out.below (HBD.out.trans (Below.mono hb HBD.out.size)))) (by have:=HLA2.out;omega)⟩
       obtain ⟨n1,hn1⟩:∃ n1,x.nd xk=n1:=⟨_,rfl⟩
       obtain ⟨n2',hn2⟩:∃ n2',y.nd xk=n2':=⟨_,rfl⟩
       obtain ⟨p1,hp1⟩:∃ p1,par x.t xk=p1:=⟨_,rfl⟩
       obtain ⟨p2,hp2⟩:∃ p2,par y.t xk=p2:=⟨_,rfl⟩
       obtain ⟨eb,heb⟩:∃ eb,eqN (x.nd xk) (y.nd xk)=eb:=⟨_,rfl⟩
       have HEB:=Hd heb;rw [heb] at FAL HSAM;rw [hn1,hn2] at FLK FAL HSTP HEB;rw [hp1,hp2] at FPA HSTP HSAM;clear he hr1 hr2 hl1 hl2 hn1 hn2 hp1 hp2 heb;by_cases hpe:¬ p1=p2
       ·have HNE:Hid ((p1==p2)=false):=by show _=_;simpa using hpe
        have HNS:Hid (¬ same x y):=fun h=>hpe (HSAM.out h).2.1;clear hpe
        go_upto_region 27 with (fail)
        refine wRn [110,111,112,113,114,115,116,117,118,119,120,121,122,123,124,125,126,127,128,129,130,131,132,133,134,135,136,137,138,139,140,141,142,143,144,145,146,147,148,149,150,151,152,153,154,155,156,157,158,159,160,161,162,163,164,15] (fun i=>match i with
         |0|15|25=>rV (.slice (some ⟨xb,xo,none⟩) X.length c13)
         |1|5|16|26=>rV (.int .i64 (k:Nat))
         |2|17|27=>rV (.pointer (some ⟨xb,(xo+k),none⟩))
         |3|7|18|28=>rV (.int .i64 xk)
         |4=>rV (.slice (some ⟨yb,yo,none⟩) Y.length c14)
         |6=>rV (.pointer (some ⟨yb,(yo+k),none⟩))
         |8|9=>rT
         |10|11=>rp p 0
         |12=>rp p 1
         |13=>rp p 4
         |14=>rV (.slice Ap x.t.length cp)
         |19=>rV (.int .i64 p1)
         |20|21=>rp q 0
         |22=>rp q 1
         |23=>rp q 4
         |24=>rV (.slice Aq y.t.length cq)
         |29=>rV (.int .i64 p2)
         |30|31|32|54|55=>rV (.bool false)
         |33|34|35|36|37|38|39|40|41|42|43|44|45|46|47|48|49|50|51|52|53=>rV (undef)
         | _=>ra) ⟨?_,?_,?_,?_,?_,?_,?_,?_,?_,?_,?_,?_,?_,?_,?_,?_,?_,?_,?_,?_,?_,?_,?_,?_,?_,?_,?_,?_,?_,?_,?_,?_,?_,?_,?_,?_,?_,?_,?_,?_,?_,?_,?_,?_,?_,?_,?_,?_,?_,?_,?_,?_,?_,?_,?_,?_,trivial⟩ ?_
        any_goals (first|refine zp fun L a w1 hh=>?_|fail)
        any_goals (first|refine sy rfl rfl fun L a w1 hh=>?_|fail)
        have h13:=hh.o 13 (v:=.slice (some ⟨xb,xo,none⟩) X.length c13) rfl;rotate_left;have h16:=hh.o 16 (v:=.int .i64 (k:Nat)) rfl;rotate_left
        ·have h110:=rq (hh.d 0 110);have h111:=rq (hh.d 1 111)
         obtain ⟨-,li⟩:=(FX.out _ hh.rel)
         have hlt:=HLT.out;clear hh;go_simp;exact ⟨_,rfl,rB,rfl,trivial⟩
        ·have h112:=rq (hh.d 2 112)
         obtain ⟨c0,li⟩:=(FX.out _ hh.rel)
         clear hh;go_simp;exact ⟨_,rfl,rB,rfl,trivial⟩
        have h14:=hh.o 14 (v:=.slice (some ⟨yb,yo,none⟩) Y.length c14) rfl;rotate_left;have h16:=hh.o 16 (v:=.int .i64 (k:Nat)) rfl;rotate_left
        ·have h114:=rq (hh.d 4 114);have h115:=rq (hh.d 5 115)
         obtain ⟨-,li⟩:=(FY.out _ hh.rel)
         have hlt:=HLT2.out;clear hh;go_simp;exact ⟨_,rfl,rB,rfl,trivial⟩
        ·have h116:=rq (hh.d 6 116)
         obtain ⟨c0,li⟩:=(FY.out _ hh.rel)
         clear hh;go_simp;exact ⟨_,rfl,rB,rfl,trivial⟩
        have h113:=rq (hh.d 3 113);have h117:=rq (hh.d 7 117);rotate_left;have h118:=rq (hh.d 8 118);rotate_left;have h7:=hh.p 7 p 0;rotate_left;have h120:=rq (hh.d 10 120);rotate_left;have h121:=rq (hh.d 11 121);have i0:=((FPQ.out _ hh.rel).1).inside;rotate_left;have h122:=rq (hh.d 12 122);have i0:=((FPQ.out _ hh.rel).1).inside;rotate_left;have h123:=rq (hh.d 13 123);have ⟨c0,i0⟩:=((FPQ.out _ hh.rel).1).ci 4 rfl;rotate_left;have h13:=hh.o 13 (v:=.slice (some ⟨xb,xo,none⟩) X.length c13) rfl;rotate_left;have h16:=hh.o 16 (v:=.int .i64 (k:Nat)) rfl;rotate_left
        ·have h125:=rq (hh.d 15 125);have h126:=rq (hh.d 16 126)
         obtain ⟨-,li⟩:=(FX.out _ hh.rel)
         have hlt:=HLT.out;clear hh;go_simp;exact ⟨_,rfl,rB,rfl,trivial⟩
        ·have h127:=rq (hh.d 17 127)
         obtain ⟨c0,li⟩:=(FX.out _ hh.rel)
         clear hh;go_simp;exact ⟨_,rfl,rB,rfl,trivial⟩
        ·have h124:=rq (hh.d 14 124);have h128:=rq (hh.d 18 128);have hC:=Hd ((FPA.out _ hh.rel).1);have hJ:=hh.j;clear hh;go_simp;refine hC.out.mono ?_;rintro e w9 ⟨rfl,hb9⟩;exact ⟨_,rfl,hb9,rfl,hJ.out⟩
        have h10:=hh.p 10 q 0;rotate_left;have h130:=rq (hh.d 20 130);rotate_left;have h131:=rq (hh.d 21 131);have i0:=((FPQ.out _ hh.rel).2).inside;rotate_left;have h132:=rq (hh.d 22 132);have i0:=((FPQ.out _ hh.rel).2).inside;rotate_left;have h133:=rq (hh.d 23 133);have ⟨c0,i0⟩:=((FPQ.out _ hh.rel).2).ci 4 rfl;rotate_left;have h13:=hh.o 13 (v:=.slice (some ⟨xb,xo,none⟩) X.length c13) rfl;rotate_left;have h16:=hh.o 16 (v:=.int .i64 (k:Nat)) rfl;rotate_left
        ·have h135:=rq (hh.d 25 135);have h136:=rq (hh.d 26 136)
         obtain ⟨-,li⟩:=(FX.out _ hh.rel)
         have hlt:=HLT.out;clear hh;go_simp;exact ⟨_,rfl,rB,rfl,trivial⟩
        ·have h137:=rq (hh.d 27 137)
         obtain ⟨c0,li⟩:=(FX.out _ hh.rel)
         clear hh;go_simp;exact ⟨_,rfl,rB,rfl,trivial⟩
        ·have h134:=rq (hh.d 24 134);have h138:=rq (hh.d 28 138);have hC:=Hd ((FPA.out _ hh.rel).2);have hJ:=hh.j;clear hh;go_simp;refine hC.out.mono ?_;rintro e w9 ⟨rfl,hb9⟩;exact ⟨_,rfl,hb9,rfl,hJ.out⟩
        have h129:=rq (hh.d 19 129);have h139:=rq (hh.d 29 139);have hne:=HNE.out;rotate_left;have h119:=rq (hh.d 9 119);have h140:=rq (hh.d 30 140);rotate_left;have h141:=rq (hh.d 31 141);rotate_left
        ·refine sz rfl rfl
        ·refine sz rfl rfl
        ·refine sz rfl rfl
        ·refine sz rfl rfl
        ·refine sz rfl rfl
        ·refine sz rfl rfl
        ·refine sz rfl rfl
        ·refine sz rfl rfl
        ·refine sz rfl rfl
        ·refine sz rfl rfl
        ·refine sz rfl rfl
        ·refine sz rfl rfl
        ·refine sz rfl rfl
        ·refine sz rfl rfl
        ·refine sz rfl rfl
        ·refine sz rfl rfl
        ·refine sz rfl rfl
        ·refine sz rfl rfl
        ·refine sz rfl rfl
        ·refine sz rfl rfl
        ·refine sz rfl rfl
        have h142:=rq (hh.d 32 142);rotate_left;have h164:=rq (hh.d 54 164);rotate_left
        any_goals (clear hh;go_simp;exact ⟨_,rfl,rB,rfl,trivial⟩)
        intro L w27 val hL hJ hR hv;have h15:val 15=.bool false:=hv 55 15 (by kernel_rfl);have HR27:=Hd hR;clear hv hL hJ hR;simp only [regs.putAll,List.map_cons,List.map_nil,h15];simp only [Act.put,List.setIfInBounds_toArray,List.set_cons_zero,List.set_cons_succ];clear h15
        generalize val 110=v110,val 111=v111,val 112=v112,val 113=v113,val 114=v114,val 115=v115,val 116=v116,val 117=v117,val 118=v118,val 119=v119,val 120=v120,val 121=v121,val 122=v122,val 123=v123,val 124=v124,val 125=v125,val 126=v126,val 127=v127,val 128=v128,val 129=v129,val 130=v130,val 131=v131,val 132=v132,val 133=v133,val 134=v134,val 135=v135,val 136=v136,val 137=v137,val 138=v138,val 139=v139,val 140=v140,val 141=v141,val 142=v142,val 143=v143,val 144=v144,val 145=v145,val 146=v146,val 147=v147,val 148=v148,val 149=v149,val 150=v150,val 151=v151,val 152=v152,val 153=v153,val 154=v154,val 155=v155,val 156=v156,val 157=v157,val 158=v158,val 159=v159,val 160=v160,val 161=v161,val 162=v162,val 163=v163,val 164=v164 at *
        have HB27:Hid (Below w22.heap.size w22 w27):=HBR.out.trans (Below.mono HR27.out HBR.out.size);go_wp2_with (fail)
        go_roundw
        case rel=>exact ⟨k+1,false,HLT.out,rfl,by go_num,HNS.out,HB27.out⟩
        case measure=>have:=HLT.out;simp [intOf];omega
       obtain rfl:p1=p2:=Classical.byContradiction hpe
       have HNX:Hid (if eb=true then UpTo x y (k+1) else ¬ same x y):=by
        cases eb with
        | true=>exact HSTP.out rfl rfl (eqN_iff.1 HEB.out)
        | false=>exact fun h=>by have:=(HSAM.out h).2.2;cases this
       clear hpe
       go_upto_region 27 with (fail)
       refine wRn [110,111,112,113,114,115,116,117,118,119,120,121,122,123,124,125,126,127,128,129,130,131,132,133,134,135,136,137,138,139,140,141,142,143,144,145,146,147,148,149,150,151,152,153,154,155,156,157,158,159,160,161,162,163,164,15] (fun i=>match i with
        |0|15|25|38|48=>rV (.slice (some ⟨xb,xo,none⟩) X.length c13)
        |1|5|16|26|39|49=>rV (.int .i64 (k:Nat))
        |2|17|27|40|50=>rV (.pointer (some ⟨xb,(xo+k),none⟩))
        |3|7|18|28|41|51=>rV (.int .i64 xk)
        |4=>rV (.slice (some ⟨yb,yo,none⟩) Y.length c14)
        |6=>rV (.pointer (some ⟨yb,(yo+k),none⟩))
        |8|9|30|31|32=>rT
        |10|11|33|34=>rp p 0
        |12|35=>rp p 1
        |13=>rp p 4
        |14=>rV (.slice Ap x.t.length cp)
        |19|29=>rV (.int .i64 p1)
        |20|21|43|44=>rp q 0
        |22|45=>rp q 1
        |23=>rp q 4
        |24=>rV (.slice Aq y.t.length cq)
        |36=>rp p 5
        |37=>rV (.map (some dp))
        |42=>rV (.agg (n1.cs An1 cn1).toArray)
        |46=>rp q 5
        |47=>rV (.map (some dq))
        |52=>rV (.agg (n2'.cs An2 cn2).toArray)
        |53|54|55=>rV (.bool eb)
        | _=>ra) ⟨?_,?_,?_,?_,?_,?_,?_,?_,?_,?_,?_,?_,?_,?_,?_,?_,?_,?_,?_,?_,?_,?_,?_,?_,?_,?_,?_,?_,?_,?_,?_,?_,?_,?_,?_,?_,?_,?_,?_,?_,?_,?_,?_,?_,?_,?_,?_,?_,?_,?_,?_,?_,?_,?_,?_,?_,trivial⟩ ?_
       any_goals (first|refine zp fun L a w1 hh=>?_|fail)
       any_goals (first|refine sy rfl rfl fun L a w1 hh=>?_|fail)
       have h13:=hh.o 13 (v:=.slice (some ⟨xb,xo,none⟩) X.length c13) rfl;rotate_left;have h16:=hh.o 16 (v:=.int .i64 (k:Nat)) rfl;rotate_left
       ·have h110:=rq (hh.d 0 110);have h111:=rq (hh.d 1 111)
        obtain ⟨-,li⟩:=(FX.out _ hh.rel)
        have hlt:=HLT.out;clear hh;go_simp;exact ⟨_,rfl,rB,rfl,trivial⟩
       ·have h112:=rq (hh.d 2 112)
        obtain ⟨c0,li⟩:=(FX.out _ hh.rel)
        clear hh;go_simp;exact ⟨_,rfl,rB,rfl,trivial⟩
       have h14:=hh.o 14 (v:=.slice (some ⟨yb,yo,none⟩) Y.length c14) rfl;rotate_left;have h16:=hh.o 16 (v:=.int .i64 (k:Nat)) rfl;rotate_left
       ·have h114:=rq (hh.d 4 114);have h115:=rq (hh.d 5 115)
        obtain ⟨-,li⟩:=(FY.out _ hh.rel)
        have hlt:=HLT2.out;clear hh;go_simp;exact ⟨_,rfl,rB,rfl,trivial⟩
       ·have h116:=rq (hh.d 6 116)
        obtain ⟨c0,li⟩:=(FY.out _ hh.rel)
        clear hh;go_simp;exact ⟨_,rfl,rB,rfl,trivial⟩
       have h113:=rq (hh.d 3 113);have h117:=rq (hh.d 7 117);rotate_left;have h118:=rq (hh.d 8 118);rotate_left;have h7:=hh.p 7 p 0;rotate_left;have h120:=rq (hh.d 10 120);rotate_left;have h121:=rq (hh.d 11 121);have i0:=((FPQ.out _ hh.rel).1).inside;rotate_left;have h122:=rq (hh.d 12 122);have i0:=((FPQ.out _ hh.rel).1).inside;rotate_left;have h123:=rq (hh.d 13 123);have ⟨c0,i0⟩:=((FPQ.out _ hh.rel).1).ci 4 rfl;rotate_left;have h13:=hh.o 13 (v:=.slice (some ⟨xb,xo,none⟩) X.length c13) rfl;rotate_left;have h16:=hh.o 16 (v:=.int .i64 (k:Nat)) rfl;rotate_left
       ·have h125:=rq (hh.d 15 125);have h126:=rq (hh.d 16 126)
        obtain ⟨-,li⟩:=(FX.out _ hh.rel)
        have hlt:=HLT.out;clear hh;go_simp;exact ⟨_,rfl,rB,rfl,trivial⟩
       ·have h127:=rq (hh.d 17 127)
        obtain ⟨c0,li⟩:=(FX.out _ hh.rel)
        clear hh;go_simp;exact ⟨_,rfl,rB,rfl,trivial⟩
       ·have h124:=rq (hh.d 14 124);have h128:=rq (hh.d 18 128);have hC:=Hd ((FPA.out _ hh.rel).1);have hJ:=hh.j;clear hh;go_simp;refine hC.out.mono ?_;rintro e w9 ⟨rfl,hb9⟩;exact ⟨_,rfl,hb9,rfl,hJ.out⟩
       have h10:=hh.p 10 q 0;rotate_left;have h130:=rq (hh.d 20 130);rotate_left;have h131:=rq (hh.d 21 131);have i0:=((FPQ.out _ hh.rel).2).inside;rotate_left;have h132:=rq (hh.d 22 132);have i0:=((FPQ.out _ hh.rel).2).inside;rotate_left;have h133:=rq (hh.d 23 133);have ⟨c0,i0⟩:=((FPQ.out _ hh.rel).2).ci 4 rfl;rotate_left;have h13:=hh.o 13 (v:=.slice (some ⟨xb,xo,none⟩) X.length c13) rfl;rotate_left;have h16:=hh.o 16 (v:=.int .i64 (k:Nat)) rfl;rotate_left
       ·have h135:=rq (hh.d 25 135);have h136:=rq (hh.d 26 136)
        obtain ⟨-,li⟩:=(FX.out _ hh.rel)
        have hlt:=HLT.out;clear hh;go_simp;exact ⟨_,rfl,rB,rfl,trivial⟩
       ·have h137:=rq (hh.d 27 137)
        obtain ⟨c0,li⟩:=(FX.out _ hh.rel)
        clear hh;go_simp;exact ⟨_,rfl,rB,rfl,trivial⟩
       ·have h134:=rq (hh.d 24 134);have h138:=rq (hh.d 28 138);have hC:=Hd ((FPA.out _ hh.rel).2);have hJ:=hh.j;clear hh;go_simp;refine hC.out.mono ?_;rintro e w9 ⟨rfl,hb9⟩;exact ⟨_,rfl,hb9,rfl,hJ.out⟩
       have h129:=rq (hh.d 19 129);have h139:=rq (hh.d 29 139);rotate_left;have h119:=rq (hh.d 9 119);have h140:=rq (hh.d 30 140);rotate_left;have h141:=rq (hh.d 31 141);rotate_left;have h7:=hh.p 7 p 0;rotate_left;have h143:=rq (hh.d 33 143);rotate_left;have h144:=rq (hh.d 34 144);have i0:=((FPQ.out _ hh.rel).1).inside;rotate_left;have h145:=rq (hh.d 35 145);have i0:=((FPQ.out _ hh.rel).1).inside;rotate_left;have h146:=rq (hh.d 36 146);have ⟨c0,i0⟩:=((FPQ.out _ hh.rel).1).ci 5 rfl;rotate_left;have h13:=hh.o 13 (v:=.slice (some ⟨xb,xo,none⟩) X.length c13) rfl;rotate_left
       have h16:=hh.o 16 (v:=.int .i64 (k:Nat)) rfl;rotate_left
       ·have h148:=rq (hh.d 38 148);have h149:=rq (hh.d 39 149)
        obtain ⟨-,li⟩:=(FX.out _ hh.rel)
        have hlt:=HLT.out;clear hh;go_simp;exact ⟨_,rfl,rB,rfl,trivial⟩
       ·have h150:=rq (hh.d 40 150)
        obtain ⟨c0,li⟩:=(FX.out _ hh.rel)
        clear hh;go_simp;exact ⟨_,rfl,rB,rfl,trivial⟩
       have h147:=rq (hh.d 37 147);have h151:=rq (hh.d 41 151);have hlk:=(FLK.out _ hh.rel).1;rotate_left;have h10:=hh.p 10 q 0;rotate_left;have h153:=rq (hh.d 43 153);rotate_left;have h154:=rq (hh.d 44 154);have i0:=((FPQ.out _ hh.rel).2).inside;rotate_left;have h155:=rq (hh.d 45 155);have i0:=((FPQ.out _ hh.rel).2).inside;rotate_left;have h156:=rq (hh.d 46 156);have ⟨c0,i0⟩:=((FPQ.out _ hh.rel).2).ci 5 rfl;rotate_left;have h13:=hh.o 13 (v:=.slice (some ⟨xb,xo,none⟩) X.length c13) rfl;rotate_left;have h16:=hh.o 16 (v:=.int .i64 (k:Nat)) rfl;rotate_left
       ·have h158:=rq (hh.d 48 158);have h159:=rq (hh.d 49 159)
        obtain ⟨-,li⟩:=(FX.out _ hh.rel)
        have hlt:=HLT.out;clear hh;go_simp;exact ⟨_,rfl,rB,rfl,trivial⟩
       ·have h160:=rq (hh.d 50 160)
        obtain ⟨c0,li⟩:=(FX.out _ hh.rel)
        clear hh;go_simp;exact ⟨_,rfl,rB,rfl,trivial⟩
       have h157:=rq (hh.d 47 157);have h161:=rq (hh.d 51 161);have hlk:=(FLK.out _ hh.rel).2;rotate_left
       ·have h152:=rq (hh.d 42 152);have h162:=rq (hh.d 52 162);have hC:=Hd (FAL.out _ hh.rel);have hJ:=hh.j;clear hh;go_simp;refine hC.out.mono ?_;rintro e w9 ⟨rfl,hb9⟩;exact ⟨_,rfl,hb9,rfl,hJ.out⟩
       have h142:=rq (hh.d 32 142);have h163:=rq (hh.d 53 163);rotate_left;have h164:=rq (hh.d 54 164);rotate_left
       any_goals (clear hh;go_simp;exact ⟨_,rfl,rB,rfl,trivial⟩)
       intro L w27 val hL hJ hR hv;have h15:val 15=.bool eb:=hv 55 15 (by kernel_rfl);have HR27:=Hd hR;clear hv hL hJ hR;simp only [regs.putAll,List.map_cons,List.map_nil,h15];simp only [Act.put,List.setIfInBounds_toArray,List.set_cons_zero,List.set_cons_succ];clear h15
       skip
       have HB27:Hid (Below w22.heap.size w22 w27):=HBR.out.trans (Below.mono HR27.out HBR.out.size);go_wp2_with (fail)
       go_roundw
       case rel=>exact ⟨k+1,eb,HLT.out,rfl,by go_num,HNX.out,HB27.out⟩
       case measure=>have:=HLT.out;simp [intOf];omega
      ·have HFIN:Hid (bq=true↔same x y):=by
        have h:=HU.out;cases bq with
        | false=>exact ⟨nofun,fun e=>absurd e h⟩
        | true=>
         have hkl:k=X.length:=by
          by_cases h9:k<X.length
          ·exact absurd ⟨rfl,h9⟩ hgo
          ·omega
         rw [if_pos rfl,hkl,← HXE.out.1] at h;exact ⟨fun _=>UpTo.all HSX1.out.ok HSX2.out.ok h,fun _=>rfl⟩
       have FPQ0:=Hd FPQ.out;clear FPQ;have FPQ:Hid (∀ W,regs.bl wD W->Blk W p (Vm g 8 8 20 Ap x.t.length cp dp)∧Blk W q (Vm g2 8 8 20 Aq y.t.length cq dq)):=fun W hb=>FPQ0.out W (HBD.out.trans (Below.mono hb HBD.out.size))
       have FPP:Hid (∀ W,regs.bl wD W->PlS w p g b m s 8 8 20 x W∧PlS wA q g2 b2 n2 t 8 8 20 y W∧DocAt W (.agg (Vc 8 8 20 Ap x.t.length cp dp).toArray) 8 8 20 x∧DocAt W (.agg (Vc 8 8 20 Aq y.t.length cq dq).toArray) 8 8 20 y):=fun W hb=>by
        have h1:=HBD.out.trans (Below.mono hb HBD.out.size);exact ⟨HPA.out.below h1,HPW2.out.below h1,DBlk.doc (HTP.out.below h1) (HMP.out.below h1),DBlk.doc (HTQ.out.below h1) (HMQ.out.below h1)⟩
       have FIS:Hid (∀ W,regs.bl wD W->Calls Tryz.prog 18 #[.pointer (some ⟨g,0,none⟩),.agg (Vc 8 8 20 Ap x.t.length cp dp).toArray] W (fun e w'=>e=.returned (.bool true)∧Below W.heap.size W w')∧Calls Tryz.prog 18 #[.pointer (some ⟨g2,0,none⟩),.agg (Vc 8 8 20 Aq y.t.length cq dq).toArray] W fun e w'=>e=.returned (.bool true)∧Below W.heap.size W w'):=fun W hb=>by
        obtain ⟨h1,h2,h3,h4⟩:=FPP.out W hb;exact ⟨is_any h1.my.at_ HSX1.out (by have:=HLA1.out;omega) _ h3,is_any h2.my.at_ HSX2.out (by have:=HLA2.out;omega) _ h4⟩
       have FEQ:Hid (∀ W,regs.bl wD W->Calls Tryz.prog 14 #[.pointer (some ⟨g,0,none⟩),.pointer (some ⟨g2,0,none⟩)] W fun e w'=>e=.returned (.bool bq)∧Below W.heap.size W w'):=fun W hb=>by
        obtain ⟨h1,h2,-,-⟩:=FPP.out W hb;refine (sequal h1.my.at_ h2.my.at_ HSX1.out.fit HSX2.out.fit (by have:=HLA1.out;omega) (by have:=HLA2.out;omega) ⟨rfl,rfl⟩).mono ?_;rintro e w' ⟨r,rfl,h5,h6⟩;refine ⟨?_,h6⟩;rw [show r=bq from Bool.eq_iff_iff.2 (h5.trans HFIN.out.symm)]
       have HBW:Hid (Below w.heap.size w wD):=HPA.out.bel.trans (HBD.out.mono HPA.out.bel.size);clear FPQ0 FPP;cases bq with
       | false=>
        clear hgo
        go_upto_region 28 with (fail)
        refine wRn [165,166,167,168,169,170,171,172,173,174,175,176,177,178,179,180,181,182,183,184,185,186,187,188,189,190,191,192,193,194,195,196,197,198,199,200,4] (fun i=>match i with
         |0|1|2|4|5|21|22|23=>rp p 0
         |3|24=>rp g 0
         |6=>rp p 1
         |7=>rV (.agg ((Vc 8 8 20 Ap x.t.length cp dp)).toArray)
         |8|9|18|19|20|31|32|33|34|35|36=>rT
         |10|11|12|14|15|25|26|27=>rp q 0
         |13|28=>rp g2 0
         |16=>rp q 1
         |17=>rV (.agg ((Vc 8 8 20 Aq y.t.length cq dq)).toArray)
         |29|30=>rV (.bool false)
         | _=>ra) ⟨?_,?_,?_,?_,?_,?_,?_,?_,?_,?_,?_,?_,?_,?_,?_,?_,?_,?_,?_,?_,?_,?_,?_,?_,?_,?_,?_,?_,?_,?_,?_,?_,?_,?_,?_,?_,?_,trivial⟩ ?_
        any_goals (first|refine zp fun L a w1 hh=>?_|fail)
        any_goals (first|refine sy rfl rfl fun L a w1 hh=>?_|fail)
        have h7:=hh.p 7 p 0;rotate_left;have h165:=rq (hh.d 0 165);rotate_left;have h166:=rq (hh.d 1 166);have i0:=((FPQ.out _ hh.rel).1).inside;rotate_left;have h167:=rq (hh.d 2 167);have ⟨c0,i0⟩:=((FPQ.out _ hh.rel).1).ci 0 rfl;rotate_left;have h7:=hh.p 7 p 0;rotate_left;have h169:=rq (hh.d 4 169);rotate_left;have h170:=rq (hh.d 5 170);have i0:=((FPQ.out _ hh.rel).1).inside;rotate_left
        ·have h171:=rq (hh.d 6 171);have hB:=Hd ((FPQ.out _ hh.rel).1);have hJ:=Hd hh.st;exact wp_take 34 _ rfl p 1 (by simpa [go_sem] using h171) _ hB.out ((Vc 8 8 20 Ap x.t.length cp dp)) rfl _ Tryz.underlying34 rfl (by kernel_rfl) ⟨_,rfl,rB,rfl,hJ.out⟩
        ·have h168:=rq (hh.d 3 168);have h172:=rq (hh.d 7 172);have hC:=Hd ((FIS.out _ hh.rel).1);have hJ:=hh.j;clear hh;go_simp;refine hC.out.mono ?_;rintro e w9 ⟨rfl,hb9⟩;exact ⟨_,rfl,hb9,rfl,hJ.out⟩
        have h173:=rq (hh.d 8 173);rotate_left;have h10:=hh.p 10 q 0;rotate_left;have h175:=rq (hh.d 10 175);rotate_left;have h176:=rq (hh.d 11 176);have i0:=((FPQ.out _ hh.rel).2).inside;rotate_left;have h177:=rq (hh.d 12 177);have ⟨c0,i0⟩:=((FPQ.out _ hh.rel).2).ci 0 rfl;rotate_left;have h10:=hh.p 10 q 0;rotate_left;have h179:=rq (hh.d 14 179);rotate_left;have h180:=rq (hh.d 15 180);have i0:=((FPQ.out _ hh.rel).2).inside;rotate_left
        ·have h181:=rq (hh.d 16 181);have hB:=Hd ((FPQ.out _ hh.rel).2);have hJ:=Hd hh.st;exact wp_take 34 _ rfl q 1 (by simpa [go_sem] using h181) _ hB.out ((Vc 8 8 20 Aq y.t.length cq dq)) rfl _ Tryz.underlying34 rfl (by kernel_rfl) ⟨_,rfl,rB,rfl,hJ.out⟩
        ·have h178:=rq (hh.d 13 178);have h182:=rq (hh.d 17 182);have hC:=Hd ((FIS.out _ hh.rel).2);have hJ:=hh.j;clear hh;go_simp;refine hC.out.mono ?_;rintro e w9 ⟨rfl,hb9⟩;exact ⟨_,rfl,hb9,rfl,hJ.out⟩
        have h174:=rq (hh.d 9 174);have h183:=rq (hh.d 18 183);rotate_left;have h184:=rq (hh.d 19 184);rotate_left;have h7:=hh.p 7 p 0;rotate_left;have h186:=rq (hh.d 21 186);rotate_left;have h187:=rq (hh.d 22 187);have i0:=((FPQ.out _ hh.rel).1).inside;rotate_left;have h188:=rq (hh.d 23 188);have ⟨c0,i0⟩:=((FPQ.out _ hh.rel).1).ci 0 rfl;rotate_left;have h10:=hh.p 10 q 0;rotate_left;have h190:=rq (hh.d 25 190);rotate_left;have h191:=rq (hh.d 26 191);have i0:=((FPQ.out _ hh.rel).2).inside;rotate_left;have h192:=rq (hh.d 27 192);have ⟨c0,i0⟩:=((FPQ.out _ hh.rel).2).ci 0 rfl;rotate_left
        ·have h189:=rq (hh.d 24 189);have h193:=rq (hh.d 28 193);have hC:=Hd (FEQ.out _ hh.rel);have hJ:=hh.j;clear hh;go_simp;refine hC.out.mono ?_;rintro e w9 ⟨rfl,hb9⟩;exact ⟨_,rfl,hb9,rfl,hJ.out⟩
        have h15:=hh.o 15 (v:=.bool false) rfl;rotate_left;have h194:=rq (hh.d 29 194);have h195:=rq (hh.d 30 195);rotate_left;have h185:=rq (hh.d 20 185);have h196:=rq (hh.d 31 196);rotate_left;have h197:=rq (hh.d 32 197);rotate_left
        ·have hC:=Hd (awake_any w1);have hJ:=hh.j;clear hh;go_simp;refine hC.out.mono ?_;rintro e w9 ⟨rfl,hb9⟩;exact ⟨_,rfl,hb9,rfl,hJ.out⟩
        have h198:=rq (hh.d 33 198);have h199:=rq (hh.d 34 199);rotate_left;have h200:=rq (hh.d 35 200);rotate_left
        any_goals (clear hh;go_simp;exact ⟨_,rfl,rB,rfl,trivial⟩)
        intro L w28 val hL hJ hR hv;have h4:val 4=.bool true:=hv 36 4 (by kernel_rfl);have HR28:=Hd hR;clear hv hL hJ hR;simp only [regs.putAll,List.map_cons,List.map_nil,h4];simp only [Act.put,List.setIfInBounds_toArray,List.set_cons_zero,List.set_cons_succ];clear h4
        generalize val 165=v165,val 166=v166,val 167=v167,val 168=v168,val 169=v169,val 170=v170,val 171=v171,val 172=v172,val 173=v173,val 174=v174,val 175=v175,val 176=v176,val 177=v177,val 178=v178,val 179=v179,val 180=v180,val 181=v181,val 182=v182,val 183=v183,val 184=v184,val 185=v185,val 186=v186,val 187=v187,val 188=v188,val 189=v189,val 190=v190,val 191=v191,val 192=v192,val 193=v193,val 194=v194,val 195=v195,val 196=v196,val 197=v197,val 198=v198,val 199=v199,val 200=v200 at *;go_wp2_with (fail);go_ret;exact ⟨rfl,HBW.out.trans (Below.mono HR28.out HBW.out.size)⟩
       | true=>
        have t1:decide (k<X.length)=false:=decide_eq_false fun h=>hgo ⟨rfl,h⟩;have hkb:(k:Int)<=100000:=by omega
        clear hgo
        go_upto_region 28 with (fail)
        refine wRn [165,166,167,168,169,170,171,172,173,174,175,176,177,178,179,180,181,182,183,184,185,186,187,188,189,190,191,192,193,194,195,196,197,198,199,200,4] (fun i=>match i with
         |0|1|2|4|5|21|22|23=>rp p 0
         |3|24=>rp g 0
         |6=>rp p 1
         |7=>rV (.agg ((Vc 8 8 20 Ap x.t.length cp dp)).toArray)
         |8|9|18|19|20|29|30|31|32|33|34|35|36=>rT
         |10|11|12|14|15|25|26|27=>rp q 0
         |13|28=>rp g2 0
         |16=>rp q 1
         |17=>rV (.agg ((Vc 8 8 20 Aq y.t.length cq dq)).toArray)
         | _=>ra) ⟨?_,?_,?_,?_,?_,?_,?_,?_,?_,?_,?_,?_,?_,?_,?_,?_,?_,?_,?_,?_,?_,?_,?_,?_,?_,?_,?_,?_,?_,?_,?_,?_,?_,?_,?_,?_,?_,trivial⟩ ?_
        any_goals (first|refine zp fun L a w1 hh=>?_|fail)
        any_goals (first|refine sy rfl rfl fun L a w1 hh=>?_|fail)
        have h7:=hh.p 7 p 0;rotate_left;have h165:=rq (hh.d 0 165);rotate_left;have h166:=rq (hh.d 1 166);have i0:=((FPQ.out _ hh.rel).1).inside;rotate_left;have h167:=rq (hh.d 2 167);have ⟨c0,i0⟩:=((FPQ.out _ hh.rel).1).ci 0 rfl;rotate_left;have h7:=hh.p 7 p 0;rotate_left;have h169:=rq (hh.d 4 169);rotate_left;have h170:=rq (hh.d 5 170);have i0:=((FPQ.out _ hh.rel).1).inside;rotate_left
        ·have h171:=rq (hh.d 6 171);have hB:=Hd ((FPQ.out _ hh.rel).1);have hJ:=Hd hh.st;exact wp_take 34 _ rfl p 1 (by simpa [go_sem] using h171) _ hB.out ((Vc 8 8 20 Ap x.t.length cp dp)) rfl _ Tryz.underlying34 rfl (by kernel_rfl) ⟨_,rfl,rB,rfl,hJ.out⟩
        ·have h168:=rq (hh.d 3 168);have h172:=rq (hh.d 7 172);have hC:=Hd ((FIS.out _ hh.rel).1);have hJ:=hh.j;clear hh;go_simp;refine hC.out.mono ?_;rintro e w9 ⟨rfl,hb9⟩;exact ⟨_,rfl,hb9,rfl,hJ.out⟩
        have h173:=rq (hh.d 8 173);rotate_left;have h10:=hh.p 10 q 0;rotate_left;have h175:=rq (hh.d 10 175);rotate_left;have h176:=rq (hh.d 11 176);have i0:=((FPQ.out _ hh.rel).2).inside;rotate_left;have h177:=rq (hh.d 12 177);have ⟨c0,i0⟩:=((FPQ.out _ hh.rel).2).ci 0 rfl;rotate_left;have h10:=hh.p 10 q 0;rotate_left;have h179:=rq (hh.d 14 179);rotate_left;have h180:=rq (hh.d 15 180);have i0:=((FPQ.out _ hh.rel).2).inside;rotate_left
        ·have h181:=rq (hh.d 16 181);have hB:=Hd ((FPQ.out _ hh.rel).2);have hJ:=Hd hh.st;exact wp_take 34 _ rfl q 1 (by simpa [go_sem] using h181) _ hB.out ((Vc 8 8 20 Aq y.t.length cq dq)) rfl _ Tryz.underlying34 rfl (by kernel_rfl) ⟨_,rfl,rB,rfl,hJ.out⟩
        ·have h178:=rq (hh.d 13 178);have h182:=rq (hh.d 17 182);have hC:=Hd ((FIS.out _ hh.rel).2);have hJ:=hh.j;clear hh;go_simp;refine hC.out.mono ?_;rintro e w9 ⟨rfl,hb9⟩;exact ⟨_,rfl,hb9,rfl,hJ.out⟩
        have h174:=rq (hh.d 9 174);have h183:=rq (hh.d 18 183);rotate_left;have h184:=rq (hh.d 19 184);rotate_left;have h7:=hh.p 7 p 0;rotate_left;have h186:=rq (hh.d 21 186);rotate_left;have h187:=rq (hh.d 22 187);have i0:=((FPQ.out _ hh.rel).1).inside;rotate_left;have h188:=rq (hh.d 23 188);have ⟨c0,i0⟩:=((FPQ.out _ hh.rel).1).ci 0 rfl;rotate_left;have h10:=hh.p 10 q 0;rotate_left;have h190:=rq (hh.d 25 190);rotate_left;have h191:=rq (hh.d 26 191);have i0:=((FPQ.out _ hh.rel).2).inside;rotate_left;have h192:=rq (hh.d 27 192);have ⟨c0,i0⟩:=((FPQ.out _ hh.rel).2).ci 0 rfl;rotate_left
        ·have h189:=rq (hh.d 24 189);have h193:=rq (hh.d 28 193);have hC:=Hd (FEQ.out _ hh.rel);have hJ:=hh.j;clear hh;go_simp;refine hC.out.mono ?_;rintro e w9 ⟨rfl,hb9⟩;exact ⟨_,rfl,hb9,rfl,hJ.out⟩
        have h15:=hh.o 15 (v:=.bool true) rfl;rotate_left;have h194:=rq (hh.d 29 194);have h195:=rq (hh.d 30 195);rotate_left;have h185:=rq (hh.d 20 185);have h196:=rq (hh.d 31 196);rotate_left;have h197:=rq (hh.d 32 197);rotate_left
        ·have hC:=Hd (awake_any w1);have hJ:=hh.j;clear hh;go_simp;refine hC.out.mono ?_;rintro e w9 ⟨rfl,hb9⟩;exact ⟨_,rfl,hb9,rfl,hJ.out⟩
        have h198:=rq (hh.d 33 198);have h199:=rq (hh.d 34 199);rotate_left;have h200:=rq (hh.d 35 200);rotate_left
        any_goals (clear hh;go_simp;exact ⟨_,rfl,rB,rfl,trivial⟩)
        intro L w28 val hL hJ hR hv;have h4:val 4=.bool true:=hv 36 4 (by kernel_rfl);have HR28:=Hd hR;clear hv hL hJ hR;simp only [regs.putAll,List.map_cons,List.map_nil,h4];simp only [Act.put,List.setIfInBounds_toArray,List.set_cons_zero,List.set_cons_succ];clear h4
        skip
        go_wp2_with (fail);go_ret;exact ⟨rfl,HBW.out.trans (Below.mono HR28.out HBW.out.size)⟩
end
end Go.Proofs.YthoildbfghfhpaaGreat
