import Derived.Test.YthoildbfghfhpaaGreatQFlOpen
set_option maxHeartbeats 16000000
set_option maxRecDepth 100000
namespace Go.Proofs.YthoildbfghfhpaaGreat
section
open Go.RowKit pxm imm trm Go.Maps
theorem build_sh1 (w:World):(Instr.build 99 #[(0,.int .i64 1),(1,.int .i64 1)]).run Tryz.prog w=.ok (.agg (OpR.cs ⟨shO1,none,0⟩).toArray) w:=by kernel_rfl
theorem build_sh2 (lk:Lk) (A:Option Addr) (c:Nat) (w:World):(Instr.build 99 #[(0,.int .i64 7),(1,.int .i64 1),(8,.agg (lk.cs A c).toArray)]).run Tryz.prog w=.ok (.agg (OpR.cs ⟨shO2 lk,A,c⟩).toArray) w:=by kernel_rfl
theorem build_sh3 (m:Mp) (w:World):(Instr.build 99 #[(0,.int .i64 4),(1,.int .i64 1),(4,.agg m.cs.toArray)]).run Tryz.prog w=.ok (.agg (OpR.cs ⟨shO3 m,none,0⟩).toArray) w:=by kernel_rfl
theorem build_sh4 (X Y:Int) (w:World):(Instr.build 99 #[(0,.int .i64 4),(4,.agg #[.int .i64 65536,.int .i64 0,.int .i64 0,.int .i64 65536,.int .i64 X,.int .i64 Y])]).run Tryz.prog w=.ok (.agg (OpR.cs ⟨shO4 X Y,none,0⟩).toArray) w:=by kernel_rfl
theorem bs_sh3 (a b c:OpR) (w:World):(Instr.buildSlice tOps 3 #[(0,.agg a.cs.toArray),(1,.agg b.cs.toArray),(2,.agg c.cs.toArray)]).run Tryz.prog w=.ok (.slice (some ⟨w.heap.size,0,none⟩) 3 3) (w.alloc (.cells (a.cs++(b.cs++c.cs)).toArray 99)):=by kernel_rfl
theorem bs_sh1 (a:OpR) (w:World):(Instr.buildSlice tOps 1 #[(0,.agg a.cs.toArray)]).run Tryz.prog w=.ok (.slice (some ⟨w.heap.size,0,none⟩) 1 1) (w.alloc (.cells a.cs.toArray 99)):=by kernel_rfl
theorem op_okc {o:Op9} (hi:o.i=0∨o.i=1) (hp:o.p=0) (hf:Fit { Nd.plain with lk:=o.lk }):OpOk o:=⟨by rcases hi with h | h<;>rw [h]<;>constructor<;>decide,by rw [hp];constructor<;>decide,hf⟩
theorem row_nilE (w:World):Row eW w none []:=fun hn=>absurd hn (by simp)
def shZ:ZZ:=⟨8,⟨8,9⟩,fun _=>False⟩
theorem opsAt_new2 {w:World} {S:Bset} {B:Nat} (hS:∀ k,S k->k<w.heap.size) (hB:∀ k,S k->B<=k) (l:List OpR) (hl:∀ q∈l,Row eW w q.A q.o.lk.l∧∀ a,q.A=some a->q.o.lk.l≠[]->a.block<B):OpsAt S (w.alloc (.cells (l.flatMap OpR.cs).toArray 99)) (some ⟨w.heap.size,0,none⟩) l:=
 ⟨srow_new (enc:=OpR.cs) OpR.cs_len w l _ rfl,fun a e _ hk=>by
  obtain rfl:=Option.some.inj e;have:=hS _ hk
  simp at this,fun q hq=>⟨Row.below (hl q hq).1 (bR.alloc nR _),fun a ea hne hk=>by
  have:=(hl q hq).2 a ea hne;have:=hB _ hk
  omega⟩⟩
theorem OneI.stays {w w':World} {lb lo:Nat} {q:ItR} (h:OneI w lb lo q) (h0:w'.heap[lb]?=w.heap[lb]?) (h1:∀ a,q.Ac=some a->q.it.c≠[]->w'.heap[a.block]?=w.heap[a.block]?) (h2:∀ a,q.A=some a->q.it.lk.l≠[]->w'.heap[a.block]?=w.heap[a.block]?):OneI w' lb lo q:=
 ⟨fun i v hv=>by
  have h3:=h.row i v hv;rw [← h3];unfold World.cell?
  rw [h0],h.at_.stays h1 h2⟩
theorem listed_one {x:PSc} {w w':World} {A:Option Addr} {l:List ItR} {p:It} (hi:items x=[p]) (hrow:SRow 22 ItR.cs w' A l) (hq:∀ q∈l,ItAt w' q∧q.it.Ok∧(∀ a,q.Ac=some a->q.it.c≠[]->w.heap.size<=a.block)∧∀ a,q.A=some a->q.it.lk.l≠[]->w.heap.size<=a.block) (hm:l.map (·.it)=items x) (hA:∀ a,A=some a->l≠[]->w.heap.size<=a.block) :
  ∃ q lb lo,l=[q]∧q.it=p∧q.it.Ok∧A=some ⟨lb,lo,none⟩∧w.heap.size<=lb∧OneI w' lb lo q∧(∀ a,q.Ac=some a->q.it.c≠[]->w.heap.size<=a.block)∧∀ a,q.A=some a->q.it.lk.l≠[]->w.heap.size<=a.block:=by
 rw [hi] at hm
 match l,hm with
 | [],h=>simp at h
 | [q],h=>
  obtain ⟨lb,lo,rfl,hc⟩:=hrow (by simp);obtain ⟨h1,h2,h3,h4⟩:=hq q List.mem_cons_self;exact ⟨q,lb,lo,rfl,by simpa using h,h2,rfl,hA _ rfl (by simp),⟨fun i v hv=>by have:=hc 0 (by simp) i v hv;simpa using this,h1⟩,h3,h4⟩
 | _::_::_,h=>simp at h
theorem shifts_in (lk:Lk) (A:Option Addr) (c:Nat) (m:Mp) (x y:Int) (w:World) (hr:Row eW w A lk.l) (hn:lk.l.length<=maxLen) (hp:lk.p<4294967296) (hz:∀ z∈lk.l,z<4294967296) :
  Calls Tryz.prog 7 #[.agg (lk.cs A c).toArray,.agg m.cs.toArray,.agg #[.int .i64 x,.int .i64 y]] w fun e w'=>e=.returned (.bool true)∧Below w.heap.size w w':=by
 have HR:=Hd hr;have HP:=Hd (And.intro hp hz);have HNN:=Hd hn;have HB0:Hid (Below w.heap.size w (((w.alloc (.cells (lk.cs A c).toArray 74)).alloc (.cells m.cs.toArray 65)).alloc (.cells #[.int .i64 x,.int .i64 y] 110))):=((bR.alloc nR _).alloc (by simp) _).alloc (by simp;omega) _;have HK1:Hid (Blk (((w.alloc (.cells (lk.cs A c).toArray 74)).alloc (.cells m.cs.toArray 65)).alloc (.cells #[.int .i64 x,.int .i64 y] 110)) w.heap.size (lk.cs A c)):=((blk_new w (lk.cs A c) _).alloc _).alloc _
 have HK2:Hid (Blk (((w.alloc (.cells (lk.cs A c).toArray 74)).alloc (.cells m.cs.toArray 65)).alloc (.cells #[.int .i64 x,.int .i64 y] 110)) (w.heap.size+1) m.cs):=(blk_at (w.alloc _) _ (by simp) m.cs _).alloc _;have HK3:Hid (Blk (((w.alloc (.cells (lk.cs A c).toArray 74)).alloc (.cells m.cs.toArray 65)).alloc (.cells #[.int .i64 x,.int .i64 y] 110)) (w.heap.size+1+1) [.int .i64 x,.int .i64 y]):=blk_at ((w.alloc _).alloc _) _ (by simp) [.int .i64 x,.int .i64 y] _;clear hr hp hz hn;go_enter Tryz.func7,Tryz.ntmps7
 go_upto_region 1 with (fail)
 generalize (((w.alloc (.cells (lk.cs A c).toArray 74)).alloc (.cells m.cs.toArray 65)).alloc (.cells #[.int .i64 x,.int .i64 y] 110))=w0 at *;have a0:w0.cell? ⟨w.heap.size+1+1,0,none⟩=some (.int .i64 x):=HK3.out.cell 0;have a1:w0.cell? ⟨w.heap.size+1+1,1,none⟩=some (.int .i64 y):=HK3.out.cell 1;have ai:=HK3.out.inside
 go_quiet (fail)
 have HB1:Hid (Below w.heap.size w (w0.drewN nq)):=HB0.out.trans (Drew.below ⟨_,rfl⟩ _);have HL1:Hid (Blk (w0.drewN nq) w.heap.size (lk.cs A c)):=HK1.out.drewN _;have HM1:Hid (Blk (w0.drewN nq) (w.heap.size+1) m.cs):=HK2.out.drewN _;generalize (w0.drewN nq)=w1 at *;have HW1:Hid (w.heap.size<=w1.heap.size):=HB1.out.size;clear a0 a1 ai HB0 HK1 HK2 HK3;have c6:=HL1.out.c 6 rfl;have i6:=HL1.out.inside;by_cases g1:x < -50
 ·have t1:decide (x < -50)=true:=decide_eq_true g1;clear g1;go_wp2_with (fail);refine (fawake_any w1).mono ?_;rintro e wz ⟨rfl,hb⟩;have HBz:=Hd (HB1.out.trans (hb.mono HB1.out.size));clear hb;go_wp2_with (fail);go_ret;exact ⟨rfl,HBz.out⟩
 have t1:decide (x < -50)=false:=decide_eq_false g1;by_cases g2:50<x
 ·have t2:decide (50<x)=true:=decide_eq_true g2;clear g1 g2;go_wp2_with (fail);refine (fawake_any w1).mono ?_;rintro e wz ⟨rfl,hb⟩;have HBz:=Hd (HB1.out.trans (hb.mono HB1.out.size));clear hb;go_wp2_with (fail);go_ret;exact ⟨rfl,HBz.out⟩
 have t2:decide (50<x)=false:=decide_eq_false g2;by_cases g3:y < -50
 ·have t3:decide (y < -50)=true:=decide_eq_true g3;clear g1 g2 g3;go_wp2_with (fail);refine (fawake_any w1).mono ?_;rintro e wz ⟨rfl,hb⟩;have HBz:=Hd (HB1.out.trans (hb.mono HB1.out.size));clear hb;go_wp2_with (fail);go_ret;exact ⟨rfl,HBz.out⟩
 have t3:decide (y < -50)=false:=decide_eq_false g3;by_cases g4:50<y
 ·have t4:decide (50<y)=true:=decide_eq_true g4;clear g1 g2 g3 g4;go_wp2_with (fail);refine (fawake_any w1).mono ?_;rintro e wz ⟨rfl,hb⟩;have HBz:=Hd (HB1.out.trans (hb.mono HB1.out.size));clear hb;go_wp2_with (fail);go_ret;exact ⟨rfl,HBz.out⟩
 have t4:decide (50<y)=false:=decide_eq_false g4;by_cases g5:300<lk.l.length
 ·have t5:decide ((300:Int)<(lk.l.length:Nat))=true:=decide_eq_true (by omega);clear g1 g2 g3 g4 g5;go_wp2_with (fail);refine (fawake_any w1).mono ?_;rintro e wz ⟨rfl,hb⟩;have HBz:=Hd (HB1.out.trans (hb.mono HB1.out.size));clear hb;go_wp2_with (fail);go_ret;exact ⟨rfl,HBz.out⟩
 have t5:decide ((300:Int)<(lk.l.length:Nat))=false:=decide_eq_false (by omega);have HXY:Hid ((-50<=x∧x<=50)∧(-50<=y∧y<=50)):=by show _∧_;omega
 have HLE:Hid (lk.l.length<=300):=by show _<=_;omega
 clear g1 g2 g3 g4 g5;go_wp2_with (fail);refine (new_ok (w:=w1) shZ (fun _ e=>e.elim) ⟨by decide,by decide⟩ ⟨by decide,by decide⟩ ⟨by decide,by decide⟩).mono ?_;rintro e w2 ⟨g,b,mm,s,rfl,hs1,hb1,hf1,hg1⟩
 have HS2:Hid (MyS w1 g b mm s shZ PSc.new w2):=⟨hs1,hf1,hb1⟩
 have HL2:=Hd (HL1.out.below' hb1);have HM2:=Hd (HM1.out.below' hb1);clear hs1 hb1 hf1 hg1 c6 i6 HL1 HM1 t1 t2 t3 t4 t5;have i1:=HL2.out.inside;have i2:=HM2.out.inside
 go_wp2_with (first | ((with_reducible show wpList _ _ _ (Oper.mk (some 58) (Op.build _ _) _ _ _ _::_) _ _);refine wpl_build _ _ rfl rfl (by simp [go_sem]) (build_sh1 _) ?_) | ((with_reducible show wpList _ _ _ (Oper.mk (some 60) (Op.build _ _) _ _ _ _::_) _ _);refine wpl_build _ _ rfl rfl (by simp [go_sem]) (build_sh2 lk A c _) ?_) | ((with_reducible show wpList _ _ _ (Oper.mk (some 62) (Op.build _ _) _ _ _ _::_) _ _);refine wpl_build _ _ rfl rfl (by simp [go_sem]) (build_sh3 m _) ?_) | ((with_reducible refine gB ?_);refine wpl_bs _ _ _ rfl rfl (by simp [go_sem]) (bs_sh3 ⟨shO1,none,0⟩ ⟨shO2 lk,A,c⟩ ⟨shO3 m,none,0⟩ _) ?_) | first | (with_reducible refine gL ?_;first | (refine wt 74 0 rfl rfl rfl HL2.out (lk.cs A c) rfl Tryz.underlying74 rfl ?_) | (refine wt 65 0 rfl rfl rfl HM2.out (m.cs) rfl Tryz.underlying65 rfl ?_)))
 have HO5:=Hd (opsAt_new2 (w:=w2) (S:=SFoot b mm s PSc.new.t) (B:=w1.heap.size) HS2.out.at_.inside HS2.out.ft [⟨shO1,none,0⟩,⟨shO2 lk,A,c⟩,⟨shO3 m,none,0⟩] (by
  intro q hq;simp only [List.mem_cons,List.not_mem_nil,or_false] at hq;rcases hq with rfl | rfl | rfl
  ·exact ⟨row_nilE _,fun _ e=>nomatch e⟩
  ·exact ⟨Row.below HR.out (HB1.out.trans (HS2.out.bel.mono HB1.out.size)),fun a ea hne=>Nat.lt_of_lt_of_le (Row.lt HR.out ea hne) HB1.out.size⟩
  ·exact ⟨row_nilE _,fun _ e=>nomatch e⟩))
 rw [show ([⟨shO1,none,0⟩,⟨shO2 lk,A,c⟩,⟨shO3 m,none,0⟩]:List OpR).flatMap OpR.cs=OpR.cs ⟨shO1,none,0⟩++(OpR.cs ⟨shO2 lk,A,c⟩++OpR.cs ⟨shO3 m,none,0⟩) from by simp] at HO5;have HB5:Hid (Below w2.heap.size w2 (w2.alloc (.cells (OpR.cs ⟨shO1,none,0⟩++(OpR.cs ⟨shO2 lk,A,c⟩++OpR.cs ⟨shO3 m,none,0⟩)).toArray 99))):=bR.alloc nR _;generalize (w2.alloc (.cells (OpR.cs ⟨shO1,none,0⟩++(OpR.cs ⟨shO2 lk,A,c⟩++OpR.cs ⟨shO3 m,none,0⟩)).toArray 99))=w5 at *;have HS5:=Hd (HS2.out.below HB5.out);generalize w2.heap.size=k5 at *
 have HOK:Hid (∀ o∈[shO1,shO2 lk,shO3 m],OpOk o):=fun o ho=>by
  simp only [List.mem_cons,List.not_mem_nil,or_false] at ho;rcases ho with rfl | rfl | rfl
  ·exact op_okc (.inr rfl) rfl fit_lko
  ·exact op_okc (.inr rfl) rfl ⟨HP.out.1,HP.out.2,HLE.out⟩
  ·exact op_okc (.inr rfl) rfl fit_lko
 have HAP:=Hd (applied HS5.out.at_ PSc.new_sane [⟨shO1,none,0⟩,⟨shO2 lk,A,c⟩,⟨shO3 m,none,0⟩] (some ⟨k5,0,none⟩) 3 HO5.out (fun q hq=>HOK.out q.o (by
  simp only [List.mem_cons,List.not_mem_nil,or_false] at hq
  rcases hq with rfl | rfl | rfl<;>simp)) (roomF rfl (by decide) (by simp)) (by simp))
 rw [show applyS shZ.2.2 setSt PSc.new (([⟨shO1,none,0⟩,⟨shO2 lk,A,c⟩,⟨shO3 m,none,0⟩]:List OpR).map (·.o))=applyS 9 setSt PSc.new [shO1,shO2 lk,shO3 m] from rfl] at HAP;have HF1:=Hd (fun h=>sh_first (lk:=lk) (m:=m) h);have HY:=Hd (PSc.new_sane.apply (M:=9) (l:=[shO1,shO2 lk,shO3 m]) HOK.out)
 obtain ⟨⟨y1,n1,e1⟩,hr1⟩:∃ r,applyS 9 setSt PSc.new [shO1,shO2 lk,shO3 m]=r:=⟨_,rfl⟩
 rw [hr1] at HAP HF1 HY
 dsimp only at HF1 HY
 unfold ApplyQ at HAP
 dsimp only at HAP
 refine HAP.out.mono ?_;rintro e w6 ⟨s6,rfl,hs6,ht6⟩;have HS6:=Hd (HS5.out.turn hs6 ht6);have HBW6:=Hd (HB1.out.trans (HS6.out.bel.mono HB1.out.size));clear hs6 ht6 HAP HS5 HO5 HB5 HS2 HL2 HM2 i1 i2 hr1 HOK HB1 HR HP HNN;by_cases ge:¬ e1=0
 ·have t1:(e1 != 0)=true:=by simpa using ge
  clear ge;go_wp2_with (fail);refine (fawake_any w6).mono ?_;rintro e wz ⟨rfl,hb⟩;have HBz:=Hd (HBW6.out.trans (hb.mono HBW6.out.size));clear hb;go_wp2_with (fail);go_ret;exact ⟨rfl,HBz.out⟩
 obtain rfl:e1=0:=Decidable.not_not.1 ge;have t1:((0:Int) != 0)=false:=by decide
 obtain ⟨yt,y0,y1n⟩:=HF1.out rfl;have HYN:=Hd (And.intro yt (And.intro y0 y1n));clear ge yt y0 y1n HF1;go_wp2_with (fail);refine (list_any HS6.out.at_ HY.out (by rw [HYN.out.1];decide)).mono ?_;unfold ListQ;rintro e w7 ⟨Aa,ca,la,rfl,hrow,hqs,hmap,hAa,hb7⟩;have HS7:=Hd (HS6.out.below hb7);have HIN:Hid (∀ k,SFoot b mm s6 y1.t k->k<w6.heap.size):=HS6.out.at_.inside;have HLA:=Hd (And.intro hrow (And.intro hqs (And.intro hmap hAa)));have HBW7:=Hd (HBW6.out.trans (hb7.mono HBW6.out.size));clear hrow hqs hmap hAa hb7 HS6 HBW6 t1
 obtain ⟨X,hX⟩:∃ X,x*65536=X:=⟨_,rfl⟩
 obtain ⟨Y,hY⟩:∃ Y,y*65536=Y:=⟨_,rfl⟩
 have hXb:-3276800<=X∧X<=3276800:=by have:=HXY.out;omega
 have hYb:-3276800<=Y∧Y<=3276800:=by have:=HXY.out;omega
 have u1:IntKind.i64.wrap X=X:=IntWalk.i64_in _ (by omega);have u2:IntKind.i64.wrap Y=Y:=IntWalk.i64_in _ (by omega);go_wp2_with (fail);refine (mp_shift X Y w7).mono ?_;rintro e w8 ⟨rfl,hb8⟩;unfold Mp.v;have HS8:=Hd (HS7.out.below hb8);have HB78:Hid (Below w7.heap.size w7 w8):=hb8;have HXX:=Hd (And.intro hX hY);clear hb8 hX hY hXb hYb u1 u2 HS7;simp only
 go_wp2_with (first | ((with_reducible show wpList _ _ _ (Oper.mk (some 79) (Op.build _ _) _ _ _ _::_) _ _);refine wpl_build _ _ rfl rfl (by simp [go_sem]) (build_sh4 X Y _) ?_) | ((with_reducible refine gB ?_);refine wpl_bs _ _ _ rfl rfl (by simp [go_sem]) (bs_sh1 ⟨shO4 X Y,none,0⟩ _) ?_));have HO9:=Hd (opsAt_new (w:=w8) (S:=SFoot b mm s6 y1.t) HS8.out.at_.inside [⟨shO4 X Y,none,0⟩] (by intro q hq;rw [List.mem_singleton.1 hq];rfl));rw [show ([⟨shO4 X Y,none,0⟩]:List OpR).flatMap OpR.cs=OpR.cs ⟨shO4 X Y,none,0⟩ from by simp] at HO9
 have HB9:Hid (Below w8.heap.size w8 (w8.alloc (.cells (OpR.cs ⟨shO4 X Y,none,0⟩).toArray 99))):=bR.alloc nR _;have HB79:Hid (Below w7.heap.size w7 (w8.alloc (.cells (OpR.cs ⟨shO4 X Y,none,0⟩).toArray 99))):=HB78.out.trans (HB9.out.mono HB78.out.size);generalize (w8.alloc (.cells (OpR.cs ⟨shO4 X Y,none,0⟩).toArray 99))=w9 at *;have HS9:=Hd (HS8.out.below HB9.out);generalize w8.heap.size=k9 at *
 have HOK2:Hid (∀ o∈[shO4 X Y],OpOk o):=fun o ho=>by
  rw [List.mem_singleton.1 ho];exact op_okc (.inl rfl) rfl fit_lko
 have HAP:=Hd (applied HS9.out.at_ HY.out [⟨shO4 X Y,none,0⟩] (some ⟨k9,0,none⟩) 1 HO9.out (fun q hq=>HOK2.out q.o (by rw [List.mem_singleton.1 hq];simp)) (roomF rfl (by rw [HYN.out.1];decide) (by simp)) (by simp));rw [show applyS shZ.2.2 setSt y1 (([⟨shO4 X Y,none,0⟩]:List OpR).map (·.o))=applyS 9 setSt y1 [shO4 X Y] from rfl] at HAP;have HF2:=Hd (fun h=>sh_next (X:=X) (Y:=Y) HYN.out.1 h HYN.out.2.1);have HZ:=Hd (HY.out.apply (M:=9) (l:=[shO4 X Y]) HOK2.out)
 obtain ⟨⟨z1,n2,e2⟩,hr2⟩:∃ r,applyS 9 setSt y1 [shO4 X Y]=r:=⟨_,rfl⟩
 rw [hr2] at HAP HF2 HZ
 dsimp only at HF2 HZ
 unfold ApplyQ at HAP
 dsimp only at HAP
 refine HAP.out.mono ?_;rintro e w10 ⟨s10,rfl,hs10,ht10⟩;have HS10:=Hd (HS9.out.turn hs10 ht10);have HTU:Hid (∀ k,w6.heap.size<=k->k<w7.heap.size->w10.heap[k]?=w7.heap[k]?):=fun k h1 h2=>((ht10.far k (Nat.lt_of_lt_of_le h2 HB79.out.size) fun e=>by have:=HIN.out k e;omega).2).trans (HB79.out.block k h2);have HBW9:=Hd (HBW7.out.trans (HB79.out.mono HBW7.out.size));have HBW10:=Hd (HBW9.out.trans (ht10.to_below HBW9.out.size fun k hk=>Nat.le_trans HW1.out (HS9.out.ft k hk)));clear hs10 ht10 HAP HS9 HO9 HB9 HB78 HB79 HS8 HIN hr2 HOK2;by_cases ge:¬ e2=0
 ·have t1:(e2 != 0)=true:=by simpa using ge
  clear ge;go_wp2_with (fail);refine (fawake_any w10).mono ?_;rintro e wz ⟨rfl,hb⟩;have HBz:=Hd (HBW10.out.trans (hb.mono HBW10.out.size));clear hb;go_wp2_with (fail);go_ret;exact ⟨rfl,HBz.out⟩
 obtain rfl:e2=0:=Decidable.not_not.1 ge;have t1:((0:Int) != 0)=false:=by decide
 obtain ⟨zt,z0,z1n⟩:=HF2.out rfl;have HZN:=Hd (And.intro zt (And.intro z0 z1n));clear ge zt z0 z1n HF2;go_wp2_with (fail);refine (list_any HS10.out.at_ HZ.out (by rw [HZN.out.1];decide)).mono ?_;unfold ListQ;rintro e w11 ⟨Ab,cb,lb,rfl,hrow,hqs,hmap,hAb,hb11⟩;have HLB:=Hd (And.intro hrow (And.intro hqs (And.intro hmap hAb)));have HBB:Hid (Below w10.heap.size w10 w11):=hb11;have HBW11:=Hd (HBW10.out.trans (hb11.mono HBW10.out.size));clear hrow hqs hmap hAb hb11 HS10 t1
 have HSH:=Hd (shift_items (a:=x) (b:=y) HY.out HZ.out HYN.out.1 HZN.out.1 HYN.out.2.1 HYN.out.2.2 HXY.out.1 HXY.out.2 (by rw [HXX.out.1,HXX.out.2];exact HZN.out.2.1) (HZN.out.2.2.trans HYN.out.2.2))
 obtain ⟨i11,hi11⟩:∃ n,w11.heap.size=n:=⟨_,rfl⟩
 clear hi11;rcases HSH.out with ⟨hya,hzb⟩ | ⟨p,q,hpa,hqb,hsh⟩
 ·have hla:la=[]:=by have h:=HLA.out.2.2.1;rw [hya] at h;exact List.map_eq_nil_iff.1 h
  have hlb:lb=[]:=by have h:=HLB.out.2.2.1;rw [hzb] at h;exact List.map_eq_nil_iff.1 h
  subst hla hlb;clear hya hzb HSH HLA HLB HYN HZN HY HZ HTU HBB HXX;simp only [List.length_nil];go_wp2_with (fail)
  go_loopw [101] (fun i wr=>i=.int .i64 0∧wr=w11) (fun _ _=>0)
  case atStart=>exact ⟨rfl,rfl⟩
  case round=>
   obtain ⟨rfl,rfl⟩:=hrel;go_wp2_with (fail);refine (fawake_any wr).mono ?_;rintro e wz ⟨rfl,hb⟩;have HBz:=Hd (HBW11.out.trans (hb.mono HBW11.out.size));clear hb;go_wp2_with (fail);go_ret;exact ⟨rfl,HBz.out⟩
 ·obtain ⟨hr1,hq1,hm1,ha1⟩:=HLA.out;obtain ⟨hr2,hq2,hm2,ha2⟩:=HLB.out;obtain ⟨qa,l1,o1,rfl,hqa,hoka,rfl,hl1,hone1,hc1,hp1⟩:=listed_one hpa hr1 hq1 hm1 ha1;obtain ⟨qb,l2,o2,rfl,hqb2,hokb,rfl,hl2,hone2,-,-⟩:=listed_one hqb hr2 hq2 hm2 ha2;have HOA:Hid (OneI w11 l1 o1 qa):=((hone1.stays (HTU.out l1 hl1 hone1.inside) (fun a ea hne=>HTU.out _ (hc1 a ea hne) (SRow.blt hone1.at_.clips cl_first ea hne)) fun a ea hne=>HTU.out _ (hp1 a ea hne) (Row.lt hone1.at_.px ea hne))).below HBB.out;have HOB:=Hd hone2;have HQA:=Hd (And.intro hqa hoka);have HQB:=Hd (And.intro hqb2 hokb)
  have HSS:Hid (∀ u v,qb.it.at_ (u+x) (v+y)=qa.it.at_ u v∧qb.it.covers (u+x) (v+y)=qa.it.covers u v):=fun u v=>by
   rw [hqa,hqb2];exact hsh u v
  clear hr1 hq1 hm1 ha1 hr2 hq2 hm2 ha2 hqa hoka hl1 hone1 hc1 hp1 hqb2 hokb hl2 hone2 hpa hqb hsh HSH HLA HLB HYN HZN HY HZ HTU HBB HXX;simp only [List.length_cons,List.length_nil,Nat.zero_add];go_wp2_with (fail)
  go_loopw [101] (fun i wr=>∃ k:Nat,k<=1∧i=.int .i64 k∧Hid (Below w11.heap.size w11 wr)) (fun i _=>1 - (intOf i).toNat)
  case atStart=>exact ⟨0,by omega,rfl,bR⟩
  case round=>
   obtain ⟨k,hk,rfl,HBA⟩:=hrel;generalize wr=wA at *;obtain rfl | rfl:k=0∨k=1:=by omega
   ·clear hk;go_wp2_with (fail)
    go_loopw [18] (fun v wr=>∃ t:Int,-6<=t∧t<=7∧v=.int .i64 t∧Hid (Below w11.heap.size w11 wr)) (fun v _=>(7 - intOf v).toNat)
    case atStart=>exact ⟨-6,by omega,by omega,rfl,HBA.out⟩
    case round=>
     obtain ⟨t,ht1,ht2,rfl,HBT⟩:=hrel;generalize wr=wT at *;have HT:=Hd (And.intro ht1 ht2);by_cases htl:t<7
     ·have k1:decide (t<7)=true:=decide_eq_true htl;have HTL:=Hd htl;clear htl;go_wp2_with (fail)
      go_loopw [19] (fun v wr=>∃ r:Int,-6<=r∧r<=7∧v=.int .i64 r∧Hid (Below w11.heap.size w11 wr)) (fun v _=>(7 - intOf v).toNat)
      case atStart=>exact ⟨-6,by omega,by omega,rfl,HBT.out⟩
      case round=>
       obtain ⟨r,hr1,hr2,rfl,HBR⟩:=hrel;generalize wr=wR at *;have HRB:=Hd (And.intro hr1 hr2);by_cases hrl:r<7
       ·have k2:decide (r<7)=true:=decide_eq_true hrl;have HRL:=Hd hrl;have hxy:=HXY.out;have w1e:IntKind.i64.wrap (r+x)=r+x:=IntWalk.i64_in _ (by omega);have w2e:IntKind.i64.wrap (t+y)=t+y:=IntWalk.i64_in _ (by omega)
        have FO:Hid (∀ W,Below wR.heap.size wR W->OneI W l1 o1 qa∧OneI W l2 o2 qb):=fun W hb=>by
         have h:=HBR.out.trans (hb.mono HBR.out.size);exact ⟨HOA.out.below h,HOB.out.below h⟩
        have FA:Hid (∀ W,Below wR.heap.size wR W->Calls Tryz.prog 26 #[.agg qa.cs.toArray,.int .i64 r,.int .i64 t] W fun e w'=>e=.returned (.int .u32 (qa.it.at_ r t:Nat))∧Below W.heap.size W w'):=fun W hb=>itat_any qa r t W (FO.out W hb).1.at_ HQA.out.2 (by omega) (by omega)
        have FB:Hid (∀ W,Below wR.heap.size wR W->Calls Tryz.prog 26 #[.agg qb.cs.toArray,.int .i64 (r+x),.int .i64 (t+y)] W fun e w'=>e=.returned (.int .u32 (qa.it.at_ r t:Nat))∧Below W.heap.size W w'):=fun W hb=>by
         have h:=itat_any qb (r+x) (t+y) W (FO.out W hb).2.at_ HQB.out.2 (by omega) (by omega);rw [(HSS.out r t).1] at h;exact h
        have FC:Hid (∀ W,Below wR.heap.size wR W->Calls Tryz.prog 28 #[.agg qa.cs.toArray,.int .i64 r,.int .i64 t] W fun e w'=>e=.returned (.bool (qa.it.covers r t))∧Below W.heap.size W w'):=fun W hb=>itcov_any qa r t W (FO.out W hb).1.at_ HQA.out.2 (by omega) (by omega)
        have FD:Hid (∀ W,Below wR.heap.size wR W->Calls Tryz.prog 28 #[.agg qb.cs.toArray,.int .i64 (r+x),.int .i64 (t+y)] W fun e w'=>e=.returned (.bool (qa.it.covers r t))∧Below W.heap.size W w'):=fun W hb=>by
         have h:=itcov_any qb (r+x) (t+y) W (FO.out W hb).2.at_ HQB.out.2 (by omega) (by omega);rw [(HSS.out r t).2] at h;exact h
        generalize qa.it.at_ r t=z at *;generalize qa.it.covers r t=cv at *;have HWE:=Hd (And.intro w1e w2e);clear hxy hrl w1e w2e ht1 ht2 hr1 hr2
        go_upto_region 26 with (fail)
        refine wRn [112,113,114,115,116,117,118,119,120,121,122,123,124,125,126,127,128,129,130,131,132,133,134,135,136,137,138,139,140,141,142,143,144,145,146,147,148,149,150,151] (fun i=>match i with
         |0|20=>rV (.slice (some ⟨l1,o1,none⟩) 1 ca)
         |1|8|21|28=>rV (.int .i64 0)
         |2|22=>rV (.pointer (some ⟨l1,o1,none⟩))
         |3|23=>rV (.agg (qa.cs).toArray)
         |4|11|24|31=>rV (.int .i64 r)
         |5|14|25|34=>rV (.int .i64 t)
         |6|17=>rV (.int .u32 (z:Nat))
         |7|27=>rV (.slice (some ⟨l2,o2,none⟩) 1 cb)
         |9|29=>rV (.pointer (some ⟨l2,o2,none⟩))
         |10|30=>rV (.agg (qb.cs).toArray)
         |12|32=>rV (.int .i64 x)
         |13|33=>rV (.int .i64 (r+x))
         |15|35=>rV (.int .i64 y)
         |16|36=>rV (.int .i64 (t+y))
         |18|19|38|39=>rV (.bool false)
         |26|37=>rV (.bool cv)
         | _=>ra) ⟨?_,?_,?_,?_,?_,?_,?_,?_,?_,?_,?_,?_,?_,?_,?_,?_,?_,?_,?_,?_,?_,?_,?_,?_,?_,?_,?_,?_,?_,?_,?_,?_,?_,?_,?_,?_,?_,?_,?_,?_,trivial⟩ ?_
        any_goals (first|refine zp fun L a w1 hh=>?_|fail)
        any_goals (first|refine sy rfl rfl fun L a w1 hh=>?_|fail)
        have h13:=hh.o 13 (v:=.slice (some ⟨l1,o1,none⟩) 1 ca) rfl;rotate_left;have h17:=hh.o 17 (v:=.int .i64 0) rfl;rotate_left;have h112:=rq (hh.d 0 112);have h113:=rq (hh.d 1 113);have li:=(FO.out _ hh.rel).1.inside;rotate_left
        ·have h114:=rq (hh.d 2 114);have hRG:=(FO.out _ hh.rel).1.row;have hJ:=Hd hh.st;exact wp_load_mid 76 _ rfl l1 o1 (by simpa [go_sem] using h114) qa.cs _ hRG Tryz.underlying76 rfl (by kernel_rfl) ⟨_,rfl,rB,rfl,hJ.out⟩
        have h19:=hh.o 19 (v:=.int .i64 r) rfl;rotate_left;have h18:=hh.o 18 (v:=.int .i64 t) rfl;rotate_left
        ·have h115:=rq (hh.d 3 115);have h116:=rq (hh.d 4 116);have h117:=rq (hh.d 5 117);have hC:=Hd (FA.out _ hh.rel);have hJ:=hh.j;clear hh;go_simp;refine hC.out.mono ?_;rintro e w9 ⟨rfl,hb9⟩;exact ⟨_,rfl,hb9,rfl,hJ.out⟩
        have h16:=hh.o 16 (v:=.slice (some ⟨l2,o2,none⟩) 1 cb) rfl;rotate_left;have h17:=hh.o 17 (v:=.int .i64 0) rfl;rotate_left;have h119:=rq (hh.d 7 119);have h120:=rq (hh.d 8 120);have li:=(FO.out _ hh.rel).2.inside;rotate_left
        ·have h121:=rq (hh.d 9 121);have hRG:=(FO.out _ hh.rel).2.row;have hJ:=Hd hh.st;exact wp_load_mid 76 _ rfl l2 o2 (by simpa [go_sem] using h121) qb.cs _ hRG Tryz.underlying76 rfl (by kernel_rfl) ⟨_,rfl,rB,rfl,hJ.out⟩
        have h19:=hh.o 19 (v:=.int .i64 r) rfl;rotate_left;have h7:=hh.o 7 (v:=.int .i64 x) rfl;rotate_left;have h123:=rq (hh.d 11 123);have h124:=rq (hh.d 12 124);have w1e:=HWE.out.1;have w2e:=HWE.out.2;rotate_left;have h18:=hh.o 18 (v:=.int .i64 t) rfl;rotate_left;have h8:=hh.o 8 (v:=.int .i64 y) rfl;rotate_left;have h126:=rq (hh.d 14 126);have h127:=rq (hh.d 15 127);have w1e:=HWE.out.1;have w2e:=HWE.out.2;rotate_left
        ·have h122:=rq (hh.d 10 122);have h125:=rq (hh.d 13 125);have h128:=rq (hh.d 16 128);have hC:=Hd (FB.out _ hh.rel);have hJ:=hh.j;clear hh;go_simp;refine hC.out.mono ?_;rintro e w9 ⟨rfl,hb9⟩;exact ⟨_,rfl,hb9,rfl,hJ.out⟩
        have h118:=rq (hh.d 6 118);have h129:=rq (hh.d 17 129);have hq1:((z:Nat) != z)=false:=by simp
        have hq2:(((z:Nat):Int) != (z:Nat))=false:=by simp
        rotate_left;have h130:=rq (hh.d 18 130);rotate_left;have h13:=hh.o 13 (v:=.slice (some ⟨l1,o1,none⟩) 1 ca) rfl;rotate_left;have h17:=hh.o 17 (v:=.int .i64 0) rfl;rotate_left;have h132:=rq (hh.d 20 132);have h133:=rq (hh.d 21 133);have li:=(FO.out _ hh.rel).1.inside;rotate_left
        ·have h134:=rq (hh.d 22 134);have hRG:=(FO.out _ hh.rel).1.row;have hJ:=Hd hh.st;exact wp_load_mid 76 _ rfl l1 o1 (by simpa [go_sem] using h134) qa.cs _ hRG Tryz.underlying76 rfl (by kernel_rfl) ⟨_,rfl,rB,rfl,hJ.out⟩
        have h19:=hh.o 19 (v:=.int .i64 r) rfl;rotate_left;have h18:=hh.o 18 (v:=.int .i64 t) rfl;rotate_left
        ·have h135:=rq (hh.d 23 135);have h136:=rq (hh.d 24 136);have h137:=rq (hh.d 25 137);have hC:=Hd (FC.out _ hh.rel);have hJ:=hh.j;clear hh;go_simp;refine hC.out.mono ?_;rintro e w9 ⟨rfl,hb9⟩;exact ⟨_,rfl,hb9,rfl,hJ.out⟩
        have h16:=hh.o 16 (v:=.slice (some ⟨l2,o2,none⟩) 1 cb) rfl;rotate_left;have h17:=hh.o 17 (v:=.int .i64 0) rfl;rotate_left;have h139:=rq (hh.d 27 139);have h140:=rq (hh.d 28 140);have li:=(FO.out _ hh.rel).2.inside;rotate_left
        ·have h141:=rq (hh.d 29 141);have hRG:=(FO.out _ hh.rel).2.row;have hJ:=Hd hh.st;exact wp_load_mid 76 _ rfl l2 o2 (by simpa [go_sem] using h141) qb.cs _ hRG Tryz.underlying76 rfl (by kernel_rfl) ⟨_,rfl,rB,rfl,hJ.out⟩
        have h19:=hh.o 19 (v:=.int .i64 r) rfl;rotate_left;have h7:=hh.o 7 (v:=.int .i64 x) rfl;rotate_left;have h143:=rq (hh.d 31 143);have h144:=rq (hh.d 32 144);have w1e:=HWE.out.1;have w2e:=HWE.out.2;rotate_left;have h18:=hh.o 18 (v:=.int .i64 t) rfl;rotate_left;have h8:=hh.o 8 (v:=.int .i64 y) rfl;rotate_left;have h146:=rq (hh.d 34 146);have h147:=rq (hh.d 35 147);have w1e:=HWE.out.1;have w2e:=HWE.out.2;rotate_left
        ·have h142:=rq (hh.d 30 142);have h145:=rq (hh.d 33 145);have h148:=rq (hh.d 36 148);have hC:=Hd (FD.out _ hh.rel);have hJ:=hh.j;clear hh;go_simp;refine hC.out.mono ?_;rintro e w9 ⟨rfl,hb9⟩;exact ⟨_,rfl,hb9,rfl,hJ.out⟩
        have h138:=rq (hh.d 26 138);have h149:=rq (hh.d 37 149);have hq1:(cv != cv)=false:=by cases cv<;>rfl
        rotate_left;have h131:=rq (hh.d 19 131);have h150:=rq (hh.d 38 150);rotate_left
        any_goals (clear hh;go_simp;exact ⟨_,rfl,rB,rfl,trivial⟩)
        intro L w30 val hL hJ hR hv;have h151:val 151=.bool false:=hv 39 151 (by kernel_rfl);have HR30:=Hd hR;clear hv hL hJ hR;simp only [regs.putAll,List.map_cons,List.map_nil,h151];simp only [Act.put,List.setIfInBounds_toArray,List.set_cons_zero,List.set_cons_succ];clear h151
        skip
        have HB30:Hid (Below w11.heap.size w11 w30):=HBR.out.trans (Below.mono HR30.out HBR.out.size);have hrb:=HRB.out;have hrl:=HRL.out;clear FO FA FB FC FD HR30 HBR HWE;go_wp2_with (fail)
        go_roundw
        case rel=>exact ⟨r+1,by omega,by omega,by go_num,HB30.out⟩
        case measure=>simp [intOf];omega
       ·obtain rfl:r=7:=by omega
        clear hrl hr1 hr2;have htb:=HT.out;have htl:=HTL.out;go_wp2_with (fail)
        go_roundw
        case rel=>exact ⟨t+1,by omega,by omega,by go_num,HBR.out⟩
        case measure=>simp [intOf];omega
     ·obtain rfl:t=7:=by omega
      clear htl ht1 ht2 HT;go_wp2_with (fail)
      go_roundw
      case rel=>exact ⟨1,by omega,by go_num,HBT.out⟩
      case measure=>simp [intOf]
   ·clear hk;have HBAW:=Hd (HBW11.out.trans (HBA.out.mono HBW11.out.size));go_wp2_with (fail);refine (fawake_any wA).mono ?_;rintro e wz ⟨rfl,hb⟩;have HBz:=Hd (HBAW.out.trans (hb.mono HBAW.out.size));clear hb;go_wp2_with (fail);go_ret;exact ⟨rfl,HBz.out⟩
theorem shifts_fact (lk:Lk) (A:Option Addr) (c:Nat) (m:Mp) (b:Int×Int) (w:World) (hp:lk.p<4294967296) (hr:Row eW w A lk.l) (hlc:lk.l.length<=c∧c<=maxLen) (hz:∀ z∈lk.l,z<4294967296) :
  Calls Tryz.prog 7 #[.agg (lk.cs A c).toArray,m.v,.agg #[.int .i64 b.1,.int .i64 b.2]] w fun e w'=>e=.returned (.bool true)∧Below w.heap.size w w':=
 shifts_in lk A c m b.1 b.2 w hr (Nat.le_trans hlc.1 hlc.2) hp hz
end
end Go.Proofs.YthoildbfghfhpaaGreat
