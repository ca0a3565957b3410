import Derived.Test.YthoildbfghfhpaaGreatQFlG
import Derived.Test.YthoildbfghfhpaaGreatRows
import Derived.ProofKit
import Derived.OpenShut
import Derived.ChangeOld
import Derived.Carry
import Derived.Deep.Fields
import Derived.Deep.Slices
import Derived.SizedLaws
set_option maxHeartbeats 16000000
set_option maxRecDepth 100000
namespace Go.Proofs.YthoildbfghfhpaaGreat
section
open Go.RowKit pxm imm trm Go.Maps
theorem rnd_whole (a:Int):rnd (a*65536) 65536=a:=by
 unfold rnd;rw [Int.mul_emod_left,if_neg (by decide),Int.mul_ediv_cancel _ (by decide)]
theorem thens_zero {m n:Mp} (h:(m.thens [n]).2=0):m.right=true∧n.right=true∧m.thenB n=true∧(m.thens [n]).1=m.then1 n:=by
 have hr:m.right=true∧([n]).all Mp.right=true:=by
  unfold Mp.thens at h;split at h
  ·assumption
  ·cases h
 have hn:n.right=true:=by simpa using hr.2
 have e:m.thens [n]=if m.thenB n=true then (m.then1 n,0) else (Mp.o,35):=by
  unfold Mp.thens;rw [if_pos hr];have e1:m.run [n]=if m.thenB n=true then (m.then1 n).run [] else (Mp.o,false):=run_step (l:=[n]) (k:=0) (n:=n) (by simp) rfl
  have e2:(m.then1 n).run []=(m.then1 n,true):=rfl;rw [e2] at e1;by_cases hb:m.thenB n=true
  ·rw [if_pos hb] at e1 ⊢;rw [e1];rfl
  ·rw [if_neg hb] at e1 ⊢;rw [e1];rfl
 rw [e] at h ⊢;by_cases hb:m.thenB n=true
 ·rw [if_pos hb];exact ⟨hr.1,hn,hb,rfl⟩
 ·rw [if_neg hb] at h;cases h
theorem dotV_of {l:List Int} (h:dotB l=true):dotV l=rnd (dots l) 65536:=by
 unfold dotB at h;simp only [Bool.and_eq_true,decide_eq_true_eq] at h;unfold dotV;rw [if_pos ⟨h.1,h.2.1,h.2.2⟩]
def shM (X Y:Int):Mp:=⟨65536,0,0,65536,X,Y⟩
theorem shift_then {m:Mp} {X Y:Int} (h:(m.thens [shM X Y]).2=0):m.right=true∧(m.thens [shM X Y]).1=⟨m.a,m.b,m.c,m.d,m.e+X,m.f+Y⟩:=by
 obtain ⟨hm,hn,hb,he⟩:=thens_zero h;refine ⟨hm,?_⟩;rw [he];have hb':=hb;unfold Mp.thenB at hb';simp only [Bool.and_eq_true] at hb';obtain ⟨⟨h1,h2⟩,h3⟩:=hb';unfold Mp.then1 Mp.take;rw [if_pos h1,if_pos h2,if_pos h3];unfold Mp.takes at h1 h2 h3;rw [Bool.and_eq_true] at h1 h2 h3;simp only;rw [dotV_of h1.1,dotV_of h1.2,dotV_of h2.1,dotV_of h2.2,dotV_of h3.1,dotV_of h3.2];have k1:dots ((shM X Y).still.dx ⟨m.a,m.b⟩)=m.a*65536:=by simp [dots,Mp.dx,Mp.still,shM];omega
 have k2:dots ((shM X Y).still.dy ⟨m.a,m.b⟩)=m.b*65536:=by simp [dots,Mp.dy,Mp.still,shM];omega
 have k3:dots ((shM X Y).still.dx ⟨m.c,m.d⟩)=m.c*65536:=by simp [dots,Mp.dx,Mp.still,shM];omega
 have k4:dots ((shM X Y).still.dy ⟨m.c,m.d⟩)=m.d*65536:=by simp [dots,Mp.dy,Mp.still,shM];omega
 have k5:dots ((shM X Y).dx ⟨m.e,m.f⟩)=(m.e+X)*65536:=by simp [dots,Mp.dx,shM];omega
 have k6:dots ((shM X Y).dy ⟨m.e,m.f⟩)=(m.f+Y)*65536:=by simp [dots,Mp.dy,shM];omega
 rw [k1,k2,k3,k4,k5,k6,rnd_whole,rnd_whole,rnd_whole,rnd_whole,rnd_whole,rnd_whole]
theorem back_eq {m:Mp} (h:m.right=true):m.back=if m.det=0 then (Mp.o,43) else if allR m.bk.l4=true then (m.bk,0) else (Mp.o,35):=by
 unfold Mp.back;rw [if_neg (by rw [h];decide)]
theorem back_shift {m:Mp} {X Y:Int} (h:m.right=true) (h':(⟨m.a,m.b,m.c,m.d,m.e+X,m.f+Y⟩:Mp).right=true) :
  (⟨m.a,m.b,m.c,m.d,m.e+X,m.f+Y⟩:Mp).back.2=m.back.2∧(m.back.2=0->m.back.1=m.bk∧(⟨m.a,m.b,m.c,m.d,m.e+X,m.f+Y⟩:Mp).back.1=⟨m.bk.a,m.bk.b,m.bk.c,m.bk.d,m.e+X,m.f+Y⟩):=by
 have hd:(⟨m.a,m.b,m.c,m.d,m.e+X,m.f+Y⟩:Mp).det=m.det:=rfl;have hl:(⟨m.a,m.b,m.c,m.d,m.e+X,m.f+Y⟩:Mp).bk.l4=m.bk.l4:=rfl;rw [back_eq h,back_eq h',hd,hl];by_cases h0:m.det=0
 ·rw [if_pos h0,if_pos h0];exact ⟨rfl,fun e=>nomatch e⟩
 ·rw [if_neg h0,if_neg h0];by_cases h4:allR m.bk.l4=true
  ·rw [if_pos h4,if_pos h4];exact ⟨rfl,fun _=>⟨rfl,rfl⟩⟩
  ·rw [if_neg h4,if_neg h4];exact ⟨rfl,fun e=>nomatch e⟩
theorem plc_shift (b:Mp) (x y u v:Int):plc ⟨b.a,b.b,b.c,b.d,b.e+x*65536,b.f+y*65536⟩ (u+x) (v+y)=plc b u v:=by
 unfold plc Mp.from_ ctr;simp only;rw [show (u+x)*65536+32768 - (b.e+x*65536)=u*65536+32768 - b.e from by omega,show (v+y)*65536+32768 - (b.f+y*65536)=v*65536+32768 - b.f from by omega]
def shN (lk:Lk) (m:Mp):Nd:=⟨m,255,false,false,Bx.o,lk⟩
theorem step_plain (lk:Lk) (m w:Mp) (b:Mp):Dn.step (shN lk m) w (some ⟨b,255,[]⟩)=if w.back.2=0 then some ⟨w.back.1,255,[]⟩ else none:=by
 unfold Dn.step shN;rw [Option.bind_some];unfold Dn.ok Dn.to;by_cases h:w.back.2=0
 ·rw [if_pos h];simp [h,by_]
 ·rw [if_neg h];simp [h]
theorem root_step (X Y:Int) (hX:-3276800<=X∧X<=3276800) (hY:-3276800<=Y∧Y<=3276800):∃ b,Dn.step (shN Lk.o (shM X Y)) (shM X Y) (some Dn.top)=some ⟨b,255,[]⟩:=by
 have hr:(shM X Y).right=true:=by
  simp [Mp.right,allR,Mp.l,shM,rightB];omega
 have hb:(shM X Y).back.2=0:=by
  unfold Mp.back;rw [if_neg (by rw [hr];decide),if_neg (by show ¬ (shM X Y).det=0;simp [Mp.det,shM]),if_pos (by have:(shM X Y).bk.l4=(shM 0 0).bk.l4:=rfl;rw [this];decide)]
 refine ⟨(shM X Y).back.1,?_⟩;have h:=step_plain Lk.o (shM X Y) (shM X Y) Mp.o;rw [if_pos hb] at h;exact h
theorem item_plain {y:PSc} (ht:y.t=awT) {lk:Lk} {m:Mp} (h1:y.nd 1=shN lk m) {X Y:Int} (h0:y.nd 0=shN Lk.o (shM X Y)) (hw:y.ws 0=shM X Y) (hX:-3276800<=X∧X<=3276800) (hY:-3276800<=Y∧Y<=3276800) :
  itemOf y 1=if (y.ws 1).back.2=0∧¬ lk.k=0 then some ⟨1,y.ws 1,(y.ws 1).back.1,[],255,lk⟩ else none:=by
 obtain ⟨b,hb⟩:=root_step X Y hX hY
 have hd:downOf y 1=if (y.ws 1).back.2=0 then some ⟨(y.ws 1).back.1,255,[]⟩ else none:=by
  rw [down_two ht,h0,hw,hb,h1,step_plain]
 unfold itemOf;rw [hd,h1];by_cases h2:(y.ws 1).back.2=0
 ·rw [if_pos h2,Option.bind_some];show (if lk.k=0 then _ else _)=_;by_cases h3:lk.k=0
  ·rw [if_pos h3,if_neg (fun e=>e.2 h3)]
  ·rw [if_neg h3,if_pos ⟨h2,h3⟩];rfl
 ·rw [if_neg h2,if_neg (fun e=>h2 e.1)];rfl
theorem shift_items {y z:PSc} (hy:Sane y) (hz:Sane z) (ty:y.t=awT) (tz:z.t=awT) {lk:Lk} {m:Mp} (y0:y.nd 0=Nd.plain) (y1:y.nd 1=shN lk m) {a b:Int} (ha:-50<=a∧a<=50) (hb:-50<=b∧b<=50)
  (z0:z.nd 0=shN Lk.o (shM (a*65536) (b*65536))) (z1:z.nd 1=shN lk m) :
  (items y=[]∧items z=[])∨∃ p q,items y=[p]∧items z=[q]∧∀ u v,q.at_ (u+a) (v+b)=p.at_ u v∧q.covers (u+a) (v+b)=p.covers u v:=by
 obtain ⟨w0,w1,w2⟩:=ws_two hy ty;obtain ⟨v0,v1,v2⟩:=ws_two hz tz;rw [y0,y1] at w1 w2;rw [y0] at w0;rw [z0,z1] at v1 v2;rw [z0] at v0;obtain ⟨hm,e1⟩:=shift_then (m:=m) (X:=0) (Y:=0) w1;obtain ⟨-,e2⟩:=shift_then (m:=m) (X:=a*65536) (Y:=b*65536) v1
 have yw:y.ws 1=m:=by
  rw [← w2];exact e1.trans (by rw [Int.add_zero,Int.add_zero])
 have zw:z.ws 1=⟨m.a,m.b,m.c,m.d,m.e+a*65536,m.f+b*65536⟩:=by
  rw [← v2];exact e2
 have hm':(⟨m.a,m.b,m.c,m.d,m.e+a*65536,m.f+b*65536⟩:Mp).right=true:=by
  have h:=thens_right v1;rw [v2,zw] at h;exact h
 obtain ⟨hb2,hb1⟩:=back_shift hm hm';have iy:=item_plain ty y1 (X:=0) (Y:=0) y0 (by rw [w0];rfl) (by omega) (by omega);have iz:=item_plain tz z1 z0 (by rw [v0];rfl) (by omega) (by omega);rw [yw] at iy;rw [zw,hb2] at iz;rw [items_two ty (by rw [y0];rfl),items_two tz (by rw [z0];rfl),iy,iz];by_cases h:m.back.2=0∧¬ lk.k=0
 ·rw [if_pos h,if_pos h];obtain ⟨h1,h2⟩:=hb1 h.1;refine .inr ⟨_,_,rfl,rfl,fun u v=>?_⟩;have hp:=plc_shift m.bk a b u v;rw [h1,h2];constructor
  ·unfold It.at_ It.free;simp only [List.all_nil,if_true];rw [show (⟨m.bk.a,m.bk.b,m.bk.c,m.bk.d,m.e+a*65536,m.f+b*65536⟩:Mp)=⟨m.bk.a,m.bk.b,m.bk.c,m.bk.d,m.bk.e+a*65536,m.bk.f+b*65536⟩ from rfl,hp]
  ·unfold It.covers It.free Cl.has;simp only [List.all_nil,Bool.and_true];rw [show (⟨m.bk.a,m.bk.b,m.bk.c,m.bk.d,m.e+a*65536,m.f+b*65536⟩:Mp)=⟨m.bk.a,m.bk.b,m.bk.c,m.bk.d,m.bk.e+a*65536,m.bk.f+b*65536⟩ from rfl,hp]
 ·rw [if_neg h,if_neg h];exact .inl ⟨rfl,rfl⟩
def shO1:Op9:={ Op9.o with k:=1,i:=1 }
def shO2 (lk:Lk):Op9:={ Op9.o with k:=7,i:=1,lk:=lk }
def shO3 (m:Mp):Op9:={ Op9.o with k:=4,i:=1,m:=m }
def shO4 (X Y:Int):Op9:={ Op9.o with k:=4,m:=shM X Y }
theorem set_is {x:PSc} {o:Op9} (h:4<=o.k∧o.k<=8) (hz:(doS 9 x o).2=0):(doS 9 x o).1=⟨x.t,upd x.nd o.i (setN (x.nd o.i) o),x.ws⟩:=by
 have e:doS 9 x o=setS x o:=by
  unfold doS;rw [if_neg (by omega),if_neg (by omega),if_neg (by omega),if_pos h]
 rw [e] at hz ⊢;unfold setS at hz ⊢;split at hz
 ·cases hz
 ·rename_i h1
  rw [if_neg h1];split at hz
  ·rename_i h2
   exact absurd hz h2
  ·rename_i h2
   rw [if_neg h2]
theorem all_head {M:Int} {x:PSc} {o:Op9} {l:List Op9} (h:(allS M x (o::l)).2.2=0):(doS M x o).2=0∧(allS M (doS M x o).1 l).2.2=0∧(allS M x (o::l)).1=(allS M (doS M x o).1 l).1:=by
 rw [allS_cons] at h ⊢;by_cases h1:(doS M x o).2≠0
 ·rw [if_pos h1] at h;exact absurd h h1
 ·rw [if_neg h1] at h ⊢;exact ⟨Decidable.not_not.1 h1,h,rfl⟩
theorem sh_first {lk:Lk} {m:Mp} (h:(applyS 9 setSt PSc.new [shO1,shO2 lk,shO3 m]).2.2=0) :
  (applyS 9 setSt PSc.new [shO1,shO2 lk,shO3 m]).1.t=awT∧(applyS 9 setSt PSc.new [shO1,shO2 lk,shO3 m]).1.nd 0=Nd.plain∧(applyS 9 setSt PSc.new [shO1,shO2 lk,shO3 m]).1.nd 1=shN lk m:=by
 obtain ⟨h1,h2,h3⟩:=apply_ok h;rw [h1,h2];obtain ⟨-,a2,a3⟩:=all_head h3;rw [a3];obtain ⟨b1,b2,b3⟩:=all_head a2;rw [b3];obtain ⟨c1,-,c3⟩:=all_head b2;rw [c3];show (doS 9 _ _).1.t=_∧(doS 9 _ _).1.nd 0=_∧(doS 9 _ _).1.nd 1=_;rw [set_is (o:=shO3 m) (by show (4:Int)<=4∧(4:Int)<=8;decide) c1,set_is (o:=shO2 lk) (by show (4:Int)<=7∧(7:Int)<=8;decide) b1];exact ⟨rfl,rfl,rfl⟩
theorem sh_next {y:PSc} (ht:y.t=awT) {X Y:Int} (h:(applyS 9 setSt y [shO4 X Y]).2.2=0) (y0:y.nd 0=Nd.plain) :
  (applyS 9 setSt y [shO4 X Y]).1.t=awT∧(applyS 9 setSt y [shO4 X Y]).1.nd 0=shN Lk.o (shM X Y)∧(applyS 9 setSt y [shO4 X Y]).1.nd 1=y.nd 1:=by
 obtain ⟨h1,h2,h3⟩:=apply_ok h;rw [h1,h2];obtain ⟨a1,-,a3⟩:=all_head h3;rw [a3];show (doS 9 _ _).1.t=_∧(doS 9 _ _).1.nd 0=_∧(doS 9 _ _).1.nd 1=_;rw [set_is (by show (4:Int)<=4∧(4:Int)<=8;decide) a1];refine ⟨ht,?_,rfl⟩;show setN (y.nd 0) (shO4 X Y)=_;rw [y0];rfl
end
section
open Go.RowKit pxm imm trm Go.Maps
theorem fbk_same (m:Mp) (w:World):(binOp .eql 67 (.agg m.cs.toArray) (.agg m.cs.toArray)).run Tryz.prog w=.ok (.bool true) w:=by
 obtain ⟨a,b,c,d,e,f⟩:=m;unfold Mp.cs;simp only;go_simp
theorem fmp_same (m:Mp) (w:World):(binOp .eql 65 (.agg m.cs.toArray) (.agg m.cs.toArray)).run Tryz.prog w=.ok (.bool true) w:=by
 have h:=mp_eq m m w;rw [decide_eq_true rfl] at h;exact h
theorem build_ndl (q:Lk) (A:Option Addr) (c:Nat) (w:World):(Instr.build 93 #[(5,.agg (q.cs A c).toArray)]).run Tryz.prog w=.ok (.agg (Nd.cs ⟨Mp.o,0,false,false,Bx.o,q⟩ A c).toArray) w:=by kernel_rfl
theorem feqlooks_same (q:Lk) (A:Option Addr) (c:Nat) (hl:q.l.length<=300) (w:World) (hr:Row eW w A q.l):Calls Tryz.prog 77 #[.agg (q.cs A c).toArray,.agg (q.cs A c).toArray] w fun e w'=>e=.returned (.bool true)∧Below w.heap.size w w':=by
 have HB0:Hid (Below w.heap.size w ((w.alloc (.cells (q.cs A c).toArray 74)).alloc (.cells (q.cs A c).toArray 74))):=(bR.alloc nR _).alloc (by simp) _;have HK1:Hid (Blk ((w.alloc (.cells (q.cs A c).toArray 74)).alloc (.cells (q.cs A c).toArray 74)) w.heap.size (q.cs A c)):=(blk_new w (q.cs A c) _).alloc _;have HK2:Hid (Blk ((w.alloc (.cells (q.cs A c).toArray 74)).alloc (.cells (q.cs A c).toArray 74)) (w.heap.size+1) (q.cs A c)):=blk_at (w.alloc _) _ (by simp) (q.cs A c) _
 have HE:Hid (Calls Tryz.prog 85 #[.agg (Nd.cs ⟨Mp.o,0,false,false,Bx.o,q⟩ A c).toArray,.agg (Nd.cs ⟨Mp.o,0,false,false,Bx.o,q⟩ A c).toArray] ((w.alloc (.cells (q.cs A c).toArray 74)).alloc (.cells (q.cs A c).toArray 74)) fun e w'=>e=.returned (.bool true)∧Below ((w.alloc (.cells (q.cs A c).toArray 74)).alloc (.cells (q.cs A c).toArray 74)).heap.size ((w.alloc (.cells (q.cs A c).toArray 74)).alloc (.cells (q.cs A c).toArray 74)) w'):=by
  have h:=ndequal_any Mp.o 0 false false Bx.o q.k q.W q.H q.p q.iw q.ih A q.l c Mp.o 0 false false Bx.o q.k q.W q.H q.p q.iw q.ih A q.l c (by unfold maxLen;omega) (by unfold maxLen;omega) ((w.alloc (.cells (q.cs A c).toArray 74)).alloc (.cells (q.cs A c).toArray 74)) (Row.below hr HB0.out) (Row.below hr HB0.out);rw [show eqNd Mp.o 0 false false Bx.o Mp.o 0 false false Bx.o (eqLk q.k q.W q.H q.p q.iw q.ih q.l q.k q.W q.H q.p q.iw q.ih q.l)=true from eqN_self ⟨Mp.o,0,false,false,Bx.o,q⟩] at h;exact h
 clear hl hr;go_enter Tryz.func77,Tryz.ntmps77
 go_upto_region 1 with (fail)
 generalize ((w.alloc (.cells (q.cs A c).toArray 74)).alloc (.cells (q.cs A c).toArray 74))=w0 at *;have i1:=HK1.out.inside;have i2:=HK2.out.inside;go_wp2_with (first | (with_reducible refine gL ?_;first | (refine wt 74 0 rfl rfl rfl HK1.out (q.cs A c) rfl Tryz.underlying74 rfl ?_) | (refine wt 74 0 rfl rfl rfl HK2.out (q.cs A c) rfl Tryz.underlying74 rfl ?_)) | ((with_reducible refine gU ?_);first | (refine wpl_build _ _ rfl rfl (by simp [go_sem]) (build_ndl q A c _) ?_)));refine HE.out.mono ?_;rintro e w1 ⟨rfl,hb⟩;have HB1:=Hd (HB0.out.trans (hb.mono HB0.out.size));clear hb HE
 go_wp2_with (fail);go_ret;exact ⟨rfl,HB1.out⟩
theorem feqclips_nil (A:Option Addr) (c:Nat) (w:World):Calls Tryz.prog 76 #[.slice A 0 c,.slice A 0 c] w fun e w'=>e=.returned (.bool true)∧Below w.heap.size w w':=by
 go_enter Tryz.func76,Tryz.ntmps76;go_wp2_with (fail)
 go_loopw [13] (fun i wr=>i=.int .i64 0∧wr=w) (fun _ _=>0)
 case atStart=>exact ⟨rfl,rfl⟩
 case round=>
  obtain ⟨rfl,rfl⟩:=hrel;go_wp2_with (fail);go_ret;exact ⟨rfl,bR⟩
theorem flequal_self (q:ItR) (hc:q.it.c=[]) (hl:q.it.lk.l.length<=300) (w:World) (hr:Row eW w q.A q.it.lk.l):Calls Tryz.prog 32 #[.agg q.cs.toArray,.agg q.cs.toArray] w fun e w'=>e=.returned (.bool true)∧Below w.heap.size w w':=by
 have HB0:Hid (Below w.heap.size w ((w.alloc (.cells q.cs.toArray 76)).alloc (.cells q.cs.toArray 76))):=(bR.alloc nR _).alloc (by simp) _;have HK1:Hid (Blk ((w.alloc (.cells q.cs.toArray 76)).alloc (.cells q.cs.toArray 76)) w.heap.size q.cs):=(blk_new w q.cs _).alloc _;have HK2:Hid (Blk ((w.alloc (.cells q.cs.toArray 76)).alloc (.cells q.cs.toArray 76)) (w.heap.size+1) q.cs):=blk_at (w.alloc _) _ (by simp) q.cs _;have HE:=Hd (fun W hb=>feqlooks_same q.it.lk q.A q.c hl W (Row.below hr hb));have HC:=Hd (feqclips_nil q.Ac q.cc)
 have HC0:Hid (q.it.c.length=0):=by show _=_;rw [hc];rfl
 clear hc hl hr;go_enter Tryz.func32,Tryz.ntmps32
 go_upto_region 1 with (fail)
 generalize ((w.alloc (.cells q.cs.toArray 76)).alloc (.cells q.cs.toArray 76))=w0 at *;have i1:=HK1.out.inside;have i2:=HK2.out.inside;have q1:=fun w=>fmp_same q.it.w w;have q2:=fun w=>fbk_same q.it.b w;have c0:=HK1.out.c 0 rfl;have c13:w0.cell? ⟨w.heap.size,13,none⟩=some (.slice q.Ac 0 q.cc):=by rw [← HC0.out];exact HK1.out.cell 13
 have c14:=HK1.out.c 14 rfl;have d0:w0.cell? ⟨w.heap.size+1,0,none⟩=some (.int .i64 q.it.i):=HK2.out.cell 0;have d13:w0.cell? ⟨w.heap.size+1,13,none⟩=some (.slice q.Ac 0 q.cc):=by rw [← HC0.out];exact HK2.out.cell 13
 have d14:w0.cell? ⟨w.heap.size+1,14,none⟩=some (.int .i64 (q.it.o:Nat)):=HK2.out.cell 14;go_wp2_with (first | (with_reducible refine gL ?_;first | (refine wt 65 1 rfl rfl rfl HK1.out (q.it.w.cs) rfl Tryz.underlying65 rfl ?_) | (refine wt 65 1 rfl rfl rfl HK2.out (q.it.w.cs) rfl Tryz.underlying65 rfl ?_) | (refine wt 67 7 rfl rfl rfl HK1.out (q.it.b.cs) rfl Tryz.underlying67 rfl ?_) | (refine wt 67 7 rfl rfl rfl HK2.out (q.it.b.cs) rfl Tryz.underlying67 rfl ?_)));refine (HC.out _).mono ?_;rintro e w1 ⟨rfl,hb⟩;have HB1:=Hd (HB0.out.trans (hb.mono HB0.out.size))
 have HK3:=Hd (HK1.out.below' hb);have HK4:=Hd (HK2.out.below' hb);clear hb HC c0 c13 c14 d0 d13 d14 i1 i2 HK1 HK2;have i1:=HK3.out.inside;have i2:=HK4.out.inside;go_wp2_with (first | (with_reducible refine gL ?_;first | (refine wt 74 15 rfl rfl rfl HK3.out (q.it.lk.cs q.A q.c) rfl Tryz.underlying74 rfl ?_) | (refine wt 74 15 rfl rfl rfl HK4.out (q.it.lk.cs q.A q.c) rfl Tryz.underlying74 rfl ?_)));refine (HE.out w1 HB1.out).mono ?_;rintro e w2 ⟨rfl,hb⟩;have HB2:=Hd (HB1.out.trans (hb.mono HB1.out.size));clear hb HE;go_wp2_with (fail);go_ret;exact ⟨rfl,HB2.out⟩
theorem build_fl1 (w:World):(Instr.build 99 #[(0,.int .i64 1),(1,.int .i64 1)]).run Tryz.prog w=.ok (.agg (fl1.cs none 0).toArray) w:=by kernel_rfl
theorem build_fl2 (w:World):(Instr.build 99 #[(0,.int .i64 4),(1,.int .i64 1),(4,.agg #[.int .i64 65536,.int .i64 0,.int .i64 0,.int .i64 65536,.int .i64 65536,.int .i64 0])]).run Tryz.prog w=.ok (.agg (fl2.cs none 0).toArray) w:=by kernel_rfl
theorem build_fl3 (w:World):(Instr.build 99 #[(0,.int .i64 7),(1,.int .i64 1),(8,.agg #[.int .i64 1,.int .i64 2,.int .i64 1,.int .u32 255,.int .i64 0,.int .i64 0,.slice none 0 0])]).run Tryz.prog w=.ok (.agg (fl3.cs none 0).toArray) w:=by kernel_rfl
theorem build_fl4 (w:World):(Instr.build 99 #[(0,.int .i64 6),(7,.int .i64 128)]).run Tryz.prog w=.ok (.agg (fl4.cs none 0).toArray) w:=by kernel_rfl
theorem bs_op4 (a b c d:Op9) (w:World):(Instr.buildSlice tOps 4 #[(0,.agg (a.cs none 0).toArray),(1,.agg (b.cs none 0).toArray),(2,.agg (c.cs none 0).toArray),(3,.agg (d.cs none 0).toArray)]).run Tryz.prog w=.ok (.slice (some ⟨w.heap.size,0,none⟩) 4 4) (w.alloc (.cells ([oN a,oN b,oN c,oN d].flatMap OpR.cs).toArray 99)):=by kernel_rfl
def flZ:ZZ:=⟨4,⟨3,9⟩,fun _=>False⟩
theorem roomF {Z:ZZ} (hZ:Z.2.2=9) {x:PSc} {n:Nat} (h:x.t.length<=10) (hn:n<=1024):n<=1024->Room Z.2.2 x n:=fun _=>⟨hn,.inr ⟨by omega,by rw [hZ];decide⟩⟩
theorem fl_ops:∀ q∈[oN fl1,oN fl2,oN fl3,oN fl4],OpOk q.o∧q.o.lk.l=[]:=by
 intro q hq;simp only [List.mem_cons,List.not_mem_nil,or_false] at hq;rcases hq with rfl | rfl | rfl | rfl<;>exact fl_op (by simp [flL,oN])
structure OneI (w:World) (lb lo:Nat) (q:ItR):Prop where
 row:w.rangeAt lb lo q.cs
 at_:ItAt w q
theorem OneI.below {w w':World} {lb lo:Nat} {q:ItR} (h:OneI w lb lo q) (hb:Below w.heap.size w w'):OneI w' lb lo q:=⟨fun i v hv=>(hb.cell (p:=⟨lb,lo+i,none⟩) (World.block_lt_of_cell? w _ (h.row i v hv))).trans (h.row i v hv),h.at_.below hb⟩
theorem OneI.inside {w:World} {lb lo:Nat} {q:ItR} (h:OneI w lb lo q):lb<w.heap.size:=World.block_lt_of_cell? w ⟨lb,_,none⟩ (h.row 0 (.int .i64 q.it.i) rfl)
theorem fawake_any (w:World):Calls Tryz.prog 19 #[] w fun e w'=>e=.returned (.bool true)∧Below w.heap.size w w':=by
 go_enter Tryz.func19,Tryz.ntmps19;go_wp2_with (fail);refine (new_ok (w:=w) flZ (fun _ e=>e.elim) ⟨by decide,by decide⟩ ⟨by decide,by decide⟩ ⟨by decide,by decide⟩).mono ?_;rintro e w1 ⟨g,b,m,s,rfl,hs1,hb1,hf1,hg1⟩
 have HM1:Hid (MyS w g b m s flZ PSc.new w1):=⟨hs1,hf1,hb1⟩
 clear hs1 hb1 hf1 hg1;go_wp2_with (first | ((with_reducible show wpList _ _ _ (Oper.mk (some 15) (Op.build _ _) _ _ _ _::_) _ _);refine wpl_build _ _ rfl rfl (by simp [go_sem]) (build_fl1 _) ?_));refine (mp_shift 65536 0 w1).mono ?_;rintro e w2 ⟨rfl,hb2⟩;unfold Mp.v;have HM2:=Hd (HM1.out.below hb2);clear hb2 HM1;go_wp2_with (first | ((with_reducible show wpList _ _ _ (Oper.mk (some 17) (Op.build _ _) _ _ _ _::_) _ _);refine wpl_build _ _ rfl rfl (by simp [go_sem]) (build_fl2 _) ?_));refine (fillof_any 2 1 255 w2).mono ?_;rintro e w3 ⟨rfl,hb3⟩;unfold lkV;have HM4:=Hd (HM2.out.below hb3)
 clear hb3 HM2;go_wp2_with (first | ((with_reducible show wpList _ _ _ (Oper.mk (some 19) (Op.build _ _) _ _ _ _::_) _ _);refine wpl_build _ _ rfl rfl (by simp [go_sem]) (build_fl3 _) ?_) | ((with_reducible show wpList _ _ _ (Oper.mk (some 20) (Op.build _ _) _ _ _ _::_) _ _);refine wpl_build _ _ rfl rfl (by simp [go_sem]) (build_fl4 _) ?_) | ((with_reducible refine gB ?_);refine wpl_bs _ _ _ rfl rfl (by simp [go_sem]) (bs_op4 fl1 fl2 fl3 fl4 _) ?_));have HO5:=Hd (opsAt_new (w:=w3) (S:=SFoot b m s PSc.new.t) HM4.out.at_.inside [oN fl1,oN fl2,oN fl3,oN fl4] (fun q hq=>(fl_ops q hq).2))
 rw [show [oN fl1,oN fl2,oN fl3,oN fl4].flatMap OpR.cs=(oN fl1).cs++((oN fl2).cs++((oN fl3).cs++(oN fl4).cs)) from by simp] at HO5;have HB5:Hid (Below w3.heap.size w3 (w3.alloc (.cells ((oN fl1).cs++((oN fl2).cs++((oN fl3).cs++(oN fl4).cs))).toArray 99))):=bR.alloc nR _;generalize (w3.alloc (.cells ((oN fl1).cs++((oN fl2).cs++((oN fl3).cs++(oN fl4).cs))).toArray 99))=w5 at *;have HM5:=Hd (HM4.out.below HB5.out);generalize w3.heap.size=k5 at *
 have HAP:=Hd (applied HM5.out.at_ PSc.new_sane [oN fl1,oN fl2,oN fl3,oN fl4] (some ⟨k5,0,none⟩) 4 HO5.out (fun q hq=>(fl_ops q hq).1) (roomF rfl (by decide) (by simp)) (by simp));rw [show applyS flZ.2.2 setSt PSc.new ([oN fl1,oN fl2,oN fl3,oN fl4].map (·.o))=(flY,4,0) from fl_apply] at HAP;unfold ApplyQ at HAP;refine HAP.out.mono ?_;rintro e w6 ⟨s6,rfl,hs6,ht6⟩;have HM6:=Hd (HM5.out.turn hs6 ht6);clear hs6 ht6 HAP HM5 HO5 HB5 HM4;go_wp2_with (fail);refine (list_any HM6.out.at_ flY_sane (by rw [flY_t];decide)).mono ?_;unfold ListQ;rintro e w7 ⟨A,c,l,rfl,hrow,hqs,hmap,-,hb7⟩
 rw [fl_items] at hmap
 obtain ⟨q,rfl,hq⟩:∃ q,l=[q]∧q.it=flI:=by
  match l,hmap with
  | [],h=>simp at h
  | [q],h=>exact ⟨q,rfl,by simpa using h⟩
  | _::_::_,h=>simp at h
 obtain ⟨lb,lo,rfl,hc⟩:=hrow (by simp)
 have HO7:Hid (OneI w7 lb lo q):=⟨fun i v hv=>by have:=hc 0 (by simp) i v hv;simpa using this,(hqs q List.mem_cons_self).1⟩
 have HB7:Hid (Below w.heap.size w w7):=HM6.out.bel.trans (hb7.mono HM6.out.bel.size);have HQK:Hid (q.it.Ok):=by rw [hq];exact flI_ok
 have HQ:=Hd hq;have d0:w7.cell? ⟨lb,lo,none⟩=some (.int .i64 1):=by have h:=HO7.out.row 0 (.int .i64 q.it.i) rfl;rw [hq] at h;exact h
 have d14:w7.cell? ⟨lb,lo+14,none⟩=some (.int .i64 128):=by have h:=HO7.out.row 14 (.int .i64 (q.it.o:Nat)) rfl;rw [hq] at h;exact h
 have di:=HO7.out.inside;clear hrow hqs hmap hb7 hq hc HM6;simp only [List.length_cons,List.length_nil,Nat.zero_add];have FO:Hid (∀ W,Below w7.heap.size w7 W->OneI W lb lo q):=fun W hb=>HO7.out.below hb
 have FD:Hid (∀ W,Below w7.heap.size w7 W->W.cell? ⟨lb,lo,none⟩=some (.int .i64 1)∧W.cell? ⟨lb,lo+14,none⟩=some (.int .i64 128)∧lb<W.heap.size):=fun W hb=>⟨(hb.cell (p:=⟨lb,lo,none⟩) di).trans d0,(hb.cell (p:=⟨lb,lo+14,none⟩) di).trans d14,(FO.out W hb).inside⟩
 have FC10:Hid (∀ W,Below w7.heap.size w7 W->Calls Tryz.prog 28 #[.agg q.cs.toArray,.int .i64 1,.int .i64 0] W fun e w'=>e=.returned (.bool true)∧Below W.heap.size W w'):=fun W hb=>by
  have h:=itcov_any q 1 0 W (FO.out W hb).at_ HQK.out (by decide) (by decide);rw [show q.it.covers 1 0=true from by rw [HQ.out];exact fl_says.1] at h;exact h
 have FC20:Hid (∀ W,Below w7.heap.size w7 W->Calls Tryz.prog 28 #[.agg q.cs.toArray,.int .i64 2,.int .i64 0] W fun e w'=>e=.returned (.bool true)∧Below W.heap.size W w'):=fun W hb=>by
  have h:=itcov_any q 2 0 W (FO.out W hb).at_ HQK.out (by decide) (by decide);rw [show q.it.covers 2 0=true from by rw [HQ.out];exact fl_says.2.1] at h;exact h
 have FC00:Hid (∀ W,Below w7.heap.size w7 W->Calls Tryz.prog 28 #[.agg q.cs.toArray,.int .i64 0,.int .i64 0] W fun e w'=>e=.returned (.bool false)∧Below W.heap.size W w'):=fun W hb=>by
  have h:=itcov_any q 0 0 W (FO.out W hb).at_ HQK.out (by decide) (by decide);rw [show q.it.covers 0 0=false from by rw [HQ.out];exact fl_says.2.2.1] at h;exact h
 have FC11:Hid (∀ W,Below w7.heap.size w7 W->Calls Tryz.prog 28 #[.agg q.cs.toArray,.int .i64 1,.int .i64 1] W fun e w'=>e=.returned (.bool false)∧Below W.heap.size W w'):=fun W hb=>by
  have h:=itcov_any q 1 1 W (FO.out W hb).at_ HQK.out (by decide) (by decide);rw [show q.it.covers 1 1=false from by rw [HQ.out];exact fl_says.2.2.2.1] at h;exact h
 have FA20:Hid (∀ W,Below w7.heap.size w7 W->Calls Tryz.prog 26 #[.agg q.cs.toArray,.int .i64 2,.int .i64 0] W fun e w'=>e=.returned (.int .u32 128)∧Below W.heap.size W w'):=fun W hb=>by
  have h:=itat_any q 2 0 W (FO.out W hb).at_ HQK.out (by decide) (by decide);rw [show q.it.at_ 2 0=128 from by rw [HQ.out];exact fl_says.2.2.2.2.1] at h;exact h
 have FA30:Hid (∀ W,Below w7.heap.size w7 W->Calls Tryz.prog 26 #[.agg q.cs.toArray,.int .i64 3,.int .i64 0] W fun e w'=>e=.returned (.int .u32 0)∧Below W.heap.size W w'):=fun W hb=>by
  have h:=itat_any q 3 0 W (FO.out W hb).at_ HQK.out (by decide) (by decide);rw [show q.it.at_ 3 0=0 from by rw [HQ.out];exact fl_says.2.2.2.2.2] at h;exact h
 have FE:Hid (∀ W,Below w7.heap.size w7 W->Calls Tryz.prog 32 #[.agg q.cs.toArray,.agg q.cs.toArray] W fun e w'=>e=.returned (.bool true)∧Below W.heap.size W w'):=fun W hb=>flequal_self q (by rw [HQ.out];rfl) (by rw [HQ.out];decide) W (FO.out W hb).at_.px;have FT:Hid (∀ W,Calls Tryz.prog 24 #[.int .i64 1,.int .i64 0] W fun e w'=>e=.returned (.agg #[.int .i64 98304,.int .i64 32768])∧Below W.heap.size W w'):=fun W=>centre_any 1 0 W (by constructor<;>decide) (by constructor<;>decide);clear d0 d14 di HO7 HQK HQ
 go_upto_region 6 with (fail)
 simp only [List.append]
 refine wRn [25,26,27,28,29,30,31,32,33,34,35,36,37,38,39,40,41,42,43,44,45,46,47,48,49,50,51,52,53,54,55,56,57,58,59,60,61,62,63,64,65,66,67,68,69,70,71,72,73,74,75,76,77,78,79,80,81,82,83,84,85,86,87,88,89,90,91,92,93,94,95,0] (fun i=>match i with
  |0|4|11|18|24|30|37|44|51|58|61=>rV (.slice (some ⟨lb,lo,none⟩) 1 c)
  |1|7=>rV (.int .i64 1)
  |2|3|8|9|10|15|16|17|21|22|23|27|28|29|34|35|36|41|42|43|48|49|50|55|56|57|64|65|66|69|70|71=>rT
  |5|6|12|19|25|31|38|45|52|59|62=>rV (.pointer (some ⟨lb,lo,none⟩))
  |13=>rV (.pointer (some ⟨lb,(lo+14),none⟩))
  |14=>rV (.int .i64 128)
  |20|26|32|39|46|53|60|63=>rV (.agg (q.cs).toArray)
  |33|40=>rV (.bool false)
  |47=>rV (.int .u32 128)
  |54=>rV (.int .u32 0)
  |67|68=>rV (.agg ([.int .i64 98304,.int .i64 32768]).toArray)
  | _=>ra) ⟨?_,?_,?_,?_,?_,?_,?_,?_,?_,?_,?_,?_,?_,?_,?_,?_,?_,?_,?_,?_,?_,?_,?_,?_,?_,?_,?_,?_,?_,?_,?_,?_,?_,?_,?_,?_,?_,?_,?_,?_,?_,?_,?_,?_,?_,?_,?_,?_,?_,?_,?_,?_,?_,?_,?_,?_,?_,?_,?_,?_,?_,?_,?_,?_,?_,?_,?_,?_,?_,?_,?_,?_,trivial⟩ ?_
 any_goals (first|refine zp fun L a w1 hh=>?_|fail)
 any_goals (first|refine sy rfl rfl fun L a w1 hh=>?_|fail)
 have h3:=hh.o 3 (v:=.slice (some ⟨lb,lo,none⟩) 1 c) rfl;rotate_left;have h25:=rq (hh.d 0 25);rotate_left;have h26:=rq (hh.d 1 26);rotate_left;have h27:=rq (hh.d 2 27);rotate_left;have h3:=hh.o 3 (v:=.slice (some ⟨lb,lo,none⟩) 1 c) rfl;rotate_left;have h29:=rq (hh.d 4 29);have li:=(FD.out _ hh.rel).2.2;rotate_left;have h30:=rq (hh.d 5 30);have li:=(FD.out _ hh.rel).2.2;rotate_left
 ·have h31:=rq (hh.d 6 31);obtain ⟨c0,-,li⟩:=FD.out _ hh.rel;clear hh;go_simp;exact ⟨_,rfl,rB,rfl,trivial⟩
 have h32:=rq (hh.d 7 32);rotate_left;have h28:=rq (hh.d 3 28);have h33:=rq (hh.d 8 33);rotate_left;have h34:=rq (hh.d 9 34);rotate_left;have h3:=hh.o 3 (v:=.slice (some ⟨lb,lo,none⟩) 1 c) rfl;rotate_left;have h36:=rq (hh.d 11 36);have li:=(FD.out _ hh.rel).2.2;rotate_left;have h37:=rq (hh.d 12 37);have li:=(FD.out _ hh.rel).2.2;rotate_left
 ·have h38:=rq (hh.d 13 38);obtain ⟨-,c0,li⟩:=FD.out _ hh.rel;clear hh;go_simp;exact ⟨_,rfl,rB,rfl,trivial⟩
 have h39:=rq (hh.d 14 39);rotate_left;have h35:=rq (hh.d 10 35);have h40:=rq (hh.d 15 40);rotate_left;have h41:=rq (hh.d 16 41);rotate_left;have h3:=hh.o 3 (v:=.slice (some ⟨lb,lo,none⟩) 1 c) rfl;rotate_left;have h43:=rq (hh.d 18 43);have li:=(FD.out _ hh.rel).2.2;rotate_left
 ·have h44:=rq (hh.d 19 44);have hRG:=(FO.out _ hh.rel).row;have hJ:=Hd hh.st;exact wp_load_mid 76 _ rfl lb lo (by simpa [go_sem] using h44) q.cs _ hRG Tryz.underlying76 rfl (by kernel_rfl) ⟨_,rfl,rB,rfl,hJ.out⟩
 ·have h45:=rq (hh.d 20 45);have hC:=Hd (FC10.out _ hh.rel);have hJ:=hh.j;clear hh;go_simp;refine hC.out.mono ?_;rintro e w9 ⟨rfl,hb9⟩;exact ⟨_,rfl,hb9,rfl,hJ.out⟩
 have h42:=rq (hh.d 17 42);have h46:=rq (hh.d 21 46);rotate_left;have h47:=rq (hh.d 22 47);rotate_left;have h3:=hh.o 3 (v:=.slice (some ⟨lb,lo,none⟩) 1 c) rfl;rotate_left;have h49:=rq (hh.d 24 49);have li:=(FD.out _ hh.rel).2.2;rotate_left
 ·have h50:=rq (hh.d 25 50);have hRG:=(FO.out _ hh.rel).row;have hJ:=Hd hh.st;exact wp_load_mid 76 _ rfl lb lo (by simpa [go_sem] using h50) q.cs _ hRG Tryz.underlying76 rfl (by kernel_rfl) ⟨_,rfl,rB,rfl,hJ.out⟩
 ·have h51:=rq (hh.d 26 51);have hC:=Hd (FC20.out _ hh.rel);have hJ:=hh.j;clear hh;go_simp;refine hC.out.mono ?_;rintro e w9 ⟨rfl,hb9⟩;exact ⟨_,rfl,hb9,rfl,hJ.out⟩
 have h48:=rq (hh.d 23 48);have h52:=rq (hh.d 27 52);rotate_left;have h53:=rq (hh.d 28 53);rotate_left;have h3:=hh.o 3 (v:=.slice (some ⟨lb,lo,none⟩) 1 c) rfl;rotate_left;have h55:=rq (hh.d 30 55);have li:=(FD.out _ hh.rel).2.2;rotate_left
 ·have h56:=rq (hh.d 31 56);have hRG:=(FO.out _ hh.rel).row;have hJ:=Hd hh.st;exact wp_load_mid 76 _ rfl lb lo (by simpa [go_sem] using h56) q.cs _ hRG Tryz.underlying76 rfl (by kernel_rfl) ⟨_,rfl,rB,rfl,hJ.out⟩
 ·have h57:=rq (hh.d 32 57);have hC:=Hd (FC00.out _ hh.rel);have hJ:=hh.j;clear hh;go_simp;refine hC.out.mono ?_;rintro e w9 ⟨rfl,hb9⟩;exact ⟨_,rfl,hb9,rfl,hJ.out⟩
 have h58:=rq (hh.d 33 58);rotate_left;have h54:=rq (hh.d 29 54);have h59:=rq (hh.d 34 59);rotate_left;have h60:=rq (hh.d 35 60);rotate_left;have h3:=hh.o 3 (v:=.slice (some ⟨lb,lo,none⟩) 1 c) rfl;rotate_left;have h62:=rq (hh.d 37 62);have li:=(FD.out _ hh.rel).2.2;rotate_left
 ·have h63:=rq (hh.d 38 63);have hRG:=(FO.out _ hh.rel).row;have hJ:=Hd hh.st;exact wp_load_mid 76 _ rfl lb lo (by simpa [go_sem] using h63) q.cs _ hRG Tryz.underlying76 rfl (by kernel_rfl) ⟨_,rfl,rB,rfl,hJ.out⟩
 ·have h64:=rq (hh.d 39 64);have hC:=Hd (FC11.out _ hh.rel);have hJ:=hh.j;clear hh;go_simp;refine hC.out.mono ?_;rintro e w9 ⟨rfl,hb9⟩;exact ⟨_,rfl,hb9,rfl,hJ.out⟩
 have h65:=rq (hh.d 40 65);rotate_left;have h61:=rq (hh.d 36 61);have h66:=rq (hh.d 41 66);rotate_left;have h67:=rq (hh.d 42 67);rotate_left;have h3:=hh.o 3 (v:=.slice (some ⟨lb,lo,none⟩) 1 c) rfl;rotate_left;have h69:=rq (hh.d 44 69);have li:=(FD.out _ hh.rel).2.2;rotate_left
 ·have h70:=rq (hh.d 45 70);have hRG:=(FO.out _ hh.rel).row;have hJ:=Hd hh.st;exact wp_load_mid 76 _ rfl lb lo (by simpa [go_sem] using h70) q.cs _ hRG Tryz.underlying76 rfl (by kernel_rfl) ⟨_,rfl,rB,rfl,hJ.out⟩
 ·have h71:=rq (hh.d 46 71);have hC:=Hd (FA20.out _ hh.rel);have hJ:=hh.j;clear hh;go_simp;refine hC.out.mono ?_;rintro e w9 ⟨rfl,hb9⟩;exact ⟨_,rfl,hb9,rfl,hJ.out⟩
 have h72:=rq (hh.d 47 72);rotate_left;have h68:=rq (hh.d 43 68);have h73:=rq (hh.d 48 73);rotate_left;have h74:=rq (hh.d 49 74);rotate_left;have h3:=hh.o 3 (v:=.slice (some ⟨lb,lo,none⟩) 1 c) rfl;rotate_left;have h76:=rq (hh.d 51 76);have li:=(FD.out _ hh.rel).2.2;rotate_left
 ·have h77:=rq (hh.d 52 77);have hRG:=(FO.out _ hh.rel).row;have hJ:=Hd hh.st;exact wp_load_mid 76 _ rfl lb lo (by simpa [go_sem] using h77) q.cs _ hRG Tryz.underlying76 rfl (by kernel_rfl) ⟨_,rfl,rB,rfl,hJ.out⟩
 ·have h78:=rq (hh.d 53 78);have hC:=Hd (FA30.out _ hh.rel);have hJ:=hh.j;clear hh;go_simp;refine hC.out.mono ?_;rintro e w9 ⟨rfl,hb9⟩;exact ⟨_,rfl,hb9,rfl,hJ.out⟩
 have h79:=rq (hh.d 54 79);rotate_left;have h75:=rq (hh.d 50 75);have h80:=rq (hh.d 55 80);rotate_left;have h81:=rq (hh.d 56 81);rotate_left;have h3:=hh.o 3 (v:=.slice (some ⟨lb,lo,none⟩) 1 c) rfl;rotate_left;have h83:=rq (hh.d 58 83);have li:=(FD.out _ hh.rel).2.2;rotate_left
 ·have h84:=rq (hh.d 59 84);have hRG:=(FO.out _ hh.rel).row;have hJ:=Hd hh.st;exact wp_load_mid 76 _ rfl lb lo (by simpa [go_sem] using h84) q.cs _ hRG Tryz.underlying76 rfl (by kernel_rfl) ⟨_,rfl,rB,rfl,hJ.out⟩
 have h3:=hh.o 3 (v:=.slice (some ⟨lb,lo,none⟩) 1 c) rfl;rotate_left;have h86:=rq (hh.d 61 86);have li:=(FD.out _ hh.rel).2.2;rotate_left
 ·have h87:=rq (hh.d 62 87);have hRG:=(FO.out _ hh.rel).row;have hJ:=Hd hh.st;exact wp_load_mid 76 _ rfl lb lo (by simpa [go_sem] using h87) q.cs _ hRG Tryz.underlying76 rfl (by kernel_rfl) ⟨_,rfl,rB,rfl,hJ.out⟩
 ·have h85:=rq (hh.d 60 85);have h88:=rq (hh.d 63 88);have hC:=Hd (FE.out _ hh.rel);have hJ:=hh.j;clear hh;go_simp;refine hC.out.mono ?_;rintro e w9 ⟨rfl,hb9⟩;exact ⟨_,rfl,hb9,rfl,hJ.out⟩
 have h82:=rq (hh.d 57 82);have h89:=rq (hh.d 64 89);rotate_left;have h90:=rq (hh.d 65 90);rotate_left
 ·have hC:=Hd (FT.out w1);have hJ:=hh.j;clear hh;go_simp;refine hC.out.mono ?_;rintro e w9 ⟨rfl,hb9⟩;exact ⟨_,rfl,hb9,rfl,hJ.out⟩
 ·have hJ:=Hd hh.st;exact wp_build _ _ rfl (by simp [go_sem]) (build_pt ⟨98304,32768⟩ w1) ⟨_,rfl,rB,rfl,hJ.out⟩
 have h92:=rq (hh.d 67 92);have h93:=rq (hh.d 68 93);rotate_left;have h91:=rq (hh.d 66 91);have h94:=rq (hh.d 69 94);rotate_left;have h95:=rq (hh.d 70 95);rotate_left
 any_goals (clear hh;go_simp;exact ⟨_,rfl,rB,rfl,trivial⟩)
 intro L w8 val hL hJ hR hv;have h0:val 0=.bool true:=hv 71 0 (by kernel_rfl);have HR8:=Hd hR;clear hv hL hJ hR;simp only [regs.putAll,List.map_cons,List.map_nil,h0];simp only [Act.put,List.setIfInBounds_toArray,List.set_cons_zero,List.set_cons_succ];clear h0
 skip
 go_wp2_with (fail);go_ret;exact ⟨rfl,HB7.out.trans (Below.mono HR8.out HB7.out.size)⟩
end
section
open Go.RowKit Go.ChangeShapes Go.WideShapes Go.ChangeAt Go.Deep
theorem own:ownKnob Tryz.prog.godebug=none:=by kernel_rfl
theorem laidOut:laidOutB Tryz.prog=true:=by kernel_rfl
theorem add_none (b off j:Nat):(⟨b,off,none⟩:Addr).add j=⟨b,off+j,none⟩:=by unfold Addr.add;split<;>simp_all
end
section
open Go.RowKit Go.ChangeShapes Go.WideShapes Go.ChangeAt Go.Deep pxm imm
section
variable {H:Type} {enc:TypeId×Value->H} {w:World} {base:Nat} {held:Bool} {k:Nat}
theorem px_cell {x:Value} {y:DataW H×List MemPlace} (h:DataW.trod enc Tryz.prog w base (fun _=>true) held k 70 [x]=some y):∃ (A:Option Addr) (l:List Nat) (c:Nat),x=.slice A l.length c∧Row eW w A l∧l.length<=c∧c<=maxLen∧∀ z∈l,z<4294967296:=by
 rcases open_ints Tryz.underlying70 Tryz.underlying69 (by kernel_rfl) h with ⟨hcs,_⟩ | ⟨a,l,c,zs,hcs,_,hl,hm,hz,_,hcell,hwz⟩
 ·obtain rfl:=List.singleton_inj.1 hcs;exact ⟨none,[],0,rfl,Row.none_ rfl,nR,by unfold maxLen;omega,fun z hz=>by cases hz⟩
 ·obtain rfl:=List.singleton_inj.1 hcs;have hzl:zs.length=c:=by simpa using hz
  have hb:∀ z∈zs,0<=z∧z<=4294967295:=fun z hz=>bounds_u32 (hwz z hz);have hll:((zs.take l).map Int.toNat).length=l:=by simp;omega
  refine ⟨some a,(zs.take l).map Int.toNat,c,by rw [hll],fun hn=>?_,by rw [hll];exact hl,hm,fun z hz=>?_⟩
  ·rw [hll] at hn;obtain ⟨b,off,spot⟩:=a;have h0:=hcell 0 (by omega);have hspot:spot=none:=by simpa [Addr.add] using World.cell?_spot h0
   subst hspot;refine ⟨b,off,rfl,fun j hj=>?_⟩;rw [hll] at hj;have hc:=hcell j (by omega);rw [add_none] at hc;rw [hc];have hj':j<zs.length:=by omega
   have h3:=hb zs[j] (List.getElem_mem hj');simp only [List.getElem_map,List.getElem_take,List.getD_eq_getElem?_getD,List.getElem?_eq_getElem hj',Option.getD_some,eW,Option.some.injEq,Value.int.injEq,true_and];omega
  ·simp only [List.mem_map] at hz;obtain ⟨y,hy,rfl⟩:=hz;have:=hb y (List.mem_of_mem_take hy);omega
theorem map_cells {cs:List Value} {y:DataW H×List MemPlace} (hc:cs.length=6) (h:DataW.trod enc Tryz.prog w base (fun _=>true) held k 65 cs=some y):∃ m:Mp,cs=m.cs:=by
 obtain ⟨c0,c1,c2,c3,c4,c5,rfl⟩:∃ c0 c1 c2 c3 c4 c5,cs=[c0,c1,c2,c3,c4,c5]:=by
  match cs,hc with
  | [c0,c1,c2,c3,c4,c5],_=>exact ⟨_,_,_,_,_,_,rfl⟩
 obtain ⟨d,p⟩:=y;obtain ⟨ys,n',_,hy,hlen,hyl,hfl⟩:=DataW.trod_struct Tryz.underlying65 h;have hyl2:ys.length=6:=hyl;have z0:Tryz.prog.cellsOf 2=1:=by kernel_rfl
 have g0:DataW.trod enc Tryz.prog w base (fun _=>true) held n' 2 ((([c0,c1,c2,c3,c4,c5]:List Value).drop 0).take (Tryz.prog.cellsOf 2))=ys[0]?:=hfl 0 _ rfl;rw [z0] at g0;try simp only [List.drop_zero,List.take_succ_cons,List.take_zero] at g0
 rw [List.getElem?_eq_getElem (by omega)] at g0;have z1:Tryz.prog.cellsOf 2=1:=by kernel_rfl
 have g1:DataW.trod enc Tryz.prog w base (fun _=>true) held n' 2 ((([c0,c1,c2,c3,c4,c5]:List Value).drop 1).take (Tryz.prog.cellsOf 2))=ys[1]?:=hfl 1 _ rfl;rw [z1] at g1;try simp only [List.drop_succ_cons,List.drop_zero,List.take_succ_cons,List.take_zero] at g1
 rw [List.getElem?_eq_getElem (by omega)] at g1;have z2:Tryz.prog.cellsOf 2=1:=by kernel_rfl
 have g2:DataW.trod enc Tryz.prog w base (fun _=>true) held n' 2 ((([c0,c1,c2,c3,c4,c5]:List Value).drop 2).take (Tryz.prog.cellsOf 2))=ys[2]?:=hfl 2 _ rfl;rw [z2] at g2;try simp only [List.drop_succ_cons,List.drop_zero,List.take_succ_cons,List.take_zero] at g2
 rw [List.getElem?_eq_getElem (by omega)] at g2;have z3:Tryz.prog.cellsOf 2=1:=by kernel_rfl
 have g3:DataW.trod enc Tryz.prog w base (fun _=>true) held n' 2 ((([c0,c1,c2,c3,c4,c5]:List Value).drop 3).take (Tryz.prog.cellsOf 2))=ys[3]?:=hfl 3 _ rfl;rw [z3] at g3;try simp only [List.drop_succ_cons,List.drop_zero,List.take_succ_cons,List.take_zero] at g3
 rw [List.getElem?_eq_getElem (by omega)] at g3;have z4:Tryz.prog.cellsOf 2=1:=by kernel_rfl
 have g4:DataW.trod enc Tryz.prog w base (fun _=>true) held n' 2 ((([c0,c1,c2,c3,c4,c5]:List Value).drop 4).take (Tryz.prog.cellsOf 2))=ys[4]?:=hfl 4 _ rfl;rw [z4] at g4;try simp only [List.drop_succ_cons,List.drop_zero,List.take_succ_cons,List.take_zero] at g4
 rw [List.getElem?_eq_getElem (by omega)] at g4;have z5:Tryz.prog.cellsOf 2=1:=by kernel_rfl
 have g5:DataW.trod enc Tryz.prog w base (fun _=>true) held n' 2 ((([c0,c1,c2,c3,c4,c5]:List Value).drop 5).take (Tryz.prog.cellsOf 2))=ys[5]?:=hfl 5 _ rfl;rw [z5] at g5;try simp only [List.drop_succ_cons,List.drop_zero,List.take_succ_cons,List.take_zero] at g5
 rw [List.getElem?_eq_getElem (by omega)] at g5;obtain ⟨x0,e0,-,w0⟩:=DataW.trod_int Tryz.underlying2 g0;obtain rfl:=List.singleton_inj.1 e0;obtain ⟨x1,e1,-,w1⟩:=DataW.trod_int Tryz.underlying2 g1;obtain rfl:=List.singleton_inj.1 e1;obtain ⟨x2,e2,-,w2⟩:=DataW.trod_int Tryz.underlying2 g2;obtain rfl:=List.singleton_inj.1 e2;obtain ⟨x3,e3,-,w3⟩:=DataW.trod_int Tryz.underlying2 g3;obtain rfl:=List.singleton_inj.1 e3;obtain ⟨x4,e4,-,w4⟩:=DataW.trod_int Tryz.underlying2 g4;obtain rfl:=List.singleton_inj.1 e4;obtain ⟨x5,e5,-,w5⟩:=DataW.trod_int Tryz.underlying2 g5;obtain rfl:=List.singleton_inj.1 e5
 exact ⟨⟨x0,x1,x2,x3,x4,x5⟩,rfl⟩
theorem image_cells {cs:List Value} {y:DataW H×List MemPlace} (hc:cs.length=3) (h:DataW.trod enc Tryz.prog w base (fun _=>true) held k 72 cs=some y):∃ (iw ih:Int) (A:Option Addr) (l:List Nat) (c:Nat),cs=(Vj iw ih A l.length c)∧Row eW w A l∧l.length<=c∧c<=maxLen∧∀ z∈l,z<4294967296:=by
 obtain ⟨c0,c1,c2,rfl⟩:∃ c0 c1 c2,cs=[c0,c1,c2]:=by
  match cs,hc with
  | [c0,c1,c2],_=>exact ⟨_,_,_,rfl⟩
 obtain ⟨d,p⟩:=y;obtain ⟨ys,n',_,hy,hlen,hyl,hfl⟩:=DataW.trod_struct Tryz.underlying72 h;have hyl2:ys.length=3:=hyl;have z0:Tryz.prog.cellsOf 3=1:=by kernel_rfl
 have g0:DataW.trod enc Tryz.prog w base (fun _=>true) held n' 3 ((([c0,c1,c2]:List Value).drop 0).take (Tryz.prog.cellsOf 3))=ys[0]?:=hfl 0 _ rfl;rw [z0] at g0;try simp only [List.drop_zero,List.take_succ_cons,List.take_zero] at g0
 rw [List.getElem?_eq_getElem (by omega)] at g0;have z1:Tryz.prog.cellsOf 3=1:=by kernel_rfl
 have g1:DataW.trod enc Tryz.prog w base (fun _=>true) held n' 3 ((([c0,c1,c2]:List Value).drop 1).take (Tryz.prog.cellsOf 3))=ys[1]?:=hfl 1 _ rfl;rw [z1] at g1;try simp only [List.drop_succ_cons,List.drop_zero,List.take_succ_cons,List.take_zero] at g1
 rw [List.getElem?_eq_getElem (by omega)] at g1;have z2:Tryz.prog.cellsOf 70=1:=by kernel_rfl
 have g2:DataW.trod enc Tryz.prog w base (fun _=>true) held n' 70 ((([c0,c1,c2]:List Value).drop 2).take (Tryz.prog.cellsOf 70))=ys[2]?:=hfl 2 _ rfl;rw [z2] at g2;try simp only [List.drop_succ_cons,List.drop_zero,List.take_succ_cons,List.take_zero] at g2
 rw [List.getElem?_eq_getElem (by omega)] at g2;obtain ⟨x0,e0,-,w0⟩:=DataW.trod_int Tryz.underlying3 g0;obtain rfl:=List.singleton_inj.1 e0;obtain ⟨x1,e1,-,w1⟩:=DataW.trod_int Tryz.underlying3 g1;obtain rfl:=List.singleton_inj.1 e1;obtain ⟨A,l,c,rfl,r1,r2,r3,r4⟩:=px_cell g2;exact ⟨x0,x1,A,l,c,rfl,r1,r2,r3,r4⟩
theorem look_cells {cs:List Value} {y:DataW H×List MemPlace} (hc:cs.length=7) (h:DataW.trod enc Tryz.prog w base (fun _=>true) held k 74 cs=some y):∃ (kk WW HH:Int) (pp:Nat) (iw ih:Int) (A:Option Addr) (l:List Nat) (c:Nat),cs=(Vg kk WW HH pp iw ih A l.length c)∧pp<4294967296∧Row eW w A l∧l.length<=c∧c<=maxLen∧∀ z∈l,z<4294967296:=by
 obtain ⟨c0,c1,c2,c3,c4,c5,c6,rfl⟩:∃ c0 c1 c2 c3 c4 c5 c6,cs=[c0,c1,c2,c3,c4,c5,c6]:=by
  match cs,hc with
  | [c0,c1,c2,c3,c4,c5,c6],_=>exact ⟨_,_,_,_,_,_,_,rfl⟩
 obtain ⟨d,p⟩:=y;obtain ⟨ys,n',_,hy,hlen,hyl,hfl⟩:=DataW.trod_struct Tryz.underlying74 h;have hyl2:ys.length=5:=hyl;have z0:Tryz.prog.cellsOf 3=1:=by kernel_rfl
 have g0:DataW.trod enc Tryz.prog w base (fun _=>true) held n' 3 ((([c0,c1,c2,c3,c4,c5,c6]:List Value).drop 0).take (Tryz.prog.cellsOf 3))=ys[0]?:=hfl 0 _ rfl;rw [z0] at g0;try simp only [List.drop_zero,List.take_succ_cons,List.take_zero] at g0
 rw [List.getElem?_eq_getElem (by omega)] at g0;have z1:Tryz.prog.cellsOf 3=1:=by kernel_rfl
 have g1:DataW.trod enc Tryz.prog w base (fun _=>true) held n' 3 ((([c0,c1,c2,c3,c4,c5,c6]:List Value).drop 1).take (Tryz.prog.cellsOf 3))=ys[1]?:=hfl 1 _ rfl;rw [z1] at g1;try simp only [List.drop_succ_cons,List.drop_zero,List.take_succ_cons,List.take_zero] at g1
 rw [List.getElem?_eq_getElem (by omega)] at g1;have z2:Tryz.prog.cellsOf 3=1:=by kernel_rfl
 have g2:DataW.trod enc Tryz.prog w base (fun _=>true) held n' 3 ((([c0,c1,c2,c3,c4,c5,c6]:List Value).drop 2).take (Tryz.prog.cellsOf 3))=ys[2]?:=hfl 2 _ rfl;rw [z2] at g2;try simp only [List.drop_succ_cons,List.drop_zero,List.take_succ_cons,List.take_zero] at g2
 rw [List.getElem?_eq_getElem (by omega)] at g2;have z3:Tryz.prog.cellsOf 69=1:=by kernel_rfl
 have g3:DataW.trod enc Tryz.prog w base (fun _=>true) held n' 69 ((([c0,c1,c2,c3,c4,c5,c6]:List Value).drop 3).take (Tryz.prog.cellsOf 69))=ys[3]?:=hfl 3 _ rfl;rw [z3] at g3;try simp only [List.drop_succ_cons,List.drop_zero,List.take_succ_cons,List.take_zero] at g3
 rw [List.getElem?_eq_getElem (by omega)] at g3;have z4:Tryz.prog.cellsOf 72=3:=by kernel_rfl
 have g4:DataW.trod enc Tryz.prog w base (fun _=>true) held n' 72 ((([c0,c1,c2,c3,c4,c5,c6]:List Value).drop 4).take (Tryz.prog.cellsOf 72))=ys[4]?:=hfl 4 _ rfl;rw [z4] at g4;try simp only [List.drop_succ_cons,List.drop_zero,List.take_succ_cons,List.take_zero] at g4
 rw [List.getElem?_eq_getElem (by omega)] at g4;obtain ⟨x0,e0,-,w0⟩:=DataW.trod_int Tryz.underlying3 g0;obtain rfl:=List.singleton_inj.1 e0;obtain ⟨x1,e1,-,w1⟩:=DataW.trod_int Tryz.underlying3 g1;obtain rfl:=List.singleton_inj.1 e1;obtain ⟨x2,e2,-,w2⟩:=DataW.trod_int Tryz.underlying3 g2;obtain rfl:=List.singleton_inj.1 e2;obtain ⟨x3,e3,-,w3⟩:=DataW.trod_int Tryz.underlying69 g3;obtain rfl:=List.singleton_inj.1 e3;have b3:=bounds_u32 w3;obtain ⟨iw,ih,A,l,c,ei,r1,r2,r3,r4⟩:=image_cells rfl g4;simp only [List.cons.injEq,and_true] at ei;obtain ⟨rfl,rfl,rfl⟩:=ei
 obtain ⟨pp,rfl⟩:∃ pp:Nat,x3=(pp:Nat):=⟨x3.toNat,by omega⟩
 exact ⟨x0,x1,x2,pp,iw,ih,A,l,c,rfl,by omega,r1,r2,r3,r4⟩
structure TrRaw (w:World) (A:Option Addr) (L:List OpL):Prop where
 row:SRow 1 OpL.cs w A L
 ops:∀ q∈L,OpsR w q.A q.l
end
section
variable {H:Type} {enc:TypeId×Value->H} {w:World} {base:Nat} {held:Bool} {a:Option Addr} {n c:Nat} {d:DataW H} {p:List MemPlace}
end
section
variable {H:Type} {enc:TypeId×Value->H} {w:World} {base b0:Nat} {held:Bool} {r:Reach} {v:Value} {d:DataW H} {p:List MemPlace}
theorem look_of (hv:Value.okWide Tryz.prog w r b0 74 v) (h:DataW.Trod enc Tryz.prog w base (fun _=>true) held 74 v d p) :
  ∃ (q:Lk) (A:Option Addr) (c:Nat),v=.agg (q.cs A c).toArray∧q.p<4294967296∧Row eW w A q.l∧(q.l.length<=c∧c<=maxLen)∧∀ z∈q.l,z<4294967296:=by
 obtain ⟨cs,rfl,hsz⟩:=okWide_struct Tryz.underlying74 hv;obtain ⟨fuel,hf⟩:=h;have hl:cs.toList.length=7:=by rw [Array.length_toList,hsz];kernel_rfl
 obtain ⟨kk,WW,HH,pp,iw,ih,A,l,c,e,h1,h2,h3,h4,h5⟩:=look_cells hl hf;exact ⟨⟨kk,WW,HH,pp,iw,ih,l⟩,A,c,by rw [← Array.toArray_toList (xs:=cs),e];rfl,h1,h2,⟨h3,h4⟩,h5⟩
end
section
variable {H:Type} {ts:List TypeId} {ds:List (DataW H)}
end
end
section
open Go.RowKit Go.ChangeShapes Go.WideShapes Go.ChangeAt Go.Deep pxm imm
section
variable {H:Type} {enc:TypeId×Value->H} {w:World} {base b0:Nat} {held:Bool} {r:Reach} {v:Value} {d:DataW H} {p:List MemPlace}
theorem two_cells {k:Nat} {c0 c1:Value} {y:DataW H×List MemPlace} (h:DataW.trod enc Tryz.prog w base (fun _=>true) held k 110 [c0,c1]=some y) :
  ∃ z0 z1 n,DataW.trod enc Tryz.prog w base (fun _=>true) held n 3 [c0]=some z0∧DataW.trod enc Tryz.prog w base (fun _=>true) held n 3 [c1]=some z1:=by
 have hce:Tryz.prog.cellsOf 3=1:=by kernel_rfl
 cases k with
 | zero=>simp [DataW.trod] at h
 | succ n=>
  unfold DataW.trod at h;rw [Tryz.underlying110] at h;have r2:List.range 2=[0,1]:=rfl;simp [r2,hce] at h;obtain ⟨_,h⟩:=h;cases h0:DataW.trod enc Tryz.prog w base (fun _=>true) held n 3 [c0] with
  | none=>rw [h0] at h;simp at h
  | some z0=>
   cases h1:DataW.trod enc Tryz.prog w base (fun _=>true) held n 3 [c1] with
   | none=>rw [h0,h1] at h;simp at h
   | some z1=>exact ⟨z0,z1,n,h0,h1⟩
theorem arr2_of (hv:Value.okWide Tryz.prog w r b0 110 v) (h:DataW.Trod enc Tryz.prog w base (fun _=>true) held 110 v d p):∃ x:Int×Int,v=.agg #[.int .i64 x.1,.int .i64 x.2]:=by
 obtain ⟨cs,rfl,hsz,_⟩:∃ cs,v=.agg cs∧cs.size=Tryz.prog.cellsOf 110∧Row.okWide Tryz.prog w r b0 110 cs:=by
  simpa [Value.okWide,Tryz.underlying110] using hv
 obtain ⟨fuel,hf⟩:=h;have hl:cs.toList.length=2:=by rw [Array.length_toList,hsz];kernel_rfl
 obtain ⟨l⟩:=cs
 obtain ⟨c0,c1,rfl⟩:∃ c0 c1,l=[c0,c1]:=by
  match l,hl with
  | [c0,c1],_=>exact ⟨_,_,rfl⟩
 obtain ⟨z0,z1,n,h0,h1⟩:=two_cells hf;obtain ⟨x0,e0,-,-⟩:=DataW.trod_int Tryz.underlying3 h0;obtain ⟨x1,e1,-,-⟩:=DataW.trod_int Tryz.underlying3 h1;obtain rfl:=List.singleton_inj.1 e0;obtain rfl:=List.singleton_inj.1 e1;exact ⟨(x0,x1),rfl⟩
theorem map_of (hv:Value.okWide Tryz.prog w r b0 65 v) (h:DataW.Trod enc Tryz.prog w base (fun _=>true) held 65 v d p):∃ x:Mp,v=x.v:=by
 obtain ⟨cs,rfl,hsz⟩:=okWide_struct Tryz.underlying65 hv;obtain ⟨fuel,hf⟩:=h;have hl:cs.toList.length=6:=by rw [Array.length_toList,hsz];kernel_rfl
 obtain ⟨m,hm⟩:=map_cells hl hf;exact ⟨m,by unfold Mp.v;rw [← Array.toArray_toList (xs:=cs),hm];rfl⟩
end
end
end Go.Proofs.YthoildbfghfhpaaGreat
