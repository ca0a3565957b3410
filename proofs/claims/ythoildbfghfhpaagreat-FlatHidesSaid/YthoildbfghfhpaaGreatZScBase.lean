import Derived.Test.YthoildbfghfhpaaGreatZFlP
import Derived.Test.YthoildbfghfhpaaGreatRows
import Derived.ProofKit
import Derived.OpenShut
import Derived.ChangeOld
import Derived.Carry
import Derived.Deep.Fields
set_option maxHeartbeats 16000000
set_option maxRecDepth 100000
open Go.Proofs.Tryz
namespace Go.Proofs.YthoildbfghfhpaaGreat
section
open Go.RowKit pxm imm trm Go.Maps
def hOp (i:Int) (b:Bool):Op9:={ Op9.o with k:=8,i:=i,on:=b }
theorem hOp_ok {i:Int} (hi:I64 i) (b:Bool):OpOk (hOp i b):=by
 refine ⟨hi,?_,⟨?_,?_,?_⟩⟩
 ·show I64 0;exact ⟨by decide,by decide⟩
 ·show (0:Nat)<4294967296
  decide
 ·intro z hz;cases hz
 ·show (0:Nat)<=300
  decide
theorem worldOf_maps {t:T} {nd nd':Int->Nd} (h:∀ j,(nd' j).m=(nd j).m) (i:Int):worldOf t nd' i=worldOf t nd i:=by
 unfold worldOf;simp only [h]
noncomputable def hidS (x:PSc) (i:Int) (b:Bool):PSc:=(applyS 30 setSt x [hOp i b]).1
theorem hid_apply {x:PSc} (hx:Sane x) {i:Int} (h:has x.t i=true) (b:Bool):applyS 30 setSt x [hOp i b]=(hidS x i b,1,0)∧(hidS x i b).t=x.t∧(hidS x i b).nd=upd x.nd i { x.nd i with hi:=b }∧∀ j,has x.t j=true->(hidS x i b).ws j=x.ws j:=by
 have hd:doS 30 x (hOp i b)=(⟨x.t,upd x.nd i { x.nd i with hi:=b },x.ws⟩,0):=by
  unfold doS;rw [if_neg (by show ¬ (8:Int)=1;decide),if_neg (by show ¬ (8:Int)=2;decide),if_neg (by show ¬ (8:Int)=3;decide),if_pos (by show (4:Int)<=8∧(8:Int)<=8;decide)];unfold setS;rw [if_neg (by show ¬ has x.t i=false;rw [h];decide),if_neg (by show ¬ ((setN Nd.plain (hOp i b)).chk≠0);cases b<;>exact not_not_intro rfl)];rfl
 have ha:allS 30 x [hOp i b]=(⟨x.t,upd x.nd i { x.nd i with hi:=b },x.ws⟩,1,0):=by
  rw [allS_cons,hd,if_neg (by simp)];rfl
 have hm:∀ j,(upd x.nd i { x.nd i with hi:=b } j).m=(x.nd j).m:=fun j=>by
  unfold upd;by_cases e:j=i
  ·rw [if_pos e,e]
  ·rw [if_neg e]
 have hs:∀ j,has x.t j=true->worldOf x.t (upd x.nd i { x.nd i with hi:=b }) j=some (x.ws j):=fun j hj=>by
  rw [worldOf_maps hm];exact hx.set j hj (fun _ _ h=>h) (fun h=>h)
 have hst:setSt ⟨x.t,upd x.nd i { x.nd i with hi:=b },x.ws⟩=(⟨x.t,upd x.nd i { x.nd i with hi:=b },fun j=>(worldOf x.t (upd x.nd i { x.nd i with hi:=b }) j).getD (x.ws j)⟩,0):=by
  unfold setSt;rw [if_pos fun j hj=>by rw [hs j hj];simp]
 have hap:applyS 30 setSt x [hOp i b]=(⟨x.t,upd x.nd i { x.nd i with hi:=b },fun j=>(worldOf x.t (upd x.nd i { x.nd i with hi:=b }) j).getD (x.ws j)⟩,1,0):=by
  unfold applyS;rw [if_neg (by simp),ha,if_neg (by simp),hst,if_neg (by simp)];rfl
 unfold hidS;rw [hap];exact ⟨rfl,rfl,rfl,fun j hj=>by show (worldOf _ _ j).getD _=_;rw [hs j hj];rfl⟩
theorem fm_congr {α β:Type} {f g:α->Option β}:∀ {l:List α},(∀ x∈l,f x=g x)->l.filterMap f=l.filterMap g
 | [],_=>rfl
 | a::l,h=>by
  rw [List.filterMap_cons,List.filterMap_cons,h a List.mem_cons_self,fm_congr fun x hx=>h x (List.mem_cons_of_mem _ hx)]
theorem down_cong {x y:PSc} (ok:Ok x.t) (ht:y.t=x.t) (h:∀ j,has x.t j=true->y.nd j=x.nd j∧y.ws j=x.ws j) {i:Int} (hi:i=0∨i∈ids x.t):downOf y i=downOf x i:=by
 refine ok.climb (P:=fun i=>downOf y i=downOf x i) ?_ (fun i hi ih=>?_) hi
 ·rw [downOf_0,downOf_0,(h 0 (has_iff.2 (.inl rfl))).1,(h 0 (has_iff.2 (.inl rfl))).2]
 ·rw [downOf_step (x:=y) (by rw [ht];exact ok) (by rw [ht];exact hi),downOf_step ok hi,ht,ih,(h i (has_iff.2 (.inr hi))).1,(h i (has_iff.2 (.inr hi))).2]
theorem items_cong {x y:PSc} (ok:Ok x.t) (ht:y.t=x.t) (h:∀ j,has x.t j=true->y.nd j=x.nd j∧y.ws j=x.ws j):items y=items x:=by
 unfold items;rw [ht];refine fm_congr fun j hj=>?_;have hj:=(walk_all ok).1 hj;unfold itemOf;rw [down_cong ok ht h (has_iff.1 hj),(h j hj).1,(h j hj).2]
theorem items_again {x:PSc} (hx:Sane x) {i:Int} (hi:I64 i) (h:has x.t i=true) (hn:(x.nd i).hi=false):items (hidS (hidS x i true) i false)=items x:=by
 obtain ⟨-,a1,a2,a3⟩:=hid_apply hx h true;have hx1:Sane (hidS x i true):=hx.apply fun o ho=>by rw [List.mem_singleton.1 ho];exact hOp_ok hi true
 obtain ⟨-,b1,b2,b3⟩:=hid_apply hx1 (i:=i) (by rw [a1];exact h) false
 refine items_cong hx.ok (b1.trans a1) fun j hj=>⟨?_,?_⟩
 ·rw [b2,a2,upd_upd];unfold upd;by_cases e:j=i
  ·rw [if_pos e,if_pos rfl,e,← hn]
  ·rw [if_neg e]
 ·rw [b3 j (by rw [a1];exact hj),a3 j hj]
theorem step_hi {n:Nd} (h:n.hi=true) (w:Mp) (d:Option Dn):Dn.step n w d=none:=by
 unfold Dn.step;cases d with
 | none=>rfl
 | some d=>
  rw [Option.bind_some,if_neg];unfold Dn.ok;rw [h];simp
theorem step_no (n:Nd) (w:Mp):Dn.step n w none=none:=rfl
theorem down_hide {x:PSc} (hx:Sane x) {i:Int} (h:has x.t i=true) {j:Int} (hj:j=0∨j∈ids x.t):downOf (hidS x i true) j=if j=i∨within x.t j i=true then none else downOf x j:=by
 obtain ⟨-,a1,a2,a3⟩:=hid_apply hx h true;have hn:∀ k,k≠i->(hidS x i true).nd k=x.nd k:=fun k hk=>by rw [a2];unfold upd;rw [if_neg hk]
 have hi1:((hidS x i true).nd i).hi=true:=by rw [a2];unfold upd;rw [if_pos rfl]
 refine hx.ok.climb (P:=fun j=>downOf (hidS x i true) j=if j=i∨within x.t j i=true then none else downOf x j) ?_ (fun j hj ih=>?_) hj
 ·rw [downOf_0];by_cases e:(0:Int)=i
  ·subst e;rw [step_hi hi1,if_pos (.inl rfl)]
  ·rw [hn 0 e,a3 0 (has_iff.2 (.inl rfl)),← downOf_0,if_neg];rintro (e2 | e2)
   ·exact e e2
   ·rw [within_step hx.ok,if_neg (fun k=>k.2.2 rfl)] at e2;cases e2
 ·rw [downOf_step (x:=hidS x i true) (by rw [a1];exact hx.ok) (by rw [a1];exact hj),a1];by_cases e:j=i
  ·subst e;rw [step_hi hi1,if_pos (.inl rfl)]
  ·have e4:=within_step hx.ok j i;rw [if_pos ⟨has_iff.2 (.inr hj),h,hx.ok.ne0 hj⟩] at e4;rw [ih,hn j e,a3 j (has_iff.2 (.inr hj)),e4,downOf_step hx.ok hj];by_cases e2:par x.t j=i∨within x.t (par x.t j) i=true
   ·rw [if_pos e2,step_no,if_pos (.inr (by rcases e2 with e2 | e2<;>simp [e2]))]
   ·rw [if_neg e2,if_neg];rintro (e3 | e3)
    ·exact e e3
    ·simp only [Bool.or_eq_true,decide_eq_true_eq] at e3;exact e2 e3
theorem itemOf_i {x:PSc} {j:Int} {q:It} (h:itemOf x j=some q):q.i=j:=by
 unfold itemOf at h;cases hd:downOf x j with
 | none=>rw [hd] at h;cases h
 | some d=>
  rw [hd,Option.bind_some] at h;split at h
  ·cases h
  ·injection h with h
   rw [← h]
def kept (t:T) (i:Int) (q:It):Bool:=!(decide (q.i=i)||within t q.i i)
theorem items_hide {x:PSc} (hx:Sane x) {i:Int} (h:has x.t i=true):items (hidS x i true)=(items x).filter (kept x.t i):=by
 obtain ⟨-,a1,a2,a3⟩:=hid_apply hx h true;unfold items;rw [List.filter_filterMap,a1];refine fm_congr fun j hj=>?_;have hj:=(walk_all hx.ok).1 hj;have hd:=down_hide hx h (has_iff.1 hj);by_cases e:j=i∨within x.t j i=true
 ·rw [if_pos e] at hd;have e1:itemOf (hidS x i true) j=none:=by unfold itemOf;rw [hd];rfl
  rw [e1];cases hq:itemOf x j with
  | none=>rfl
  | some q=>
   have hi:=itemOf_i hq
   have e2:kept x.t i q=false:=by
    unfold kept;rw [hi];rcases e with e | e<;>simp [e]
   rw [Option.filter_some,if_neg (by rw [e2];decide)]
 ·rw [if_neg e] at hd;have hji:j≠i:=fun k=>e (.inl k)
  have e1:itemOf (hidS x i true) j=itemOf x j:=by
   unfold itemOf;rw [hd,a3 j hj,a2];unfold upd;rw [if_neg hji]
  rw [e1];cases hq:itemOf x j with
  | none=>rfl
  | some q=>
   have hi:=itemOf_i hq
   have e2:kept x.t i q=true:=by
    unfold kept;rw [hi]
    have e3:within x.t j i=false:=by
     cases hw:within x.t j i with
     | false=>rfl
     | true=>exact absurd (.inr hw) e
    simp [e3,hji]
   rw [Option.filter_some,if_pos e2]
theorem items_has {x:PSc} (hx:Sane x) {q:It} (h:q∈items x):has x.t q.i=true:=by
 unfold items at h;obtain ⟨j,h1,h2⟩:=List.mem_filterMap.1 h;rw [itemOf_i h2];exact (walk_all hx.ok).1 h1
theorem filter_at {α:Type} (p:α->Bool) {l:List α} {j:Nat} (hj:j<l.length) (h:p l[j]=true):(l.filter p)[((l.take j).filter p).length]?=some l[j]:=by
 have e:l.filter p=(l.take j).filter p++l[j]::(l.drop (j+1)).filter p:=by
  have e1:l=l.take j++l[j]::l.drop (j+1):=by rw [← List.drop_eq_getElem_cons hj,List.take_append_drop]
  conv=>lhs;rw [e1]
  rw [List.filter_append,List.filter_cons,if_pos h]
 rw [e,List.getElem?_append_right nR,Nat.sub_self];rfl
theorem filter_snoc {α:Type} (p:α->Bool) {l:List α} {j:Nat} (hj:j<l.length):((l.take (j+1)).filter p).length=((l.take j).filter p).length+if p l[j]=true then 1 else 0:=by
 rw [List.take_succ_eq_append_getElem hj,List.filter_append,List.length_append]
 congr 1
 by_cases h:p l[j]=true
 ·rw [List.filter_cons,if_pos h,if_pos h];rfl
 ·rw [List.filter_cons,if_neg h,if_neg h];rfl
end
section
open Go.RowKit pxm imm trm Go.Maps
structure Lst (w:World) (P:Nat->Prop) (A:Option Addr) (l:List ItR):Prop where
 row:SRow 22 ItR.cs w A l
 at_:∀ q∈l,ItAt w q∧q.it.Ok∧(∀ a,q.Ac=some a->q.it.c≠[]->P a.block)∧∀ a,q.A=some a->q.it.lk.l≠[]->P a.block
 far:∀ a,A=some a->l≠[]->P a.block
section
variable {w w':World} {P:Nat->Prop} {A:Option Addr} {l:List ItR}
theorem Lst.of (h1:SRow 22 ItR.cs w' A l) (h2:∀ q∈l,ItAt w' q∧q.it.Ok∧(∀ a,q.Ac=some a->q.it.c≠[]->w.heap.size<=a.block)∧∀ a,q.A=some a->q.it.lk.l≠[]->w.heap.size<=a.block) (h3:∀ a,A=some a->l≠[]->w.heap.size<=a.block):Lst w' (fun k=>w.heap.size<=k∧k<w'.heap.size) A l:=
 ⟨h1,fun q hq=>by
  obtain ⟨k1,k2,k3,k4⟩:=h2 q hq
  exact ⟨k1,k2,fun a ea hne=>⟨k3 a ea hne,SRow.blt k1.clips cl_first ea hne⟩,fun a ea hne=>⟨k4 a ea hne,Row.lt k1.px ea hne⟩⟩,fun a ea hne=>⟨h3 a ea hne,SRow.blt h1 (fun _=>⟨_,_,rfl⟩) ea hne⟩⟩
theorem Lst.stays (h:Lst w P A l) (hb:∀ k,P k->k<w.heap.size->w'.heap[k]?=w.heap[k]?):Lst w' P A l:=
 ⟨h.row.stay2 fun a ea hne=>hb _ (h.far a ea hne) (SRow.blt h.row (fun _=>⟨_,_,rfl⟩) ea hne),fun q hq=>by
  obtain ⟨h1,h2,h3,h4⟩:=h.at_ q hq
  exact ⟨h1.stays (fun a ea hne=>hb _ (h3 a ea hne) (SRow.blt h1.clips cl_first ea hne)) fun a ea hne=>hb _ (h4 a ea hne) (Row.lt h1.px ea hne),h2,h3,h4⟩,h.far⟩
theorem Lst.below (h:Lst w P A l) (hb:Below w.heap.size w w'):Lst w' P A l:=h.stays fun k _ hk=>hb.block k hk
theorem Lst.at' (h:Lst w P A l) {j:Nat} (hj:j<l.length):∃ b o,A=some ⟨b,o,none⟩∧w.rangeAt b (o+j*22) l[j].cs:=by
 obtain ⟨b,o,e,hc⟩:=h.row (by omega);exact ⟨b,o,e,fun i v hv=>hc j hj i v hv⟩
end
theorem flequal_eq (q q2:ItR) (he:q2.it=q.it) (hok:q.it.Ok) (w:World) (h1:ItAt w q) (h2:ItAt w q2):Calls prog 32 #[.agg q.cs.toArray,.agg q2.cs.toArray] w fun e w'=>e=.returned (.bool true)∧Below w.heap.size w w':=by
 obtain ⟨I,Ac,cc,A,c⟩:=q;obtain ⟨I2,Ac2,cc2,A2,c2⟩:=q2;obtain rfl:I2=I:=he;exact flequal_two I2 Ac cc A c Ac2 cc2 A2 c2 hok.few hok.l w h1 h2
theorem inv_within (v y z:Value) (w:World):(invoke (.fn (.method "Within") #[]) #[.iface 102 v,y,z]).run prog w=.ok (.enter 216 #[v,y,z]) w:=by kernel_rfl
theorem build_h1 (i:Int) (w:World):(Instr.build 99 #[(0,.int .i64 8),(1,.int .i64 i),(6,.bool true)]).run prog w=.ok (.agg (OpR.cs ⟨hOp i true,none,0⟩).toArray) w:=by kernel_rfl
theorem build_h2 (i:Int) (w:World):(Instr.build 99 #[(0,.int .i64 8),(1,.int .i64 i)]).run prog w=.ok (.agg (OpR.cs ⟨hOp i false,none,0⟩).toArray) w:=by kernel_rfl
theorem bs_h (a:OpR) (w:World):(Instr.buildSlice tOps 1 #[(0,.agg a.cs.toArray)]).run prog w=.ok (.slice (some ⟨w.heap.size,0,none⟩) 1 1) (w.alloc (.cells a.cs.toArray 99)):=by kernel_rfl
theorem hide_done {w w0:World} {g b m:Nat} {s:Sh} {E:Bset} {x:PSc} (hm:MyS w0 g b m s ⟨8,⟨8,30⟩,E⟩ x w) (hx:Sane x) (hn:x.t.length<=120) {i:Int} (hi:I64 i) (h:has x.t i=true) (t:Bool) (W:World) (hW:W=w.alloc (.cells (OpR.cs ⟨hOp i t,none,0⟩).toArray 99)) :
  Below w.heap.size w W∧Calls prog 31 #[.pointer (some ⟨g,0,none⟩),.slice (some ⟨w.heap.size,0,none⟩) 1 1] W fun e w'=>∃ s',e=.returned (.tuple #[.int .i64 1,.int .i64 0])∧MyS w0 g b m s' ⟨8,⟨8,30⟩,E⟩ (hidS x i t) w'∧Below w0.heap.size W w'∧∀ k,k<W.heap.size->¬ SFoot b m s x.t k->¬ SFoot b m s' (hidS x i t).t k∧w'.heap[k]?=W.heap[k]?:=by
 subst hW;have HB:Below w.heap.size w (w.alloc (.cells (OpR.cs ⟨hOp i t,none,0⟩).toArray 99)):=bR.alloc nR _;refine ⟨HB,?_⟩;have hm2:=hm.below HB;have ho:=opsAt_new (w:=w) (S:=SFoot b m s x.t) hm.at_.inside [⟨hOp i t,none,0⟩] (by intro q hq;rw [List.mem_singleton.1 hq];rfl);rw [show ([⟨hOp i t,none,0⟩]:List OpR).flatMap OpR.cs=OpR.cs ⟨hOp i t,none,0⟩ from by simp] at ho;have ha:=applied hm2.at_ hx [⟨hOp i t,none,0⟩] (some ⟨w.heap.size,0,none⟩) 1 ho (fun q hq=>by rw [List.mem_singleton.1 hq];exact hOp_ok hi t) (fun _=>⟨by simp,.inl (by simp;omega)⟩) (by simp)
 rw [show applyS (⟨8,⟨8,30⟩,E⟩:ZZ).2.2 setSt x (([⟨hOp i t,none,0⟩]:List OpR).map (·.o))=applyS 30 setSt x [hOp i t] from rfl,(hid_apply hx h t).1] at ha;refine ha.mono ?_;unfold ApplyQ;rintro e w' ⟨s',rfl,hs,ht⟩;exact ⟨s',rfl,hm2.turn hs ht,ht.to_below hm2.bel.size hm2.ft,ht.far⟩
end
section
open Go.RowKit pxm imm trm Go.Maps
theorem hides_in (A:Option Addr) (TL:List OpL) (c:Nat) (id:Int) (w:World) (h1:TrAt w A TL) (_:TL.length*24<=140737488351232) (hi1:-9223372036854775808<=id) (hi2:id<=9223372036854775807) :
  Calls prog 6 #[.slice A TL.length c,.int .i64 id] w fun e w'=>e=.returned (.bool true)∧Below w.heap.size w w':=by
 have HT:=Hd h1;have HSZ:=Hd (size_law TL A c w h1)
 have HI64:Hid (I64 id):=⟨hi1,hi2⟩
 clear h1;go_enter func6,ntmps6;go_wp2_with (fail);refine HSZ.o.mono ?_;unfold SizeQ;rintro e wa ⟨n,rfl,hn,hn64,hb1⟩;have HBa:=Hd hb1;have HNF:=Hd hn;clear hb1 hn HSZ;by_cases hbad:n<0
 ·have t1:decide (n<0)=true:=decide_eq_true (by omega);clear hbad hn64 HNF;go_wp2_with (fail);refine (fawake_any _).mono ?_;rintro e wz ⟨rfl,hbz⟩;have HBz:Hid (Below w.heap.size w wz):=(HBa.o).trans (hbz.mono (HBa.o).size);clear hbz;go_wp2_with (fail);go_ret;exact ⟨rfl,HBz.o⟩
 have t1:decide (n<0)=false:=decide_eq_false (by omega);have HF:Hid (fits TL):=HNF.o.1 (by omega);clear hbad hn64 HNF;go_wp2_with (fail);refine (played_any A TL c wa (HT.o.below HBa.o) HF.o).mono ?_;unfold PlayedQ;rintro e wb ⟨g,b,m,s,v,x,rfl,hm,hd,hx,hxl⟩;obtain ⟨Ad,cd,dm,rfl,-,-⟩:=hd.ex;have HMb:=Hd hm;have HX:=Hd hx;have HXL:=Hd hxl;clear hm hd hx hxl HT HF t1;have HZb:Hid (Blk (wb.alloc (.cells Vf.toArray 34)) wb.heap.size Vf):=blk_new wb Vf _;have HBb:Hid (Below wb.heap.size wb (wb.alloc (.cells Vf.toArray 34))):=bR.alloc nR _
 go_upto_region 4 with (first | (with_reducible refine gS ?_;first | (refine wpl_stow 34 _ _ rfl rfl rfl _ 0 rfl ((Vb 8 8 30 Ad x.t.length cd dm)) rfl (Vf) HZb.o ((Vb 8 8 30 Ad x.t.length cd dm)) rfl (nE rfl) (by kernel_rfl) rfl ?_;intro wc HWc HKc)))
 have HMc:=Hd (HMb.o.below (HWc.o.below HBb.o nR));have HBWc:=Hd (HBa.o.trans (HMc.o.bel.mono HBa.o.size));clear HZb HBb HWc HKc HMb;by_cases hh:¬ has x.t id=true
 ·have HNC:=Hd (node_any HMc.o.at_ HX.o.fit id HI64.o);rw [show has x.t id=false from by simpa using hh] at HNC;clear hh;go_wp2_with (fail);refine HNC.o.mono ?_;rintro e wd ⟨An,cn,rfl,hb4,-,-⟩;have HBWd:=Hd (HBWc.o.trans (hb4.mono HBWc.o.size));have HZd:Hid (Blk (wd.alloc (.cells Va.toArray 93)) wd.heap.size Va):=blk_new wd Va _;have HBd:Hid (Below wd.heap.size wd (wd.alloc (.cells Va.toArray 93))):=bR.alloc nR _;clear hb4 HNC HMc HBWc
  go_upto_region 7 with (first | (with_reducible refine gS ?_;first | (refine wpl_stow 93 _ _ rfl rfl rfl _ 0 rfl ((ndAt x id).cs An cn) rfl (Va) HZd.o ((ndAt x id).cs An cn) rfl (nE rfl) (by kernel_rfl) (Nd.one _ _ _) ?_;intro we HWe HKe)))
  have HBWe:=Hd (HBWd.o.trans ((HWe.o.below HBd.o nR).mono HBWd.o.size));clear HZd HBd HWe HKe;go_wp2_with (fail);refine (fawake_any _).mono ?_;rintro e wz ⟨rfl,hbz⟩;have HBz:Hid (Below w.heap.size w wz):=(HBWe.o).trans (hbz.mono (HBWe.o).size);clear hbz;go_wp2_with (fail);go_ret;exact ⟨rfl,HBz.o⟩
 replace hh:=Decidable.not_not.1 hh;have HNC:=Hd (node_any HMc.o.at_ HX.o.fit id HI64.o);rw [hh] at HNC;have HHS:=Hd hh;have HND:Hid ((ndAt x id).hi=(x.nd id).hi):=by show _=_;unfold ndAt;rw [if_pos hh]
 clear hh;go_wp2_with (fail);refine HNC.o.mono ?_;rintro e wd ⟨An,cn,rfl,hb4,-,-⟩;have HMd:=Hd (HMc.o.below hb4);have HBWd:=Hd (HBWc.o.trans (hb4.mono HBWc.o.size));have HZd:Hid (Blk (wd.alloc (.cells Va.toArray 93)) wd.heap.size Va):=blk_new wd Va _;have HBd:Hid (Below wd.heap.size wd (wd.alloc (.cells Va.toArray 93))):=bR.alloc nR _;clear hb4 HNC HMc HBWc
 go_upto_region 7 with (first | (with_reducible refine gS ?_;first | (refine wpl_stow 93 _ _ rfl rfl rfl _ 0 rfl ((ndAt x id).cs An cn) rfl (Va) HZd.o ((ndAt x id).cs An cn) rfl (nE rfl) (by kernel_rfl) (Nd.one _ _ _) ?_;intro we HWe HKe)))
 have HBde:Hid (Below wd.heap.size wd we):=HWe.o.below HBd.o nR;have HMe:=Hd (HMd.o.below HBde.o);have HBWe:=Hd (HBWd.o.trans (HBde.o.mono HBWd.o.size));have c7:we.cell? ⟨wd.heap.size,7,none⟩=some (.bool (x.nd id).hi):=by rw [← HND.o];exact HKe.o.cell 7
 have i7:=HKe.o.inside;clear HZd HBd HWe HKe HMd HBWd HBde;by_cases hv:(x.nd id).hi=true
 ·rw [hv] at c7;clear hv;go_wp2_with (fail);refine (fawake_any _).mono ?_;rintro e wz ⟨rfl,hbz⟩;have HBz:Hid (Below w.heap.size w wz):=(HBWe.o).trans (hbz.mono (HBWe.o).size);clear hbz;go_wp2_with (fail);go_ret;exact ⟨rfl,HBz.o⟩
 have hv:=(show (x.nd id).hi=false from by simpa using hv)
 have HHI:=Hd hv;rw [hv] at c7;clear hv
 have HI0:Hid (I64 (0:Int)):=⟨by decide,by decide⟩
 have HXT:Hid (x.t.length<=900):=by have:=HXL.o;show _<=_;omega
 go_wp2_with (fail);clear c7 i7;refine (list_any HMe.o.at_ HX.o HXT.o).mono ?_;unfold ListQ;rintro e wf ⟨A1,c1,l1,rfl,hrow,hqs,hmap,hA1,hb7⟩;have HL1:Hid (Lst wf (fun k=>we.heap.size<=k∧k<wf.heap.size) A1 l1):=Lst.of hrow hqs hA1;have HM1:=Hd hmap;have HMf:=Hd (HMe.o.below hb7);have HIN:Hid (∀ k,SFoot b m s x.t k->k<we.heap.size):=HMe.o.at_.inside;have HBWf:=Hd (HBWe.o.trans (hb7.mono HBWe.o.size));clear hrow hqs hmap hA1 hb7 HMe HBWe;have HDO:=Hd (hide_done HMf.o HX.o HXL.o HI64.o HHS.o true _ rfl)
 go_wp2_with (first | ((with_reducible show wpList _ _ _ (Oper.mk (some 49) (Op.build _ _) _ _ _ _::_) _ _);refine wpl_build _ _ rfl rfl (by simp [go_sem]) (build_h1 id _) ?_) | ((with_reducible refine gB ?_);refine wpl_bs _ _ _ rfl rfl (by simp [go_sem]) (bs_h ⟨hOp id true,none,0⟩ _) ?_));generalize (wf.alloc (.cells (OpR.cs ⟨hOp id true,none,0⟩).toArray 99))=wg at *;refine HDO.o.2.mono ?_;rintro e wh ⟨s1,rfl,hm1,hb8,hk8⟩;have HMh:=Hd hm1;have HBfg:Hid (Below wf.heap.size wf wg):=HDO.o.1
 have HL1h:Hid (Lst wh (fun k=>we.heap.size<=k∧k<wf.heap.size) A1 l1):=(HL1.o.below HBfg.o).stays fun k h1 h2=>(hk8 k h2 fun h3=>by have:=HIN.o k h3;have:=h1.1;omega).2;have HNS:Hid (∀ k,we.heap.size<=k∧k<wf.heap.size->¬ SFoot b m s1 (hidS x id true).t k):=fun k hk=>(hk8 k (Nat.lt_of_lt_of_le hk.2 HBfg.o.size) fun h3=>by have:=HIN.o k h3;have:=hk.1;omega).1;have HBWh:Hid (Below w.heap.size w wh):=(HBWf.o.trans (HBfg.o.mono HBWf.o.size)).trans (hb8.mono HBa.o.size);clear hm1 hb8 hk8 HBfg HDO HL1 HMf HIN HBWf;obtain ⟨-,a1,a2,a3⟩:=hid_apply HX.o HHS.o true
 have HYT:Hid ((hidS x id true).t=x.t):=a1;have HY:Hid (Sane (hidS x id true)):=HX.o.apply fun o ho=>by rw [List.mem_singleton.1 ho];exact hOp_ok HI64.o true
 have HYI:Hid (items (hidS x id true)=(items x).filter (kept x.t id)):=items_hide HX.o HHS.o;have HYA:Hid (items (hidS (hidS x id true) id false)=items x):=items_again HX.o HI64.o HHS.o HHI.o;have HYH:Hid (has (hidS x id true).t id=true):=by show _=_;rw [a1];exact HHS.o
 clear a1 a2 a3 HHI
 obtain ⟨y,hy⟩:∃ y,hidS x id true=y:=⟨_,rfl⟩
 rw [hy] at HMh HYT HY HYI HYA HYH HNS;clear hy;have t2:((0:Int) != 0)=false:=by decide
 go_wp2_with (fail);refine (list_any HMh.o.at_ HY.o (by rw [HYT.o];exact HXT.o)).mono ?_;unfold ListQ;rintro e wi ⟨A2,c2,l2,rfl,hrow,hqs,hmap,hA2,hb9⟩;have HL2:Hid (Lst wi (fun k=>wh.heap.size<=k∧k<wi.heap.size) A2 l2):=Lst.of hrow hqs hA2;have HM2:Hid (l2.map (·.it)=(l1.map (·.it)).filter (kept x.t id)):=by show _=_;rw [hmap,HYI.o,HM1.o]
 have HMi:=Hd (HMh.o.below hb9);have HL1i:=Hd (HL1h.o.below hb9);have HBWi:=Hd (HBWh.o.trans (hb9.mono HBWh.o.size))
 have HLN:Hid (l1.length<=1000):=by
  have h1:=congrArg List.length HM1.o;rw [List.length_map] at h1;have h2:(items x).length<=(trm.walk x.t 0).length:=List.length_filterMap_le _ _;have h3:=walk_len HX.o.ok;have h4:=HXL.o;show _<=_;omega
 clear hrow hqs hmap hA2 hb9 HMh HL1h HBWh t2 HYI;have hl1:=HLN.o
 go_upto_region 16 with (fail)
 go_loopw [13,60] (fun k i wr=>∃ (j:Nat) (K:Nat),j<=l1.length∧i=.int .i64 j∧k=.int .i64 K∧Hid (K=(((l1.map (·.it)).take j).filter (kept x.t id)).length)∧Hid (Below wi.heap.size wi wr)) (fun _ i _=>l1.length - (intOf i).toNat)
 case atStart=>exact ⟨0,0,Nat.zero_le _,rfl,rfl,by show _=_;simp,bR⟩
 case round=>
  obtain ⟨j,K,hj,rfl,rfl,HK,HBR⟩:=hrel;generalize wr=wj at *
  have HKB:Hid (K<=1000):=by
   have h1:=List.length_filter_le (kept x.t id) ((l1.map (·.it)).take j);rw [← HK.o,List.length_take,List.length_map] at h1;show _<=_;omega
  by_cases hlt:j<l1.length
  ·have t4:decide (j<l1.length)=true:=by simpa using hlt
   have HLT:=Hd hlt;obtain ⟨b1,o1,eA1,hrg⟩:=(HL1i.o.below HBR.o).at' hlt
   obtain ⟨q,hq⟩:∃ q,q=l1[j]'hlt:=⟨_,rfl⟩
   rw [← hq] at hrg;have HRG:=Hd hrg;have HQM:Hid (q∈l1):=by rw [hq];exact List.getElem_mem hlt
   have HJM:Hid (j<(l1.map (·.it)).length):=by show _<_;rw [List.length_map];exact hlt
   have HQI:Hid ((l1.map (·.it))[j]'HJM.o=q.it):=by show _=_;rw [List.getElem_map,hq]
   have i0:=World.block_lt_of_cell? wj ⟨b1,_,none⟩ (hrg 0 (.int .i64 q.it.i) rfl);have HZj:Hid (Blk (wj.alloc (.cells Vl.toArray 76)) wj.heap.size Vl):=blk_new wj Vl _;have HBj:Hid (Below wj.heap.size wj (wj.alloc (.cells Vl.toArray 76))):=bR.alloc nR _;have HKJ:=HKB.o;subst eA1;clear hrg hq hlt hj
   go_upto_region 18 with (first | ((with_reducible refine gL ?_);refine wpl_row 76 _ rfl rfl _ _ rfl (q.cs) HRG.o _ underlying76 rfl (by kernel_rfl) ?_) | first | (with_reducible refine gS ?_;first | (refine wpl_stow 76 _ _ rfl rfl rfl _ 0 rfl (q.cs) rfl (Vl) HZj.o (q.cs) rfl (nE rfl) (by kernel_rfl) q.one ?_;intro wk HWk HKk)))
   have HBjk:Hid (Below wj.heap.size wj wk):=HWk.o.below HBj.o nR;have HBK:Hid (Below wi.heap.size wi wk):=HBR.o.trans (HBjk.o.mono HBR.o.size);have HMk:=Hd (HMi.o.below HBK.o);have FQ:Hid (∀ W,Below wk.heap.size wk W->Blk W wj.heap.size q.cs):=fun W hb=>HKk.o.below' hb;have FS:Hid (∀ W,Below wk.heap.size wk W->SceneAt W g b m s1 ⟨8,⟨8,30⟩,fun _=>False⟩ y):=fun W hb=>HMk.o.at_.below hb;have HIQ:Hid (I64 q.it.i):=has_64 HX.o.ok (items_has HX.o (by rw [← HM1.o];exact List.mem_map_of_mem HQM.o))
   have FW0:Hid (∀ W,Below wk.heap.size wk W->Calls prog 216 #[.pointer (some ⟨b,0,none⟩),.int .i64 q.it.i,.int .i64 id] W fun e w'=>e=.returned (.bool (within x.t q.it.i id))∧Below W.heap.size W w'):=fun W hb=>by
    have h1:=twithin (FS.o W hb).tree q.it.i id HIQ.o HI64.o;rw [HYT.o] at h1;exact h1
   generalize wj.heap.size=qb at *;clear i0 HZj HBj HWk HKk HBjk HMk;by_cases he:q.it.i=id
   ·have HQE:Hid ((q.it.i==id)=true∧decide (q.it.i=id)=true):=⟨by simpa using he,by simpa using he⟩
    have HKE:Hid (kept x.t id q.it=false):=by show _=_;unfold kept;simp [he]
    clear he FW0
    refine wRn [64,65,66,67,68,69,70,71,72,73,74,75,76,77] (fun i=>match i with
     |0=>rp qb 0
     |1=>rV (.int .i64 q.it.i)
     |2=>rV (.int .i64 id)
     |3|4|13=>rT
     |5|6|7|8|9|10|11|12=>rV (undef)
     | _=>ra) ⟨?_,?_,?_,?_,?_,?_,?_,?_,?_,?_,?_,?_,?_,?_,trivial⟩ ?_
    any_goals (first|refine zp fun L a w1 hh=>?_|fail)
    have h15:=hh.p 15 qb 0;have i0:=(FQ.o _ hh.rel).inside;rotate_left;have h64:=rq (hh.d 0 64);have ⟨c0,i0⟩:=(FQ.o _ hh.rel).ci 0 rfl;rotate_left;have h1:=hh.o 1 (v:=.int .i64 id) rfl;rotate_left
    ·have h65:=rq (hh.d 1 65);have h66:=rq (hh.d 2 66);obtain ⟨hqe1,hqe2⟩:=HQE.o;clear hh;go_simp;exact ⟨_,rfl,rB,rfl,trivial⟩
    have h67:=rq (hh.d 3 67);rotate_left
    ·refine sz rfl rfl
    ·refine sz rfl rfl
    ·refine sz rfl rfl
    ·refine sz rfl rfl
    ·refine sz rfl rfl
    ·refine sz rfl rfl
    ·refine sz rfl rfl
    ·refine sz rfl rfl
    have h68:=rq (hh.d 4 68);rotate_left
    any_goals (clear hh;go_simp;exact ⟨_,rfl,rB,rfl,trivial⟩)
    intro L w20 val hL hJ hR hv;have h77:val 77=.bool true:=hv 13 77 (by kernel_rfl);have HR20:=Hd hR;clear hv hL hJ hR;simp only [regs.putAll,List.map_cons,List.map_nil,h77];simp only [Act.put,List.setIfInBounds_toArray,List.set_cons_zero,List.set_cons_succ];clear h77;generalize val 64=v64,val 65=v65,val 66=v66,val 67=v67,val 68=v68,val 69=v69,val 70=v70,val 71=v71,val 72=v72,val 73=v73,val 74=v74,val 75=v75,val 76=v76 at *;go_wp2_with (fail)
    go_roundw
    case rel=>exact ⟨j+1,K,HLT.o,by go_num,rfl,by show _=_;rw [filter_snoc (kept x.t id) HJM.o,HQI.o,HKE.o,if_neg (by decide),Nat.add_zero,← HK.o],HBK.o.trans (Below.mono HR20.o HBK.o.size)⟩
    case measure=>have:=HLT.o;simp [intOf];omega
   ·have HQE:Hid ((q.it.i==id)=false∧decide (q.it.i=id)=false):=⟨by simpa using he,by simpa using he⟩
    have HKE:Hid (kept x.t id q.it=!within x.t q.it.i id):=by show _=_;unfold kept;simp [he]
    have FW:=FW0;generalize within x.t q.it.i id=wi at *;clear he FW0
    refine wRn [64,65,66,67,68,69,70,71,72,73,74,75,76,77] (fun i=>match i with
     |0|9=>rp qb 0
     |1|10=>rV (.int .i64 q.it.i)
     |2|11=>rV (.int .i64 id)
     |3|4=>rV (.bool false)
     |5|6|7=>rp g 0
     |8=>rV (.iface 102 (.pointer (some ⟨b,0,none⟩)))
     |12|13=>rV (.bool wi)
     | _=>ra) ⟨?_,?_,?_,?_,?_,?_,?_,?_,?_,?_,?_,?_,?_,?_,trivial⟩ ?_
    any_goals (first|refine zp fun L a w1 hh=>?_|fail)
    any_goals (first|refine sy rfl rfl fun L a w1 hh=>?_|fail)
    have h15:=hh.p 15 qb 0;have i0:=(FQ.o _ hh.rel).inside;rotate_left;have h64:=rq (hh.d 0 64);have ⟨c0,i0⟩:=(FQ.o _ hh.rel).ci 0 rfl;rotate_left;have h1:=hh.o 1 (v:=.int .i64 id) rfl;rotate_left
    ·have h65:=rq (hh.d 1 65);have h66:=rq (hh.d 2 66);obtain ⟨hqe1,hqe2⟩:=HQE.o;clear hh;go_simp;exact ⟨_,rfl,rB,rfl,trivial⟩
    have h67:=rq (hh.d 3 67);rotate_left;have h5:=hh.p 5 g 0;rotate_left;have h69:=rq (hh.d 5 69);rotate_left;have h70:=rq (hh.d 6 70);have i0:=((FS.o _ hh.rel).blk.blk).inside;rotate_left;have h71:=rq (hh.d 7 71);have ⟨c0,i0⟩:=((FS.o _ hh.rel).blk.blk).ci 0 rfl;rotate_left;have h15:=hh.p 15 qb 0;have i0:=(FQ.o _ hh.rel).inside;rotate_left;have h73:=rq (hh.d 9 73);have ⟨c0,i0⟩:=(FQ.o _ hh.rel).ci 0 rfl;rotate_left;have h1:=hh.o 1 (v:=.int .i64 id) rfl;rotate_left
    ·have h72:=rq (hh.d 8 72);have h74:=rq (hh.d 10 74);have h75:=rq (hh.d 11 75);have hinv:=inv_within (.pointer (some ⟨b,0,none⟩)) (.int .i64 q.it.i) (.int .i64 id);have hC:=Hd (FW.o _ hh.rel);have hJ:=hh.j;clear hh;go_simp;refine hC.o.mono ?_;rintro e w9 ⟨rfl,hb9⟩;exact ⟨_,rfl,hb9,rfl,hJ.o⟩
    have h68:=rq (hh.d 4 68);have h76:=rq (hh.d 12 76);rotate_left
    any_goals (clear hh;go_simp;exact ⟨_,rfl,rB,rfl,trivial⟩)
    intro L w20 val hL hJ hR hv;have h77:val 77=.bool wi:=hv 13 77 (by kernel_rfl);have HR20:=Hd hR;clear hv hL hJ hR;simp only [regs.putAll,List.map_cons,List.map_nil,h77];simp only [Act.put,List.setIfInBounds_toArray,List.set_cons_zero,List.set_cons_succ];clear h77
    skip
    cases wi with
    | true=>
     go_wp2_with (fail)
     go_roundw
     case rel=>exact ⟨j+1,K,HLT.o,by go_num,rfl,by show _=_;rw [filter_snoc (kept x.t id) HJM.o,HQI.o,HKE.o,if_neg (by simp),Nat.add_zero,← HK.o],HBK.o.trans (Below.mono HR20.o HBK.o.size)⟩
     case measure=>have:=HLT.o;simp [intOf];omega
    | false=>
     have HB20:Hid (Below wk.heap.size wk w20):=HR20.o
     have HKX:Hid ((l2.map (·.it))[K]?=some q.it):=by
      have h1:=filter_at (kept x.t id) HJM.o (by rw [HQI.o,HKE.o];rfl);rw [← HK.o,HQI.o,← HM2.o] at h1;exact h1
     have HKL:Hid (K<l2.length):=by
      have h1:=List.getElem?_eq_some_iff.1 HKX.o;obtain ⟨h2,-⟩:=h1;rw [List.length_map] at h2;exact h2
     have HBWk:Hid (Below wi.heap.size wi w20):=HBK.o.trans (HB20.o.mono HBK.o.size);obtain ⟨b2,o2,eA2,hrg2⟩:=(HL2.o.below HBWk.o).at' HKL.o
     obtain ⟨q2,hq2⟩:∃ q2,q2=l2[K]'HKL.o:=⟨_,rfl⟩
     rw [← hq2] at hrg2;have HRG2:=Hd hrg2
     have HQ2:Hid (q.it=q2.it):=by
      have h1:=HKX.o;rw [List.getElem?_map,List.getElem?_eq_getElem HKL.o,Option.map_some] at h1;rw [hq2];exact (Option.some.inj h1).symm
     have HQ2M:Hid (q2∈l2):=by rw [hq2];exact List.getElem_mem HKL.o
     have HKF:Hid (decide (l2.length<=K)=false∧decide ((l2.length:Int)<=K)=false):=by
      have:=HKL.o;exact ⟨decide_eq_false (by omega),decide_eq_false (by omega)⟩
     have FE:Hid (∀ W,Below w20.heap.size w20 W->Calls prog 32 #[.agg q2.cs.toArray,.agg q.cs.toArray] W fun e w'=>e=.returned (.bool true)∧Below W.heap.size W w'):=fun W hb=>by
      have hb2:=HBWk.o.trans (hb.mono HBWk.o.size);have h1:=(HL2.o.below hb2).at_ q2 HQ2M.o;exact flequal_eq q2 q HQ2.o h1.2.1 W h1.1 ((HL1i.o.below hb2).at_ q HQM.o).1
     have FQ2:Hid (∀ W,Below w20.heap.size w20 W->Blk W qb q.cs):=fun W hb=>FQ.o W (HB20.o.trans (hb.mono HB20.o.size));clear FQ FS FW;have FQ:=FQ2;have i0:=World.block_lt_of_cell? w20 ⟨b2,_,none⟩ (hrg2 0 (.int .i64 q2.it.i) rfl);subst eA2;clear hrg2 hq2 FQ2
     go_upto_region 19 with (fail)
     clear i0
     refine wRn [78,79,80,81,82,83,84,85,86,87,88,89,90] (fun i=>match i with
      |0|6=>rV (.int .i64 (K:Nat))
      |1|5=>rV (.slice (some ⟨b2,o2,none⟩) l2.length c2)
      |2=>rV (.int .i64 (l2.length:Nat))
      |3|4|11|12=>rV (.bool false)
      |7=>rV (.pointer (some ⟨b2,(o2+K*22),none⟩))
      |8=>rV (.agg (q2.cs).toArray)
      |9=>rV (.agg (q.cs).toArray)
      |10=>rT
      | _=>ra) ⟨?_,?_,?_,?_,?_,?_,?_,?_,?_,?_,?_,?_,?_,trivial⟩ ?_
     any_goals (first|refine zp fun L a w1 hh=>?_|fail)
     any_goals (first|refine sy rfl rfl fun L a w1 hh=>?_|fail)
     have h13:=hh.o 13 (v:=.int .i64 (K:Nat)) rfl;rotate_left;have h12:=hh.o 12 (v:=.slice (some ⟨b2,o2,none⟩) l2.length c2) rfl;rotate_left;have h79:=rq (hh.d 1 79);rotate_left
     ·have h78:=rq (hh.d 0 78);have h80:=rq (hh.d 2 80);obtain ⟨hk1,hk2⟩:=HKF.o;clear hh;go_simp;exact ⟨_,rfl,rB,rfl,trivial⟩
     have h81:=rq (hh.d 3 81);rotate_left;have h12:=hh.o 12 (v:=.slice (some ⟨b2,o2,none⟩) l2.length c2) rfl;rotate_left;have h13:=hh.o 13 (v:=.int .i64 (K:Nat)) rfl;rotate_left;have h83:=rq (hh.d 5 83);have h84:=rq (hh.d 6 84);have hlt:=HKL.o;rotate_left
     ·have h85:=rq (hh.d 7 85)
      have hRG:=(rg_below HRG2.o hh.rel)
      have hJ:=Hd hh.st;exact wp_load_mid 76 _ rfl b2 (o2+K*22) (by simpa [go_sem] using h85) q2.cs _ hRG underlying76 rfl (by kernel_rfl) ⟨_,rfl,rB,rfl,hJ.o⟩
     ·have h15:=hh.p 15 qb 0;have hB:=Hd (FQ.o _ hh.rel);have hJ:=Hd hh.st;exact wp_take 76 _ rfl qb 0 (by simpa [go_sem] using h15) _ hB.o (q.cs) rfl _ underlying76 rfl (by kernel_rfl) ⟨_,rfl,rB,rfl,hJ.o⟩
     ·have h86:=rq (hh.d 8 86);have h87:=rq (hh.d 9 87);have hC:=Hd (FE.o _ hh.rel);have hJ:=hh.j;clear hh;go_simp;refine hC.o.mono ?_;rintro e w9 ⟨rfl,hb9⟩;exact ⟨_,rfl,hb9,rfl,hJ.o⟩
     have h88:=rq (hh.d 10 88);rotate_left;have h82:=rq (hh.d 4 82);have h89:=rq (hh.d 11 89);rotate_left
     any_goals (clear hh;go_simp;exact ⟨_,rfl,rB,rfl,trivial⟩)
     intro L w22 val hL hJ hR hv;have h90:val 90=.bool false:=hv 12 90 (by kernel_rfl);have HR22:=Hd hR;clear hv hL hJ hR;simp only [regs.putAll,List.map_cons,List.map_nil,h90];simp only [Act.put,List.setIfInBounds_toArray,List.set_cons_zero,List.set_cons_succ];clear h90
     skip
     have HBN:Hid (Below wi.heap.size wi w22):=HBWk.o.trans (Below.mono HR22.o HBWk.o.size);have hkk:=HKB.o;go_wp2_with (fail)
     go_roundw
     case rel=>exact ⟨j+1,K+1,HLT.o,by go_num,by go_num,by show _=_;rw [filter_snoc (kept x.t id) HJM.o,HQI.o,HKE.o,if_pos (by simp),← HK.o],HBN.o⟩
     case measure=>have:=HLT.o;simp [intOf];omega
  ·obtain rfl:j=l1.length:=by omega
   have t4:decide (l1.length<l1.length)=false:=by simp
   have HKE:Hid (K=l2.length):=by
    show _=_;rw [HK.o,List.take_of_length_le (by simp),← HM2.o,List.length_map]
   obtain rfl:K=l2.length:=HKE.o;have t5:((l2.length:Int) != l2.length)=false:=by simp
   have HBWj:=Hd (HBWi.o.trans (HBR.o.mono HBWi.o.size));have HMj:=Hd (HMi.o.below HBR.o);have HL1j:=Hd (HL1i.o.below HBR.o);have HNJ:=Hd HNS.o;clear hlt HK HKE HL2 HM2 HL1i HMi HBR HNS HBWi;have HDO:=Hd (hide_done HMj.o HY.o (by rw [HYT.o];exact HXL.o) HI64.o HYH.o false _ rfl)
   go_wp2_with (first | ((with_reducible show wpList _ _ _ (Oper.mk (some 101) (Op.build _ _) _ _ _ _::_) _ _);refine wpl_build _ _ rfl rfl (by simp [go_sem]) (build_h2 id _) ?_) | ((with_reducible refine gB ?_);refine wpl_bs _ _ _ rfl rfl (by simp [go_sem]) (bs_h ⟨hOp id false,none,0⟩ _) ?_));generalize (wj.alloc (.cells (OpR.cs ⟨hOp id false,none,0⟩).toArray 99))=wl at *;refine HDO.o.2.mono ?_;rintro e wm ⟨s2,rfl,hm2,hb10,hk10⟩;have HMm:=Hd hm2;have HBjl:Hid (Below wj.heap.size wj wl):=HDO.o.1
   have HL1m:Hid (Lst wm (fun k=>we.heap.size<=k∧k<wf.heap.size) A1 l1):=(HL1j.o.below HBjl.o).stays fun k h1 h2=>(hk10 k h2 (HNJ.o k h1)).2;have HBWm:Hid (Below w.heap.size w wm):=(HBWj.o.trans (HBjl.o.mono HBWj.o.size)).trans (hb10.mono HBa.o.size);have HZT:Hid ((hidS y id false).t=x.t):=(hid_apply HY.o HYH.o false).2.1.trans HYT.o;have HZS:Hid (Sane (hidS y id false)):=HY.o.apply fun o ho=>by rw [List.mem_singleton.1 ho];exact hOp_ok HI64.o false
   clear hm2 hb10 hk10 HBjl HDO HMj HL1j HNJ HBWj t4 t5 HKB;have t2:((0:Int) != 0)=false:=by decide
   go_wp2_with (fail);refine (list_any HMm.o.at_ HZS.o (by rw [HZT.o];exact HXT.o)).mono ?_;unfold ListQ;rintro e wn ⟨A3,c3,l3,rfl,hrow,hqs,hmap,hA3,hb11⟩;have HL3:Hid (Lst wn (fun k=>wm.heap.size<=k∧k<wn.heap.size) A3 l3):=Lst.of hrow hqs hA3;have HM3:Hid (l3.map (·.it)=l1.map (·.it)):=by show _=_;rw [hmap,HYA.o,HM1.o]
   have HL1n:=Hd (HL1m.o.below hb11);have HBWn:=Hd (HBWm.o.trans (hb11.mono HBWm.o.size))
   have hlen:l3.length=l1.length:=by
    have h1:=congrArg List.length HM3.o
    rwa [List.length_map,List.length_map] at h1
   have HLEN:=Hd hlen;have t6:((l3.length:Int) != l1.length)=false:=by rw [hlen];simp
   have hl3:l3.length<=1000:=by rw [hlen];exact hl1
   clear hrow hqs hmap hA3 hb11 HMm HL1m HBWm t2 hlen HZS HZT HY HYA HYH HYT
   go_upto_region 32 with (fail)
   clear t6
   go_loopw [117] (fun i wr=>∃ j:Nat,j<=l3.length∧i=.int .i64 j∧Hid (Below wn.heap.size wn wr)) (fun i _=>l3.length - (intOf i).toNat)
   case atStart=>exact ⟨0,Nat.zero_le _,rfl,bR⟩
   case round=>
    obtain ⟨j,hj,rfl,HBR⟩:=hrel;generalize wr=wo at *;by_cases hlt:j<l3.length
    ·have t4:decide (j<l3.length)=true:=by simpa using hlt
     have HJ3:=Hd hlt;have HJ1:Hid (j<l1.length):=by have:=HLEN.o;show _<_;omega
     obtain ⟨b3,o3,eA3,hrg3⟩:=(HL3.o.below HBR.o).at' hlt;obtain ⟨b1,o1,eA1,hrg⟩:=(HL1n.o.below HBR.o).at' HJ1.o
     obtain ⟨q3,hq3⟩:∃ q3,q3=l3[j]'hlt:=⟨_,rfl⟩
     obtain ⟨q,hq⟩:∃ q,q=l1[j]'HJ1.o:=⟨_,rfl⟩
     rw [← hq3] at hrg3;rw [← hq] at hrg;have HRG:=Hd hrg;have HRG3:=Hd hrg3
     have HQQ:Hid (q.it=q3.it):=by
      have h1:(l3.map (·.it))[j]?=(l1.map (·.it))[j]?:=by rw [HM3.o]
      rw [List.getElem?_map,List.getElem?_map,List.getElem?_eq_getElem hlt,List.getElem?_eq_getElem HJ1.o,Option.map_some,Option.map_some] at h1;rw [hq,hq3];exact (Option.some.inj h1).symm
     have HQ3M:Hid (q3∈l3):=by rw [hq3];exact List.getElem_mem hlt
     have HQM:Hid (q∈l1):=by rw [hq];exact List.getElem_mem HJ1.o
     have FE:Hid (∀ W,Below wo.heap.size wo W->Calls prog 32 #[.agg q3.cs.toArray,.agg q.cs.toArray] W fun e w'=>e=.returned (.bool true)∧Below W.heap.size W w'):=fun W hb=>by
      have hb2:=HBR.o.trans (hb.mono HBR.o.size);have h1:=(HL3.o.below hb2).at_ q3 HQ3M.o;exact flequal_eq q3 q HQQ.o h1.2.1 W h1.1 ((HL1n.o.below hb2).at_ q HQM.o).1
     subst eA3 eA1;clear hrg hrg3 hq hq3 hlt hj
     go_upto_region 34 with (fail)
     refine wRn [120,121,122,123,124,125,126,127,128,129] (fun i=>match i with
      |0=>rV (.slice (some ⟨b3,o3,none⟩) l3.length c3)
      |1|5=>rV (.int .i64 (j:Nat))
      |2=>rV (.pointer (some ⟨b3,(o3+j*22),none⟩))
      |3=>rV (.agg (q3.cs).toArray)
      |4=>rV (.slice (some ⟨b1,o1,none⟩) l1.length c1)
      |6=>rV (.pointer (some ⟨b1,(o1+j*22),none⟩))
      |7=>rV (.agg (q.cs).toArray)
      |8=>rT
      |9=>rV (.bool false)
      | _=>ra) ⟨?_,?_,?_,?_,?_,?_,?_,?_,?_,?_,trivial⟩ ?_
     any_goals (first|refine zp fun L a w1 hh=>?_|fail)
     have h18:=hh.o 18 (v:=.slice (some ⟨b3,o3,none⟩) l3.length c3) rfl;rotate_left;have h19:=hh.o 19 (v:=.int .i64 (j:Nat)) rfl;rotate_left;have h120:=rq (hh.d 0 120);have h121:=rq (hh.d 1 121);have hlt:=HJ3.o;rotate_left
     ·have h122:=rq (hh.d 2 122)
      have hRG:=(rg_below HRG3.o hh.rel)
      have hJ:=Hd hh.st;exact wp_load_mid 76 _ rfl b3 (o3+j*22) (by simpa [go_sem] using h122) q3.cs _ hRG underlying76 rfl (by kernel_rfl) ⟨_,rfl,rB,rfl,hJ.o⟩
     have h9:=hh.o 9 (v:=.slice (some ⟨b1,o1,none⟩) l1.length c1) rfl;rotate_left;have h19:=hh.o 19 (v:=.int .i64 (j:Nat)) rfl;rotate_left;have h124:=rq (hh.d 4 124);have h125:=rq (hh.d 5 125);have hlt:=HJ1.o;rotate_left
     ·have h126:=rq (hh.d 6 126)
      have hRG:=(rg_below HRG.o hh.rel)
      have hJ:=Hd hh.st;exact wp_load_mid 76 _ rfl b1 (o1+j*22) (by simpa [go_sem] using h126) q.cs _ hRG underlying76 rfl (by kernel_rfl) ⟨_,rfl,rB,rfl,hJ.o⟩
     ·have h123:=rq (hh.d 3 123);have h127:=rq (hh.d 7 127);have hC:=Hd (FE.o _ hh.rel);have hJ:=hh.j;clear hh;go_simp;refine hC.o.mono ?_;rintro e w9 ⟨rfl,hb9⟩;exact ⟨_,rfl,hb9,rfl,hJ.o⟩
     have h128:=rq (hh.d 8 128);rotate_left
     any_goals (clear hh;go_simp;exact ⟨_,rfl,rB,rfl,trivial⟩)
     intro L w24 val hL hJ hR hv;have h129:val 129=.bool false:=hv 9 129 (by kernel_rfl);have HR24:=Hd hR;clear hv hL hJ hR;simp only [regs.putAll,List.map_cons,List.map_nil,h129];simp only [Act.put,List.setIfInBounds_toArray,List.set_cons_zero,List.set_cons_succ];clear h129
     skip
     have HBN:Hid (Below wn.heap.size wn w24):=HBR.o.trans (Below.mono HR24.o HBR.o.size);have hlt:=HJ3.o;go_wp2_with (fail)
     go_roundw
     case rel=>exact ⟨j+1,HJ3.o,by go_num,HBN.o⟩
     case measure=>have:=HJ3.o;simp [intOf];omega
    ·obtain rfl:j=l3.length:=by omega
     have t4:decide (l3.length<l3.length)=false:=by simp
     have HBWo:=Hd (HBWn.o.trans (HBR.o.mono HBWn.o.size));clear hlt;go_wp2_with (fail);refine (fawake_any _).mono ?_;rintro e wz ⟨rfl,hbz⟩;have HBz:Hid (Below w.heap.size w wz):=(HBWo.o).trans (hbz.mono (HBWo.o).size);clear hbz;go_wp2_with (fail);go_ret;exact ⟨rfl,HBz.o⟩
end
section
open Go.RowKit Go.ChangeShapes Go.WideShapes Go.ChangeAt Go.Deep
theorem own:ownKnob prog.godebug=none:=by kernel_rfl
theorem laidOut:laidOutB prog=true:=by kernel_rfl
theorem add_none (b off j:Nat):(⟨b,off,none⟩:Addr).add j=⟨b,off+j,none⟩:=by unfold Addr.add;split<;>simp_all
theorem from_list {α:Type} {n:Nat} {p:Nat->α->Prop} (h:∀ i,i<n->∃ x,p i x):∃ l:List α,l.length=n∧∀ i (hi:i<l.length),p i l[i]:=by
 induction n with
 | zero=>exact ⟨[],rfl,fun i hi=>by simp at hi⟩
 | succ n ih=>
  obtain ⟨l,hl,hp⟩:=ih (fun i hi=>h i (by omega));obtain ⟨x,hx⟩:=h n (by omega);refine ⟨l++[x],by simp [hl],fun i hi=>?_⟩;rw [List.length_append,List.length_cons,List.length_nil] at hi;by_cases hin:i<l.length
  ·rw [List.getElem_append_left hin];exact hp i hin
  ·have:i=n:=by omega
   subst this
   have e:(l++[x])[i]'(by rw [List.length_append,List.length_cons,List.length_nil];omega)=x:=by
    rw [List.getElem_append_right (by omega)];simp [hl]
   rw [e];exact hx
end
end Go.Proofs.YthoildbfghfhpaaGreat
