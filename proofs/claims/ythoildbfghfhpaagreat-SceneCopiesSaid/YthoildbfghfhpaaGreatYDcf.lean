import Derived.Test.YthoildbfghfhpaaGreatYSceneManyM
set_option maxHeartbeats 16000000
set_option maxRecDepth 100000
namespace Go.Proofs.YthoildbfghfhpaaGreat
section
open Go.RowKit pxm imm trm Go.Maps
structure OpL where
 A:Option Addr
 c:Nat
 l:List OpR
def OpL.cs (q:OpL):List Value:=[.slice q.A q.l.length q.c]
theorem OpL.cs_len (q:OpL):q.cs.length=1:=rfl
theorem OpL.cs_plain (q:OpL):∀ u∈q.cs,u.oneCell'=true:=by
 intro u hu;rw [List.mem_singleton.1 hu];rfl
structure OpRaw (o:Op9):Prop where
 i:I64 o.i
 p:I64 o.p
 c:o.lk.p<4294967296
 l:∀ z∈o.lk.l,z<4294967296
 len:o.lk.l.length<=maxLen
theorem OpRaw.ok {o:Op9} (h:OpRaw o) (hl:o.lk.l.length<=300):OpOk o:=⟨h.i,h.p,h.c,h.l,hl⟩
structure OpsR (w:World) (A:Option Addr) (l:List OpR):Prop where
 row:SRow 23 OpR.cs w A l
 px:∀ q∈l,Row eW w q.A q.o.lk.l∧OpRaw q.o
theorem OpsR.below {w w':World} {A:Option Addr} {l:List OpR} (h:OpsR w A l) (hb:Below w.heap.size w w'):OpsR w' A l:=⟨SRow.below h.row hb,fun q hq=>⟨Row.below (h.px q hq).1 hb,(h.px q hq).2⟩⟩
theorem OpsR.at_ {w w':World} {A:Option Addr} {l:List OpR} {S:Bset} (h:OpsR w A l) (hb:Below w.heap.size w w') (hS:∀ k,S k->w.heap.size<=k):OpsAt S w' A l:=
 ⟨SRow.below h.row hb,fun a e hne hk=>by
  have h1:=h.row.blt (fun _=>⟨_,_,rfl⟩) e hne;have h2:=hS _ hk
  omega,fun q hq=>⟨Row.below (h.px q hq).1 hb,fun a e hne hk=>by
  have h1:=Row.lt (h.px q hq).1 e hne;have h2:=hS _ hk
  omega⟩⟩
structure TrAt (w:World) (A:Option Addr) (L:List OpL):Prop where
 row:SRow 1 OpL.cs w A L
 ops:∀ q∈L,OpsR w q.A q.l
 few:∀ q∈L,q.l.length<=1099511627776
 most:L.length<=9223372036854775807
theorem TrAt.below {w w':World} {A:Option Addr} {L:List OpL} (h:TrAt w A L) (hb:Below w.heap.size w w'):TrAt w' A L:=⟨SRow.below h.row hb,fun q hq=>(h.ops q hq).below hb,h.few,h.most⟩
def total (L:List OpL):Nat:=(L.map fun q=>q.l.length).sum
theorem total_snoc (L:List OpL) (q:OpL):total (L++[q])=total L+q.l.length:=by simp [total]
theorem total_le {L:List OpL} (h:∀ q∈L,q.l.length<=1099511627776):total L<=L.length*1099511627776:=by
 induction L with
 | nil=>simp [total]
 | cons q L ih=>
  have h1:=ih fun q hq=>h q (List.mem_cons_of_mem _ hq);have h2:=h q List.mem_cons_self;simp only [total,List.map_cons,List.sum_cons,List.length_cons] at h1 ⊢;omega
theorem total_take {L:List OpL} (j:Nat):total (L.take j)<=total L:=by
 have h:total L=total (L.take j)+total (L.drop j):=by
  conv=>lhs;rw [← List.take_append_drop j L]
  unfold total;rw [List.map_append,List.sum_append]
 omega
def thin (q:OpL):Prop:=∀ o∈q.l,o.o.lk.l.length<=300
def fits (L:List OpL):Prop:=(∀ q∈L,thin q)∧L.length<=30∧total L<=120
def SizeQ (L:List OpL) (w:World) (e:Ending) (w':World):Prop:=∃ n:Int,e=.returned (.int .i64 n)∧(0<=n↔fits L)∧I64 n∧Below w.heap.size w w'
theorem wrap_64 (x:Int):I64 (wrap64 x):=by
 unfold wrap64 I64;omega
theorem size_law (L:List OpL) (A:Option Addr) (c:Nat) (w:World) (h:TrAt w A L) :
  Calls Tryz.prog 8 #[.slice A L.length c] w (SizeQ L w):=by
 have HT:=Hd h;have HM:Hid (L.length<=9223372036854775807):=h.most;have hlb:(L.length:Int)<=9223372036854775807:=by have:=h.most;omega
 clear h;go_enter Tryz.func8,Tryz.ntmps8;go_wp2_with (fail)
 go_loopw [10,3] (fun x10 x3 wr=>∃ (j:Nat) (n:Int),j<=L.length∧x10=.int .i64 j∧x3=.int .i64 n∧Hid (I64 n∧(j<=30->n=(total (L.take j):Nat)))∧Hid (∀ q∈L.take j,thin q)∧Hid (Below w.heap.size w wr)) (fun x10 _ _=>L.length - (intOf x10).toNat)
 case atStart=>exact ⟨0,0,Nat.zero_le _,rfl,rfl,⟨⟨by decide,by decide⟩,fun _=>by simp [total]⟩,(fun q hq=>by simp at hq),bR⟩
 case round=>
  obtain ⟨j,n,hj,rfl,rfl,HN,HTH,HB⟩:=hrel;generalize wr=wA at *;by_cases hlt:j<L.length
  ·have t1:decide (j<L.length)=true:=by simpa using hlt
   have HLT:=Hd hlt;obtain ⟨lb,lo,rA,hcell⟩:=(HT.out.below HB.out).row (by omega);subst rA
   obtain ⟨q,hq⟩:∃ q,q=L[j]'hlt:=⟨_,rfl⟩
   have hqc:wA.cell? ⟨lb,lo+j,none⟩=some (.slice q.A q.l.length q.c):=by
    have:=hcell j hlt 0 (.slice q.A q.l.length q.c) (by rw [hq];rfl)
    rwa [Nat.mul_one,Nat.add_zero] at this
   have HQM:Hid (q∈L):=by rw [hq];exact List.getElem_mem hlt
   have HTK:Hid (L.take (j+1)=L.take j++[q]):=by rw [hq];exact List.take_succ_eq_append_getElem hlt
   have HOP:=Hd (HT.out.ops q HQM.out);have HFW:=Hd (HT.out.few q HQM.out);have i0:=World.block_lt_of_cell? wA ⟨lb,_,none⟩ hqc;have hqb:(q.l.length:Int)<=1099511627776:=by have:=HFW.out;omega
   obtain ⟨nv,hnv⟩:∃ nv,wrap64 (n+(q.l.length:Int))=nv:=⟨_,rfl⟩
   have HNV:Hid (I64 nv∧(j+1<=30->nv=(total (L.take (j+1)):Nat))):=by
    refine ⟨by rw [← hnv];exact wrap_64 _,fun h30=>?_⟩;have h1:=HN.out.2 (by omega);have h2:=total_le (L:=L.take j) fun q hq=>HT.out.few q (List.mem_of_mem_take hq);rw [List.length_take] at h2;rw [← hnv,HTK.out,total_snoc,h1];have h3:=HFW.out;have h4:min j L.length*1099511627776<=30*1099511627776:=Nat.mul_le_mul_right _ (by omega);unfold wrap64;omega
   clear hcell hq hlt;go_wp2_with (fail);clear hnv hqc i0
   go_loopw [20] (fun x20 wr=>∃ k:Nat,k<=q.l.length∧x20=.int .i64 k∧Hid (∀ o∈q.l.take k,o.o.lk.l.length<=300)∧Hid (Below w.heap.size w wr)) (fun x20 _=>q.l.length - (intOf x20).toNat)
   case atStart=>exact ⟨0,Nat.zero_le _,rfl,(fun o ho=>by simp at ho),HB.out⟩
   case round=>
    obtain ⟨k,hk,rfl,HTK2,HB2⟩:=hrel;generalize wr=wB at *;by_cases hkl:k<q.l.length
    ·have t2:decide (k<q.l.length)=true:=by simpa using hkl
     have HKL:=Hd hkl;obtain ⟨pb,po,rP,pcell⟩:=(HOP.out.below HB2.out).row (by omega);have HRA:Hid (q.A=some ⟨pb,po,none⟩):=rP;rw [rP]
     obtain ⟨p,hp⟩:∃ p,p=q.l[k]'hkl:=⟨_,rfl⟩
     have HPM:Hid (p∈q.l):=by rw [hp];exact List.getElem_mem hkl
     have HPT:Hid (q.l.take (k+1)=q.l.take k++[p]):=by rw [hp];exact List.take_succ_eq_append_getElem hkl
     have HRG:Hid (wB.rangeAt pb (po+k*23) p.cs):=by
      rw [hp];exact fun i v hv=>pcell k hkl i v hv
     have HPL:Hid (p.o.lk.l.length<=maxLen):=(HOP.out.px p HPM.out).2.len;have HZ2:Hid (Blk (wB.alloc (.cells Vh.toArray 99)) wB.heap.size Vh):=blk_new wB Vh _;have HBa:Hid (Below wB.heap.size wB (wB.alloc (.cells Vh.toArray 99))):=bR.alloc nR _;have c0:=HRG.out 0 (.int .i64 p.o.k) rfl;have i0:pb<wB.heap.size:=World.block_lt_of_cell? wB ⟨pb,_,none⟩ c0;clear c0 rP pcell hp hkl
     go_upto_region 9 with (first | ((with_reducible refine gL ?_);refine wpl_row 99 _ rfl rfl _ _ rfl (p.cs) HRG.out _ Tryz.underlying99 rfl (by kernel_rfl) ?_) | ((with_reducible refine gS ?_);refine wpl_stow 99 _ _ rfl rfl rfl _ 0 rfl (p.cs) rfl (Vh) HZ2.out (p.cs) rfl (nE rfl) (by kernel_rfl) (Op9.one _ _ _) ?_;intro w3 HW3 HK3))
     have HB3:=Hd (HB2.out.trans ((HW3.out.below HBa.out nR).mono HB2.out.size));have c22:=HK3.out.c 22 rfl;have i1:=HK3.out.inside;have hpl:(p.o.lk.l.length:Int)<=9223372036854775807:=by have:=HPL.out;unfold maxLen at this;omega
     clear HZ2 HBa HW3 HRG i0;by_cases hth:300<p.o.lk.l.length
     ·have t3:decide ((300:Int)<(p.o.lk.l.length:Int))=true:=decide_eq_true (by omega)
      have HNF:Hid (¬ fits L):=fun e=>by
       have h1:=e.1 q HQM.out p HPM.out;omega
      clear hth;go_wp2_with (fail);go_ret;exact ⟨-1,rfl,⟨fun e=>absurd e (by decide),fun e=>absurd e HNF.out⟩,⟨by decide,by decide⟩,HB3.out⟩
     ·have t3:decide ((300:Int)<(p.o.lk.l.length:Int))=false:=decide_eq_false (by omega)
      have HTK3:Hid (∀ o∈q.l.take (k+1),o.o.lk.l.length<=300):=fun o ho=>by
       rw [HPT.out] at ho;rcases List.mem_append.1 ho with h1 | h1
       ·exact HTK2.out o h1
       ·rw [List.mem_singleton.1 h1];omega
      clear hth;go_wp2_with (fail)
      go_roundw
      case rel=>exact ⟨k+1,HKL.out,by go_num,HTK3,HB3⟩
      case measure=>have:=HKL.out;simp [intOf];omega
    ·obtain rfl:k=q.l.length:=by omega
     have t2:decide (q.l.length<q.l.length)=false:=by simp
     have HTH2:Hid (∀ r∈L.take (j+1),thin r):=fun r hr=>by
      rw [HTK.out] at hr;rcases List.mem_append.1 hr with h1 | h1
      ·exact HTH.out r h1
      ·rw [List.mem_singleton.1 h1];have:=HTK2.out
       rwa [List.take_length] at this
     clear hkl;go_wp2_with (fail)
     go_roundw
     case rel=>exact ⟨j+1,nv,HLT.out,by go_num,rfl,HNV,HTH2,HB2⟩
     case measure=>have:=HLT.out;simp [intOf];omega
  ·obtain rfl:j=L.length:=by omega
   have t1:decide (L.length<L.length)=false:=by simp
   have HTA:Hid (∀ q∈L,thin q):=by have:=HTH.out;rwa [List.take_length] at this
   clear hlt;by_cases h30:30<L.length
   ·have t3:decide ((30:Int)<(L.length:Int))=true:=decide_eq_true (by omega);have HNF:Hid (¬ fits L):=fun e=>by have:=e.2.1;omega
    clear h30;go_wp2_with (fail);go_ret;exact ⟨-1,rfl,⟨fun e=>absurd e (by decide),fun e=>absurd e HNF.out⟩,⟨by decide,by decide⟩,HB.out⟩
   ·have t3:decide ((30:Int)<(L.length:Int))=false:=decide_eq_false (by omega);have hn:n=(total L:Nat):=by have:=HN.out.2 (by omega);rwa [List.take_length] at this
    have h30':L.length<=30:=by omega
    have HL30:=Hd h30';subst hn;by_cases h120:120<total L
    ·have t4:decide ((120:Int)<((total L:Nat):Int))=true:=decide_eq_true (by omega);have HNF:Hid (¬ fits L):=fun e=>by have:=e.2.2;omega
     clear h30 h120 h30';go_wp2_with (fail);go_ret;exact ⟨-1,rfl,⟨fun e=>absurd e (by decide),fun e=>absurd e HNF.out⟩,⟨by decide,by decide⟩,HB.out⟩
    ·have t4:decide ((120:Int)<((total L:Nat):Int))=false:=decide_eq_false (by omega)
     have HF:Hid (fits L):=⟨HTA.out,h30',by omega⟩
     clear h30 h120 h30';go_wp2_with (fail);go_ret;exact ⟨(total L:Nat),rfl,⟨fun _=>HF.out,fun _=>by omega⟩,HN.out.1,HB.out⟩
end
section
open Go.RowKit pxm imm trm Go.Maps
def likeW (x y:PSc):Prop:=x.t=y.t∧x.nd=y.nd
theorem likeW.refl (x:PSc):likeW x x:=⟨rfl,rfl⟩
theorem setSt_self (x:PSc):likeW (setSt x).1 x:=⟨setSt_t x,setSt_nd x⟩
theorem allS_append {M:Int}:∀ (a b:List Op9) (x:PSc),allS M x (a++b)=if (allS M x a).2.2≠0 then allS M x a else ((allS M (allS M x a).1 b).1,(allS M x a).2.1+(allS M (allS M x a).1 b).2.1,(allS M (allS M x a).1 b).2.2)
 | [],b,x=>by simp [allS]
 | o::a,b,x=>by
  rw [List.cons_append,allS_cons,allS_cons];by_cases e:(doS M x o).2≠0
  ·rw [if_pos e,if_pos e,if_pos e]
  ·rw [if_neg e,if_neg e,allS_append a b];by_cases e2:(allS M (doS M x o).1 a).2.2≠0
   ·rw [if_pos e2,if_pos e2]
   ·rw [if_neg e2,if_neg e2];simp only [Nat.add_right_comm]
theorem allS_full {M:Int}:∀ (l:List Op9) (x:PSc),(allS M x l).2.2=0->(allS M x l).2.1=l.length
 | [],_,_=>rfl
 | o::l,x,h=>by
  rw [allS_cons] at h ⊢;by_cases e:(doS M x o).2≠0
  ·rw [if_pos e] at h;exact absurd h e
  ·rw [if_neg e] at h ⊢;simp only [List.length_cons];rw [allS_full l _ h]
end
section
open Go.RowKit pxm imm trm Go.Maps
def vstep (m:Mp) (r:Mp×Bool):Mp×Bool:=if r.2=true then (if m.thenB r.1=true then m.then1 r.1 else Mp.o,m.thenB r.1) else r
def worldV (t:T) (nd:Int->Nd) (i:Int):Mp×Bool:=(line t i).foldr (fun j r=>vstep (nd j).m r) ((nd 0).m,true)
theorem worldV_0 (t:T) (nd:Int->Nd):worldV t nd 0=((nd 0).m,true):=by unfold worldV;rw [line_0];rfl
theorem worldV_step {t:T} (ok:Ok t) (nd:Int->Nd) {i:Int} (hi:i∈ids t):worldV t nd i=vstep (nd i).m (worldV t nd (par t i)):=by
 unfold worldV;rw [line_step ok hi];rfl
theorem thens_1 {m n:Mp} (h1:m.right=true) (h2:n.right=true):m.thens [n]=if m.thenB n=true then (m.then1 n,0) else (Mp.o,35):=by
 unfold Mp.thens;rw [if_pos ⟨h1,by simp [h2]⟩];unfold Mp.run;by_cases hb:m.thenB n=true
 ·rw [if_pos hb,if_pos hb];unfold Mp.run;rfl
 ·rw [if_neg hb,if_neg hb];rfl
theorem worldV_of {t:T} {nd:Int->Nd} (ok:Ok t) (h:∀ i,(nd i).m.right=true) {i:Int} (hi:i=0∨i∈ids t):worldOf t nd i=if (worldV t nd i).2=true then some (worldV t nd i).1 else none:=by
 refine ok.climb (P:=fun i=>worldOf t nd i=if (worldV t nd i).2=true then some (worldV t nd i).1 else none) ?_ (fun i hi ih=>?_) hi
 ·rw [worldOf_0,worldV_0];rfl
 ·rw [worldOf_step ok nd hi,worldV_step ok nd hi,ih];have hr:=world_right ok h (ok.par_ok hi);rw [ih] at hr;generalize worldV t nd (par t i)=r at *;obtain ⟨q,b⟩:=r;unfold vstep wstep;cases b with
  | false=>rfl
  | true=>
   simp only [if_true] at hr ⊢;rw [Option.bind_some,thens_1 (h i) (hr q rfl)];by_cases hb:(nd i).m.thenB q=true
   ·rw [if_pos hb,if_pos hb,if_pos rfl,if_pos hb]
   ·rw [if_neg hb,if_neg hb];exact if_neg (by decide)
theorem worldV_none {t:T} {nd:Int->Nd} (ok:Ok t) (h:∀ i,(nd i).m.right=true) {i:Int} (hi:i=0∨i∈ids t):worldOf t nd i=none↔(worldV t nd i).2=false:=by
 rw [worldV_of ok h hi];cases (worldV t nd i).2<;>simp
theorem setSt_good {x:PSc} (h:∀ i,has x.t i=true->worldOf x.t x.nd i≠none):(setSt x).2=0:=by
 unfold setSt;rw [if_pos h]
theorem allS_take {M:Int} {x:PSc} {l:List Op9} {k:Nat} (hk:k<l.length) (h:(allS M x (l.take k)).2.2=0) :
  (doS M (allS M x (l.take k)).1 l[k]).2=0->(allS M x (l.take (k+1))).1=(doS M (allS M x (l.take k)).1 l[k]).1∧(allS M x (l.take (k+1))).2.2=0:=by
 intro hz;rw [List.take_succ_eq_append_getElem hk,allS_append,if_neg (by rw [h];decide)]
 have e:allS M (allS M x (l.take k)).1 [l[k]]=((doS M (allS M x (l.take k)).1 l[k]).1,1,0):=by
  rw [allS_cons,if_neg (by rw [hz];decide)];rfl
 rw [e];exact ⟨rfl,rfl⟩
theorem applyS_bad {M:Int} {x:PSc} {l:List Op9} {k:Nat} (hl:l.length<=1024) (hk:k<l.length) (h:(allS M x (l.take k)).2.2=0) (hz:(doS M (allS M x (l.take k)).1 l[k]).2≠0) :
  applyS M setSt x l=(x,((k:Nat):Int),(doS M (allS M x (l.take k)).1 l[k]).2):=by
 have e:allS M x l=((allS M x (l.take k)).1,k,(doS M (allS M x (l.take k)).1 l[k]).2):=by
  have h1:l=l.take k++l[k]::l.drop (k+1):=by rw [← List.drop_eq_getElem_cons hk,List.take_append_drop]
  have h2:allS M x (l.take k++l[k]::l.drop (k+1))=((allS M x (l.take k)).1,k,(doS M (allS M x (l.take k)).1 l[k]).2):=by
   rw [allS_append,if_neg (by rw [h];decide),allS_cons,if_pos hz,allS_full _ _ h,List.length_take];simp only [Nat.add_zero];rw [Nat.min_eq_left (Nat.le_of_lt hk)]
  rw [← h2,← h1]
 unfold applyS;rw [if_neg (by omega),e,if_pos hz]
theorem applyS_over {M:Int} {x:PSc} {l:List Op9} (hl:1024<l.length):applyS M setSt x l=(x,0,12):=by
 unfold applyS;rw [if_pos hl]
theorem applyS_world {M:Int} {x:PSc} {l:List Op9} (hl:l.length<=1024) (h:(allS M x l).2.2=0) {i:Int} (hi:has (allS M x l).1.t i=true) (hw:worldOf (allS M x l).1.t (allS M x l).1.nd i=none) :
  applyS M setSt x l=(x,((l.length:Nat):Int),35):=by
 unfold applyS;rw [if_neg (by omega),if_neg (by rw [h];decide),setSt_bad hi hw,if_pos (show (35:Int)≠0 by decide),allS_full _ _ h]
theorem applyS_good {M:Int} {x:PSc} {l:List Op9} (hl:l.length<=1024) (h:(allS M x l).2.2=0) (hw:∀ i,has (allS M x l).1.t i=true->worldOf (allS M x l).1.t (allS M x l).1.nd i≠none) :
  applyS M setSt x l=((setSt (allS M x l).1).1,((l.length:Nat):Int),0):=by
 unfold applyS;rw [if_neg (by omega),if_neg (by rw [h];decide),setSt_good hw,if_neg (by simp),allS_full _ _ h]
theorem room_take {M:Int} {x:PSc} {l:List Op9} (ok:Ok x.t) (h:Room M x l.length) (k:Nat):(allS M x (l.take k)).1.t.length<=900:=by
 refine room_len ok ?_;have hk:(l.take k).length<=l.length:=by rw [List.length_take];omega
 obtain ⟨h1,h2⟩:=h;exact ⟨by omega,h2.imp (fun e=>by omega) id⟩
theorem DMap.alike {w:World} {m:Nat} {H H':Int->Bool} {nd nd':Int->Nd} (h:DMap w m H nd) (hH:∀ i,H' i=H i) (hn:∀ i,H i=true->nd' i=nd i):DMap w m H' nd':=by
 obtain ⟨es,h1,h2,h3⟩:=h.ex
 exact ⟨es,h1,fun i hi=>(hH i).trans (h2 i hi),fun i hi=>by
  rw [hH i] at hi;rw [hn i hi]
  exact h3 i hi⟩
theorem VM.no_cell {w:World} {m:Nat} {es:LV} (h:VM w m es) (j:Nat):w.cell? ⟨m,j,none⟩=none:=by
 obtain ⟨es',clock,h1,_⟩:=h.own;unfold World.cell?;rw [h1]
theorem DPl.grown {w w':World} {m:Nat} {es:LV} {v:Value} {n:Nd} (h:DPl w v n) (hm:VM w m es) (hg:w.grownBy w' (some m)):DPl w' v n:=by
 obtain ⟨A,c,e,hr⟩:=h;refine ⟨A,c,e,hr.stays fun a ea hne=>hg.block _ (Row.lt hr.row ea hne) fun e2=>?_⟩;obtain ⟨b,off,e3,hc⟩:=hr.row (List.length_pos_iff.2 hne);rw [ea] at e3;obtain rfl:=Option.some.inj e3;have h1:=hc 0 (List.length_pos_iff.2 hne);obtain rfl:b=m:=by simpa using e2
 rw [hm.no_cell] at h1;cases h1
theorem DMap.store {w:World} {m:Nat} {H:Int->Bool} {nd:Int->Nd} (h:DMap w m H nd) {t:T} (hH:∀ i,H i=has t i) (hn:t.length<=100000) {i:Int} (hi:I64 i) (hh:H i=true) {v:Value} {n:Nd} (hv:DPl w v n) :
  ∃ w',(Instr.mapUpdate tDNs (.map (some m)) (.int .i64 i) v).run Tryz.prog w=.ok () w'∧DMap w' m H (upd nd i n)∧w.grownBy w' (some m):=by
 obtain ⟨es,h1,h2,h3⟩:=h.ex;have hl:=es_le (t:=t) h1.rises fun j hj=>(hH j).symm.trans (h2 j hj);obtain ⟨w',hrun,hm,hg⟩:=h1.store (t:=tDNs) (E:=54) Tryz.underlying32 hi v (by have:=vput_len i v es;omega);refine ⟨w',hrun,⟨_,hm,fun j hj=>?_,fun j hj=>?_⟩,hg⟩
 ·rw [omap.look_put] at hj;by_cases e:j=i
  ·rw [e];exact hh
  ·rw [if_neg e] at hj;exact h2 j hj
 ·rw [omap.look_put];by_cases e:j=i
  ·rw [if_pos e,e,upd_same];exact ⟨v,rfl,hv.grown h1 hg⟩
  ·rw [if_neg e,upd_ne _ e];obtain ⟨u,e2,hu⟩:=h3 j hj;exact ⟨u,e2,hu.grown h1 hg⟩
theorem DMap.look {w:World} {m:Nat} {H:Int->Bool} {nd:Int->Nd} (h:DMap w m H nd) {i:Int} (hi:I64 i) (hh:H i=true) :
  ∃ A c,PxR w A (nd i).lk.l∧∀ W,Below w.heap.size w W->(Instr.lookup tDNs (.map (some m)) (.int .i64 i) false).run Tryz.prog W=.ok (.agg ((nd i).cs A c).toArray) W:=by
 obtain ⟨es,h1,h2,h3⟩:=h.ex;obtain ⟨v,e,A,c,rfl,hr⟩:=h3 i hh;refine ⟨A,c,hr,fun W hb=>?_⟩;rw [(h1.below hb).lookup (t:=tDNs) (E:=54) Tryz.underlying32 (zero_dn W) hi,e];rfl
theorem field_dn (n:Nd) (A:Option Addr) (c:Nat) (w:World):(Instr.field 54 (.agg (n.cs A c).toArray) 0).run Tryz.prog w=.ok (.agg n.m.cs.toArray) w:=by kernel_rfl
theorem DocAt.like {w:World} {v:Value} {wi hei M:Int} {x y:PSc} (h:DocAt w v wi hei M x) (h1:y.t=x.t) (h2:y.nd=x.nd):DocAt w v wi hei M y:=by
 obtain ⟨t,nd,ws⟩:=x;obtain ⟨t',nd',ws'⟩:=y;obtain rfl:t'=t:=h1;obtain rfl:nd'=nd:=h2;exact h
theorem blk_ret3 {P:Program} {fn:Func} {p q r:Tmp} {ty:TypeId} {tmps:Array Value} {w:World} {g:Nat} {cs:List Value} {d:TypeDesc} {v u:Value} {Q:Ending->World->Prop} (hfn:fn.results=#[.cell p ty,.tmp q,.tmp r])
  (hp:tmps.getD p undef=.pointer (some ⟨g,0,none⟩)) (hq:tmps.getD q undef=v) (hr:tmps.getD r undef=u) (hB:Blk w g cs) (hu:P.underlying ty=some d) (hd:(match d with | .struct _ | .array _ _=>true | _=>false)=true) (hi:(P.info? ty).map (·.size)=some cs.length)
  (h:Q (.returned (.tuple #[.agg cs.toArray,v,u])) w):bodyPost P fn Q Exit.ret { tmps:=tmps,defers:=[] } w:=by
 obtain ⟨T,hg⟩:=hB;refine bodyPost_ret_by (v:=.tuple #[.agg cs.toArray,v,u]) ?_ rfl h;have hp':tmps[p]?.getD undef=.pointer (some ⟨g,0,none⟩):=by simpa using hp
 have hq':tmps[q]?.getD undef=v:=by simpa using hq
 have hr':tmps[r]?.getD undef=u:=by simpa using hr
 simp [results,hfn,hp',hq',hr',asAddr,run_loadVar_row w g T ty _ _ d hg hu hd (by simpa using hi)]
theorem dworld_0 (wi hei M:Int) (tv:Value) (t:T) (m:Nat) (nd:Int->Nd) (w:World) (ht:DTree w tv t) (hm:DMap w m (has t) nd) :
  Calls Tryz.prog 49 #[.agg #[.int .i64 wi,.int .i64 hei,.int .i64 M,tv,.map (some m)],.int .i64 0] w fun e w'=>e=.returned (.tuple #[.agg (worldV t nd 0).1.cs.toArray,.bool (worldV t nd 0).2])∧Below w.heap.size w w':=by
 rw [worldV_0];obtain ⟨At,ct,rfl,hr,hy⟩:=ht;obtain ⟨An,cn,hrn,hlk⟩:=hm.look ⟨by decide,by decide⟩ (has_iff.2 (.inl rfl));have HLK:=Hd hlk;have HM0:=Hd hm;have HR:=Hd hr;have HY:=Hd hy;clear hlk hrn hm hr hy;have HB0:Hid (Below w.heap.size w ((w.alloc (.cells (Vc wi hei M At t.length ct m).toArray 34)).alloc (.cells Vd.toArray 47))):=(bR.alloc nR _).alloc (by simp) _
 have HKs:Hid (Blk ((w.alloc (.cells (Vc wi hei M At t.length ct m).toArray 34)).alloc (.cells Vd.toArray 47)) w.heap.size (Vc wi hei M At t.length ct m)):=(blk_new w (Vc wi hei M At t.length ct m) _).alloc _;have HKr:Hid (Blk ((w.alloc (.cells (Vc wi hei M At t.length ct m).toArray 34)).alloc (.cells Vd.toArray 47)) (w.heap.size+1) Vd):=blk_at (w.alloc _) _ (by simp) Vd _;go_enter Tryz.func49,Tryz.ntmps49
 go_upto_region 1 with (fail)
 generalize ((w.alloc (.cells (Vc wi hei M At t.length ct m).toArray 34)).alloc (.cells Vd.toArray 47))=w0 at *;have hlk:=HLK.out w0 HB0.out;have hfd:=field_dn (nd 0) An cn w0;have c4:=HKs.out.c 4 rfl;have i0:=HKs.out.inside;have HZ:Hid (Blk (w0.alloc (.cells Vd.toArray 47)) w0.heap.size Vd):=blk_new w0 Vd _;have HBz:Hid (Below w0.heap.size w0 (w0.alloc (.cells Vd.toArray 47))):=bR.alloc nR _
 go_upto_region 2 with (first | (with_reducible refine gS ?_;first | (refine wpl_stow 47 _ _ rfl rfl rfl _ 0 rfl ((nd 0).m.cs) rfl (Vd) HZ.out ((nd 0).m.cs) rfl (nE rfl) (by kernel_rfl) (Mp.one1 _) ?_;intro w1 HW1 HK1)))
 obtain ⟨z,hz⟩:∃ z,w0.heap.size=z:=⟨_,rfl⟩
 have HSZ:Hid (w.heap.size+1<z):=by rw [← hz];exact HKr.out.inside
 rw [hz] at HW1 HK1 HZ HBz ⊢
 have HB1:Hid (Below w.heap.size w w1):=(HW1.out.below (HB0.out.trans (HBz.out.mono (by have:=HSZ.out;omega))) (by have:=HSZ.out;omega))
 have HKr1:=Hd (HW1.out.blk (show w.heap.size+1≠z by have:=HSZ.out;omega) (HKr.out.below' (hz ▸ HBz.out)));have HKs1:=Hd (HW1.out.blk (show w.heap.size≠z by have:=HSZ.out;omega) (HKs.out.below' (hz ▸ HBz.out)));clear hlk hfd c4 i0 HLK HW1 HZ HBz HB0 HKs HKr hz
 go_wp2_with (first | (with_reducible refine gL ?_;first | (refine wt 47 0 rfl rfl rfl HK1.out ((nd 0).m.cs) rfl Tryz.underlying47 rfl ?_)) | (with_reducible refine gS ?_;first | (refine wpl_stow 47 _ _ rfl rfl rfl _ 0 rfl ((nd 0).m.cs) rfl (Vd) HKr1.out ((nd 0).m.cs) rfl (nE rfl) (by kernel_rfl) (Mp.one1 _) ?_;intro w2 HW2 HK2)));exact blk_ret2 rfl rfl rfl HK2.out Tryz.underlying47 rfl (by kernel_rfl) ⟨rfl,HW2.out.below HB1.out (by omega)⟩
theorem dworld_1 (wi hei M:Int) (tv:Value) (t:T) (m:Nat) (nd:Int->Nd) (ok:Ok t) (hn:t.length<=1000) (id0:Int) (w:World) (ht:DTree w tv t) (hm:DMap w m (has t) nd) (hi:id0∈ids t)
  (ih:∀ W,DTree W tv t->DMap W m (has t) nd->Calls Tryz.prog 49 #[.agg #[.int .i64 wi,.int .i64 hei,.int .i64 M,tv,.map (some m)],.int .i64 (par t id0)] W fun e w'=>e=.returned (.tuple #[.agg (worldV t nd (par t id0)).1.cs.toArray,.bool (worldV t nd (par t id0)).2])∧Below W.heap.size W w') :
  Calls Tryz.prog 49 #[.agg #[.int .i64 wi,.int .i64 hei,.int .i64 M,tv,.map (some m)],.int .i64 id0] w fun e w'=>e=.returned (.tuple #[.agg (worldV t nd id0).1.cs.toArray,.bool (worldV t nd id0).2])∧Below w.heap.size w w':=by
 have h64:I64 id0:=has_64 ok (has_iff.2 (.inr hi));have hne:=ok.ne0 hi;have q:(id0==0)=false:=by simpa using hne
 have hhi:has t id0=true:=has_iff.2 (.inr hi);have HP:=Hd (fun A c W hr=>dpar A t c id0 W hr (by omega));have HIH:=Hd ih;rw [worldV_step ok nd hi];clear ih ok hi hne
 obtain ⟨qv,hqv⟩:∃ qv,worldV t nd (par t id0)=qv:=⟨_,rfl⟩
 rw [hqv] at HIH ⊢;clear hqv
 obtain ⟨R,hR⟩:∃ R,vstep (nd id0).m qv=R:=⟨_,rfl⟩
 have HE:=Hd hR;rw [hR];clear hR;generalize par t id0=pp at *;obtain ⟨At,ct,rfl,hr,hy⟩:=ht;obtain ⟨An,cn,hrn,hlk⟩:=hm.look h64 hhi;have HLK:=Hd hlk;have HM0:=Hd hm;have HR:=Hd hr;have HY:=Hd hy;clear hlk hrn hm hr hy;have HB0:Hid (Below w.heap.size w ((w.alloc (.cells (Vc wi hei M At t.length ct m).toArray 34)).alloc (.cells Vd.toArray 47))):=(bR.alloc nR _).alloc (by simp) _
 have HKs:Hid (Blk ((w.alloc (.cells (Vc wi hei M At t.length ct m).toArray 34)).alloc (.cells Vd.toArray 47)) w.heap.size (Vc wi hei M At t.length ct m)):=(blk_new w (Vc wi hei M At t.length ct m) _).alloc _;have HKr:Hid (Blk ((w.alloc (.cells (Vc wi hei M At t.length ct m).toArray 34)).alloc (.cells Vd.toArray 47)) (w.heap.size+1) Vd):=blk_at (w.alloc _) _ (by simp) Vd _;go_enter Tryz.func49,Tryz.ntmps49
 go_upto_region 1 with (fail)
 generalize ((w.alloc (.cells (Vc wi hei M At t.length ct m).toArray 34)).alloc (.cells Vd.toArray 47))=w0 at *;have hlk:=HLK.out w0 HB0.out;have hfd:=field_dn (nd id0) An cn w0;have c4:=HKs.out.c 4 rfl;have i0:=HKs.out.inside;have HZ:Hid (Blk (w0.alloc (.cells Vd.toArray 47)) w0.heap.size Vd):=blk_new w0 Vd _;have HBz:Hid (Below w0.heap.size w0 (w0.alloc (.cells Vd.toArray 47))):=bR.alloc nR _
 go_upto_region 2 with (first | (with_reducible refine gS ?_;first | (refine wpl_stow 47 _ _ rfl rfl rfl _ 0 rfl ((nd id0).m.cs) rfl (Vd) HZ.out ((nd id0).m.cs) rfl (nE rfl) (by kernel_rfl) (Mp.one1 _) ?_;intro w1 HW1 HK1)))
 obtain ⟨z,hz⟩:∃ z,w0.heap.size=z:=⟨_,rfl⟩
 have HSZ:Hid (w.heap.size+1<z):=by rw [← hz];exact HKr.out.inside
 rw [hz] at HW1 HK1 HZ HBz ⊢
 have HB1:Hid (Below w.heap.size w w1):=(HW1.out.below (HB0.out.trans (HBz.out.mono (by have:=HSZ.out;omega))) (by have:=HSZ.out;omega))
 have HKr1:=Hd (HW1.out.blk (show w.heap.size+1≠z by have:=HSZ.out;omega) (HKr.out.below' (hz ▸ HBz.out)));have HKs1:=Hd (HW1.out.blk (show w.heap.size≠z by have:=HSZ.out;omega) (HKs.out.below' (hz ▸ HBz.out)));clear hlk hfd c4 i0 HLK HW1 HZ HBz HB0 HKs HKr hz;clear hhi h64;have FS:Hid (∀ W,Below w1.heap.size w1 W->Blk W w.heap.size (Vc wi hei M At t.length ct m)):=fun W hb=>HKs1.out.below' hb
 have FP:Hid (∀ W,Below w1.heap.size w1 W->Calls Tryz.prog 16 #[.slice At t.length ct,.int .i64 id0] W fun e w'=>e=.returned (.int .i64 pp)∧Below W.heap.size W w'):=fun W hb=>HP.out At ct W (SRow.below HR.out (HB1.out.trans (hb.mono HB1.out.size)))
 have FW:Hid (∀ W,Below w1.heap.size w1 W->Calls Tryz.prog 49 #[.agg (Vc wi hei M At t.length ct m).toArray,.int .i64 pp] W fun e w'=>e=.returned (.tuple #[.agg qv.1.cs.toArray,.bool qv.2])∧Below W.heap.size W w'):=fun W hb=>HIH.out W (DTree.below ⟨At,ct,rfl,HR.out,HY.out⟩ (HB1.out.trans (hb.mono HB1.out.size))) (HM0.out.below (HB1.out.trans (hb.mono HB1.out.size)))
 go_upto_region 4 with (fail)
 refine wRv (Below w1.heap.size) (fun L V wx=>JN w1.heap.size [] (Vd) (qv.1.cs) (L 9) (L 10) (V 7) wx) [18,19,20,21,22,23,17,24,25,7,8] (fun _=>bR) (fun _ _ _ h k=>h.trans k) (fun i=>match i with
  |0=>rV (.agg ((Vc wi hei M At t.length ct m)).toArray)
  |1=>rp w.heap.size 3
  |2=>rV (.slice At t.length ct)
  |3=>rV (.int .i64 id0)
  |4=>rV (.int .i64 pp)
  |5|6=>rV (.tuple #[.agg (qv.1.cs).toArray,.bool qv.2])
  |7=>rV (.agg (qv.1.cs).toArray)
  |8|11=>rV (.bool qv.2)
  | _=>ra) (bR.drew) (JN.start (old:=[]) trivial) ⟨?_,?_,?_,?_,?_,?_,?_,?_,?_,?_,?_,?_,trivial⟩ ?_
 any_goals (first|refine zpv fun L a w1 hh=>?_|fail)
 ·have h2:=hh.p 2 w.heap.size 0;have hB:=Hd (FS.out _ hh.rel);have hJ:=Hd hh.st;exact wp_take 34 _ rfl w.heap.size 0 (by simpa [go_sem] using h2) _ hB.out ((Vc wi hei M At t.length ct m)) rfl _ Tryz.underlying34 rfl (by kernel_rfl) ⟨_,rfl,bR,rfl,JN.slots hJ.out sn⟩
 have h2:=hh.p 2 w.heap.size 0;have i0:=(FS.out _ hh.rel).inside;rotate_left;have h19:=rq (hh.d 1 19);have ⟨c0,i0⟩:=(FS.out _ hh.rel).ci 3 rfl;rotate_left;have h1:=hh.o 1 (v:=.int .i64 id0) rfl;rotate_left
 ·have h20:=rq (hh.d 2 20);have h21:=rq (hh.d 3 21);have hC:=Hd (FP.out _ hh.rel);have hJ:=hh.j;clear hh;go_simp;refine hC.out.mono ?_;rintro e w9 ⟨rfl,hb9⟩;exact ⟨_,rfl,hb9.mono hJ.out.1.2.1,rfl,JN.slots (JN.below hJ.out hb9) sn⟩
 ·have h18:=rq (hh.d 0 18);have h22:=rq (hh.d 4 22);have hC:=Hd (FW.out _ hh.rel);have hJ:=hh.j;clear hh;go_simp;refine hC.out.mono ?_;rintro e w9 ⟨rfl,hb9⟩;exact ⟨_,rfl,hb9.mono hJ.out.1.2.1,rfl,JN.slots (JN.below hJ.out hb9) sn⟩
 have h23:=rq (hh.d 5 23);rotate_left;have h17:=rq (hh.d 6 17);rotate_left;have h17:=rq (hh.d 6 17);rotate_left
 ·have hJ:=Hd hh.st;have hsz:=Hd hh.size;have hun:=Hd hh.un;clear hh;go_simp;exact ⟨_,rfl,bR.alloc hJ.out.1.2.1 _,trivial,JN.new hJ.out hun.out (regv.sl_same (by rw [hsz.out];simp))⟩
 ·have h24:=rq (hh.d 7 24);have hup:=hh.up 9 (by kernel_rfl);obtain ⟨g9,h9,hg9,hB9⟩:=hh.st.2.1 hup;have h7:a.tmps[7]?.getD undef=.pointer (some ⟨g9,0,none⟩):=rq (h9);rw [hh.un] at hB9;have hJ:=Hd hh.st;have hun:=Hd hh.un;refine wp_stow 47 _ _ rfl g9 0 (by simpa [go_sem] using h7) (qv.1.cs) (by simpa [go_sem] using h24) _ hB9 (nE rfl) (by kernel_rfl) (by rfl) ?_;intro w9 hW9 hC9;have hP:=hJ.out.stow hup hun.out h9 hW9 hC9 rfl;exact ⟨undef,rfl,hP.2,trivial,hP.1⟩
 have h25:=rq (hh.d 8 25);rotate_left
 any_goals (have hJ:=hh.j;clear hh;go_simp;exact ⟨_,rfl,bR,rfl,JN.slots hJ.out sn⟩)
 intro L w4 val hL hJ hR hv;have h8:val 8=.bool qv.2:=hv 11 8 (by kernel_rfl);have HR4:=Hd hR;obtain ⟨g7,e7,hg7,hB7⟩:=hJ.2.1 (hL 9 (by decide));have HB6:=Hd (And.intro hg7 (show Blk w4 g7 qv.1.cs by rw [hL 10 (by decide)] at hB7;exact hB7));clear hv hL hJ hR hg7 hB7;simp only [regs.putAll,List.map_cons,List.map_nil,h8];simp only [Act.put,List.setIfInBounds_toArray,List.set_cons_zero,List.set_cons_succ];clear h8
 skip
 rw [e7];clear e7;have FK4:=Hd (HB1.out.trans (HR4.out.mono HB1.out.size));have HKr4:=Hd (HKr1.out.below' HR4.out);have HK4:=Hd (HK1.out.below' HR4.out);have HG7:Hid (w.heap.size+1≠g7):=by have h1:=HB6.out.1;have h2:=HKr1.out.inside;show _≠_;omega
 obtain ⟨qm,qb⟩:=qv;cases qb with
 | false=>
  have HE2:Hid (R=(qm,false)):=by show _=_;rw [← HE.out];rfl
  go_wp2_with (first | (with_reducible refine gL ?_;first | (refine wpl_take 47 _ rfl rfl _ 0 rfl (qm.cs) HB6.out.2 (qm.cs) rfl _ Tryz.underlying47 rfl (by kernel_rfl) ?_)) | (with_reducible refine gS ?_;first | (refine wpl_stow 47 _ _ rfl rfl rfl _ 0 rfl (qm.cs) rfl (Vd) HKr4.out (qm.cs) rfl (nE rfl) (by kernel_rfl) (Mp.one1 _) ?_;intro w5 HW5 HK5)));rw [HE2.out];exact blk_ret2 rfl rfl rfl HK5.out Tryz.underlying47 rfl (by kernel_rfl) ⟨rfl,HW5.out.below FK4.out (by omega)⟩
 | true=>
  have HE2:Hid (R=(if (nd id0).m.thenB qm=true then (nd id0).m.then1 qm else Mp.o,(nd id0).m.thenB qm)):=by show _=_;rw [← HE.out];rfl
  obtain ⟨rm,hrm⟩:∃ rm,(if (nd id0).m.thenB qm=true then (nd id0).m.then1 qm else Mp.o)=rm:=⟨_,rfl⟩
  have HT:=Hd (mp_dthen (nd id0).m qm w4);rw [hrm] at HE2 HT;clear hrm;go_wp2_with (first | (with_reducible refine gL ?_;first | (refine wt 47 0 rfl rfl rfl HK4.out ((nd id0).m.cs) rfl Tryz.underlying47 rfl ?_) | (refine wpl_take 47 _ rfl rfl _ 0 rfl (qm.cs) HB6.out.2 (qm.cs) rfl _ Tryz.underlying47 rfl (by kernel_rfl) ?_)));refine HT.out.mono ?_;rintro e w5 ⟨rfl,hb5⟩;have FK5:Hid (Below w.heap.size w w5):=FK4.out.trans (hb5.mono FK4.out.size);have HKr5:=Hd (HKr4.out.below' hb5);clear hb5;unfold Mp.v
  go_wp2_with (first | (with_reducible refine gS ?_;first | (refine wpl_stow 47 _ _ rfl rfl rfl _ 0 rfl (rm.cs) rfl (Vd) HKr5.out (rm.cs) rfl (nE rfl) (by kernel_rfl) (Mp.one1 _) ?_;intro w6 HW6 HK6)));rw [HE2.out];exact blk_ret2 rfl rfl rfl HK6.out Tryz.underlying47 rfl (by kernel_rfl) ⟨rfl,HW6.out.below FK5.out (by omega)⟩
theorem dworld_any (wi hei M:Int) (tv:Value) (t:T) (m:Nat) (nd:Int->Nd) (ok:Ok t) (hn:t.length<=1000) (k:Nat):∀ (i:Int) (w:World),DTree w tv t->DMap w m (has t) nd->has t i=true->depth t i<=k ->
  Calls Tryz.prog 49 #[.agg #[.int .i64 wi,.int .i64 hei,.int .i64 M,tv,.map (some m)],.int .i64 i] w fun e w'=>e=.returned (.tuple #[.agg (worldV t nd i).1.cs.toArray,.bool (worldV t nd i).2])∧Below w.heap.size w w':=by
 induction k with
 | zero=>
  intro i w ht hm hh hd
  have h0:i=0:=by
   rcases has_iff.1 hh with e | e
   ·exact e
   ·rw [depth_step ok e] at hd;omega
  subst h0;exact dworld_0 wi hei M tv t m nd w ht hm
 | succ k ih=>
  intro i w ht hm hh hd;by_cases h0:i=0
  ·subst h0;exact dworld_0 wi hei M tv t m nd w ht hm
  have hi:=(has_iff.1 hh).resolve_left h0;rw [depth_step ok hi] at hd;exact dworld_1 wi hei M tv t m nd ok hn i w ht hm hi (fun W ht hm=>ih (par t i) W ht hm (has_iff.2 (ok.par_ok hi)) (by omega))
end
section
open Go.RowKit pxm imm trm Go.Maps
theorem VM.not_b {w:World} {m g:Nat} {es:LV} {cs:List Value} (h:VM w m es) (hb:Blk w g cs):g≠m:=fun e=>by
 obtain ⟨es',clock,h1,_⟩:=h.own;obtain ⟨T,hT⟩:=hb;rw [e] at hT;have:=hT.symm.trans h1;cases this
theorem DMap.not_b {w:World} {m g:Nat} {H:Int->Bool} {nd:Int->Nd} {cs:List Value} (h:DMap w m H nd) (hb:Blk w g cs):g≠m:=by
 obtain ⟨es,h1,-⟩:=h.ex;exact h1.not_b hb
theorem pick_px {w:World} {o:Op9} {Ao An:Option Addr} {n:Nd} (h1:PxR w Ao o.lk.l) (h2:PxR w An n.lk.l):PxR w (pick7 o Ao An) (setN n o).lk.l:=by
 by_cases h7:o.k=7
 ·have e:(setN n o).lk=o.lk:=by unfold setN;rw [if_neg (by omega),if_neg (by omega),if_neg (by omega),if_pos h7]
  rw [e,show pick7 o Ao An=Ao from if_pos h7];exact h1
 ·rw [setN_lk h7,show pick7 o Ao An=An from if_neg h7];exact h2
def noPx (cs:List Value):Prop:=∀ c∈cs,∀ z,c≠.int .u32 z
theorem DPl.wrote {w w':World} {g:Nat} {cs:List Value} {v:Value} {n:Nd} (h:DPl w v n) (hb:Blk w g cs) (hc:noPx cs) (hW:Wrote g w w'):DPl w' v n:=by
 obtain ⟨A,c,e,hr⟩:=h;refine ⟨A,c,e,hr.stays fun a ea hne=>hW.far fun e2=>?_⟩;obtain ⟨b,off,e3,hcl⟩:=hr.row (List.length_pos_iff.2 hne);rw [ea] at e3;obtain rfl:=Option.some.inj e3;have h1:=hcl 0 (List.length_pos_iff.2 hne);obtain rfl:b=g:=e2;have h2:=hb.cell (off+0);rw [h1] at h2;exact hc _ (List.mem_of_getElem? h2.symm) _ rfl
theorem DMap.wrote {w w':World} {m g:Nat} {H:Int->Bool} {nd:Int->Nd} {cs:List Value} (h:DMap w m H nd) (hb:Blk w g cs) (hc:noPx cs) (hW:Wrote g w w'):DMap w' m H nd:=by
 have hne:=h.not_b hb;obtain ⟨es,h1,h2,h3⟩:=h.ex;refine ⟨es,h1.stays (hW.far (Ne.symm hne)),h2,fun i hi=>?_⟩;obtain ⟨v,e,hv⟩:=h3 i hi;exact ⟨v,e,hv.wrote hb hc hW⟩
theorem DTree.wrote {w w':World} {g:Nat} {v:Value} {t:T} {cs:List Value} {T:TypeId} (h:DTree w v t) (hb:BlkT w g cs T) (hT:T≠132) (hW:Wrote g w w'):DTree w' v t:=
 h.stays fun _ _ _ _ hy ea=>hW.far (hy.not_blk ea hb hT)
theorem DTree.grown {w w':World} {m:Nat} {v:Value} {t:T} {H:Int->Bool} {nd:Int->Nd} (h:DTree w v t) (hm:DMap w m H nd) (hg:w.grownBy w' (some m)):DTree w' v t:=
 h.stays fun _ _ a _ hy ea=>hg.block _ (by obtain ⟨cs,fz,h1⟩:=hy a ea;exact lt_of_block h1) fun e=>by
  obtain ⟨cs,fz,h1⟩:=hy a ea;obtain ⟨es,⟨_,⟨es',clock,h2,_⟩,_⟩,_⟩:=hm.ex;have e3:a.block=m:=by simpa using e
  rw [e3] at h1;have:=h1.symm.trans h2;cases this
theorem DocAt.wrote {w w':World} {v:Value} {wi hei M:Int} {x:PSc} {g:Nat} {cs:List Value} {T:TypeId} (h:DocAt w v wi hei M x) (hb:BlkT w g cs T) (hT:T≠132) (hc:noPx cs) (hW:Wrote g w w'):DocAt w' v wi hei M x:=by
 obtain ⟨tv,m,e,h1,h2⟩:=h;exact ⟨tv,m,e,h1.wrote hb hT hW,h2.wrote hb.blk hc hW⟩
theorem blkT_at (w:World) (g:Nat) (hg:g=w.heap.size) (cs:List Value) (T:TypeId):BlkT (w.alloc (.cells cs.toArray T)) g cs T:=hg ▸ BlkT.new w cs T
theorem DTree.srow {w:World} {A:Option Addr} {c:Nat} {t:T} (h:DTree w (.slice A t.length c) t):RRow w A t:=by
 obtain ⟨A',c',e,hr,_⟩:=h
 injection e with e _ _
 rw [e];exact hr
def DSh (v:Value):Prop:=∃ cs:List Value,v=.agg cs.toArray∧cs.length=5∧noPx cs∧cs.all (·.oneCell')=true
theorem dsh (wi hei M:Int) (A:Option Addr) (n c:Nat) (m:Option Nat):DSh (.agg #[.int .i64 wi,.int .i64 hei,.int .i64 M,.slice A n c,.map m]):=⟨[.int .i64 wi,.int .i64 hei,.int .i64 M,.slice A n c,.map m],rfl,rfl,by unfold noPx;simp,rfl⟩
structure MJ (B:Nat) (old:List (Nat×List Value)) (m:Nat) (H:Int->Bool) (nd nd':Int->Nd) (tv:Value) (t:T) (gr:Nat) (d:Bool) (w:World):Prop where
 old:JBs old w
 bsz:B<=w.heap.size
 no:d=false->DMap w m H nd
 yes:d=true->DMap w m H nd'
 tr:DTree w tv t
 rt:BlkT w gr Vi tDoc
theorem MJ.below {B:Nat} {old:List (Nat×List Value)} {m:Nat} {H:Int->Bool} {nd nd':Int->Nd} {tv:Value} {t:T} {gr:Nat} {d:Bool} {w w':World} (h:MJ B old m H nd nd' tv t gr d w) (hb:Below w.heap.size w w'):MJ B old m H nd nd' tv t gr d w':=
 ⟨h.old.below hb,Nat.le_trans h.bsz hb.size,fun e=>(h.no e).below hb,fun e=>(h.yes e).below hb,h.tr.below hb,h.rt.stays (hb.block _ h.rt.inside)⟩
theorem JBs.grown {w w':World} {m:Nat} {H:Int->Bool} {nd:Int->Nd} (hm:DMap w m H nd) (hg:w.grownBy w' (some m)):∀ {old:List (Nat×List Value)},JBs old w->JBs old w'
 | [],_=>trivial
 | _::_,h=>⟨h.1.stays (hg.block _ h.1.inside fun e=>hm.not_b h.1 (Option.some.inj e)),JBs.grown hm hg h.2⟩
theorem MJ.store {B:Nat} {old:List (Nat×List Value)} {m:Nat} {H:Int->Bool} {nd:Int->Nd} {tv:Value} {u t:T} {gr:Nat} {w:World} {i:Int} {n:Nd} {v:Value} (h:MJ B old m H nd (upd nd i n) tv u gr false w) (hH:∀ i,H i=has t i) (hn:t.length<=100000) (hi:I64 i) (hh:H i=true) (hv:DPl w v n) (hm:B<=m) :
  ∃ w',(Instr.mapUpdate tDNs (.map (some m)) (.int .i64 i) v).run Tryz.prog w=.ok () w'∧MJ B old m H nd (upd nd i n) tv u gr true w'∧Below B w w':=by
 have h0:=h.no rfl;obtain ⟨w',hrun,hd,hg⟩:=h0.store hH hn hi hh hv;refine ⟨w',hrun,⟨JBs.grown h0 hg h.old,Nat.le_trans h.bsz hg.size,nofun,fun _=>hd,h.tr.grown h0 hg,h.rt.stays (hg.block _ h.rt.inside fun e=>h0.not_b h.rt.blk (Option.some.inj e))⟩,bR.grown hg h.bsz fun j e=>by cases e;exact hm⟩
def DoDQ (wi hei M:Int) (r:PSc×Int) (w:World) (e:Ending) (w':World):Prop:=∃ v',e=.returned (.tuple #[v',.int .i64 r.2])∧DSh v'∧(r.2=0->DocAt w' v' wi hei M r.1)∧Below w.heap.size w w'
theorem ddo_1 (o:Op9) (Ao:Option Addr) (co:Nat) (wi hei M:Int) (tv:Value) (x:PSc) (m:Nat) (ok:Ok x.t) (hn:x.t.length<=900) (hg:Good x) (hfx:∀ i,Fit (x.nd i)) (ho:OpOk o) (w:World) (hr:PxR w Ao o.lk.l) (ht:DTree w tv x.t) (hm:DMap w m (has x.t) x.nd) (h1:o.k=1):Calls Tryz.prog 80 #[.agg #[.int .i64 wi,.int .i64 hei,.int .i64 M,tv,.map (some m)],.agg (o.dcs Ao co).toArray] w (DoDQ wi hei M (doS M x o) w):=by
 obtain ⟨At,ct,rfl,hrt,hy⟩:=ht
 have HT:Hid (DTree w (.slice At x.t.length ct) x.t):=⟨At,ct,rfl,hrt,hy⟩
 have HM0:=Hd hm;have HR:=Hd hr;have HOK:=Hd ok;have HN:=Hd hn;have HG:=Hd hg;have HFX:=Hd hfx;have HO:=Hd ho;unfold DoDQ
 obtain ⟨R,hR⟩:∃ R,doS M x o=R:=⟨_,rfl⟩
 have HE:=Hd hR;rw [hR];clear hR hm hr hrt hy ok hn hg hfx ho;have HB0:Hid (Below w.heap.size w (((w.alloc (.cells (Vc wi hei M At x.t.length ct m).toArray 34)).alloc (.cells (o.dcs Ao co).toArray 193)).alloc (.cells Vi.toArray 34))):=((bR.alloc nR _).alloc (by simp) _).alloc (by simp;omega) _;have HKs:Hid (BlkT (((w.alloc (.cells (Vc wi hei M At x.t.length ct m).toArray 34)).alloc (.cells (o.dcs Ao co).toArray 193)).alloc (.cells Vi.toArray 34)) w.heap.size (Vc wi hei M At x.t.length ct m) 34):=((BlkT.new w (Vc wi hei M At x.t.length ct m) 34).al _).al _
 have HKo:Hid (Blk (((w.alloc (.cells (Vc wi hei M At x.t.length ct m).toArray 34)).alloc (.cells (o.dcs Ao co).toArray 193)).alloc (.cells Vi.toArray 34)) (w.heap.size+1) (o.dcs Ao co)):=(blk_at (w.alloc _) _ (by simp) (o.dcs Ao co) _).alloc _;have HKr:Hid (BlkT (((w.alloc (.cells (Vc wi hei M At x.t.length ct m).toArray 34)).alloc (.cells (o.dcs Ao co).toArray 193)).alloc (.cells Vi.toArray 34)) (w.heap.size+2) Vi 34):=blkT_at ((w.alloc _).alloc _) _ (by simp) Vi 34;go_enter Tryz.func80,Tryz.ntmps80
 go_upto_region 1 with (fail)
 generalize (((w.alloc (.cells (Vc wi hei M At x.t.length ct m).toArray 34)).alloc (.cells (o.dcs Ao co).toArray 193)).alloc (.cells Vi.toArray 34))=w0 at *;have c0:=HKo.out.c 0 rfl;have c1:=HKo.out.c 1 rfl;have c2:=HKo.out.c 2 rfl;have c3:=HKo.out.c 3 rfl;have ci:w.heap.size+1<w0.heap.size:=HKo.out.inside;have s3:w0.cell? ⟨w.heap.size,3,none⟩=some (.slice At x.t.length ct):=HKs.out.blk.cell 3;have si:w.heap.size<w0.heap.size:=HKs.out.inside;have t1:(o.k==1)=true:=by simpa using h1
 have HE1:Hid (R=createS M x o.i o.p o.n):=by show _=_;rw [← HE.out];unfold doS;rw [if_pos h1]
 clear h1 HE;go_wp2_with (fail);refine (dadd _ x.t o.i o.p o.n w0 (HT.out.below HB0.out) (by have:=HN.out;omega)).mono ?_;rintro e w1 ⟨v1,rfl,hd1,hb1⟩;have HB1:=Hd (HB0.out.trans (hb1.mono HB0.out.size));have HKs1:=Hd (BlkT.stays HKs.out ((hb1).block _ HKs.out.inside));have HKr1:=Hd (BlkT.stays HKr.out ((hb1).block _ HKr.out.inside));have HKo1:=Hd (HKo.out.below' hb1);clear hb1 HKs HKo HKr HB0 c0 c1 c2 c3 ci s3 si
 obtain ⟨⟨t1',e1⟩,hq⟩:∃ q,addS x.t o.i o.p o.n=q:=⟨_,rfl⟩
 have HQ:=Hd hq;unfold createS at HE1;rw [hq] at HE1 hd1 ⊢;simp only at HE1 hd1 ⊢;clear hq;obtain ⟨A1,n1,rfl,hr1,hy1⟩:=hd1
 have HD1:Hid (DTree w1 (.slice A1 t1'.length n1) t1'):=⟨A1,n1,rfl,hr1,hy1⟩
 clear hr1 hy1;by_cases he:¬ e1=0
 ·have q:(e1==0)=false:=by simpa using he
  have HE2:Hid (R=(x,e1)):=by show _=_;rw [HE1.out,if_pos he]
  have HNE:=Hd he;clear HE1 he;go_wp2_with (first | (with_reducible refine gL ?_;first | (refine wt 34 0 rfl rfl rfl HKs1.out.blk ((Vc wi hei M At x.t.length ct m)) rfl Tryz.underlying34 rfl ?_)) | (with_reducible refine gS ?_;first | (refine wpl_stow 34 _ _ rfl rfl rfl _ 0 rfl ((Vc wi hei M At x.t.length ct m)) rfl (Vi) HKr1.out.blk ((Vc wi hei M At x.t.length ct m)) rfl (nE rfl) (by kernel_rfl) rfl ?_;intro w2 HW2 HK2)));rw [HE2.out]
  exact blk_ret2 rfl rfl rfl HK2.out Tryz.underlying34 rfl (by kernel_rfl) ⟨_,rfl,dsh _ _ _ _ _ _ _,fun e=>absurd e HNE.out,HW2.out.below HB1.out (by omega)⟩
 ·obtain rfl:e1=0:=Decidable.not_not.1 he;clear he;have q:((0:Int)==0)=true:=by decide
  obtain ⟨bk1,bk2,bk3,bk4,-,-⟩:=addS_back HOK.out HQ.out;have HLN:=Hd (addS_len HOK.out HQ.out);have HHB:Hid (∀ j,has t1' j=true↔j=o.i∨has x.t j=true):=bk4;have HOK1:=Hd bk1;have HTI:Hid (has t1' o.i=true):=has_iff.2 (.inr bk2);clear bk1 bk2 bk3 bk4;rw [if_neg (by decide)] at HE1;have hxn:(x.t.length:Int)<=900:=by have:=HN.out;omega
  have s2:w1.cell? ⟨w.heap.size,2,none⟩=some (.int .i64 M):=HKs1.out.blk.cell 2;have s3:w1.cell? ⟨w.heap.size,3,none⟩=some (.slice At x.t.length ct):=HKs1.out.blk.cell 3;have si:w.heap.size<w1.heap.size:=HKs1.out.inside;by_cases hM:M<((x.t.length+2:Nat):Int)
  ·have q2:decide (M<=(x.t.length:Int)+1)=true:=decide_eq_true (by omega);have HE2:Hid (R=(x,36)):=by show _=_;rw [HE1.out,if_pos hM]
   clear HE1 hM;go_wp2_with (first | (with_reducible refine gL ?_;first | (refine wt 34 0 rfl rfl rfl HKs1.out.blk ((Vc wi hei M At x.t.length ct m)) rfl Tryz.underlying34 rfl ?_)) | (with_reducible refine gS ?_;first | (refine wpl_stow 34 _ _ rfl rfl rfl _ 0 rfl ((Vc wi hei M At x.t.length ct m)) rfl (Vi) HKr1.out.blk ((Vc wi hei M At x.t.length ct m)) rfl (nE rfl) (by kernel_rfl) rfl ?_;intro w2 HW2 HK2)));rw [HE2.out]
   exact blk_ret2 rfl rfl rfl HK2.out Tryz.underlying34 rfl (by kernel_rfl) ⟨_,rfl,dsh _ _ _ _ _ _ _,fun e=>absurd (show (36:Int)=0 from e) (by decide),HW2.out.below HB1.out (by omega)⟩
  ·have q2:decide (M<=(x.t.length:Int)+1)=false:=decide_eq_false (by omega);have HE2:Hid (R=(⟨t1',upd x.nd o.i Nd.plain,upd x.ws o.i Mp.o⟩,0)):=by show _=_;rw [HE1.out,if_neg hM]
   clear HE1 hM;have f3:w1.frozen? ⟨w.heap.size,3,none⟩=false:=HKs1.out.blk.free 3
   go_upto_region 8 with (fail)
   have HS:Hid (Wrote w.heap.size w1 (w1.setCell ⟨w.heap.size,3,none⟩ (.slice A1 t1'.length n1))):=⟨3,[.slice A1 t1'.length n1],rfl⟩
   have HKs2:Hid (BlkT (w1.setCell ⟨w.heap.size,3,none⟩ (.slice A1 t1'.length n1)) w.heap.size (Vc wi hei M A1 t1'.length n1 m) 34):=HKs1.out.set 3 _;generalize hwq:(w1.setCell ⟨w.heap.size,3,none⟩ (.slice A1 t1'.length n1))=w2 at *;clear hwq;have HB2:Hid (Below w.heap.size w w2):=HS.out.below HB1.out nR;have HKr2:Hid (BlkT w2 (w.heap.size+2) Vi 34):=HKr1.out.stays (HS.out.far (by omega));have HKo2:=Hd (HS.out.blk (show w.heap.size+1≠w.heap.size by omega) HKo1.out);have HD2:Hid (DTree w2 (.slice A1 t1'.length n1) t1'):=HD1.out.wrote HKs1.out (by decide) HS.out
   go_wp2_with (first | (with_reducible refine gL ?_;first | (refine wt 34 0 rfl rfl rfl HKs2.out.blk ((Vc wi hei M A1 t1'.length n1 m)) rfl Tryz.underlying34 rfl ?_)));refine (dcopied_any wi hei M _ t1' m (has x.t) x.nd HOK1.out (by have:=HLN.out;have:=HN.out;omega) w2 HD2.out (HM0.out.below HB2.out)).mono ?_;rintro e w3 ⟨m',rfl,hdm,hbq,hmq⟩;have HDM3:=Hd hdm;have HMG3:Hid (w.heap.size<=m'):=Nat.le_trans HB2.out.size hmq;have HD3:=Hd (HD2.out.below hbq);have HB3:=Hd (HB2.out.trans (hbq.mono HB2.out.size));have HKs3:=Hd (BlkT.stays HKs2.out ((hbq).block _ HKs2.out.inside))
   have HKr3:=Hd (BlkT.stays HKr2.out ((hbq).block _ HKr2.out.inside));have HKo3:=Hd (HKo2.out.below' hbq);clear hdm hbq hmq s2 s3 si f3 HKs2 HKr2 HKo2 HD2 HB2 HS HKs1 HKr1 HKo1 HD1 HB1;have HMM:Hid (w.heap.size+2≠m'):=HDM3.out.not_b HKr3.out.blk
   go_upto_region 9 with (first | (with_reducible refine gS ?_;first | (refine wpl_stow 34 _ _ rfl rfl rfl _ 0 rfl ((Vc wi hei M A1 t1'.length n1 m')) rfl ((Vc wi hei M A1 t1'.length n1 m)) HKs3.out.blk ((Vc wi hei M A1 t1'.length n1 m')) rfl (nE rfl) (by kernel_rfl) rfl ?_;intro w4 HW4 HK4)))
   have HD4:Hid (DTree w4 (.slice A1 t1'.length n1) t1'):=HD3.out.wrote HKs3.out (by decide) HW4.out;have HDM4:Hid (DMap w4 m' (has t1') (ndH (has x.t) x.nd)):=HDM3.out.wrote HKs3.out.blk (by unfold noPx;simp) HW4.out;have HB4:Hid (Below w.heap.size w w4):=HW4.out.below HB3.out nR;have HKr4:Hid (BlkT w4 (w.heap.size+2) Vi 34):=HKr3.out.stays (HW4.out.far (by omega));have HKo4:=Hd (HW4.out.blk (show w.heap.size+1≠w.heap.size by omega) HKo3.out)
   have HJ0:Hid (MJ w.heap.size [(w.heap.size,(Vc wi hei M A1 t1'.length n1 m')),(w.heap.size+1,o.dcs Ao co),(w.heap.size+2,Vi)] m' (has t1') (ndH (has x.t) x.nd) (upd (ndH (has x.t) x.nd) o.i Nd.plain) (.slice A1 t1'.length n1) t1' (w.heap.size+2) false w4):=⟨⟨HK4.out,HKo4.out,HKr4.out.blk,trivial⟩,HB4.out.size,fun _=>HDM4.out,nofun,HD4.out,HKr4.out⟩
   have HMG:Hid (w.heap.size<=m'):=HMG3.out;have HMI:Hid (t1'.length<=100000):=by have:=HLN.out;have:=HN.out;show _<=_;omega
   refine wR (Below w.heap.size) (fun L wx=>MJ w.heap.size [(w.heap.size,(Vc wi hei M A1 t1'.length n1 m')),(w.heap.size+1,o.dcs Ao co),(w.heap.size+2,Vi)] m' (has t1') (ndH (has x.t) x.nd) (upd (ndH (has x.t) x.nd) o.i Nd.plain) (.slice A1 t1'.length n1) t1' (w.heap.size+2) (L 5) wx) [46,47,48,49,50] (fun _=>bR) (fun _ _ _ h k=>h.trans k) (fun i=>match i with
    |0=>rp w.heap.size 4
    |1=>rV (.map (some m'))
    |2=>rp (w.heap.size+1) 1
    |3=>rV (.int .i64 o.i)
    |4=>rV (.agg (Nd.plain.cs none 0).toArray)
    | _=>ra) (bR.drew) (HJ0.out.below bR.drew) ⟨?_,?_,?_,?_,?_,?_,trivial⟩ ?_
   any_goals (first|refine zp fun L a w1 hh=>?_|fail)
   have h2:=hh.p 2 w.heap.size 0;have i0:=(hh.st.old.1).inside;rotate_left;have h46:=rq (hh.d 0 46);have ⟨c0,i0⟩:=(hh.st.old.1).ci 4 rfl;rotate_left;have h3:=hh.p 3 ((w.heap.size+1)) 0;have i0:=(hh.st.old.2.1).inside;rotate_left;have h48:=rq (hh.d 2 48);have ⟨c0,i0⟩:=(hh.st.old.2.1).ci 1 rfl;rotate_left
   ·have hC:=Hd (dplain_any w1);have hJ:=hh.j;clear hh;go_simp;refine hC.out.mono ?_;rintro e w9 ⟨rfl,hb9⟩;exact ⟨_,rfl,hb9.mono hJ.out.bsz,rfl,hJ.out.below hb9⟩
   ·have h47:=rq (hh.d 1 47);have h49:=rq (hh.d 3 49);have h50:=rq (hh.d 4 50);have hj:=hh.st;rw [hh.un] at hj;obtain ⟨w9,hrun,hj9,hb9⟩:=hj.store (n:=Nd.plain) (fun _=>rfl) HMI.out HO.out.i HTI.out ⟨none,0,rfl,PxR.none_ rfl⟩ HMG.out;unfold Nd.v at hrun;have hJ9:=Hd hj9;have hB9:=Hd hb9;clear hh hj hj9 hb9;go_simp;exact ⟨hB9.out,⟨undef,trivial⟩,hJ9.out⟩
   any_goals (have hJ:=hh.j;clear hh;go_simp;exact ⟨_,rfl,bR,rfl,hJ.out⟩)
   intro L w5 val hL hJ hR hv;have HR5:=Hd hR;have hj5:=hJ;rw [hL 5 (by decide)] at hj5;have HJ5:=Hd hj5;clear hv hL hJ hR hj5;simp only [regs.putAll,List.map_cons,List.map_nil];simp only [Act.put,List.setIfInBounds_toArray,List.set_cons_zero,List.set_cons_succ]
   skip
   have HKs5:=Hd HJ5.out.old.1;have HKr5:=Hd HJ5.out.old.2.2.1;have HB5:Hid (Below w.heap.size w w5):=HB4.out.trans HR5.out;have HKrT:Hid (BlkT w5 (w.heap.size+2) Vi 34):=HJ5.out.rt
   have HDC:Hid (DocAt w5 (.agg (Vc wi hei M A1 t1'.length n1 m').toArray) wi hei M ⟨t1',upd x.nd o.i Nd.plain,upd x.ws o.i Mp.o⟩):=⟨_,m',rfl,HJ5.out.tr,(HJ5.out.yes rfl).alike (fun _=>rfl) fun j hj=>by
    show upd x.nd o.i Nd.plain j=upd (ndH (has x.t) x.nd) o.i Nd.plain j;by_cases e:j=o.i
    ·rw [e,upd_same,upd_same]
    ·rw [upd_ne _ e,upd_ne _ e]
     exact (if_pos (((HHB.out j).1 hj).resolve_left e)).symm⟩
   go_wp2_with (first | (with_reducible refine gL ?_;first | (refine wt 34 0 rfl rfl rfl HKs5.out ((Vc wi hei M A1 t1'.length n1 m')) rfl Tryz.underlying34 rfl ?_)) | (with_reducible refine gS ?_;first | (refine wpl_stow 34 _ _ rfl rfl rfl _ 0 rfl ((Vc wi hei M A1 t1'.length n1 m')) rfl (Vi) HKr5.out ((Vc wi hei M A1 t1'.length n1 m')) rfl (nE rfl) (by kernel_rfl) rfl ?_;intro w6 HW6 HK6)));rw [HE2.out]
   exact blk_ret2 rfl rfl rfl HK6.out Tryz.underlying34 rfl (by kernel_rfl) ⟨_,rfl,dsh _ _ _ _ _ _ _,fun _=>HDC.out.wrote HKrT.out (by decide) (by unfold noPx;simp) HW6.out,HW6.out.below HB5.out (by omega)⟩
theorem ddo_2 (o:Op9) (Ao:Option Addr) (co:Nat) (wi hei M:Int) (tv:Value) (x:PSc) (m:Nat) (ok:Ok x.t) (hn:x.t.length<=900) (hg:Good x) (hfx:∀ i,Fit (x.nd i)) (ho:OpOk o) (w:World) (hr:PxR w Ao o.lk.l) (ht:DTree w tv x.t) (hm:DMap w m (has x.t) x.nd) (h2:o.k=2):Calls Tryz.prog 80 #[.agg #[.int .i64 wi,.int .i64 hei,.int .i64 M,tv,.map (some m)],.agg (o.dcs Ao co).toArray] w (DoDQ wi hei M (doS M x o) w):=by
 have h1:¬ o.k=1:=by omega
 obtain ⟨At,ct,rfl,hrt,hy⟩:=ht
 have HT:Hid (DTree w (.slice At x.t.length ct) x.t):=⟨At,ct,rfl,hrt,hy⟩
 have HM0:=Hd hm;have HR:=Hd hr;have HOK:=Hd ok;have HN:=Hd hn;have HG:=Hd hg;have HFX:=Hd hfx;have HO:=Hd ho;unfold DoDQ
 obtain ⟨R,hR⟩:∃ R,doS M x o=R:=⟨_,rfl⟩
 have HE:=Hd hR;rw [hR];clear hR hm hr hrt hy ok hn hg hfx ho;have HB0:Hid (Below w.heap.size w (((w.alloc (.cells (Vc wi hei M At x.t.length ct m).toArray 34)).alloc (.cells (o.dcs Ao co).toArray 193)).alloc (.cells Vi.toArray 34))):=((bR.alloc nR _).alloc (by simp) _).alloc (by simp;omega) _;have HKs:Hid (BlkT (((w.alloc (.cells (Vc wi hei M At x.t.length ct m).toArray 34)).alloc (.cells (o.dcs Ao co).toArray 193)).alloc (.cells Vi.toArray 34)) w.heap.size (Vc wi hei M At x.t.length ct m) 34):=((BlkT.new w (Vc wi hei M At x.t.length ct m) 34).al _).al _
 have HKo:Hid (Blk (((w.alloc (.cells (Vc wi hei M At x.t.length ct m).toArray 34)).alloc (.cells (o.dcs Ao co).toArray 193)).alloc (.cells Vi.toArray 34)) (w.heap.size+1) (o.dcs Ao co)):=(blk_at (w.alloc _) _ (by simp) (o.dcs Ao co) _).alloc _;have HKr:Hid (BlkT (((w.alloc (.cells (Vc wi hei M At x.t.length ct m).toArray 34)).alloc (.cells (o.dcs Ao co).toArray 193)).alloc (.cells Vi.toArray 34)) (w.heap.size+2) Vi 34):=blkT_at ((w.alloc _).alloc _) _ (by simp) Vi 34;go_enter Tryz.func80,Tryz.ntmps80
 go_upto_region 1 with (fail)
 generalize (((w.alloc (.cells (Vc wi hei M At x.t.length ct m).toArray 34)).alloc (.cells (o.dcs Ao co).toArray 193)).alloc (.cells Vi.toArray 34))=w0 at *;have c0:=HKo.out.c 0 rfl;have c1:=HKo.out.c 1 rfl;have ci:w.heap.size+1<w0.heap.size:=HKo.out.inside;have s3:w0.cell? ⟨w.heap.size,3,none⟩=some (.slice At x.t.length ct):=HKs.out.blk.cell 3;have si:w.heap.size<w0.heap.size:=HKs.out.inside;have t1:(o.k==1)=false:=by simpa using h1
 have t2:(o.k==2)=true:=by simpa using h2
 have HE1:Hid (R=removeS x o.i):=by show _=_;rw [← HE.out];unfold doS;rw [if_neg h1,if_pos h2]
 clear h1 h2 HE;go_wp2_with (fail);refine (drem _ x.t o.i w0 HOK.out (HT.out.below HB0.out) (by have:=HN.out;omega)).mono ?_;rintro e w1 ⟨v1,u1,rfl,hd1,-,hb1⟩;have HB1:=Hd (HB0.out.trans (hb1.mono HB0.out.size));have HKs1:=Hd (BlkT.stays HKs.out ((hb1).block _ HKs.out.inside));have HKr1:=Hd (BlkT.stays HKr.out ((hb1).block _ HKr.out.inside));have HKo1:=Hd (HKo.out.below' hb1);clear hb1 HKs HKo HKr HB0 c0 c1 ci s3 si;have HRO:=Hd (remS_ok HOK.out o.i)
 obtain ⟨⟨t1',k1,e1⟩,hq⟩:∃ q,remS x.t o.i=q:=⟨_,rfl⟩
 have HQ:=Hd hq;unfold removeS at HE1;rw [hq] at HE1 HRO hd1 ⊢;simp only at HE1 HRO hd1 ⊢;clear hq;obtain ⟨A1,n1,rfl,hr1,hy1⟩:=hd1
 have HD1:Hid (DTree w1 (.slice A1 t1'.length n1) t1'):=⟨A1,n1,rfl,hr1,hy1⟩
 clear hr1 hy1;by_cases he:¬ e1=0
 ·have q:(e1==0)=false:=by simpa using he
  have HE2:Hid (R=(x,e1)):=by show _=_;rw [HE1.out,if_pos he]
  have HNE:=Hd he;clear HE1 he;go_wp2_with (first | (with_reducible refine gL ?_;first | (refine wt 34 0 rfl rfl rfl HKs1.out.blk ((Vc wi hei M At x.t.length ct m)) rfl Tryz.underlying34 rfl ?_)) | (with_reducible refine gS ?_;first | (refine wpl_stow 34 _ _ rfl rfl rfl _ 0 rfl ((Vc wi hei M At x.t.length ct m)) rfl (Vi) HKr1.out.blk ((Vc wi hei M At x.t.length ct m)) rfl (nE rfl) (by kernel_rfl) rfl ?_;intro w2 HW2 HK2)));rw [HE2.out]
  exact blk_ret2 rfl rfl rfl HK2.out Tryz.underlying34 rfl (by kernel_rfl) ⟨_,rfl,dsh _ _ _ _ _ _ _,fun e=>absurd e HNE.out,HW2.out.below HB1.out (by omega)⟩
 ·obtain rfl:e1=0:=Decidable.not_not.1 he;clear he;have q:((0:Int)==0)=true:=by decide
  have HE2:Hid (R=(⟨t1',x.nd,x.ws⟩,0)):=by show _=_;rw [HE1.out,if_neg (by decide)]
  have HOK1:Hid (Ok t1'):=HRO.out.1;have HLN:Hid (t1'.length<=x.t.length):=HRO.out.2
  have HHB:Hid (∀ j,has t1' j=true->has x.t j=true):=fun j hj=>by
   obtain ⟨y1,y2⟩:=remS_yes (t:=x.t) (i:=o.i) (by rw [HQ.out]);rw [HQ.out] at y2
   injection y2 with y2 _
   rw [y2] at hj;exact ((has_gone HOK.out y1).1 hj).2
  clear HE1 HRO;have s3:w1.cell? ⟨w.heap.size,3,none⟩=some (.slice At x.t.length ct):=HKs1.out.blk.cell 3;have si:w.heap.size<w1.heap.size:=HKs1.out.inside;have f3:w1.frozen? ⟨w.heap.size,3,none⟩=false:=HKs1.out.blk.free 3
  go_upto_region 16 with (fail)
  have HS:Hid (Wrote w.heap.size w1 (w1.setCell ⟨w.heap.size,3,none⟩ (.slice A1 t1'.length n1))):=⟨3,[.slice A1 t1'.length n1],rfl⟩
  have HKs2:Hid (BlkT (w1.setCell ⟨w.heap.size,3,none⟩ (.slice A1 t1'.length n1)) w.heap.size (Vc wi hei M A1 t1'.length n1 m) 34):=HKs1.out.set 3 _;generalize hwq:(w1.setCell ⟨w.heap.size,3,none⟩ (.slice A1 t1'.length n1))=w2 at *;clear hwq;have HB2:Hid (Below w.heap.size w w2):=HS.out.below HB1.out nR;have HKr2:Hid (BlkT w2 (w.heap.size+2) Vi 34):=HKr1.out.stays (HS.out.far (by omega));have HKo2:=Hd (HS.out.blk (show w.heap.size+1≠w.heap.size by omega) HKo1.out);have HD2:Hid (DTree w2 (.slice A1 t1'.length n1) t1'):=HD1.out.wrote HKs1.out (by decide) HS.out
  go_wp2_with (first | (with_reducible refine gL ?_;first | (refine wt 34 0 rfl rfl rfl HKs2.out.blk ((Vc wi hei M A1 t1'.length n1 m)) rfl Tryz.underlying34 rfl ?_)));refine (dcopied_any wi hei M _ t1' m (has x.t) x.nd HOK1.out (by have:=HLN.out;have:=HN.out;omega) w2 HD2.out (HM0.out.below HB2.out)).mono ?_;rintro e w3 ⟨m',rfl,hdm,hbq,hmq⟩;have HDM3:=Hd hdm;have HMG3:Hid (w.heap.size<=m'):=Nat.le_trans HB2.out.size hmq;have HD3:=Hd (HD2.out.below hbq);have HB3:=Hd (HB2.out.trans (hbq.mono HB2.out.size));have HKs3:=Hd (BlkT.stays HKs2.out ((hbq).block _ HKs2.out.inside))
  have HKr3:=Hd (BlkT.stays HKr2.out ((hbq).block _ HKr2.out.inside));have HKo3:=Hd (HKo2.out.below' hbq);clear hdm hbq s3 si f3 hmq HKs2 HKr2 HKo2 HD2 HB2 HS HKs1 HKr1 HKo1 HD1 HB1;go_wp2_with (first | (with_reducible refine gS ?_;first | (refine wpl_stow 34 _ _ rfl rfl rfl _ 0 rfl ((Vc wi hei M A1 t1'.length n1 m')) rfl (Vi) HKr3.out.blk ((Vc wi hei M A1 t1'.length n1 m')) rfl (nE rfl) (by kernel_rfl) rfl ?_;intro w4 HW4 HK4)));rw [HE2.out]
  exact blk_ret2 rfl rfl rfl HK4.out Tryz.underlying34 rfl (by kernel_rfl) ⟨_,rfl,dsh _ _ _ _ _ _ _,fun _=>⟨_,m',rfl,HD3.out.wrote HKr3.out (by decide) HW4.out,(HDM3.out.wrote HKr3.out.blk (by unfold noPx;simp) HW4.out).alike (fun _=>rfl) fun j hj=>(if_pos (HHB.out j hj)).symm⟩,HW4.out.below HB3.out (by omega)⟩
theorem ddo_3 (o:Op9) (Ao:Option Addr) (co:Nat) (wi hei M:Int) (tv:Value) (x:PSc) (m:Nat) (ok:Ok x.t) (hn:x.t.length<=900) (hg:Good x) (hfx:∀ i,Fit (x.nd i)) (ho:OpOk o) (w:World) (hr:PxR w Ao o.lk.l) (ht:DTree w tv x.t) (hm:DMap w m (has x.t) x.nd) (h3:o.k=3):Calls Tryz.prog 80 #[.agg #[.int .i64 wi,.int .i64 hei,.int .i64 M,tv,.map (some m)],.agg (o.dcs Ao co).toArray] w (DoDQ wi hei M (doS M x o) w):=by
 have h1:¬ o.k=1:=by omega
 have h2:¬ o.k=2:=by omega
 obtain ⟨At,ct,rfl,hrt,hy⟩:=ht
 have HT:Hid (DTree w (.slice At x.t.length ct) x.t):=⟨At,ct,rfl,hrt,hy⟩
 have HM0:=Hd hm;have HR:=Hd hr;have HOK:=Hd ok;have HN:=Hd hn;have HG:=Hd hg;have HFX:=Hd hfx;have HO:=Hd ho;unfold DoDQ
 obtain ⟨R,hR⟩:∃ R,doS M x o=R:=⟨_,rfl⟩
 have HE:=Hd hR;rw [hR];clear hR hm hr hrt hy ok hn hg hfx ho;have HB0:Hid (Below w.heap.size w (((w.alloc (.cells (Vc wi hei M At x.t.length ct m).toArray 34)).alloc (.cells (o.dcs Ao co).toArray 193)).alloc (.cells Vi.toArray 34))):=((bR.alloc nR _).alloc (by simp) _).alloc (by simp;omega) _;have HKs:Hid (BlkT (((w.alloc (.cells (Vc wi hei M At x.t.length ct m).toArray 34)).alloc (.cells (o.dcs Ao co).toArray 193)).alloc (.cells Vi.toArray 34)) w.heap.size (Vc wi hei M At x.t.length ct m) 34):=((BlkT.new w (Vc wi hei M At x.t.length ct m) 34).al _).al _
 have HKo:Hid (Blk (((w.alloc (.cells (Vc wi hei M At x.t.length ct m).toArray 34)).alloc (.cells (o.dcs Ao co).toArray 193)).alloc (.cells Vi.toArray 34)) (w.heap.size+1) (o.dcs Ao co)):=(blk_at (w.alloc _) _ (by simp) (o.dcs Ao co) _).alloc _;have HKr:Hid (BlkT (((w.alloc (.cells (Vc wi hei M At x.t.length ct m).toArray 34)).alloc (.cells (o.dcs Ao co).toArray 193)).alloc (.cells Vi.toArray 34)) (w.heap.size+2) Vi 34):=blkT_at ((w.alloc _).alloc _) _ (by simp) Vi 34;go_enter Tryz.func80,Tryz.ntmps80
 go_upto_region 1 with (fail)
 generalize (((w.alloc (.cells (Vc wi hei M At x.t.length ct m).toArray 34)).alloc (.cells (o.dcs Ao co).toArray 193)).alloc (.cells Vi.toArray 34))=w0 at *;have c0:=HKo.out.c 0 rfl;have c1:=HKo.out.c 1 rfl;have c2:=HKo.out.c 2 rfl;have c3:=HKo.out.c 3 rfl;have ci:w.heap.size+1<w0.heap.size:=HKo.out.inside;have s3:w0.cell? ⟨w.heap.size,3,none⟩=some (.slice At x.t.length ct):=HKs.out.blk.cell 3;have si:w.heap.size<w0.heap.size:=HKs.out.inside;have t1:(o.k==1)=false:=by simpa using h1
 have t2:(o.k==2)=false:=by simpa using h2
 have t3:(o.k==3)=true:=by simpa using h3
 have HE1:Hid (R=moveS x o.i o.p o.n):=by show _=_;rw [← HE.out];unfold doS;rw [if_neg h1,if_neg h2,if_pos h3]
 clear h1 h2 h3 HE;go_wp2_with (fail);refine (dmove _ x.t o.i o.p o.n w0 HOK.out (HT.out.below HB0.out) (by have:=HN.out;omega)).mono ?_;rintro e w1 ⟨v1,rfl,hd1,hb1⟩;have HB1:=Hd (HB0.out.trans (hb1.mono HB0.out.size));have HKs1:=Hd (BlkT.stays HKs.out ((hb1).block _ HKs.out.inside));have HKr1:=Hd (BlkT.stays HKr.out ((hb1).block _ HKr.out.inside));have HKo1:=Hd (HKo.out.below' hb1);clear hb1 HKs HKo HKr HB0 c0 c1 c2 c3 ci s3 si
 obtain ⟨⟨t1',e1⟩,hq⟩:∃ q,movS x.t o.i o.p o.n=q:=⟨_,rfl⟩
 have HQ:=Hd hq;unfold moveS at HE1;rw [hq] at HE1 hd1 ⊢;simp only at HE1 hd1 ⊢;clear hq;obtain ⟨A1,n1,rfl,hr1,hy1⟩:=hd1
 have HD1:Hid (DTree w1 (.slice A1 t1'.length n1) t1'):=⟨A1,n1,rfl,hr1,hy1⟩
 clear hr1 hy1
 have HR2:Hid (R.2=e1∧(e1=0->R.1=⟨t1',x.nd,x.ws⟩)):=by
  by_cases he:e1=0
  ·subst he;rw [show R=_ from HE1.out,if_neg (by decide)];exact ⟨rfl,fun _=>rfl⟩
  ·rw [show R=_ from HE1.out,if_pos he];exact ⟨rfl,fun e=>absurd e he⟩
 have HHB:Hid (e1=0->∀ j,has t1' j=has x.t j):=fun he j=>by
  subst he;obtain ⟨y1,y2,-⟩:=movS_yes (t:=x.t) (i:=o.i) (p:=o.p) (n:=o.n) (by rw [HQ.out]);rw [HQ.out] at y1;simp only at y1;rw [Bool.eq_iff_iff,has_iff,has_iff,y1,ids_move y2]
 clear HE1;have s3:w1.cell? ⟨w.heap.size,3,none⟩=some (.slice At x.t.length ct):=HKs1.out.blk.cell 3;have si:w.heap.size<w1.heap.size:=HKs1.out.inside;have f3:w1.frozen? ⟨w.heap.size,3,none⟩=false:=HKs1.out.blk.free 3
 go_upto_region 20 with (fail)
 have HS:Hid (Wrote w.heap.size w1 (w1.setCell ⟨w.heap.size,3,none⟩ (.slice A1 t1'.length n1))):=⟨3,[.slice A1 t1'.length n1],rfl⟩
 have HKs2:Hid (BlkT (w1.setCell ⟨w.heap.size,3,none⟩ (.slice A1 t1'.length n1)) w.heap.size (Vc wi hei M A1 t1'.length n1 m) 34):=HKs1.out.set 3 _;generalize hwq:(w1.setCell ⟨w.heap.size,3,none⟩ (.slice A1 t1'.length n1))=w2 at *;clear hwq;have HB2:Hid (Below w.heap.size w w2):=HS.out.below HB1.out nR;have HKr2:Hid (BlkT w2 (w.heap.size+2) Vi 34):=HKr1.out.stays (HS.out.far (by omega));have HKo2:=Hd (HS.out.blk (show w.heap.size+1≠w.heap.size by omega) HKo1.out);have HD2:Hid (DTree w2 (.slice A1 t1'.length n1) t1'):=HD1.out.wrote HKs1.out (by decide) HS.out;clear s3 si f3
 go_wp2_with (first | (with_reducible refine gL ?_;first | (refine wt 34 0 rfl rfl rfl HKs2.out.blk ((Vc wi hei M A1 t1'.length n1 m)) rfl Tryz.underlying34 rfl ?_)) | (with_reducible refine gS ?_;first | (refine wpl_stow 34 _ _ rfl rfl rfl _ 0 rfl ((Vc wi hei M A1 t1'.length n1 m)) rfl (Vi) HKr2.out.blk ((Vc wi hei M A1 t1'.length n1 m)) rfl (nE rfl) (by kernel_rfl) rfl ?_;intro w4 HW4 HK4)));rw [HR2.out.1];refine blk_ret2 rfl rfl rfl HK4.out Tryz.underlying34 rfl (by kernel_rfl) ⟨_,rfl,dsh _ _ _ _ _ _ _,fun e=>?_,HW4.out.below HB2.out (by omega)⟩;rw [HR2.out.2 e]
 exact ⟨_,m,rfl,HD2.out.wrote HKr2.out (by decide) HW4.out,(HM0.out.below (HW4.out.below HB2.out (by omega))).alike (HHB.out e) fun _ _=>rfl⟩
theorem ddo_n (o:Op9) (Ao:Option Addr) (co:Nat) (wi hei M:Int) (tv:Value) (x:PSc) (m:Nat) (ok:Ok x.t) (hn:x.t.length<=900) (hg:Good x) (hfx:∀ i,Fit (x.nd i)) (ho:OpOk o) (w:World) (hr:PxR w Ao o.lk.l) (ht:DTree w tv x.t) (hm:DMap w m (has x.t) x.nd) (h9:¬ (1<=o.k∧o.k<=8)):Calls Tryz.prog 80 #[.agg #[.int .i64 wi,.int .i64 hei,.int .i64 M,tv,.map (some m)],.agg (o.dcs Ao co).toArray] w (DoDQ wi hei M (doS M x o) w):=by
 have h1:¬ o.k=1:=by omega
 have h2:¬ o.k=2:=by omega
 have h3:¬ o.k=3:=by omega
 obtain ⟨At,ct,rfl,hrt,hy⟩:=ht
 have HT:Hid (DTree w (.slice At x.t.length ct) x.t):=⟨At,ct,rfl,hrt,hy⟩
 have HM0:=Hd hm;have HR:=Hd hr;have HOK:=Hd ok;have HN:=Hd hn;have HG:=Hd hg;have HFX:=Hd hfx;have HO:=Hd ho;unfold DoDQ
 obtain ⟨R,hR⟩:∃ R,doS M x o=R:=⟨_,rfl⟩
 have HE:=Hd hR;rw [hR];clear hR hm hr hrt hy ok hn hg hfx ho;have HB0:Hid (Below w.heap.size w (((w.alloc (.cells (Vc wi hei M At x.t.length ct m).toArray 34)).alloc (.cells (o.dcs Ao co).toArray 193)).alloc (.cells Vi.toArray 34))):=((bR.alloc nR _).alloc (by simp) _).alloc (by simp;omega) _;have HKs:Hid (BlkT (((w.alloc (.cells (Vc wi hei M At x.t.length ct m).toArray 34)).alloc (.cells (o.dcs Ao co).toArray 193)).alloc (.cells Vi.toArray 34)) w.heap.size (Vc wi hei M At x.t.length ct m) 34):=((BlkT.new w (Vc wi hei M At x.t.length ct m) 34).al _).al _
 have HKo:Hid (Blk (((w.alloc (.cells (Vc wi hei M At x.t.length ct m).toArray 34)).alloc (.cells (o.dcs Ao co).toArray 193)).alloc (.cells Vi.toArray 34)) (w.heap.size+1) (o.dcs Ao co)):=(blk_at (w.alloc _) _ (by simp) (o.dcs Ao co) _).alloc _;have HKr:Hid (BlkT (((w.alloc (.cells (Vc wi hei M At x.t.length ct m).toArray 34)).alloc (.cells (o.dcs Ao co).toArray 193)).alloc (.cells Vi.toArray 34)) (w.heap.size+2) Vi 34):=blkT_at ((w.alloc _).alloc _) _ (by simp) Vi 34;go_enter Tryz.func80,Tryz.ntmps80
 go_upto_region 1 with (fail)
 generalize (((w.alloc (.cells (Vc wi hei M At x.t.length ct m).toArray 34)).alloc (.cells (o.dcs Ao co).toArray 193)).alloc (.cells Vi.toArray 34))=w0 at *;have c0:=HKo.out.c 0 rfl;have ci:w.heap.size+1<w0.heap.size:=HKo.out.inside;have t1:(o.k==1)=false:=by simpa using h1
 have t2:(o.k==2)=false:=by simpa using h2
 have t3:(o.k==3)=false:=by simpa using h3
 have HE2:Hid (R=(x,38)):=by show _=_;rw [← HE.out];unfold doS;rw [if_neg h1,if_neg h2,if_neg h3,if_neg (by omega)]
 clear h1 h2 h3 HE;by_cases hl:o.k<1
 ·have q1:decide (o.k<1)=true:=decide_eq_true hl;clear hl h9;go_wp2_with (first | (with_reducible refine gL ?_;first | (refine wt 34 0 rfl rfl rfl HKs.out.blk ((Vc wi hei M At x.t.length ct m)) rfl Tryz.underlying34 rfl ?_)) | (with_reducible refine gS ?_;first | (refine wpl_stow 34 _ _ rfl rfl rfl _ 0 rfl ((Vc wi hei M At x.t.length ct m)) rfl (Vi) HKr.out.blk ((Vc wi hei M At x.t.length ct m)) rfl (nE rfl) (by kernel_rfl) rfl ?_;intro w2 HW2 HK2)));rw [HE2.out]
  exact blk_ret2 rfl rfl rfl HK2.out Tryz.underlying34 rfl (by kernel_rfl) ⟨_,rfl,dsh _ _ _ _ _ _ _,fun e=>absurd (show (38:Int)=0 from e) (by decide),HW2.out.below HB0.out (by omega)⟩
 ·have q1:decide (o.k<1)=false:=decide_eq_false hl;have q2:decide ((8:Int)<o.k)=true:=decide_eq_true (by omega);clear hl h9;go_wp2_with (first | (with_reducible refine gL ?_;first | (refine wt 34 0 rfl rfl rfl HKs.out.blk ((Vc wi hei M At x.t.length ct m)) rfl Tryz.underlying34 rfl ?_)) | (with_reducible refine gS ?_;first | (refine wpl_stow 34 _ _ rfl rfl rfl _ 0 rfl ((Vc wi hei M At x.t.length ct m)) rfl (Vi) HKr.out.blk ((Vc wi hei M At x.t.length ct m)) rfl (nE rfl) (by kernel_rfl) rfl ?_;intro w2 HW2 HK2)));rw [HE2.out]
  exact blk_ret2 rfl rfl rfl HK2.out Tryz.underlying34 rfl (by kernel_rfl) ⟨_,rfl,dsh _ _ _ _ _ _ _,fun e=>absurd (show (38:Int)=0 from e) (by decide),HW2.out.below HB0.out (by omega)⟩
theorem ddo_s (o:Op9) (Ao:Option Addr) (co:Nat) (wi hei M:Int) (tv:Value) (x:PSc) (m:Nat) (ok:Ok x.t) (hn:x.t.length<=900) (hg:Good x) (hfx:∀ i,Fit (x.nd i)) (ho:OpOk o) (w:World) (hr:PxR w Ao o.lk.l) (ht:DTree w tv x.t) (hm:DMap w m (has x.t) x.nd) (h4:4<=o.k∧o.k<=8):Calls Tryz.prog 80 #[.agg #[.int .i64 wi,.int .i64 hei,.int .i64 M,tv,.map (some m)],.agg (o.dcs Ao co).toArray] w (DoDQ wi hei M (doS M x o) w):=by
 have h1:¬ o.k=1:=by omega
 have h2:¬ o.k=2:=by omega
 have h3:¬ o.k=3:=by omega
 obtain ⟨At,ct,rfl,hrt,hy⟩:=ht
 have HT:Hid (DTree w (.slice At x.t.length ct) x.t):=⟨At,ct,rfl,hrt,hy⟩
 have HM0:=Hd hm;have HR:=Hd hr;have HOK:=Hd ok;have HN:=Hd hn;have HG:=Hd hg;have HFX:=Hd hfx;have HO:=Hd ho;unfold DoDQ
 obtain ⟨R,hR⟩:∃ R,doS M x o=R:=⟨_,rfl⟩
 have HE:=Hd hR;rw [hR];clear hR hm hr hrt hy ok hn hg hfx ho;have HB0:Hid (Below w.heap.size w (((w.alloc (.cells (Vc wi hei M At x.t.length ct m).toArray 34)).alloc (.cells (o.dcs Ao co).toArray 193)).alloc (.cells Vi.toArray 34))):=((bR.alloc nR _).alloc (by simp) _).alloc (by simp;omega) _;have HKs:Hid (BlkT (((w.alloc (.cells (Vc wi hei M At x.t.length ct m).toArray 34)).alloc (.cells (o.dcs Ao co).toArray 193)).alloc (.cells Vi.toArray 34)) w.heap.size (Vc wi hei M At x.t.length ct m) 34):=((BlkT.new w (Vc wi hei M At x.t.length ct m) 34).al _).al _
 have HKo:Hid (Blk (((w.alloc (.cells (Vc wi hei M At x.t.length ct m).toArray 34)).alloc (.cells (o.dcs Ao co).toArray 193)).alloc (.cells Vi.toArray 34)) (w.heap.size+1) (o.dcs Ao co)):=(blk_at (w.alloc _) _ (by simp) (o.dcs Ao co) _).alloc _;have HKr:Hid (BlkT (((w.alloc (.cells (Vc wi hei M At x.t.length ct m).toArray 34)).alloc (.cells (o.dcs Ao co).toArray 193)).alloc (.cells Vi.toArray 34)) (w.heap.size+2) Vi 34):=blkT_at ((w.alloc _).alloc _) _ (by simp) Vi 34;go_enter Tryz.func80,Tryz.ntmps80
 go_upto_region 1 with (fail)
 generalize (((w.alloc (.cells (Vc wi hei M At x.t.length ct m).toArray 34)).alloc (.cells (o.dcs Ao co).toArray 193)).alloc (.cells Vi.toArray 34))=w0 at *;have c0:=HKo.out.c 0 rfl;have c1:=HKo.out.c 1 rfl;have ci:w.heap.size+1<w0.heap.size:=HKo.out.inside;have s3:w0.cell? ⟨w.heap.size,3,none⟩=some (.slice At x.t.length ct):=HKs.out.blk.cell 3;have s4:w0.cell? ⟨w.heap.size,4,none⟩=some (.map (some m)):=HKs.out.blk.cell 4;have si:w.heap.size<w0.heap.size:=HKs.out.inside;have t1:(o.k==1)=false:=by simpa using h1
 have t2:(o.k==2)=false:=by simpa using h2
 have t3:(o.k==3)=false:=by simpa using h3
 have HE1:Hid (R=setS x o):=by show _=_;rw [← HE.out];unfold doS;rw [if_neg h1,if_neg h2,if_neg h3,if_pos h4]
 have q1:decide (o.k<1)=false:=decide_eq_false (by omega);have q2:decide ((8:Int)<o.k)=false:=decide_eq_false (by omega);clear h1 h2 h3 h4 HE;go_wp2_with (fail);refine (dhas At x.t ct o.i w0 (DTree.srow (HT.out.below HB0.out)) (by have:=HN.out;omega)).mono ?_;rintro e w1 ⟨rfl,hb1⟩;have HB1:=Hd (HB0.out.trans (hb1.mono HB0.out.size));have HKs1:=Hd (BlkT.stays HKs.out ((hb1).block _ HKs.out.inside));have HKr1:=Hd (BlkT.stays HKr.out ((hb1).block _ HKr.out.inside));have HKo1:=Hd (HKo.out.below' hb1);clear hb1 HKs HKo HKr HB0 c0 c1 ci s3 s4 si q1 q2;unfold setS at HE1
 cases hh:has x.t o.i with
 | false=>
  have HE2:Hid (R=(x,30)):=by show _=_;rw [HE1.out,if_pos hh]
  clear HE1;go_wp2_with (first | (with_reducible refine gL ?_;first | (refine wt 34 0 rfl rfl rfl HKs1.out.blk ((Vc wi hei M At x.t.length ct m)) rfl Tryz.underlying34 rfl ?_)) | (with_reducible refine gS ?_;first | (refine wpl_stow 34 _ _ rfl rfl rfl _ 0 rfl ((Vc wi hei M At x.t.length ct m)) rfl (Vi) HKr1.out.blk ((Vc wi hei M At x.t.length ct m)) rfl (nE rfl) (by kernel_rfl) rfl ?_;intro w2 HW2 HK2)));rw [HE2.out]
  exact blk_ret2 rfl rfl rfl HK2.out Tryz.underlying34 rfl (by kernel_rfl) ⟨_,rfl,dsh _ _ _ _ _ _ _,fun e=>absurd (show (30:Int)=0 from e) (by decide),HW2.out.below HB1.out (by omega)⟩
 | true=>
  have HHH:Hid (has x.t o.i=true):=hh;rw [if_neg (by rw [hh];decide)] at HE1;clear hh;obtain ⟨An,cn,hrn,hlk⟩:=HM0.out.look HO.out.i HHH.out;have HLK:=Hd hlk;have HRN:=Hd hrn;have hlk1:=hlk w1 HB1.out;clear hlk hrn;have c1:=HKo1.out.c 1 rfl;have ci:w.heap.size+1<w1.heap.size:=HKo1.out.inside;have s4:w1.cell? ⟨w.heap.size,4,none⟩=some (.map (some m)):=HKs1.out.blk.cell 4;have si:w.heap.size<w1.heap.size:=HKs1.out.inside;go_wp2_with (first | (with_reducible refine gL ?_;first | (refine wt 193 0 rfl rfl rfl HKo1.out (o.dcs Ao co) rfl Tryz.underlying193 rfl ?_)))
  refine (dset_any o Ao co (x.nd o.i) An cn w1).mono ?_;rintro e w2 ⟨rfl,hb2⟩;have HB2:=Hd (HB1.out.trans (hb2.mono HB1.out.size));have HKs2:=Hd (BlkT.stays HKs1.out ((hb2).block _ HKs1.out.inside));have HKr2:=Hd (BlkT.stays HKr1.out ((hb2).block _ HKr1.out.inside));have HKo2:=Hd (HKo1.out.below' hb2);clear hb2 hlk1 HKs1 HKo1 HKr1 c1 ci s4 si;have HSN:Hid ((setN (x.nd o.i) o).chk=(setN Nd.plain o).chk):=chk_set (HG.out o.i) o;have HFN:Hid (Fit (setN (x.nd o.i) o)):=pick_fit ⟨HO.out.fit.p,HO.out.fit.l,HO.out.fit.len⟩ (HFX.out o.i)
  have HRS:Hid (∀ W,Below w.heap.size w W->PxR W (pick7 o Ao An) (setN (x.nd o.i) o).lk.l):=fun W hb=>pick_px (HR.out.below hb) (HRN.out.below hb)
  obtain ⟨A7,hA7⟩:∃ q,pick7 o Ao An=q:=⟨_,rfl⟩
  obtain ⟨c7,hc7⟩:∃ q,pick7 o co cn=q:=⟨_,rfl⟩
  rw [hA7] at HRS;rw [hA7,hc7];clear hA7 hc7
  obtain ⟨N1,hN1⟩:∃ N1,setN (x.nd o.i) o=N1:=⟨_,rfl⟩
  rw [hN1] at HSN HFN HRS HE1 ⊢;clear hN1;rw [← HSN.out] at HE1;have HZ:Hid (Blk (w2.alloc (.cells Va.toArray 54)) w2.heap.size Va):=blk_new w2 Va _;have HBz:Hid (Below w2.heap.size w2 (w2.alloc (.cells Va.toArray 54))):=bR.alloc nR _
  go_upto_region 26 with (first | (with_reducible refine gS ?_;first | (refine wpl_stow 54 _ _ rfl rfl rfl _ 0 rfl (N1.cs A7 c7) rfl (Va) HZ.out (N1.cs A7 c7) rfl (nE rfl) (by kernel_rfl) (Nd.one _ _ _) ?_;intro w3 HW3 HK3)))
  obtain ⟨z,hz⟩:∃ z,w2.heap.size=z:=⟨_,rfl⟩
  have HSZ:Hid (w.heap.size+2<z):=by rw [← hz];exact HKr2.out.inside
  rw [hz] at HW3 HK3 HZ HBz ⊢;have HB3:Hid (Below w.heap.size w w3):=HW3.out.below (HB2.out.trans (HBz.out.mono (by have:=HSZ.out;omega))) (by have:=HSZ.out;omega);have HKs3:Hid (BlkT w3 w.heap.size (Vc wi hei M At x.t.length ct m) 34):=(HKs2.out.stays (HBz.out.block _ (by have:=HSZ.out;omega))).stays (HW3.out.far (by have:=HSZ.out;omega));have HKr3:Hid (BlkT w3 (w.heap.size+2) Vi 34):=(HKr2.out.stays (HBz.out.block _ (by have:=HSZ.out;omega))).stays (HW3.out.far (by have:=HSZ.out;omega))
  have HKo3:Hid (Blk w3 (w.heap.size+1) (o.dcs Ao co)):=HW3.out.blk (show w.heap.size+1≠z by have:=HSZ.out;omega) (HKo2.out.below (HBz.out) (by have:=HSZ.out;omega));clear HKs2 HKr2 HKo2 HB2 HZ HBz HW3 hz;go_wp2_with (first | (with_reducible refine gL ?_;first | (refine wt 54 0 rfl rfl rfl HK3.out (N1.cs A7 c7) rfl Tryz.underlying54 rfl ?_)));refine (dnode_any N1.m N1.op N1.hi N1.cl N1.r N1.lk.k N1.lk.W N1.lk.H N1.lk.p N1.lk.iw N1.lk.ih A7 N1.lk.l c7 HFN.out.p HFN.out.l (by have:=HFN.out.len;unfold maxLen;omega) w3 (HRS.out w3 HB3.out).row).mono ?_;rintro e w4 ⟨rfl,hb4⟩
  rw [show ndC N1.m N1.op N1.cl N1.r (lkC N1.lk.k N1.lk.W N1.lk.H N1.lk.p N1.lk.iw N1.lk.ih N1.lk.l)=N1.chk from rfl];have HB4:=Hd (HB3.out.trans (hb4.mono HB3.out.size));have HKs4:=Hd (BlkT.stays HKs3.out ((hb4).block _ HKs3.out.inside));have HKr4:=Hd (BlkT.stays HKr3.out ((hb4).block _ HKr3.out.inside));have HKo4:=Hd (HKo3.out.below' hb4);have HK4:=Hd (HK3.out.below' hb4);clear hb4 HKs3 HKr3 HKo3 HK3 HB3
  obtain ⟨e1,he1⟩:∃ e1,N1.chk=e1:=⟨_,rfl⟩
  rw [he1] at HE1 ⊢;clear he1;by_cases he:¬ e1=0
  ·have q:(e1==0)=false:=by simpa using he
   have HE2:Hid (R=(x,e1)):=by show _=_;rw [HE1.out,if_pos he]
   have HNE:=Hd he;clear HE1 he;go_wp2_with (first | (with_reducible refine gL ?_;first | (refine wt 34 0 rfl rfl rfl HKs4.out.blk ((Vc wi hei M At x.t.length ct m)) rfl Tryz.underlying34 rfl ?_)) | (with_reducible refine gS ?_;first | (refine wpl_stow 34 _ _ rfl rfl rfl _ 0 rfl ((Vc wi hei M At x.t.length ct m)) rfl (Vi) HKr4.out.blk ((Vc wi hei M At x.t.length ct m)) rfl (nE rfl) (by kernel_rfl) rfl ?_;intro w5 HW5 HK5)));rw [HE2.out]
   exact blk_ret2 rfl rfl rfl HK5.out Tryz.underlying34 rfl (by kernel_rfl) ⟨_,rfl,dsh _ _ _ _ _ _ _,fun e=>absurd e HNE.out,HW5.out.below HB4.out (by omega)⟩
  ·obtain rfl:e1=0:=Decidable.not_not.1 he;clear he;have q:((0:Int)==0)=true:=by decide
   have HE2:Hid (R=(⟨x.t,upd x.nd o.i N1,x.ws⟩,0)):=by show _=_;rw [HE1.out,if_neg (by decide)]
   clear HE1;go_wp2_with (first | (with_reducible refine gL ?_;first | (refine wt 34 0 rfl rfl rfl HKs4.out.blk ((Vc wi hei M At x.t.length ct m)) rfl Tryz.underlying34 rfl ?_)));refine (dcopied_any wi hei M _ x.t m (has x.t) x.nd HOK.out (by have:=HN.out;omega) w4 (HT.out.below HB4.out) (HM0.out.below HB4.out)).mono ?_;rintro e w5 ⟨m',rfl,hdm,hb5,hmq⟩;have HDM5:=Hd hdm;have HMG:Hid (w.heap.size<=m'):=Nat.le_trans HB4.out.size hmq;have HB5:=Hd (HB4.out.trans (hb5.mono HB4.out.size));have HKs5:=Hd (BlkT.stays HKs4.out ((hb5).block _ HKs4.out.inside))
   have HKr5:=Hd (BlkT.stays HKr4.out ((hb5).block _ HKr4.out.inside));have HKo5:=Hd (HKo4.out.below' hb5);have HK5:=Hd (HK4.out.below' hb5);have HNZ:Hid (z≠w.heap.size):=by have:=HSZ.out;show _≠_;omega
   clear hdm hb5 hmq HKs4 HKr4 HKo4 HK4 HB4
   go_upto_region 30 with (first | (with_reducible refine gS ?_;first | (refine wpl_stow 34 _ _ rfl rfl rfl _ 0 rfl ((Vc wi hei M At x.t.length ct m')) rfl ((Vc wi hei M At x.t.length ct m)) HKs5.out.blk ((Vc wi hei M At x.t.length ct m')) rfl (nE rfl) (by kernel_rfl) rfl ?_;intro w6 HW6 HK6)))
   have HB6:Hid (Below w.heap.size w w6):=HW6.out.below HB5.out nR;have HD6:Hid (DTree w6 (.slice At x.t.length ct) x.t):=HT.out.below HB6.out;have HDM6:Hid (DMap w6 m' (has x.t) (ndH (has x.t) x.nd)):=HDM5.out.wrote HKs5.out.blk (by unfold noPx;simp) HW6.out;have HKr6:Hid (BlkT w6 (w.heap.size+2) Vi 34):=HKr5.out.stays (HW6.out.far (by omega));have HKo6:=Hd (HW6.out.blk (show w.heap.size+1≠w.heap.size by omega) HKo5.out);have HKz6:=Hd (HW6.out.blk HNZ.out HK5.out);have HKs6:=HK6
   obtain ⟨w7,hrun,hdm7,hg7⟩:=HDM6.out.store (t:=x.t) (fun _=>rfl) (by have:=HN.out;omega) HO.out.i HHH.out (v:=.agg (N1.cs A7 c7).toArray) (n:=N1) ⟨A7,c7,rfl,HRS.out w6 HB6.out⟩;have HDM7:=Hd hdm7;have HKs7:Hid (Blk w7 w.heap.size (Vc wi hei M At x.t.length ct m')):=HKs6.out.stays (hg7.block _ HKs6.out.inside fun e=>HDM6.out.not_b HKs6.out (Option.some.inj e));have HKr7:Hid (BlkT w7 (w.heap.size+2) Vi 34):=HKr6.out.stays (hg7.block _ HKr6.out.inside fun e=>HDM6.out.not_b HKr6.out.blk (Option.some.inj e));have HD7:Hid (DTree w7 (.slice At x.t.length ct) x.t):=HD6.out.grown HDM6.out hg7
   have HB7:Hid (Below w.heap.size w w7):=HB6.out.grown hg7 HB6.out.size fun j e=>by cases e;exact HMG.out
   clear hdm7 hg7 HKs5 HKr5 HKo5 HK5 HB5 HW6;have c1:=HKo6.out.c 1 rfl;have ci:w.heap.size+1<w6.heap.size:=HKo6.out.inside;have s4:w6.cell? ⟨w.heap.size,4,none⟩=some (.map (some m')):=HKs6.out.cell 4;have si:w.heap.size<w6.heap.size:=HKs6.out.inside
   go_upto_region 31 with (first | (with_reducible refine gL ?_;first | (refine wt 54 0 rfl rfl rfl HKz6.out (N1.cs A7 c7) rfl Tryz.underlying54 rfl ?_)))
   clear hrun c1 ci s4 si;go_wp2_with (first | (with_reducible refine gL ?_;first | (refine wt 34 0 rfl rfl rfl HKs7.out ((Vc wi hei M At x.t.length ct m')) rfl Tryz.underlying34 rfl ?_)) | (with_reducible refine gS ?_;first | (refine wpl_stow 34 _ _ rfl rfl rfl _ 0 rfl ((Vc wi hei M At x.t.length ct m')) rfl (Vi) HKr7.out.blk ((Vc wi hei M At x.t.length ct m')) rfl (nE rfl) (by kernel_rfl) rfl ?_;intro w8 HW8 HK8)));rw [HE2.out]
   exact blk_ret2 rfl rfl rfl HK8.out Tryz.underlying34 rfl (by kernel_rfl) ⟨_,rfl,dsh _ _ _ _ _ _ _,fun _=>⟨_,m',rfl,HD7.out.wrote HKr7.out (by decide) HW8.out,(HDM7.out.wrote HKr7.out.blk (by unfold noPx;simp) HW8.out).alike (fun _=>rfl) fun j hj=>by
    show upd x.nd o.i N1 j=upd (ndH (has x.t) x.nd) o.i N1 j;by_cases e:j=o.i
    ·rw [e,upd_same,upd_same]
    ·rw [upd_ne _ e,upd_ne _ e]
     exact (if_pos hj).symm⟩,HW8.out.below HB7.out (by omega)⟩
theorem ddo_any (o:Op9) (Ao:Option Addr) (co:Nat) (wi hei M:Int) (tv:Value) (x:PSc) (m:Nat) (ok:Ok x.t) (hn:x.t.length<=900) (hg:Good x) (hfx:∀ i,Fit (x.nd i)) (ho:OpOk o) (w:World) (hr:PxR w Ao o.lk.l) (ht:DTree w tv x.t) (hm:DMap w m (has x.t) x.nd):Calls Tryz.prog 80 #[.agg #[.int .i64 wi,.int .i64 hei,.int .i64 M,tv,.map (some m)],.agg (o.dcs Ao co).toArray] w (DoDQ wi hei M (doS M x o) w):=by
 by_cases h1:o.k=1
 ·exact ddo_1 o Ao co wi hei M tv x m ok hn hg hfx ho w hr ht hm h1
 by_cases h2:o.k=2
 ·exact ddo_2 o Ao co wi hei M tv x m ok hn hg hfx ho w hr ht hm h2
 by_cases h3:o.k=3
 ·exact ddo_3 o Ao co wi hei M tv x m ok hn hg hfx ho w hr ht hm h3
 by_cases h4:4<=o.k∧o.k<=8
 ·exact ddo_s o Ao co wi hei M tv x m ok hn hg hfx ho w hr ht hm h4
 exact ddo_n o Ao co wi hei M tv x m ok hn hg hfx ho w hr ht hm (by omega)
end
section
open Go.RowKit pxm imm trm Go.Maps
def isBox (o:Obj):Prop:=∃ cs fz,o=.cells cs tDoc fz∧noPx cs.toList
structure DR (B:Nat) (w w':World):Prop where
 bel:Below B w w'
 same:∀ (k:Nat) (o:Obj),w.heap[k]?=some o->¬ isBox o->w'.heap[k]?=some o
theorem DR.refl (B:Nat) (w:World):DR B w w:=⟨bR,fun _ _ h _=>h⟩
theorem DR.trans {B:Nat} {w w1 w2:World} (h:DR B w w1) (k:DR B w1 w2):DR B w w2:=⟨h.bel.trans k.bel,fun j o h1 h2=>k.same j o (h.same j o h1 h2) h2⟩
theorem DR.below {B:Nat} {w w':World} (hb:Below w.heap.size w w') (hB:B<=w.heap.size):DR B w w':=⟨hb.mono hB,fun k _ h _=>(hb.block k (Array.getElem?_eq_some_iff.1 h).1).trans h⟩
theorem DR.wrote {B g:Nat} {w w':World} {cs:List Value} (hb:BlkT w g cs tDoc) (hc:noPx cs) (hW:Wrote g w w') (hB:B<=g):DR B w w':=⟨hW.below bR hB,fun k o h hn=>by
 by_cases e:k=g
 ·refine absurd ⟨cs.toArray,(0,0),?_,by simpa using hc⟩ hn;rw [e] at h;exact Option.some.inj (h.symm.trans hb)
 ·exact (hW.far e).trans h⟩
theorem RTyp.dr {B:Nat} {w w':World} {A:Option Addr} (h:RTyp w A) (hr:DR B w w') {a:Addr} (e:A=some a):w'.heap[a.block]?=w.heap[a.block]?:=by
 obtain ⟨cs,fz,h1⟩:=h a e;rw [h1];refine hr.same _ _ h1 ?_;rintro ⟨cs',fz',e2,_⟩
 injection e2 with _ e3 _
 exact absurd e3 (by decide)
theorem DTree.dr {B:Nat} {w w':World} {v:Value} {t:T} (h:DTree w v t) (hr:DR B w w'):DTree w' v t:=h.stays fun _ _ _ _ hy ea=>hy.dr hr ea
theorem PxR.dr {B:Nat} {w w':World} {A:Option Addr} {l:List Nat} (h:PxR w A l) (hr:DR B w w'):PxR w' A l:=h.stays fun a ea hne=>by
 obtain ⟨cs,fz,h1⟩:=h.typ a ea hne;rw [h1];refine hr.same _ _ h1 ?_;rintro ⟨cs',fz',e2,_⟩
 injection e2 with _ e3 _
 exact absurd e3 (by decide)
theorem DPl.dr {B:Nat} {w w':World} {v:Value} {n:Nd} (h:DPl w v n) (hr:DR B w w'):DPl w' v n:=by
 obtain ⟨A,c,e,h1⟩:=h;exact ⟨A,c,e,h1.dr hr⟩
theorem DMap.dr {B:Nat} {w w':World} {m:Nat} {H:Int->Bool} {nd:Int->Nd} (h:DMap w m H nd) (hr:DR B w w'):DMap w' m H nd:=by
 obtain ⟨es,h1,h2,h3⟩:=h.ex;refine ⟨es,h1.stays ?_,h2,fun i hi=>?_⟩
 ·obtain ⟨es',clock,h4,_⟩:=h1.own;rw [h4];refine hr.same _ _ h4 ?_;rintro ⟨_,_,e,_⟩;cases e
 ·obtain ⟨v,e,hv⟩:=h3 i hi;exact ⟨v,e,hv.dr hr⟩
theorem DocAt.dr {B:Nat} {w w':World} {v:Value} {a b M:Int} {x:PSc} (h:DocAt w v a b M x) (hr:DR B w w'):DocAt w' v a b M x:=by
 obtain ⟨tv,m,e,h1,h2⟩:=h;exact ⟨tv,m,e,h1.dr hr,h2.dr hr⟩
def DP (a b M:Int) (y:PSc) (e:Int) (v:Value) (w:World):Prop:=DSh v∧(e=0->DocAt w v a b M y)
theorem DP.dr {B:Nat} {a b M:Int} {y:PSc} {e:Int} {v:Value} {w w':World} (h:DP a b M y e v w) (hr:DR B w w'):DP a b M y e v w':=⟨h.1,fun k=>(h.2 k).dr hr⟩
theorem BlkT.wrote {w w':World} {g:Nat} {cs cs':List Value} {T:TypeId} (h:BlkT w g cs T) (hW:Wrote g w w') (hB:Blk w' g cs'):BlkT w' g cs' T:=by
 obtain ⟨o,l,rfl⟩:=hW
 have:∀ (l:List Value) (o:Nat) {w:World} {cs:List Value},BlkT w g cs T->∃ c2,BlkT (putBlk g w o l) g c2 T:=by
  intro l
  induction l with
  | nil=>exact fun _ _ cs h=>⟨cs,h⟩
  | cons v l ih=>exact fun o _ _ h=>ih (o+1) (h.set o v)
 obtain ⟨c2,h2⟩:=this l o h;obtain ⟨T',h3⟩:=hB;have e:=h2.symm.trans h3;simp only [Option.some.injEq,Obj.cells.injEq] at e;have e1:c2=cs':=by have:=congrArg Array.toList e.1;simpa using this
 rw [← e1];exact h2
structure VJ (B:Nat) (iA iS:Bool) (vA vC:Value) (w:World):Prop where
 bsz:B<=w.heap.size
 ex:iA=true->∃ g cs,vA=.pointer (some ⟨g,0,none⟩)∧B<=g∧BlkT w g cs tDoc∧noPx cs∧cs.length=5∧(iS=true->vC=.agg cs.toArray)
section
variable {B:Nat} {iA iS:Bool} {vA vC:Value} {w w':World}
theorem VJ.start (h:B<=w.heap.size):VJ B false iS vA vC w:=⟨h,fun e=>nomatch e⟩
theorem VJ.slots {uA uC:Value} (h:VJ B iA iS vA vC w) (e1:uA=vA) (e2:uC=vC):VJ B iA iS uA uC w:=by rw [e1,e2];exact h
theorem VJ.below (h:VJ B iA iS vA vC w) (hb:Below w.heap.size w w'):VJ B iA iS vA vC w':=⟨Nat.le_trans h.bsz hb.size,fun e=>by
 obtain ⟨g,cs,h1,h2,h3,h4⟩:=h.ex e
 exact ⟨g,cs,h1,h2,h3.stays (hb.block _ h3.inside),h4⟩⟩
theorem VJ.told {u uA:Value} (h:VJ B iA iS vA vC w) (eS:iS=false) (e1:uA=vA):VJ B iA iS uA u w:=⟨h.bsz,fun e=>by
 obtain ⟨g,cs,h1,h2,h3,h4,h5,_⟩:=h.ex e
 exact ⟨g,cs,e1.trans h1,h2,h3,h4,h5,fun e=>by rw [eS] at e;cases e⟩⟩
theorem VJ.made {uA uC:Value} (h:VJ B iA iS vA vC w) (eS:iS=false) (e1:uA=.pointer (some ⟨w.heap.size,0,none⟩)):VJ B true iS uA uC (w.alloc (.cells Vi.toArray tDoc)):=
 ⟨Nat.le_trans h.bsz (by simp),fun _=>⟨w.heap.size,_,e1,h.bsz,BlkT.new w Vi tDoc,by unfold noPx;simp,rfl,fun e=>by rw [eS] at e;cases e⟩⟩
theorem VJ.put {cs':List Value} {g:Nat} {cs:List Value} (h:VJ B iA iS vA vC w) (e1:vA=.pointer (some ⟨g,0,none⟩)) (hg:B<=g) (hb:BlkT w g cs tDoc) (hc:noPx cs) (hW:Wrote g w w') (hB:Blk w' g cs') (h2:noPx cs') (hl:cs'.length=5) (ev:vC=.agg cs'.toArray):VJ B iA true vA vC w'∧DR B w w':=
 ⟨⟨by rw [hW.size];exact h.bsz,fun _=>⟨g,cs',e1,hg,hb.wrote hW hB,h2,hl,fun _=>ev⟩⟩,DR.wrote hb hc hW hg⟩
end
def DBlk (w:World) (g:Nat) (a b M:Int) (x:PSc):Prop:=∃ A c m,BlkT w g (Vc a b M A x.t.length c m) tDoc∧DTree w (.slice A x.t.length c) x.t∧DMap w m (has x.t) x.nd
theorem DBlk.below {w w':World} {g:Nat} {a b M:Int} {x:PSc} (h:DBlk w g a b M x) (hb:Below w.heap.size w w'):DBlk w' g a b M x:=by
 obtain ⟨A,c,m,h1,h2,h3⟩:=h;exact ⟨A,c,m,h1.stays (hb.block _ h1.inside),h2.below hb,h3.below hb⟩
theorem DocAt.ex {w:World} {v:Value} {a b M:Int} {x:PSc} (h:DocAt w v a b M x):∃ A c m,v=.agg (Vc a b M A x.t.length c m).toArray∧DTree w (.slice A x.t.length c) x.t∧DMap w m (has x.t) x.nd:=by
 obtain ⟨tv,m,rfl,⟨A,c,rfl,h1⟩,h2⟩:=h;exact ⟨A,c,m,rfl,⟨A,c,rfl,h1⟩,h2⟩
theorem DBlk.doc {w:World} {a b M:Int} {x:PSc} {A:Option Addr} {c m:Nat} (h1:DTree w (.slice A x.t.length c) x.t) (h2:DMap w m (has x.t) x.nd):DocAt w (.agg (Vc a b M A x.t.length c m).toArray) a b M x:=⟨_,m,rfl,h1,h2⟩
theorem dcs_px (a b M:Int) (A:Option Addr) (n c:Nat) (m:Option Nat):noPx [.int .i64 a,.int .i64 b,.int .i64 M,.slice A n c,.map m]:=by unfold noPx;simp
theorem DocAt.like2 {w:World} {v:Value} {a b M:Int} {x y:PSc} (h:DocAt w v a b M x) (h1:likeW y x):DocAt w v a b M y:=h.like h1.1 h1.2
def OpR.dcs (q:OpR):List Value:=q.o.dcs q.A q.c
theorem OpR.dcs_len (q:OpR):q.dcs.length=24:=rfl
structure OpsD (w:World) (A:Option Addr) (l:List OpR):Prop where
 row:SRow 24 OpR.dcs w A l
 px:∀ q∈l,PxR w q.A q.o.lk.l
theorem OpsD.below {w w':World} {A:Option Addr} {l:List OpR} (h:OpsD w A l) (hb:Below w.heap.size w w'):OpsD w' A l:=⟨SRow.below h.row hb,fun q hq=>(h.px q hq).below hb⟩
theorem OpsD.dr {B:Nat} {w w':World} {A:Option Addr} {l:List OpR} (h:OpsD w A l) (hr:DR B w w'):OpsD w' A l:=by
 refine ⟨fun hn=>?_,fun q hq=>(h.px q hq).dr hr⟩;obtain ⟨b,off,e,hc⟩:=h.row hn;refine ⟨b,off,e,fun j hj i v hv=>?_⟩;have h0:=hc 0 hn 20 (.int .u32 ((l[0]).o.lk.p:Nat)) rfl;have hlt:=World.block_lt_of_cell? w ⟨b,_,none⟩ h0;simp only at hlt;have h2:w.heap[b]?=some w.heap[b]:=Array.getElem?_eq_getElem hlt
 have h4:=hr.same _ _ h2 (by
  rintro ⟨cs,fz,e2,hp⟩;unfold World.cell? at h0;rw [h2,e2] at h0;simp only at h0;have h3:cs[off+0*24+20]?=some (.int .u32 ((l[0]).o.lk.p:Nat)):=by simpa using h0
  exact hp _ (List.mem_of_getElem? (by rw [Array.getElem?_toList];exact h3)) _ rfl)
 exact (World.cell?_of_block (a:=⟨b,_,none⟩) (h4.trans h2.symm)).trans (hc j hj i v hv)
end
end Go.Proofs.YthoildbfghfhpaaGreat
