import Derived.Test.YthoildbfghfhpaaGreatZScg
import Derived.Shelf.SlMaps.Clone
set_option maxHeartbeats 16000000
set_option maxRecDepth 100000
open Go.Proofs.Tryz
namespace Go.Proofs.YthoildbfghfhpaaGreat
section
open Go.RowKit pxm imm trm Go.Maps itr Go.Shelf
attribute [local go_sem] Oper.semAt_some
theorem cameV {l:LV} {x:Int} {c:Value} {kl:Lit} {y:DataW Value×List MemPlace} (hk:keyOf prog 3 (.int .i64 x)=some kl) (hv:anyE c=some y) (hat:∀ zd,(mapV l).atKey kl zd=y.1):kl=.int .i64 x∧I64 x∧omap.look l x=some c:=by
 obtain ⟨x',ex,rfl,hwf⟩:=Maps.keyOf_int_inv underlying3 hk
 injection ex with _ ex
 subst ex;simp only [Lit.wf] at hwf;rw [Bool.and_eq_true,decide_eq_true_eq,decide_eq_true_eq] at hwf;refine ⟨rfl,hwf,?_⟩;unfold anyE at hv;simp only [Option.some.injEq] at hv;have h1:=hat .nil;rw [atKey_mapV,← hv] at h1;cases hl:omap.look l x with
 | none=>rw [hl] at h1;cases h1
 | some g=>rw [hl] at h1;simp only [DataW.held.injEq] at h1;rw [h1]
def mixW (ws:Int->Mp) (fr:Int->Option Mp) (left:Lit->Bool):Int->Mp:=fun i=>if left (.int .i64 i)=true then ws i else (fr i).getD (ws i)
theorem mixW_step (ws:Int->Mp) (fr:Int->Option Mp) (left:Lit->Bool) {i:Int} {u:Mp} (h:fr i=some u):upd (mixW ws fr left) i u=mixW ws fr (fun z=>left z && !z.sameKey (.int .i64 i)):=by
 funext j
 unfold upd mixW;by_cases e:j=i
 ·subst e;rw [if_pos rfl,if_neg (by simp [Lit.sameKey]),h];rfl
 ·rw [if_neg e];have:(Lit.int .i64 j).sameKey (.int .i64 i)=false:=by simp [Lit.sameKey,e]
  simp only [this,Bool.not_false,Bool.and_true]
theorem make_fresh (w:World):(Instr.makeMap tFresh none).run prog w=.ok (.map (some w.heap.size)) (w.alloc (.map #[] 0)):=rfl
theorem TurnP.up {S S2:Bset} {w w':World} (h:TurnP S S w w') (hs:∀ k,S k->S2 k):TurnP S2 S2 w w':=⟨h.os,h.tape,h.output,h.size,fun k hk hn=>⟨hn,(h.far k hk fun e=>hn (hs k e)).2⟩⟩
theorem flat_step {rs:List RwV} {j:Nat} (hj:j<rs.length) {q:RwV} (hq:rs[rs.length - 1 - j]?=some q):((rs.map (·.l)).reverse.take (j+1)).flatten=((rs.map (·.l)).reverse.take j).flatten++q.l:=by
 rw [List.take_add_one,List.flatten_append]
 congr 1
 have:(rs.map (·.l)).reverse[j]?=some q.l:=by
  rw [List.getElem?_reverse (by simpa using hj),List.length_map,List.getElem?_map,hq];rfl
 rw [this];simp
theorem flat_rest {rs:List RwV} {j:Nat} (hj:j<rs.length) {q:RwV} (hq:rs[rs.length - 1 - j]?=some q) {k:Nat} (hk:k<q.l.length):∃ post,(rs.map (·.l)).reverse.flatten=(((rs.map (·.l)).reverse.take j).flatten++q.l.take k)++q.l[k]::post:=by
 have h1:=flat_step hj hq;refine ⟨q.l.drop (k+1)++((rs.map (·.l)).reverse.drop (j+1)).flatten,?_⟩;have h2:(rs.map (·.l)).reverse.flatten=((rs.map (·.l)).reverse.take (j+1)).flatten++((rs.map (·.l)).reverse.drop (j+1)).flatten:=by rw [← List.flatten_append,List.take_append_drop]
 rw [h2,h1,List.append_assoc,List.append_assoc]
 congr 1
 have h3:q.l=q.l.take k++q.l[k]::q.l.drop (k+1):=by
  rw [← List.drop_eq_getElem_cons hk,List.take_append_drop]
 rw [← List.cons_append,← List.append_assoc,← h3]
theorem BlkT.al {w:World} {k:Nat} {cs:List Value} {T:TypeId} (h:BlkT w k cs T) (o:Obj):BlkT (w.alloc o) k cs T:=BlkT.stays h (Below.heap_alloc w o k (BlkT.inside h))
theorem results_cell_err {fn:Func} {p:Tmp} (h:fn.results=#[.cell p 26]) (tmps:Array Value) (w:World) {g:Nat} {v:Int} (hp:tmps.getD p undef=.pointer (some ⟨g,0,none⟩)) (hc:w.cell? ⟨g,0,none⟩=some (.int .i64 v)) :
  (results fn tmps).run prog w=.ok (.int .i64 v) w:=by
 have hp':tmps[p]?.getD undef=.pointer (some ⟨g,0,none⟩):=by simpa using hp
 simp [results,h,hp',asAddr,go_sem,hc]
theorem VM.kind {w:World} {k:Nat} {l:LV} (h:VM w k l):∃ o,w.heap[k]?=some o∧isBk o=false:=by
 obtain ⟨es',clock,h4,_⟩:=h.own;exact ⟨_,h4,rfl⟩
theorem FRm.bk {B:Nat} {w w':World} {mf:Nat} {fr:Int->Option Mp} (h:FRm w mf fr) (hb:Bk B w w'):FRm w' mf fr:=by
 obtain ⟨es,h1,-⟩:=id h;obtain ⟨o,ho,hn⟩:=h1.kind;exact h.stays ((hb.keep ho hn).trans ho.symm)
theorem FRm.put {w:World} {mf:Nat} {fr:Int->Option Mp} (h:FRm w mf fr) {t:T} (hs:∀ j,fr j≠none->has t j=true) (hn:t.length<=100000) {i:Int} (hi:I64 i) (u:Mp) :
  ∃ w',(Instr.mapUpdate tFresh (.map (some mf)) (.int .i64 i) (.agg u.cs.toArray)).run prog w=.ok () w'∧FRm w' mf (upd fr i (some u))∧w.grownBy w' (some mf):=by
 obtain ⟨es,h1,h2⟩:=h;have hle:=es_le (t:=t) h1.rises fun j hj=>hs j fun e=>by rw [h2,e] at hj;exact hj rfl
 obtain ⟨w',hrun,hm,hg⟩:=h1.store und_fresh hi (.agg u.cs.toArray) (by have:=vput_len i (.agg u.cs.toArray) es;omega);refine ⟨w',hrun,⟨_,hm,fun j=>?_⟩,hg⟩;rw [omap.look_put];unfold upd;by_cases e:j=i
 ·rw [if_pos e,if_pos e];rfl
 ·rw [if_neg e,if_neg e,h2]
theorem FRm.kb {w w':World} {mf:Nat} {fr:Int->Option Mp} (h:FRm w mf fr) (hg:w.grownBy w' (some mf)):KB w w':=KB.of_grown hg fun j o e ho=>by
 obtain rfl:=Option.some.inj e;obtain ⟨es,h1,-⟩:=h;obtain ⟨o',h4,h5⟩:=h1.kind;rw [ho] at h4;cases h4;exact h5
theorem TurnP.growNew {S S':Bset} {w w1 w2:World} {row:Option Nat} (h:TurnP S S' w w1) (hg:w1.grownBy w2 row) (hr:∀ k,row=some k->w.heap.size<=k):TurnP S S' w w2:=
 ⟨hg.os.trans h.os,hg.tape.trans h.tape,hg.output.trans h.output,Nat.le_trans h.size hg.size,fun k hk hn=>⟨(h.far k hk hn).1,(hg.block k (Nat.lt_of_lt_of_le hk h.size) fun e=>by have:=hr k e.symm;omega).trans (h.far k hk hn).2⟩⟩
theorem TurnP.setNew {S S':Bset} {w w1:World} {a:Addr} (h:TurnP S S' w w1) (hn:w.heap.size<=a.block) (u:Value):TurnP S S' w (w1.setCell a u):=
 ⟨h.os,h.tape,h.output,by simpa [World.setCell] using h.size,fun k hk hk2=>⟨(h.far k hk hk2).1,(Below.heap_setCell w1 a u k (by omega)).trans (h.far k hk hk2).2⟩⟩
structure StJ (g b m:Nat) (s:Sh) (Z:ZZ) (x x':PSc) (i d:Bool) (w:World):Prop where
 no:d=false->SceneAt w g b m s Z x
 yes:d=true->SceneAt w g b m s Z x'
 o:d=true->i=true
theorem StJ.lo {g b m:Nat} {s:Sh} {Z:ZZ} {x x':PSc} {i d:Bool} {w:World} (h:StJ g b m s Z x x' i d w) (hi:i=false):SceneAt w g b m s Z x:=h.no (by
 cases hd:d with
 | false=>rfl
 | true=>have:=h.o hd;rw [hi] at this;cases this)
theorem StJ.fi {g b m:Nat} {s:Sh} {Z:ZZ} {x x':PSc} {i d:Bool} {w:World} (h:StJ g b m s Z x x' i d w):StJ g b m s Z x x' true d w:=⟨h.no,h.yes,fun _=>rfl⟩
theorem ranges_of {H:Type} {P:Program} {k:TypeId} {R:Value->Option (DataW H×List MemPlace)} {w w':World} {b r n:Nat} {D:DataW H} {left:Lit->Bool} {cnt:Nat} (h:w.ranges P k R b r n D left cnt) (h1:w'.heap[b]?=w.heap[b]?) (h2:w'.heap[r]?=w.heap[r]?):w'.ranges P k R b r n D left cnt:=by
 obtain ⟨es,clock,since,seen,c0,hb,F,hs,hD,hr,rest⟩:=h;exact ⟨es,clock,since,seen,c0,h1.trans hb,F,hs,hD,h2.trans hr,rest⟩
def One (k:Nat):Bset:=fun q=>q=k
def Two2 (k j:Nat):Bset:=fun q=>q=k∨q=j
def StI1 (x:PSc) (rs:List RwV) (mf:Nat) (w3:World) (k:Nat) (W:World):Prop:=∃ fr,TurnP (One mf) (One mf) w3 W∧FRm W mf fr∧FrI x (((rs.map (fun q:RwV=>q.l)).reverse.take k).flatten) fr
def StX1 (x:PSc) (mf rc:Nat) (w3:World) (co:Code) (W:World):Prop:=co=.ret∧TurnP (Two2 mf rc) (Two2 mf rc) w3 W∧BlkT W rc [.int .i64 35] 26∧∃ i,has x.t i=true∧worldOf x.t x.nd i=none
section
variable {w:World} {g b m:Nat} {s:Sh} {Z:ZZ} {x:PSc}
theorem settle_any (h:SceneAt w g b m s Z x) (hn:x.t.length<=900) (hg:Good x) (l:List OpR) (A:Option Addr) (c:Nat) (ho:OpsAt (SFoot b m s x.t) w A l) (hok:∀ q∈l,OpOk q.o) (hl:l.length<=1024) (hst:Settled x (tch (l.map (·.o)))) :
  Calls prog 74 #[.pointer (some ⟨g,0,none⟩),.slice A l.length c] w (SetQ g b m Z s x (setSt x) w):=by
 have HS:=Hd h;have HN:=Hd hn;have HG:=Hd hg;have HO:=Hd ho;have HOK:=Hd hok;have HL:=Hd hl;have HST:=Hd hst;have hmf:=fun w=>make_fresh w;clear h hn hg ho hok hl hst;refine calls_of_marks func74 rfl ?_;simp only [ntmps74,List.size_toArray,List.length_cons,List.length_nil,Nat.reduceAdd,Nat.reduceSub,Array.replicate_succ,Array.replicate_zero,List.push_toArray,List.append_toArray,List.nil_append,List.cons_append]
 go_upto_region 2 with (fail)
 clear hmf;have hb0:Below w.heap.size w ((((w.alloc (.cells #[.pointer (some ⟨g,0,none⟩)] 25)).alloc (.cells #[.int .i64 0] 26)).alloc (.map #[] 0)).alloc (.cells #[.map (some (w.heap.size+1+1))] tFresh)):=(((bR.alloc nR _).alloc (by simp) _).alloc (by simp;omega) _).alloc (by simp;omega) _;have HB0:=Hd hb0;have HSZ:Hid (((((w.alloc (.cells #[.pointer (some ⟨g,0,none⟩)] 25)).alloc (.cells #[.int .i64 0] 26)).alloc (.map #[] 0)).alloc (.cells #[.map (some (w.heap.size+1+1))] tFresh)).heap.size=w.heap.size+4):=by show _=_;simp
 have HKB:Hid (BlkT ((((w.alloc (.cells #[.pointer (some ⟨g,0,none⟩)] 25)).alloc (.cells #[.int .i64 0] 26)).alloc (.map #[] 0)).alloc (.cells #[.map (some (w.heap.size+1+1))] tFresh)) w.heap.size [.pointer (some ⟨g,0,none⟩)] 25):=BlkT.al (BlkT.al (BlkT.al (BlkT.new w [.pointer (some ⟨g,0,none⟩)] _) _) _) _
 have HKR:Hid (BlkT ((((w.alloc (.cells #[.pointer (some ⟨g,0,none⟩)] 25)).alloc (.cells #[.int .i64 0] 26)).alloc (.map #[] 0)).alloc (.cells #[.map (some (w.heap.size+1+1))] tFresh)) (w.heap.size+1) [.int .i64 0] 26):=by
  have:=(BlkT.new (w.alloc (.cells #[.pointer (some ⟨g,0,none⟩)] 25)) [.int .i64 0] 26)
  rw [World.size_alloc] at this;exact BlkT.al (BlkT.al this _) _
 have HMF:Hid (FRm ((((w.alloc (.cells #[.pointer (some ⟨g,0,none⟩)] 25)).alloc (.cells #[.int .i64 0] 26)).alloc (.map #[] 0)).alloc (.cells #[.map (some (w.heap.size+1+1))] tFresh)) (w.heap.size+1+1) (fun _=>none)):=by
  have:=VM.made ((w.alloc (.cells #[.pointer (some ⟨g,0,none⟩)] 25)).alloc (.cells #[.int .i64 0] 26));rw [World.size_alloc,World.size_alloc] at this;exact ⟨[],this.below (bR.alloc nR _),fun j=>by simp [omap.look_nil]⟩
 have HKF:Hid (BlkT ((((w.alloc (.cells #[.pointer (some ⟨g,0,none⟩)] 25)).alloc (.cells #[.int .i64 0] 26)).alloc (.map #[] 0)).alloc (.cells #[.map (some (w.heap.size+1+1))] tFresh)) (w.heap.size+1+1+1) [.map (some (w.heap.size+1+1))] tFresh):=by
  have:=(BlkT.new (((w.alloc (.cells #[.pointer (some ⟨g,0,none⟩)] 25)).alloc (.cells #[.int .i64 0] 26)).alloc (.map #[] 0)) [.map (some (w.heap.size+1+1))] tFresh)
  rw [World.size_alloc,World.size_alloc,World.size_alloc] at this;exact this
 clear hb0;generalize ((((w.alloc (.cells #[.pointer (some ⟨g,0,none⟩)] 25)).alloc (.cells #[.int .i64 0] 26)).alloc (.map #[] 0)).alloc (.cells #[.map (some (w.heap.size+1+1))] tFresh))=W0 at *
 obtain ⟨fb,hfb⟩:∃ fb,w.heap.size+1+1+1=fb:=⟨_,rfl⟩
 obtain ⟨mf,hmf⟩:∃ mf,w.heap.size+1+1=mf:=⟨_,rfl⟩
 obtain ⟨rc,hrc⟩:∃ rc,w.heap.size+1=rc:=⟨_,rfl⟩
 have HNO:Hid (rc=w.heap.size+1∧mf=w.heap.size+2∧fb=w.heap.size+3):=⟨by omega,by omega,by omega⟩
 rw [hfb,hmf] at HKF;rw [hmf] at HMF;rw [hrc] at HKR;rw [hfb,hmf,hrc];clear hfb hmf hrc;have HSC:=Hd (stale_any (w:=W0) (fun W hb=>HS.o.below (HB0.o.trans (hb.mono HB0.o.size))) HN.o l A c (HO.o.turn (TurnP.below HB0.o)) HOK.o HL.o);unfold StQ at HSC;have c0:=HKB.o.blk.cell 0;have i0:=HKB.o.inside;simp only [List.getElem?_cons_zero] at c0;go_wp2_with (fail);refine HSC.o.mono ?_;rintro e w2 ⟨U,uc,rs,Sn,rfl,hu,hr,hsti,hrl,hb2⟩;have HSTI:=Hd hsti;have HU:=Hd hu;have HR:=Hd hr;have HRL:=Hd hrl;have HB2:=Hd hb2;clear hsti hu hr hrl hb2 HSC c0 i0;go_wp2_with (fail)
 refine (backr_call U rs.length uc w2).mono ?_;rintro e w3 ⟨rfl,hw3⟩;have hb3:Below w2.heap.size w2 w3:=by rw [hw3];exact bR.alloc nR _
 have hx3:BlkT w3 w2.heap.size [.slice U rs.length uc] 223:=by rw [hw3];exact BlkT.new w2 _ _
 obtain ⟨bx,hbx⟩:∃ bx,w2.heap.size=bx:=⟨_,rfl⟩
 have HBX:Hid (W0.heap.size<=bx∧bx<w3.heap.size):=by rw [← hbx];exact ⟨HB2.o.size,hx3.inside⟩
 rw [hbx] at hx3;have HX3:=Hd hx3;have HB03:Hid (Below W0.heap.size W0 w3):=HB2.o.trans (hb3.mono HB2.o.size);have HBW3:=Hd (HB0.o.trans (HB03.o.mono HB0.o.size));have HU3:=Hd (SOwn.below HU.o hb3);have HR3:Hid (∀ q∈rs,IOwn w3 W0.heap.size q.v q.l):=fun q hq=>SOwn.below (HR.o q hq) hb3;have HNB:Hid (∀ k,One mf k->w.heap.size<=k∧k<W0.heap.size):=fun k e=>by have:=HNO.o;have:=HSZ.o;unfold One at e;omega
 have HNB2:Hid (∀ k,Two2 mf rc k->w.heap.size<=k∧k<W0.heap.size):=fun k e=>by have:=HNO.o;have:=HSZ.o;unfold Two2 at e;omega
 have FBW:Hid (∀ W,TurnP (Two2 mf rc) (Two2 mf rc) w3 W->Below w.heap.size w W):=fun W ht=>HBW3.o.trans (ht.to_below HBW3.o.size fun k e=>(HNB2.o k e).1);have FUP:Hid (∀ W,TurnP (One mf) (One mf) w3 W->TurnP (Two2 mf rc) (Two2 mf rc) w3 W):=fun W ht=>ht.up fun k e=>.inl e
 have FBK:Hid (∀ W,TurnP (Two2 mf rc) (Two2 mf rc) w3 W->BackR bx U uc (rs.map RwV.v) W):=fun W ht=>by
  have hne:∀ k,W0.heap.size<=k->¬ Two2 mf rc k:=fun k hk e=>by have:=(HNB2.o k e).2;omega
  refine ⟨?_,fun j hj=>?_⟩
  ·have:=(HX3.o.stays (ht.far bx HBX.o.2 (hne _ HBX.o.1)).2).blk.cell 0;rw [List.length_map];exact this
  ·rw [List.length_map] at hj;have hu:RwOwn W W0.heap.size (.slice U rs.length uc) rs:=SOwn.stays HU3.o fun k hk=>(ht.far k (SOwn.block HU3.o hk).2 (hne _ (SOwn.block HU3.o hk).1)).2;obtain ⟨g9,c9,e9,-,-,hrow⟩:=SOwn.row0 hu RwV.cs_len (by omega)
   injection e9 with e9 _ _
   obtain ⟨b9,o9,e8,hc⟩:=hrow (by omega)
   injection e8 with e8
   injection e8 with e8 e7
   refine ⟨g9,e9,?_⟩;have:=hc j hj 0 (rs[j].v) rfl;rw [← e8,← e7] at this
   simpa using this
 have FRW:Hid (∀ W,TurnP (Two2 mf rc) (Two2 mf rc) w3 W->∀ q∈rs,Row eI W q.A q.l):=fun W ht q hq=>by
  have h1:=HR3.o q hq;have h2:IOwn W W0.heap.size q.v q.l:=SOwn.stays h1 fun k hk=>(ht.far k (SOwn.block h1 hk).2 fun e=>by have:=(HNB2.o k e).2;have:=(SOwn.block h1 hk).1;omega).2;obtain ⟨A9,c9,e9,-,-,hrow⟩:=IOwn.irow h2;unfold RwV.v at e9
  injection e9 with e9 _ _
  rw [e9];exact hrow
 have FSC:Hid (∀ W,TurnP (Two2 mf rc) (Two2 mf rc) w3 W->SceneAt W g b m s Z x):=fun W ht=>HS.o.below (FBW.o W ht)
 have FCE:Hid (∀ W,TurnP (One mf) (One mf) w3 W->BlkT W w.heap.size [.pointer (some ⟨g,0,none⟩)] 25∧BlkT W fb [.map (some mf)] tFresh∧BlkT W rc [.int .i64 0] 26):=fun W ht=>by
  have h0:=HNO.o;have hst:∀ k,k<W0.heap.size->k≠mf->W.heap[k]?=W0.heap[k]?:=fun k hk hne=>(ht.far k (Nat.lt_of_lt_of_le hk HB03.o.size) hne).2.trans (HB03.o.block k hk);have k1:=HKB.o.stays (hst _ HKB.o.inside (by omega));have k2:=HKF.o.stays (hst _ HKF.o.inside (by omega));exact ⟨k1,k2,HKR.o.stays (hst _ HKR.o.inside (by omega))⟩
 have HM3:Hid (FRm w3 mf (fun _=>none)):=HMF.o.below HB03.o;have HLE:Hid ((rs.map RwV.v).length<=100000):=by show _<=_;rw [List.length_map];have:=HRL.o;rw [List.length_map] at this;have:=HL.o;omega
 rw [hbx];clear hw3 hb3 hx3 hbx HU HR HX3 HU3 HR3 HB2 HKB HKF HKR HMF;go_wp2_with (fail)
 refine wp_range (gf:=136) (lb:=#[.pointer (some ⟨bx,0,none⟩)]) rfl (enters_of func136 (by kernel_rfl) rfl) (es:=backrE (rs.map RwV.v)) (R:=fun _=>Eq) (Kp:=fun A B=>BackR bx U uc (rs.map RwV.v) A->BackR bx U uc (rs.map RwV.v) B)
  (fun W1 hb=>backr_iter HLE.o ((FBK.o w3 (TurnP.refl _ _)).bk hb)) (fun h k x=>k (h x)) (fun A B hb h=>h.bk hb) (fun n A B e k o _ hk _=>e ▸ hk)
  (fun e he=>by obtain ⟨j,_,rfl⟩:=List.mem_map.1 he;rfl)
  (StI1 x rs mf w3) (fun co k W=>StX1 x mf rc w3 co W) (fun k A B h hr=>?hI) (fun co k A B h hr=>?hIx) ⟨_,TurnP.refl _ _,HM3.o,FrI.start x⟩ ?a1 ?assign ?body ?done ?stopd
 case hI=>
  obtain ⟨fr,h1,h2,h3⟩:=h;rcases hr with ⟨n,hn,rfl⟩ | hb
  ·exact ⟨fr,h1,h2,h3⟩
  ·exact ⟨fr,h1.bk hb nR,h2.bk hb,h3⟩
 case hIx=>
  obtain ⟨h1,h2,h3,h4⟩:=h;rcases hr with ⟨n,hn,rfl⟩ | hb
  ·exact ⟨h1,h2,h3,h4⟩
  ·exact ⟨h1,h2.bk hb nR,h3.bk hb,h4⟩
 case assign=>
  intro l j hj W9 KK hKK;rw [backrE_at]
  gi_wp2_with (fail)
  exact hKK
 case stopd=>
  rintro D co k W9 hD hle ⟨rfl,ht,hrc,i,hi,hw⟩ hd;have HT:=Hd ht;have HRC:=Hd hrc;have HE:Hid (setSt x=(x,35)):=setSt_bad hi hw;clear ht hrc hi hw;go_wp2_with (fail)
  refine postM_ret w3.heap.size ⟨⟨D,rfl,hD,hd,by simp⟩,trivial⟩ fun w' hb=>⟨_,results_cell_err rfl _ _ rfl ((HRC.o.bk hb).blk.cell 0),?_⟩
  rw [HE.o];have h1:=FBW.o _ HT.o;exact ⟨s,rfl,(FSC.o _ HT.o).bk hb,TurnP.below (h1.trans (hb.below HBW3.o.size h1.size))⟩
 case body=>
  rintro l2 j hj W9 ⟨fr,h1,h2,h3⟩;rw [backrE_len,List.length_map] at hj
  obtain ⟨q,hq⟩:∃ q,rs[rs.length - 1 - j]?=some q:=⟨_,List.getElem?_eq_getElem (by omega)⟩
  have HQM:Hid (q∈rs):=List.mem_of_getElem? hq;have hv:(Option.map RwV.v rs[rs.length - 1 - j]?).getD undef=.slice q.A q.l.length q.c:=by rw [hq];rfl
  have HFR:Hid (∀ k (hk:k<q.l.length),∃ post,(rs.map (fun q:RwV=>q.l)).reverse.flatten=(((rs.map (fun q:RwV=>q.l)).reverse.take j).flatten++q.l.take k)++q.l[k]::post):=fun k hk=>flat_rest hj hq hk;have HFS:Hid (((rs.map (fun q:RwV=>q.l)).reverse.take (j+1)).flatten=((rs.map (fun q:RwV=>q.l)).reverse.take j).flatten++q.l):=flat_step hj hq;have HQ64:Hid (∀ i∈q.l,I64 i):=fun i hi=>has_64 HS.o.tree.ok (HSTI.o.hs i ((HSTI.o.mem i).2 ⟨q.l,List.mem_map.2 ⟨q,HQM.o,rfl⟩,hi⟩))
  have HQL:Hid (q.l.length<=x.t.length+1):=by
   have hnd:q.l.Nodup:=(List.pairwise_flatten.1 HSTI.o.nd).1 q.l (by rw [List.mem_reverse];exact List.mem_map.2 ⟨q,HQM.o,rfl⟩)
   have:=len_of_sub (m:=0::ids x.t) hnd fun i hi=>by
    rcases has_iff.1 (HSTI.o.hs i ((HSTI.o.mem i).2 ⟨q.l,List.mem_map.2 ⟨q,HQM.o,rfl⟩,hi⟩)) with e | e
    ·exact List.mem_cons.2 (.inl e)
    ·exact List.mem_cons_of_mem _ e
   rwa [List.length_cons,ids_len] at this
  rw [hv];clear hv hq hj;generalize ((rs.map (fun q:RwV=>q.l)).reverse.take j).flatten=pre at *;have HT9:=Hd h1;have HM9:=Hd h2;have HF9:=Hd h3;clear h1 h2 h3;have hqb:(q.l.length:Int)<=100000:=by have:=HQL.o;have:=HN.o;omega
  gi_wp2_with (fail)
  gi_loopw [23] (fun x23 wr=>∃ (j2:Nat) (fr:Int->Option Mp),j2<=q.l.length∧x23=.int .i64 j2∧Hid (TurnP (One mf) (One mf) w3 wr)∧Hid (FRm wr mf fr)∧Hid (FrI x (pre++q.l.take j2) fr)∧Hid (KB W9 wr)) (fun x23 _=>q.l.length - (intOf x23).toNat)
  case atStart=>exact ⟨0,fr,Nat.zero_le _,rfl,HT9.o,HM9.o,by show FrI _ _ _;simpa using HF9.o,KB.refl _⟩
  case round=>
   obtain ⟨j2,fr2,hj2,rfl,HT,HM,HF,HK⟩:=hrel;generalize wr=wA at *;clear HT9 HM9 HF9;by_cases hlt:j2<q.l.length
   ·have t1:decide (j2<q.l.length)=true:=by simpa using hlt
    have HLT:=Hd hlt;obtain ⟨rb,ro,rA,rcell⟩:=(FRW.o wA (FUP.o _ HT.o) q HQM.o).at_ hlt
    obtain ⟨i,hi⟩:∃ i,i=q.l[j2]'hlt:=⟨_,rfl⟩
    have HI64:Hid (I64 i):=by rw [hi];exact HQ64.o _ (List.getElem_mem hlt)
    have HPO:Hid (∃ post,(rs.map (fun q:RwV=>q.l)).reverse.flatten=(pre++q.l.take j2)++i::post):=by rw [hi];exact HFR.o j2 hlt
    have HTK:Hid (q.l.take (j2+1)=q.l.take j2++[i]):=by rw [hi];exact List.take_succ_eq_append_getElem hlt
    have HRK:=Hd (reckon_any (FSC.o wA (FUP.o _ HT.o)) i HI64.o HM.o)
    have HSP:Hid (((reckonS x fr2 i).2=0∧FrI x ((pre++q.l.take j2)++[i]) (upd fr2 i (some (reckonS x fr2 i).1)))∨((reckonS x fr2 i).2=35∧has x.t i=true∧worldOf x.t x.nd i=none)):=by
     obtain ⟨post,hp⟩:=HPO.o;exact HF.o.step HS.o.tree.ok HG.o HSTI.o HST.o hp
    obtain ⟨R,hR⟩:∃ R,reckonS x fr2 i=R:=⟨_,rfl⟩
    rw [hR] at HRK HSP;obtain ⟨RM,RE⟩:=R;have hic:wA.cell? ⟨rb,ro+j2,none⟩=some (.int .i64 i):=by rw [hi];exact rcell
    obtain ⟨k0,k1,-⟩:=FCE.o wA HT.o;have c0:=k0.blk.cell 0;have i0:=k0.inside;have c1:=k1.blk.cell 0;have i1:=k1.inside;simp only [List.getElem?_cons_zero] at c0 c1;clear k0 k1;clear hi hR hlt rcell;unfold Mp.cs at HRK
    dsimp only at HRK HSP
    have HPH:Hid (∀ j,fr2 j≠none->has x.t j=true):=fun j hj=>by
     by_cases hm:j∈pre++q.l.take j2
     ·obtain ⟨post,hp⟩:=HPO.o;have:j∈(rs.map (fun q:RwV=>q.l)).reverse.flatten:=by rw [hp];exact List.mem_append_left _ hm
      obtain ⟨r,h1,h2⟩:=List.mem_flatten.1 this;exact HSTI.o.hs j ((HSTI.o.mem j).2 ⟨r,List.mem_reverse.1 h1,h2⟩)
     ·exact absurd (HF.o.no j hm) hj
    clear HPO
    gi_wp2_with (fail)
    refine ⟨trivial,rfl,CallsIn.inRound l2 ((callsIn_wide (n:=0)).2 (HRK.o.mono ?_))⟩;rintro e wB ⟨rfl,hbB⟩;obtain ⟨u1,u2,u3,u4,u5,u6⟩:=RM
    dsimp only at HSP ⊢
    have hbC:Below wB.heap.size wB (wB.alloc (.cells (Vh u1 u2 u3 u4 u5 u6).toArray 65)):=bR.alloc nR _;have HBC:Hid (Below wA.heap.size wA (wB.alloc (.cells (Vh u1 u2 u3 u4 u5 u6).toArray 65))):=hbB.trans (hbC.mono hbB.size);clear hbB hbC HRK c0 i0 c1 i1 hic;have HTC:Hid (TurnP (One mf) (One mf) w3 (wB.alloc (.cells (Vh u1 u2 u3 u4 u5 u6).toArray 65))):=HT.o.trans (TurnP.below HBC.o);have HMC:=Hd (HM.o.below HBC.o);have HKC:Hid (KB W9 (wB.alloc (.cells (Vh u1 u2 u3 u4 u5 u6).toArray 65))):=HK.o.trans (KB.below HBC.o);obtain ⟨-,k1,crc⟩:=FCE.o _ HTC.o
    have c1:=k1.blk.cell 0;have i1:=k1.inside;simp only [List.getElem?_cons_zero] at c1;clear k1;have HCR:=Hd crc;clear crc;rcases HSP.o with ⟨rfl,hfr⟩ | ⟨rfl,hxi,hwi⟩
    ·have HFC:=Hd hfr;obtain ⟨wD,hrun,hmD,hgD⟩:=HMC.o.put HPH.o (by have:=HN.o;omega) HI64.o ⟨u1,u2,u3,u4,u5,u6⟩;have HTD:Hid (TurnP (One mf) (One mf) w3 wD):=HTC.o.trans (TurnP.grown hgD fun k e=>(Option.some.inj e).symm);have HMD:=Hd hmD;have HKD:Hid (KB W9 wD):=HKC.o.trans (HMC.o.kb hgD);have HFD:Hid (FrI x (pre++q.l.take (j2+1)) (upd fr2 i (some ⟨u1,u2,u3,u4,u5,u6⟩))):=by rw [HTK.o,← List.append_assoc];exact HFC.o
     clear hfr hmD hgD HSP HMC HTC HKC HFC HM HT HK HF HBC HCR HPH;unfold Mp.cs at hrun
     gi_wp2_with (fail)
     go_roundw
     case rel=>exact ⟨_,_,_,_,⟨j2+1,HLT.o,by go_num,_,HMD,HFD⟩,rfl,rfl,rfl,rfl⟩
     case measure=>have:=HLT.o;simp [intOf];omega
    ·have HX:=Hd (And.intro hxi hwi);have f0:=HCR.o.blk.free 0;have c0:=HCR.o.blk.cell 0;have i0:=HCR.o.inside;simp only [List.getElem?_cons_zero] at c0;clear hxi hwi HSP HM HT HK HF HBC HPH
     have HEND:Hid (KB W9 ((wB.alloc (.cells (Vh u1 u2 u3 u4 u5 u6).toArray 65)).setCell ⟨rc,0,none⟩ (.int .i64 35))∧StX1 x mf rc w3 .ret ((wB.alloc (.cells (Vh u1 u2 u3 u4 u5 u6).toArray 65)).setCell ⟨rc,0,none⟩ (.int .i64 35))):=
      ⟨HKC.o.trans (KB.set (a:=⟨rc,0,none⟩) HCR.o rfl _),rfl,(FUP.o _ HTC.o).trans (TurnP.set (a:=⟨rc,0,none⟩) (.inr rfl) _),HCR.o.set 0 _,i,HX.o⟩
     gi_wp2_with (fail)
     exact HEND.o
   ·obtain rfl:j2=q.l.length:=by omega
    have t1:decide (q.l.length<q.l.length)=false:=by simp
    have HI:Hid (StI1 x rs mf w3 (j+1) wA):=⟨fr2,HT.o,HM.o,by rw [HFS.o];have:=HF.o;rwa [List.take_length] at this⟩
    have HKP:Hid (BackR bx U uc (rs.map RwV.v) wA):=FBK.o _ (FUP.o _ HT.o);clear hlt
    gi_wp2_with (fail)
    exact ⟨HK.o,fun _=>HKP.o,HI.o⟩
 case done=>
  rintro D W9 hD ⟨fr,h1,h2,h3⟩ hd;rw [backrE_len,List.length_map,List.take_of_length_le (by simp)] at h3;have HDN:=Hd (h3.done HS.o.tree.ok HSTI.o HST.o);have HT9:=Hd h1;have HM9:=Hd h2;have HD9:=Hd hd
  have HPH:Hid (∀ j,fr j≠none->has x.t j=true):=fun j hj=>by
   by_cases hm:j∈(rs.map (fun q:RwV=>q.l)).reverse.flatten
   ·obtain ⟨r,h4,h5⟩:=List.mem_flatten.1 hm;exact HSTI.o.hs j ((HSTI.o.mem j).2 ⟨r,List.mem_reverse.1 h4,h5⟩)
   ·exact absurd (h3.no j hm) hj
  obtain ⟨k0,k1,k2⟩:=FCE.o _ h1;have HK0:=Hd k0;have HK2:=Hd k2;have c1:=k1.blk.cell 0;have i1:=k1.inside;simp only [List.getElem?_cons_zero] at c1;have HSI:Hid (∀ k,SFoot b m s x.t k->k<w.heap.size):=HS.o.inside;have HZI:Hid (∀ k,Z.3 k->k<w.heap.size):=fun k hk=>(HS.o.old k hk).1;have HW9:=Hd (FBW.o _ (FUP.o _ h1));have HS9:=Hd (FSC.o _ (FUP.o _ h1));have HL3:Hid (w3.heap.size<=W9.heap.size):=h1.size;clear h1 h2 h3 hd k0 k1 k2;obtain ⟨es,hvm,hvl⟩:=HM9.o;have HVM:=Hd hvm;have HVL:=Hd hvl;have hown:=hvm.own;clear hvm hvl FBK FRW FSC FCE FBW FUP HM3 HLE HBX HM9 HT9
  go_wp2_with (at_range;refine wpList_range_own _ rfl _ tFresh rfl 3 65 keyedI und_fresh anyE mf es.length (mapV es) rfl hown ?_;intro w0 hrg0 hg0 hs0)
  go_frame
  obtain ⟨r,hr⟩:∃ r,W9.heap.size=r:=⟨_,rfl⟩
  have HR:Hid (r=W9.heap.size):=hr.symm;rw [hr] at hrg0 ⊢;have HRG:=Hd hrg0;have hw0:Below w.heap.size w w0:=HW9.o.trans ⟨hg0.os,hg0.tape,hg0.output,hg0.size,fun k hk=>hg0.block k (Nat.lt_of_lt_of_le hk HW9.o.size) (by simp)⟩
  have HS0:Hid (SceneAt w0 g b m s ⟨Z.1,Z.2,fun k=>Z.3 k∨(w.heap.size<=k∧k<=r)⟩ x):=HS.o.part (fun k h1 _=>hw0.block k h1) fun k hk=>by
   have h2:=hg0.size;have h3:=hs0;rcases hk with e | e
   ·exact ⟨Nat.lt_of_lt_of_le (HS.o.old k e).1 hw0.size,.inl e⟩
   ·exact ⟨by omega,.inr e.1⟩
  have HT0:Hid (TurnP (SFoot b m s x.t) (SFoot b m s x.t) W9 w0):=⟨hg0.os,hg0.tape,hg0.output,hg0.size,fun k hk hn=>⟨hn,hg0.block k hk (by simp)⟩⟩
  clear hrg0 hg0 hs0 hr c1 i1 hown hw0
  go_loopw [] (fun wr=>∃ (left:Lit->Bool) (cnt:Nat),Hid (wr.ranges prog 3 anyE mf r es.length (mapV es) left cnt)∧Hid (SceneAt wr g b m s ⟨Z.1,Z.2,fun k=>Z.3 k∨(w.heap.size<=k∧k<=r)⟩ ⟨x.t,x.nd,mixW x.ws fr left⟩)∧Hid (TurnP (SFoot b m s x.t) (SFoot b m s x.t) W9 wr)) (fun wr=>wr.rangeLeft mf r)
  case atStart=>
   refine ⟨_,_,HRG.o,HS0.o.like ⟨HS0.o.tree.ok,fun _=>rfl,fun _ _=>rfl,fun i hi=>?_⟩,HT0.o⟩;show mixW x.ws fr _ i=x.ws i;unfold mixW;by_cases h:Maps.has (mapV es) (.int .i64 i)=true
   ·rw [if_pos h]
   ·rw [if_neg h];have h2:=HVL.o i;rw [has_mapV] at h;cases hl:omap.look es i with
    | none=>
     rw [hl] at h2;cases hf:fr i with
     | none=>rfl
     | some u=>rw [hf] at h2;cases h2
    | some v=>rw [hl] at h;exact absurd rfl h
  case round=>
   obtain ⟨left,cnt,hrg,hsc,htw⟩:=hrel;generalize wr=wA at *;clear HRG HS0 HT0;go_wp2_with (at_next;refine wpList_next_ranges _ rfl _ rfl 3 keyedI anyE (Value.int .i64) id (fun key kl hk=>by obtain ⟨x,hx,_⟩:=Maps.keyOf_int_inv underlying3 hk;exact ⟨x,hx⟩) (fun v y hv=>⟨v,rfl⟩) mf r es.length (mapV es) left cnt rfl hrg.o ?_ ?_)
   ·intro _ hl0;have HL0:=Hd hl0;have k2:BlkT wA rc [.int .i64 0] 26:=HK2.o.off (fun e=>by have:=HSI.o _ e;have:=HNO.o;omega) htw.o;have f0:=k2.blk.free 0;have c0:=k2.blk.cell 0;have i0:=k2.inside;simp only [List.getElem?_cons_zero] at c0;have HB2:Hid (BlkT (wA.setCell ⟨rc,0,none⟩ (.int .i64 0)) rc [.int .i64 0] 26):=k2.set 0 _;have HTF:Hid (TurnP (SFoot b m s x.t) (SFoot b m s x.t) w (wA.setCell ⟨rc,0,none⟩ (.int .i64 0))):=((TurnP.below HW9.o).trans htw.o).setNew (by have:=HNO.o;show _<=rc;omega) _
    have HSF:Hid (SceneAt (wA.setCell ⟨rc,0,none⟩ (.int .i64 0)) g b m s Z (setSt x).1):=by
     have h1:SceneAt (wA.setCell ⟨rc,0,none⟩ (.int .i64 0)) g b m s ⟨Z.1,Z.2,Z.3⟩ ⟨x.t,x.nd,mixW x.ws fr left⟩:=hsc.o.part (fun k _ hk=>Below.heap_setCell wA ⟨rc,0,none⟩ _ k fun e=>hk (.inr ⟨by have e':k=rc:=e;have:=HNO.o;omega,by have e':k=rc:=e;have:=HNO.o;have:=HR.o;have:=HK2.o.inside;omega⟩)) fun k hk=>⟨by have:=(hsc.o.old k (.inl hk)).1;simpa [World.setCell] using this,.inl (.inl hk)⟩
     rw [HDN.o.1];refine SceneAt.like h1 ⟨h1.tree.ok,fun _=>rfl,fun _ _=>rfl,fun i hi=>?_⟩;show (worldOf x.t x.nd i).getD (x.ws i)=mixW x.ws fr left i;unfold mixW;rw [if_neg (by rw [HL0.o];simp),HDN.o.2 i hi]
    have HDD:Hid ((wA.setCell ⟨rc,0,none⟩ (.int .i64 0)).heap[D]?=some (.deferred (some []))):=by
     have h1:D<W9.heap.size:=(Array.getElem?_eq_some_iff.1 HD9.o).1;have h2:¬ SFoot b m s x.t D:=fun e=>by have:=HSI.o _ e;have:=HBW3.o.size;omega
     have h3:=(htw.o.far D h1 h2).2.trans HD9.o;exact (Below.heap_setCell wA ⟨rc,0,none⟩ _ D (fun e=>by have e':D=rc:=e;have:=HNO.o;have:=HSZ.o;have:=HB03.o.size;omega)).trans h3
    have HZ:Hid ((setSt x).2=0):=by show _=_;rw [HDN.o.1]
    clear hl0 k2;go_wp2_with (fail)
    refine postM_ret w3.heap.size ⟨⟨D,rfl,hD,HDD.o,by simp⟩,trivial⟩ fun w' hb=>⟨_,results_cell_err rfl _ _ rfl ((HB2.o.bk hb).blk.cell 0),?_⟩
    rw [← HZ.o];refine ⟨s,rfl,HSF.o.bk hb,?_⟩;rw [setSt_t];exact HTF.o.bk hb HBW3.o.size
   ·intro x2 c2 kl yd yp w2 cnt1 hkey hlk hv hat hrg1 hlt hg1 hs1 hen;obtain ⟨rfl,hx64,hlb⟩:=cameV hkey hv hat
    obtain ⟨u,hu,rfl⟩:∃ u,fr x2=some u∧c2=.agg u.cs.toArray:=by
     have h2:=HVL.o x2;rw [hlb] at h2;cases hf:fr x2 with
     | none=>rw [hf] at h2;cases h2
     | some u=>rw [hf] at h2;exact ⟨u,rfl,Option.some.inj h2⟩
    have HX64:=Hd hx64;have HHX:Hid (has x.t x2=true):=HPH.o x2 (by rw [hu];simp);have HMX:Hid (upd (mixW x.ws fr left) x2 u=mixW x.ws fr (fun z=>left z && !z.sameKey (.int .i64 x2))):=mixW_step x.ws fr left hu;have HRG1:=Hd hrg1;have HME:Hid (w2.rangeLeft mf r<wA.rangeLeft mf r):=by show _<_;rw [hrg1.left_eq,hrg.o.left_eq];exact hlt
    have HT2:Hid (TurnP (SFoot b m s x.t) (SFoot b m s x.t) W9 w2):=htw.o.growNew hg1 fun k e=>by have:=Option.some.inj e;have:=HR.o;omega
    have HS2:Hid (SceneAt w2 g b m s ⟨Z.1,Z.2,fun k=>Z.3 k∨(w.heap.size<=k∧k<=r)⟩ ⟨x.t,x.nd,mixW x.ws fr left⟩):=hsc.o.part (fun k hk hn=>hg1.block k hk fun e=>hn (.inr (by have e':k=r:=Option.some.inj e;have:=HR.o;have:=HW9.o.size;omega))) fun k hk=>⟨Nat.lt_of_lt_of_le (hsc.o.old k hk).1 hg1.size,.inl hk⟩
    have hbC:Below w2.heap.size w2 (w2.alloc (.cells (Vh u.a u.b u.c u.d u.e u.f).toArray 65)):=bR.alloc nR _;have HKC:Hid (Blk (w2.alloc (.cells (Vh u.a u.b u.c u.d u.e u.f).toArray 65)) w2.heap.size u.cs):=blk_new w2 u.cs _;have HBC:=Hd hbC;have HL2:Hid (w.heap.size<=w2.heap.size):=Nat.le_trans HW9.o.size HT2.o.size;unfold Mp.cs at hen;clear hkey hlk hv hat hrg1 hlt hg1 hs1 hlb hx64 hu hbC
    go_upto_region 15 with (fail)
    generalize (w2.alloc (.cells (Vh u.a u.b u.c u.d u.e u.f).toArray 65))=wC at *
    obtain ⟨k13,hk13⟩:∃ k13,w2.heap.size=k13:=⟨_,rfl⟩
    have HL13:Hid (w.heap.size<=k13):=by rw [← hk13];exact HL2.o
    rw [hk13] at HKC ⊢;have HSC2:Hid (SceneAt wC g b m s ⟨Z.1,Z.2,fun k=>Z.3 k∨(w.heap.size<=k∧k<=r)⟩ ⟨x.t,x.nd,mixW x.ws fr left⟩):=HS2.o.below HBC.o;have HTC:Hid (TurnP (SFoot b m s x.t) (SFoot b m s x.t) W9 wC):=HT2.o.trans (TurnP.below HBC.o);have HRC1:Hid (wC.ranges prog 3 anyE mf r es.length (mapV es) (fun z=>left z && !z.sameKey (.int .i64 x2)) cnt1):=HRG1.o.kept (below_grown HBC.o) (by simp) (by simp);have HME2:Hid (wC.rangeLeft mf r<wA.rangeLeft mf r):=by show _<_;rw [HRC1.o.left_eq,← HRG1.o.left_eq];exact HME.o
    clear hk13 HL2 HS2 HT2 HRG1 HBC HME hen hrg hsc htw;obtain ⟨An,cn,hlk⟩:=HSC2.o.look_b HX64.o HHX.o;have HKB:Hid (BlkT wC w.heap.size [.pointer (some ⟨g,0,none⟩)] 25):=HK0.o.off (fun e=>by have:=HSI.o _ e;omega) HTC.o
    have HBB:Hid (∀ W,TurnP (SFoot b m s x.t) (SFoot b m s x.t) wC W->Blk W w.heap.size [.pointer (some ⟨g,0,none⟩)]∧Blk W k13 u.cs):=fun W ht=>⟨(HKB.o.off (fun e=>by have:=HSI.o _ e;omega) ht).blk,HKC.o.stays (ht.far k13 HKC.o.inside fun e=>by have:=HSI.o _ e;have:=HL13.o;omega).2⟩
    have HGT:=Hd HSC2.o.blk;have HNG:=Hd HSC2.o.gfar
    obtain ⟨n0,hn0⟩:∃ n0,x.nd x2=n0:=⟨_,rfl⟩
    have HND:Hid (x.nd x2=n0):=hn0;have HNF:Hid (NdOff (fun k=>Z.3 k∨(w.heap.size<=k∧k<=r)) (SFoot b m s x.t) wC n0 An):=by rw [← hn0];exact (hlk wC bR).2.2
    obtain ⟨u0,hu0⟩:∃ u0,mixW x.ws fr left x2=u0:=⟨_,rfl⟩
    have HLKA:Hid (∀ W,SceneAt W g b m s ⟨Z.1,Z.2,fun k=>Z.3 k∨(w.heap.size<=k∧k<=r)⟩ ⟨x.t,x.nd,mixW x.ws fr left⟩->∃ A c,(Instr.lookup tPlaces (.map (some m)) (.int .i64 x2) false).run prog W=.ok (.agg (plcs n0 A c u0).toArray) W∧NdOff (fun k=>Z.3 k∨(w.heap.size<=k∧k<=r)) (SFoot b m s x.t) W n0 A):=fun W hs=>by
     obtain ⟨A,c,hl⟩:=hs.look_b HX64.o HHX.o;have h2:=hl W bR;rw [show (⟨x.t,x.nd,mixW x.ws fr left⟩:PSc).nd x2=n0 from hn0,show (⟨x.t,x.nd,mixW x.ws fr left⟩:PSc).ws x2=u0 from hu0] at h2;exact ⟨A,c,h2.1,h2.2.2⟩
    clear hlk hn0 hu0
    refine wR (TurnP (SFoot b m s x.t) (SFoot b m s x.t)) (fun L wx=>StJ g b m s ⟨Z.1,Z.2,fun k=>Z.3 k∨(w.heap.size<=k∧k<=r)⟩ ⟨x.t,x.nd,mixW x.ws fr left⟩ ⟨x.t,upd x.nd x2 n0,upd (mixW x.ws fr left) x2 u⟩ (L 10) (L 14) wx) [48,49,50,51,52,53,54,55,56,57,58,59,60,61] (fun _=>TurnP.refl _ _) (fun _ _ _ h k=>h.trans k) (fun i=>match i with
     |0|1|5|6=>rp g 0
     |2|7=>rp g 5
     |3|8=>rV (.map (some m))
     |4|9=>rV (.int .i64 x2)
     | 10=>(⟨fun v wv=>∃ A c,v=.agg (plcs n0 A c u0).toArray∧NdOff (fun k=>Z.3 k∨(w.heap.size<=k∧k<=r)) (SFoot b m s x.t) wv n0 A,fun v w1 w2 h hb=>h.elim fun A h=>h.elim fun c h=>⟨A,c,h.1,h.2.turn hb⟩⟩:regs.Say (TurnP (SFoot b m s x.t) (SFoot b m s x.t)))
     | 11=>(⟨fun v wv=>∃ A c,v=.agg (n0.cs A c).toArray∧NdOff (fun k=>Z.3 k∨(w.heap.size<=k∧k<=r)) (SFoot b m s x.t) wv n0 A,fun v w1 w2 h hb=>h.elim fun A h=>h.elim fun c h=>⟨A,c,h.1,h.2.turn hb⟩⟩:regs.Say (TurnP (SFoot b m s x.t) (SFoot b m s x.t)))
     |12=>rV (.agg (u.cs).toArray)
     | 13=>(⟨fun v wv=>∃ A c,v=.agg (plcs n0 A c u).toArray∧NdOff (fun k=>Z.3 k∨(w.heap.size<=k∧k<=r)) (SFoot b m s x.t) wv n0 A,fun v w1 w2 h hb=>h.elim fun A h=>h.elim fun c h=>⟨A,c,h.1,h.2.turn hb⟩⟩:regs.Say (TurnP (SFoot b m s x.t) (SFoot b m s x.t)))
     | _=>ra) (TurnP.below bR.drew) (⟨fun _=>HSC2.o.below bR.drew,nofun,nofun⟩) ⟨?_,?_,?_,?_,?_,?_,?_,?_,?_,?_,?_,?_,?_,?_,?_,trivial⟩ ?_
    any_goals (first|refine zp fun L a w1 hh=>?_|fail)
    have h2:=hh.p 2 w.heap.size 0;have ⟨c0,i0⟩:=((HBB.o _ hh.rel).1).ci 0 rfl;rotate_left;have h48:=rq (hh.d 0 48);rotate_left;have h49:=rq (hh.d 1 49);have i0:=((BlkT.off HGT.o HNG.o hh.rel).blk).inside;rotate_left;have h50:=rq (hh.d 2 50);have ⟨c0,i0⟩:=((BlkT.off HGT.o HNG.o hh.rel).blk).ci 5 rfl;rotate_left;have h12:=hh.o 12 (v:=.int .i64 x2) rfl;rotate_left;have h2:=hh.p 2 w.heap.size 0;have ⟨c0,i0⟩:=((HBB.o _ hh.rel).1).ci 0 rfl;rotate_left;have h53:=rq (hh.d 5 53);rotate_left;have h54:=rq (hh.d 6 54);have i0:=((BlkT.off HGT.o HNG.o hh.rel).blk).inside;rotate_left
    have h55:=rq (hh.d 7 55);have ⟨c0,i0⟩:=((BlkT.off HGT.o HNG.o hh.rel).blk).ci 5 rfl;rotate_left;have h12:=hh.o 12 (v:=.int .i64 x2) rfl;rotate_left
    ·have h56:=rq (hh.d 8 56);have h57:=rq (hh.d 9 57);obtain ⟨A8,c8,hlk,hn8⟩:=HLKA.o w1 (hh.st.lo hh.un);have hJ:=hh.j;clear hh;go_simp;exact ⟨_,rfl,TurnP.refl _ _,⟨A8,⟨c8,rfl⟩,hn8⟩,hJ.o.fi⟩
    ·obtain ⟨A8,c8,e8,hn8⟩:=(show ∃ A c,(a.tmps.getD 58 undef)=.agg (plcs n0 A c u0).toArray∧NdOff (fun k=>Z.3 k∨(w.heap.size<=k∧k<=r)) (SFoot b m s x.t) w1 n0 A from hh.d 10 58)
     have h58:a.tmps[58]?.getD undef=.agg (plcs n0 A8 c8 u0).toArray:=rq (e8);have hf1:=field_node n0 A8 c8 u0 w1;have hJ:=hh.j;clear hh;go_simp;exact ⟨_,rfl,TurnP.refl _ _,⟨A8,⟨c8,rfl⟩,hn8⟩,hJ.o⟩
    ·have h13:=hh.p 13 k13 0;have hB:=Hd ((HBB.o _ hh.rel).2);have hJ:=Hd hh.st;exact wp_take 65 _ rfl k13 0 (by simpa [go_sem] using h13) _ hB.o (u.cs) rfl _ underlying65 rfl (by kernel_rfl) ⟨_,rfl,TurnP.refl _ _,rfl,hJ.o⟩
    ·have h60:=rq (hh.d 12 60)
     obtain ⟨A8,c8,e8,hn8⟩:=(show ∃ A c,(a.tmps.getD 59 undef)=.agg (n0.cs A c).toArray∧NdOff (fun k=>Z.3 k∨(w.heap.size<=k∧k<=r)) (SFoot b m s x.t) w1 n0 A from hh.d 11 59)
     have h59:a.tmps[59]?.getD undef=.agg (n0.cs A8 c8).toArray:=rq (e8);have hJ:=Hd hh.st;exact wp_build _ _ rfl (by simp [go_sem,h59,h60]) (build_placed n0 A8 c8 u w1) ⟨_,rfl,TurnP.refl _ _,⟨A8,c8,rfl,hn8⟩,hJ.o⟩
    ·have h51:=rq (hh.d 3 51);have h52:=rq (hh.d 4 52)
     obtain ⟨A8,c8,e8,hn8⟩:=(show ∃ A c,(a.tmps.getD 61 undef)=.agg (plcs n0 A c u).toArray∧NdOff (fun k=>Z.3 k∨(w.heap.size<=k∧k<=r)) (SFoot b m s x.t) w1 n0 A from hh.d 13 61)
     have h61:a.tmps[61]?.getD undef=.agg (plcs n0 A8 c8 u).toArray:=rq (e8);obtain ⟨w9,hrun,hs9,ht9⟩:=(hh.st.no hh.un).store (by have:=HN.o;show x.t.length<=_;omega) HX64.o HHX.o (show PlAt _ (SFoot b m s x.t) w1 (.agg (plcs n0 A8 c8 u).toArray) n0 u from ⟨_,_,rfl,hn8⟩);have hS9:=Hd hs9;have hT9:=Hd ht9;have hO9:=Hd (hh.up 10 (by kernel_rfl));clear hh hs9 ht9;go_simp;exact ⟨hT9.o,⟨undef,trivial⟩,nofun,fun _=>hS9.o,fun _=>hO9.o⟩
    any_goals (have hJ:=hh.j;clear hh;go_simp;exact ⟨_,rfl,TurnP.refl _ _,rfl,hJ.o⟩)
    intro L w11 val hL hJ hR hv;have HR11:=Hd hR;have HJ11:=Hd (hJ.yes (hL 14 (by decide)));clear hv hL hJ hR;simp only [regs.putAll,List.map_cons,List.map_nil];simp only [Act.put,List.setIfInBounds_toArray,List.set_cons_zero,List.set_cons_succ]
    skip
    have HS11:Hid (SceneAt w11 g b m s ⟨Z.1,Z.2,fun k=>Z.3 k∨(w.heap.size<=k∧k<=r)⟩ ⟨x.t,x.nd,mixW x.ws fr (fun z=>left z && !z.sameKey (.int .i64 x2))⟩):=by
     have h1:=HJ11.o;rw [← HND.o,upd_self,HMX.o] at h1;exact h1
    have HT11:Hid (TurnP (SFoot b m s x.t) (SFoot b m s x.t) W9 w11):=HTC.o.trans HR11.o
    have HRG11:Hid (w11.ranges prog 3 anyE mf r es.length (mapV es) (fun z=>left z && !z.sameKey (.int .i64 x2)) cnt1):=by
     have h1:=HRC1.o.lt;have h2:=HRC1.o.owns.lt;refine ranges_of HRC1.o (HR11.o.far mf h2 fun e=>?_).2 (HR11.o.far r h1 fun e=>?_).2
     ·have:=HSI.o _ e;have:=HNO.o;omega
     ·have:=HSI.o _ e;have:=HR.o;have:=HW9.o.size;omega
    have HME11:Hid (w11.rangeLeft mf r<wA.rangeLeft mf r):=by show _<_;rw [HRG11.o.left_eq,← HRC1.o.left_eq];exact HME2.o
    clear HJ11 HBB HKB HKC HLKA HNF HGT HNG HSC2 HTC HRC1 HME2 HR11;go_wp2_with (fail)
    go_roundw
    case rel=>exact ⟨_,_,HRG11,HS11,HT11⟩
    case measure=>exact HME11.o
end
end
section
open Go.Shelf
end
section
open Go.RowKit pxm imm trm Go.Maps
structure CpJ (base:Nat) (Z:ZZ) (t:T) (es:LV) (i8 i13 i14 i15:Bool) (v11 v16 v17 v2:Value) (w:World):Prop where
 bsz:base<=w.heap.size
 tree:i8=true->∃ b s,v11=.pointer (some ⟨b,0,none⟩)∧TreeAt w b s t∧(∀ k,FootT b s t k->base<=k)∧(i13=true->∀ m,v16=.map (some m)->¬ FootT b s t m)
 map:i13=true->∃ m,v16=.map (some m)∧VM w m es∧base<=m
 scn:i14=true->∃ g b s m,v17=.pointer (some ⟨g,0,none⟩)∧base<=g∧BlkT w g (sccs b m Z) tScene∧TreeAt w b s t∧VM w m es∧(∀ k,SFoot b m s t k->base<=k)∧¬ FootT b s t m∧¬ SFoot b m s t g
 o:i15=true->v2=v17
 o14:i14=true->i8=true∧i13=true
 o15:i15=true->i14=true
section
variable {base:Nat} {Z:ZZ} {t:T} {es:LV} {i8 i13 i14 i15:Bool} {v11 v16 v17 v2:Value} {w w':World}
theorem CpJ.slots {u11 u16 u17 u2:Value} (h:CpJ base Z t es i8 i13 i14 i15 v11 v16 v17 v2 w) (e1:u11=v11) (e2:u16=v16) (e3:u17=v17) (e4:u2=v2):CpJ base Z t es i8 i13 i14 i15 u11 u16 u17 u2 w:=by
 rw [e1,e2,e3,e4];exact h
theorem CpJ.below (h:CpJ base Z t es i8 i13 i14 i15 v11 v16 v17 v2 w) (hb:Below w.heap.size w w'):CpJ base Z t es i8 i13 i14 i15 v11 v16 v17 v2 w' where
 bsz:=Nat.le_trans h.bsz hb.size
 tree e:=by
  obtain ⟨b,s,h1,h2,h3⟩:=h.tree e;exact ⟨b,s,h1,h2.below hb,h3⟩
 map e:=by
  obtain ⟨m,h1,h2,h3⟩:=h.map e;exact ⟨m,h1,h2.below hb,h3⟩
 scn e:=by
  obtain ⟨g,b,s,m,h1,h2,h3,h4,h5,h6⟩:=h.scn e;exact ⟨g,b,s,m,h1,h2,h3.stays (hb.block _ h3.inside),h4.below hb,h5.below hb,h6⟩
 o:=h.o
 o14:=h.o14
 o15:=h.o15
theorem CpJ.start (hb:base<=w.heap.size):CpJ base Z t es false false false false v11 v16 v17 v2 w:=
 ⟨hb,nofun,nofun,nofun,nofun,nofun,nofun⟩
theorem CpJ.grow (h:CpJ base Z t es i8 i13 i14 i15 v11 v16 v17 v2 w) (h8:i8=false) {b:Nat} {s:Sh} {u11:Value} (hb:Below w.heap.size w w') (h1:TreeAt w' b s t) (h2:∀ k,FootT b s t k->w.heap.size<=k) (e11:u11=.pointer (some ⟨b,0,none⟩)):CpJ base Z t es true i13 i14 i15 u11 v16 v17 v2 w':=
 have h14:=not_of (fun e=>(h.o14 e).1) h8;have h15:=not_of h.o15 h14;have h':=h.below hb
 ⟨h'.bsz,fun _=>⟨b,s,e11,h1,fun k hk=>Nat.le_trans h.bsz (h2 k hk),fun e m em hm=>by
  obtain ⟨m',e1,e2,-⟩:=h.map e;rw [em] at e1
  injection e1 with e1
  injection e1 with e1
  have:=h2 m hm;have:=e2.inside
  omega⟩,h'.map,(fun e=>by rw [h14] at e;cases e),(fun e=>by rw [h15] at e;cases e),(fun e=>⟨rfl,(h'.o14 e).2⟩),h'.o15⟩
theorem CpJ.make {u16:Value} (h:CpJ base Z t es i8 i13 i14 i15 v11 v16 v17 v2 w) (h13:i13=false) (hb:Below w.heap.size w w') (h1:VM w' w.heap.size es) (e16:u16=.map (some w.heap.size)):CpJ base Z t es i8 true i14 i15 v11 u16 v17 v2 w':=by
 have h14:=not_of (fun e=>(h.o14 e).2) h13;subst e16 h13 h14;have h':=h.below hb;refine ⟨h'.bsz,fun e=>?_,fun _=>⟨_,rfl,h1,h.bsz⟩,h'.scn,h'.o,nofun,h'.o15⟩;obtain ⟨b0,s0,h10,h20,h30,-⟩:=h.tree e;refine ⟨b0,s0,h10,h20.below hb,h30,fun _ m em hm=>?_⟩
 injection em with em
 injection em with em
 have:=h20.raw.inside m hm;omega
theorem CpJ.last (h:CpJ base Z t es i8 i13 i14 i15 v11 v16 v17 v2 w) (h8:i8=true) (h13:i13=true) (h14:i14=false):∃ b m,v11=.pointer (some ⟨b,0,none⟩)∧v16=.map (some m)∧∀ e w',OfQ b m Z w e w'->∃ u,e=.returned u∧Below w.heap.size w w'∧CpJ base Z t es i8 i13 true i15 v11 v16 u v2 w':=by
 have h15:=not_of h.o15 h14;subst h8 h13 h14;obtain ⟨b,s,e1,e2,e3,e4⟩:=h.tree rfl;obtain ⟨m,f1,f2,f3⟩:=h.map rfl;refine ⟨b,m,e1,f1,?_⟩;rintro e w' ⟨g,rfl,g1,g2,g3⟩;have h':=h.below g3;have hnf:=e4 rfl m f1;refine ⟨_,rfl,g3,⟨h'.bsz,h'.tree,h'.map,fun _=>⟨g,b,s,m,rfl,Nat.le_trans h.bsz g1,g2,e2.below g3,f2.below g3,fun k hk=>?_,hnf,fun hk=>?_⟩,(fun e=>by rw [h15] at e;cases e),(fun _=>⟨rfl,rfl⟩),(fun _=>rfl)⟩⟩
 ·rcases hk with e | e
  ·rw [e];exact f3
  ·exact e3 k e
 ·rcases hk with e | e
  ·have:=f2.inside;omega
  ·have:=e2.raw.inside g e;omega
theorem CpJ.tell {u2:Value} (h:CpJ base Z t es i8 i13 i14 i15 v11 v16 v17 v2 w) (h14:i14=true) (e2:u2=v17):CpJ base Z t es i8 i13 i14 true v11 v16 v17 u2 w:=⟨h.bsz,h.tree,h.map,h.scn,fun _=>e2,h.o14,fun _=>h14⟩
end
section
variable {w:World} {g b m:Nat} {s:Sh} {Z:ZZ} {x:PSc}
end
end
section
open Go.RowKit pxm imm trm Go.Maps
theorem room_len {M:Int} {x:PSc} {l:List Op9} (ok:Ok x.t) (h:Room M x l.length):(allS M x l).1.t.length<=900:=by
 obtain ⟨h1,h2⟩:=h;rcases h2 with h2 | ⟨h2,h3⟩
 ·have:=allS_len (M:=M) l ok;omega
 ·rcases allS_room (M:=M) l ok with h4 | h4
  ·omega
  ·omega
structure Sane (x:PSc):Prop where
 ok:Ok x.t
 good:Good x
 set:Settled x fun _=>False
 fit:∀ i,Fit (x.nd i)
theorem Settled.ops {M:Int} {x:PSc} {l:List Op9} (h:Sane x) (hz:(allS M x l).2.2=0):Settled (allS M x l).1 (tch l):=
 (Settled.all l h.ok h.set hz).mono fun _ hj=>hj.elim (fun e=>e.elim) id
theorem setSt_ok {x:PSc} (h:Ok x.t):Ok (setSt x).1.t:=by rw [setSt_t];exact h
theorem Sane.apply {M:Int} {x:PSc} (h:Sane x) {l:List Op9} (ho:∀ o∈l,OpOk o):Sane (applyS M setSt x l).1:=by
 unfold applyS;split
 ·exact h
 split
 ·exact h
 split
 ·exact h
 ·rename_i h1 h2 h3
  have hz:(setSt (allS M x l).1).2=0:=by simpa using h3
  refine ⟨setSt_ok (allS_ok l h.ok),fun i=>?_,setSt_settled hz,fun i=>?_⟩
  ·show ((setSt (allS M x l).1).1.nd i).chk=0;rw [setSt_nd];exact allS_good l h.good i
  ·show Fit ((setSt (allS M x l).1).1.nd i);rw [setSt_nd];exact allS_fit l ho h.fit i
theorem applyS_len {M:Int} {x:PSc} {l:List Op9} (ok:Ok x.t):(applyS M setSt x l).1.t.length<=x.t.length+l.length∧((applyS M setSt x l).1.t.length<=x.t.length∨(((applyS M setSt x l).1.t.length+1:Nat):Int)<=M):=by
 unfold applyS;split
 ·exact ⟨Nat.le_add_right _ _,.inl nR⟩
 split
 ·exact ⟨Nat.le_add_right _ _,.inl nR⟩
 split
 ·exact ⟨Nat.le_add_right _ _,.inl nR⟩
 ·simp only;rw [setSt_t];exact ⟨allS_len l ok,allS_room l ok⟩
theorem applied {w:World} {g b m:Nat} {s:Sh} {Z:ZZ} {x:PSc} (h:SceneAt w g b m s Z x) (hx:Sane x) (l:List OpR) (A:Option Addr) (c:Nat) (ho:OpsAt (SFoot b m s x.t) w A l) (hok:∀ q∈l,OpOk q.o) (hn:l.length<=1024->Room Z.2.2 x l.length) (hlen:l.length<=1000000) :
  Calls prog 31 #[.pointer (some ⟨g,0,none⟩),.slice A l.length c] w (ApplyQ g b m Z s x (applyS Z.2.2 setSt x (l.map (·.o))) w):=by
 have hok':∀ o∈l.map (·.o),OpOk o:=fun o ho'=>by
  obtain ⟨q,h1,h2⟩:=List.mem_map.1 ho';rw [← h2];exact hok q h1
 refine apply_any h l A c ho hok hx.fit hn hlen setSt (fun W s1 E hl hz hs hoA=>?_) (fun e=>setSt_not e);have hr:=hn hl;exact settle_any (Z:=⟨Z.1,Z.2,E⟩) hs (room_len h.tree.ok (by rw [List.length_map];exact hr)) (allS_good _ hx.good) l A c hoA hok hl (Settled.ops hx hz)
end
section
open Go.RowKit pxm imm trm Go.Maps
section
variable {w:World} {g b m:Nat} {s:Sh} {Z:ZZ} {x:PSc} {g2 b2 m2:Nat} {s2:Sh} {Z2:ZZ} {y:PSc}
end
end
section
open Go.RowKit pxm imm trm Go.Maps
def same (x y:PSc):Prop:=(∀ q,kids x.t q=kids y.t q)∧∀ i,has x.t i=true->eqN (x.nd i) (y.nd i)=true
section
variable {w:World} {g b m:Nat} {s:Sh} {Z:ZZ} {x:PSc} {g2 b2 m2:Nat} {s2:Sh} {Z2:ZZ} {y:PSc}
end
end
section
open Go.RowKit pxm imm trm Go.Maps
theorem eqN_iff {n1 n2:Nd}:eqN n1 n2=true↔n1=n2:=by
 obtain ⟨m1,o1,h1,c1,r1,k1,W1,H1,p1,iw1,ih1,l1⟩:=n1;obtain ⟨m2,o2,h2,c2,r2,k2,W2,H2,p2,iw2,ih2,l2⟩:=n2;unfold eqN eqNd eqLk eqB;simp only [Bool.and_eq_true,decide_eq_true_eq,beq_iff_eq,Nd.mk.injEq,Lk.mk.injEq];constructor
 ·rintro ⟨a,b,c,d,e,f,g,h,i,j,k,l⟩;exact ⟨a,c,d,e,b,f,g,h,by omega,j,k,l⟩
 ·rintro ⟨a,b,c,d,e,f,g,h,i,j,k,l⟩;exact ⟨a,e,b,c,d,f,g,h,by omega,j,k,l⟩
theorem eqN_self (n:Nd):eqN n n=true:=eqN_iff.2 rfl
def Lk.o:Lk:=⟨0,0,0,0,0,0,[]⟩
def Op9.o:Op9:=⟨0,0,0,0,Mp.o,Bx.o,false,0,Lk.o⟩
def PSc.new:PSc:=⟨[],fun _=>Nd.plain,fun _=>Mp.one⟩
theorem PSc.new_sane:Sane PSc.new:=⟨ok_nil,fun _=>plain_chk,fun i hi _ _=>by
 have:i=0:=by
  rcases has_iff.1 hi with e | e
  ·exact e
  ·cases e
 subst this;rw [worldOf_0]
 rfl,fun _=>fit_plain⟩
def awT:T:=[(1,0)]
theorem aw_ids:1∈ids awT:=by decide
theorem aw_okT:Ok awT:=(addS_ok ok_nil 1 0 0).1
theorem aw_has {i:Int} (h:has awT i=true):i=0∨i=1:=by
 rcases has_iff.1 h with e | e
 ·exact .inl e
 ·right
  simpa [awT,ids] using e
end
section
open Go.RowKit pxm imm trm Go.Maps
structure MyS (w0:World) (g b m:Nat) (s:Sh) (Z:ZZ) (x:PSc) (w:World):Prop where
 at_:SceneAt w g b m s Z x
 ft:∀ k,SFoot b m s x.t k->w0.heap.size<=k
 bel:Below w0.heap.size w0 w
section
variable {w0 w w':World} {g b m:Nat} {s s':Sh} {Z:ZZ} {x x':PSc}
theorem MyS.below (h:MyS w0 g b m s Z x w) (hb:Below w.heap.size w w'):MyS w0 g b m s Z x w':=⟨h.at_.below hb,h.ft,h.bel.trans (hb.mono h.bel.size)⟩
theorem MyS.turn (h:MyS w0 g b m s Z x w) (hs:SceneAt w' g b m s' Z x') (ht:TurnP (SFoot b m s x.t) (SFoot b m s' x'.t) w w'):MyS w0 g b m s' Z x' w':=
 ⟨hs,fun k hk=>by
  by_cases hlt:k<w0.heap.size
  ·exact absurd hk (ht.far k (Nat.lt_of_lt_of_le hlt h.bel.size) fun e=>by have:=h.ft k e;omega).1
  ·omega,h.bel.trans (ht.to_below h.bel.size h.ft)⟩
end
abbrev tOps:TypeId:=38
def oN (o:Op9):OpR:=⟨o,none,0⟩
theorem opsAt_new {w:World} {S:Bset} (hS:∀ k,S k->k<w.heap.size) (l:List OpR) (hl:∀ q∈l,q.o.lk.l=[]):OpsAt S (w.alloc (.cells (l.flatMap OpR.cs).toArray 99)) (some ⟨w.heap.size,0,none⟩) l:=
 ⟨srow_new (enc:=OpR.cs) OpR.cs_len w l _ rfl,fun a e _ hk=>by
  obtain rfl:=Option.some.inj e;have:=hS _ hk
  simp at this,fun q hq=>⟨by rw [hl q hq];intro hn;exact absurd hn (by simp),fun _ _ hne=>absurd (hl q hq) hne⟩⟩
end
section
open Go.RowKit pxm imm trm Go.Maps
abbrev tDoc:TypeId:=34
abbrev tDNs:TypeId:=32
structure PxR (w:World) (A:Option Addr) (l:List Nat):Prop where
 row:Row eW w A l
 typ:∀ a,A=some a->l≠[]->∃ cs fz,w.heap[a.block]?=some (.cells cs 49 fz)
theorem PxR.stays {w w':World} {A:Option Addr} {l:List Nat} (h:PxR w A l) (hb:∀ a,A=some a->l≠[]->w'.heap[a.block]?=w.heap[a.block]?):PxR w' A l:=⟨Row.stays h.row hb,fun a ea hne=>by rw [hb a ea hne];exact h.typ a ea hne⟩
theorem PxR.below {w w':World} {A:Option Addr} {l:List Nat} (h:PxR w A l) (hb:Below w.heap.size w w'):PxR w' A l:=h.stays fun _ ea hne=>hb.block _ (Row.lt h.row ea hne)
theorem PxR.none_ {w:World} {A:Option Addr} {l:List Nat} (h:l.length=0):PxR w A l:=⟨Row.none_ h,fun _ _ hne=>absurd (List.eq_nil_of_length_eq_zero h) hne⟩
def DPl (w:World) (v:Value) (n:Nd):Prop:=∃ A c,v=n.v A c∧PxR w A n.lk.l
theorem DPl.below {w w':World} {v:Value} {n:Nd} (h:DPl w v n) (hb:Below w.heap.size w w'):DPl w' v n:=by
 obtain ⟨A,c,e,hr⟩:=h;exact ⟨A,c,e,hr.below hb⟩
structure DMap (w:World) (m:Nat) (H:Int->Bool) (nd:Int->Nd):Prop where
 ex:∃ es,VM w m es∧(∀ i,omap.look es i≠none->H i=true)∧∀ i,H i=true->∃ v,omap.look es i=some v∧DPl w v (nd i)
theorem DMap.below {w w':World} {m:Nat} {H:Int->Bool} {nd:Int->Nd} (h:DMap w m H nd) (hb:Below w.heap.size w w'):DMap w' m H nd:=by
 obtain ⟨es,h1,h2,h3⟩:=h.ex
 exact ⟨es,h1.below hb,h2,fun i hi=>by
  obtain ⟨v,e,hv⟩:=h3 i hi
  exact ⟨v,e,hv.below hb⟩⟩
theorem DMap.inside {w:World} {m:Nat} {H:Int->Bool} {nd:Int->Nd} (h:DMap w m H nd):m<w.heap.size:=h.ex.elim fun _ h=>h.1.inside
theorem look_put0 (i:Int) (v:Value) (j:Int):omap.look (omap.put lt i v []) j=if j=i then some v else none:=by
 show omap.look [(i,v)] j=_;rw [omap.look_cons];by_cases e:j=i
 ·rw [if_pos e,if_pos e.symm]
 ·rw [if_neg e,if_neg fun h=>e h.symm];rfl
def DocAt (w:World) (v:Value) (a b M:Int) (x:PSc):Prop:=∃ tv m,v=.agg #[.int .i64 a,.int .i64 b,.int .i64 M,tv,.map (some m)]∧DTree w tv x.t∧DMap w m (has x.t) x.nd
theorem DocAt.below {w w':World} {v:Value} {a b M:Int} {x:PSc} (h:DocAt w v a b M x) (hb:Below w.heap.size w w'):DocAt w' v a b M x:=by
 obtain ⟨tv,m,e,h1,h2⟩:=h;exact ⟨tv,m,e,h1.below hb,h2.below hb⟩
theorem build_dp1 (w:World):(Instr.build 47 #[(0,.int .i64 65536),(1,.int .i64 0),(2,.int .i64 0),(3,.int .i64 65536),(4,.int .i64 0),(5,.int .i64 0)]).run prog w=.ok (.agg Mp.one.cs.toArray) w:=by kernel_rfl
theorem build_dp2 (w:World):(Instr.build 54 #[(0,.agg Mp.one.cs.toArray),(1,.int .i64 255)]).run prog w=.ok (.agg (Nd.plain.cs none 0).toArray) w:=by kernel_rfl
theorem build_doc (a b M:Int) (A:Option Addr) (n c m:Nat) (w:World):(Instr.build tDoc #[(0,.int .i64 a),(1,.int .i64 b),(2,.int .i64 M),(3,.slice A n c),(4,.map (some m))]).run prog w=.ok (.agg (Vb a b M A n c m).toArray) w:=by kernel_rfl
theorem make_dns (w:World):(Instr.makeMap tDNs none).run prog w=.ok (.map (some w.heap.size)) (w.alloc (.map #[] 0)):=rfl
theorem dplain_any (w:World):Calls prog 38 #[] w fun e w'=>e=.returned (.agg (Nd.plain.cs none 0).toArray)∧Below w.heap.size w w':=by
 go_enter func38,ntmps38;have HZ:Hid (Blk (w.alloc (.cells Va.toArray 54)) w.heap.size Va):=blk_new w Va _;have HB:Hid (Below w.heap.size w (w.alloc (.cells Va.toArray 54))):=bR.alloc nR _
 go_wp2_with (first | (with_reducible refine gU ?_;refine wpl_build _ _ rfl rfl (by simp [go_sem]) (build_dp1 _) ?_) | (with_reducible refine gU ?_;refine wpl_build _ _ rfl rfl (by simp [go_sem]) (build_dp2 _) ?_) | (first | (with_reducible refine gS ?_;first | (refine wpl_stow 54 _ _ rfl rfl rfl _ 0 rfl (Nd.plain.cs none 0) rfl (Va) HZ.o (Nd.plain.cs none 0) rfl (nE rfl) (by kernel_rfl) (Nd.one _ _ _) ?_;intro w1 HW1 HK1))));exact blk_ret rfl rfl HK1.o underlying54 rfl (by kernel_rfl) ⟨rfl,HW1.o.below HB.o nR⟩
theorem dnew_any (a b M:Int) (w:World):Calls prog 11 (Vq a b M).toArray w fun e w'=>∃ v,e=.returned v∧DocAt w' v a b M PSc.new∧Below w.heap.size w w':=by
 go_enter func11,ntmps11
 go_upto_region 1 with (fail)
 have HZ:Hid (Blk (w.alloc (.cells Vf.toArray 34)) w.heap.size Vf):=blk_new w Vf _;have HB:Hid (Below w.heap.size w (w.alloc (.cells Vf.toArray 34))):=bR.alloc nR _;generalize (w.alloc (.cells Vf.toArray 34))=w0 at *;have hmk:=make_dns w0;have hm1:VM (w0.alloc (.map #[] 0)) w0.heap.size []:=VM.made w0;have hb1:Below w0.heap.size w0 (w0.alloc (.map #[] 0)):=bR.alloc nR _;have HB1:Hid (Below w.heap.size w (w0.alloc (.map #[] 0))):=HB.o.trans (hb1.mono HB.o.size);have HZ1:=Hd (HZ.o.below' hb1);have HM1:=Hd hm1
 have HKL:Hid (w.heap.size<w0.heap.size):=HZ.o.inside;clear hm1 hb1;go_wp2_with (fail);refine (dplain_any _).mono ?_;rintro e w2 ⟨rfl,hb2⟩;have HM2:=Hd (HM1.o.below hb2);have HZ2:=Hd (HZ1.o.below' hb2);have HB2:=Hd (HB1.o.trans (hb2.mono HB1.o.size));clear hb2 HM1 HZ1 HB1 hmk;generalize (w0.alloc (.map #[] 0))=w1 at *
 obtain ⟨k1,hk1⟩:∃ k1,w0.heap.size=k1:=⟨_,rfl⟩
 rw [hk1] at HM2 HKL ⊢;clear hk1;obtain ⟨w3,hrun,hm3,hg3⟩:=HM2.o.store (t:=tDNs) (E:=54) underlying32 (i:=0) ⟨by decide,by decide⟩ (.agg (Nd.plain.cs none 0).toArray) (by decide);have HM3:=Hd hm3;have HB3:Hid (Below w.heap.size w w3):=HB2.o.grown hg3 HB2.o.size fun k hk=>by cases hk;exact Nat.le_of_lt HKL.o
 have HZ3:Hid (Blk w3 w.heap.size Vf):=HZ2.o.stays (hg3.block _ HZ2.o.inside (fun e=>by cases e;exact Nat.lt_irrefl _ HKL.o));clear hm3 hg3 HM2 HZ2 HB2
 go_wp2_with (first | (with_reducible refine gU ?_;refine wpl_build _ _ rfl rfl (by simp [go_sem]) (build_doc a b M _ _ _ _ _) ?_) | (first | (with_reducible refine gS ?_;first | (refine wpl_stow 34 _ _ rfl rfl rfl _ 0 rfl ([.int .i64 a,.int .i64 b,.int .i64 M,.slice none 0 0,.map (some k1)]) rfl (Vf) HZ3.o ([.int .i64 a,.int .i64 b,.int .i64 M,.slice none 0 0,.map (some k1)]) rfl (nE rfl) (by kernel_rfl) rfl ?_;intro w4 HW4 HK4))))
 refine blk_ret rfl rfl HK4.o underlying34 rfl (by kernel_rfl) ⟨_,rfl,⟨.slice none 0 0,k1,rfl,⟨none,0,rfl,SRow.none_ rfl,fun _ e=>nomatch e⟩,⟨_,HM3.o.stays (HW4.o.far (Nat.ne_of_gt HKL.o)),fun i hi=>?_,fun i hi=>?_⟩⟩,HW4.o.below HB3.o nR⟩
 ·have h1:=look_put0 0 (.agg (Nd.plain.cs none 0).toArray) i;rw [h1] at hi;by_cases e:i=0
  ·rw [e];rfl
  ·rw [if_neg e] at hi;exact absurd rfl hi
 ·have e:i=0:=by
   rcases has_iff.1 hi with e | e
   ·exact e
   ·cases e
  exact ⟨(PSc.new.nd i).v none 0,by rw [look_put0,if_pos e];rfl,none,0,rfl,PxR.none_ rfl⟩
end
end Go.Proofs.YthoildbfghfhpaaGreat
